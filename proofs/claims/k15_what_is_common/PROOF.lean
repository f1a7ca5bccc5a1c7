import PyProof.Rows.All
import Wide.All
import OpenK.AllK
import Wide.FinOn
import Lean
import PyProof.EqAt
import PyProof.EqKinds
import PyProof.TupleCall
import PySem.Challenge.RW_sheetlay_k15_what_is_common
set_option Elab.async false
set_option linter.all false
set_option maxRecDepth 100000
namespace L2
open PySem PySem.Spec PyProof.Rows
abbrev Key := Sum Int Str
def keyIs : Key → Value → Bool
  | .inl k, v => Value.isInt k v
  | .inr x, v => Value.isStrOf x v
def keyH (w : World) : Key → Int
  | .inl k => hashInt k
  | .inr x => hashStr w x
theorem keyIs_shape : ∀ {k : Key} {v : Value}, keyIs k v = true → (∃ i t, k = Sum.inl i ∧ v = Value.int i t) ∨ (∃ x t, k = Sum.inr x ∧ v = Value.str x t)
  | .inl i, v, h => by
    obtain ⟨t, e⟩ := Value.isInt_shape (k := i) (v := v) h
    exact .inl ⟨i, t, rfl, e⟩
  | .inr x, v, h => by
    obtain ⟨t, e⟩ := Value.isStrOf_shape (x := x) (v := v) h
    exact .inr ⟨x, t, rfl, e⟩
theorem key_ll (a b : Int) : decide ((Sum.inl a : Key) = Sum.inl b) = (a == b) := by
  by_cases e : a = b
  · subst e; simp
  · have h : ¬ (Sum.inl a : Key) = Sum.inl b := fun q => e (Sum.inl.inj q)
    rw [decide_eq_false h]
    exact (beq_eq_false_iff_ne.mpr e).symm
theorem key_rr (a b : Str) : decide ((Sum.inr a : Key) = Sum.inr b) = decide (a = b) := by
  by_cases e : a = b
  · subst e; simp
  · have h : ¬ (Sum.inr a : Key) = Sum.inr b := fun q => e (Sum.inr.inj q)
    rw [decide_eq_false h, decide_eq_false e]
theorem key_lr (a : Int) (b : Str) : decide ((Sum.inl a : Key) = Sum.inr b) = false := decide_eq_false (fun q => nomatch q)
theorem key_rl (a : Str) (b : Int) : decide ((Sum.inr a : Key) = Sum.inl b) = false := decide_eq_false (fun q => nomatch q)
def mixKind (prog : Program) (w : World) : PySem.KeyKind prog w Key where
  is := keyIs
  hash := keyH w
  inj := fun v a b ha hb => by
    rcases keyIs_shape ha with ⟨i, t, rfl, rfl⟩ | ⟨x, t, rfl, rfl⟩
    · rcases keyIs_shape hb with ⟨j, u, rfl, e⟩ | ⟨y, u, rfl, e⟩
      · injection e with e1 _; rw [e1]
      · exact nomatch e
    · rcases keyIs_shape hb with ⟨j, u, rfl, e⟩ | ⟨y, u, rfl, e⟩
      · exact nomatch e
      · injection e with e1 _; rw [e1]
  byValue := fun k v h => by
    rcases keyIs_shape h with ⟨i, t, rfl, rfl⟩ | ⟨x, t, rfl, rfl⟩ <;> rfl
  pyHash := fun hv h => by
    rcases keyIs_shape hv with ⟨i, t, rfl, rfl⟩ | ⟨x, t, rfl, rfl⟩
    · exact wpAny_pyHash_int h
    · exact wpAny_pyHash_str h
  eqBool := fun hu hv h => by
    rcases keyIs_shape hu with ⟨i, t, rfl, rfl⟩ | ⟨x, t, rfl, rfl⟩
    · rcases keyIs_shape hv with ⟨j, u, rfl, rfl⟩ | ⟨y, u, rfl, rfl⟩
      · rw [key_ll] at h; exact wpAny_eqBool_int h
      · rw [key_lr] at h; exact SeqAt.EqAt.int_str i t y u _ _ _ _ h
    · rcases keyIs_shape hv with ⟨j, u, rfl, rfl⟩ | ⟨y, u, rfl, rfl⟩
      · rw [key_rl] at h; exact SeqAt.EqAt.str_int x t j u _ _ _ _ h
      · rw [key_rr] at h; exact wpAny_eqBool_str h
  «strs» := fun k x t v h => by
    rcases keyIs_shape h with ⟨i, u, rfl, e⟩ | ⟨y, u, rfl, e⟩
    · exact nomatch e
    · injection e with e1 _
      subst e1
      cases v <;> rfl
end L2
namespace L2
open PySem PySem.Spec PyProof.Rows
inductive V where
  | non | bl (b : Bool) | int (i : Int) | str (x : Str) | byt (b : Array UInt8) | flt (b : UInt64) | ref (a : Addr) | ty (n : String)
  deriving DecidableEq
def RelV : V → Value → Prop
  | .non, u => u = Value.none
  | .bl b, u => u = Value.bool b
  | .int i, u => ∃ t, u = Value.int i t
  | .str x, u => ∃ t, u = Value.str x t
  | .byt b, u => ∃ t, u = Value.bytes b t
  | .flt b, u => ∃ t, u = Value.float b t
  | .ref a, u => u = Value.ref a
  | .ty n, u => u = Value.type n
abbrev Vals : List V → List Value → Prop := Paired RelV
theorem Vals.length {xs : List V} {us : List Value} (r : Vals xs us) : xs.length = us.length := Paired.length r
theorem Vals.get : ∀ {xs : List V} {us : List Value} {i : Nat} {x : V}, Vals xs us → xs[i]? = some x → ∃ u, us[i]? = some u ∧ RelV x u
  | _, _, _, _, .nil, e => by simp at e
  | _, _, 0, _, .cons r _, e => by simp at e; subst e; exact ⟨_, rfl, r⟩
  | _, _, i + 1, x, .cons _ t, e => by
    obtain ⟨u, h1, h2⟩ := Vals.get (i := i) (x := x) t (by simpa using e)
    exact ⟨u, by simpa using h1, h2⟩
theorem Vals.set {x : V} {u : Value} (r : RelV x u) : ∀ {xs : List V} {us : List Value} (i : Nat), Vals xs us → Vals (xs.set i x) (us.set i u)
  | _, _, _, .nil => .nil
  | _, _, 0, .cons _ t => .cons r t
  | _, _, i + 1, .cons q t => .cons q (Vals.set r i t)
theorem Vals.append : ∀ {xs ys : List V} {us ws : List Value}, Vals xs us → Vals ys ws → Vals (xs ++ ys) (us ++ ws)
  | _, _, _, _, .nil, s => s
  | _, _, _, _, .cons r t, s => .cons r (Vals.append t s)
theorem Vals.take : ∀ {xs : List V} {us : List Value} (n : Nat), Vals xs us → Vals (xs.take n) (us.take n)
  | _, _, 0, _ => .nil
  | _, _, _ + 1, .nil => .nil
  | _, _, n + 1, .cons r t => .cons r (Vals.take n t)
theorem Vals.drop : ∀ {xs : List V} {us : List Value} (n : Nat), Vals xs us → Vals (xs.drop n) (us.drop n)
  | _, _, 0, r => r
  | _, _, _ + 1, .nil => .nil
  | _, _, n + 1, .cons _ t => Vals.drop n t
def RelO : Option V → Option Value → Prop
  | some v, some u => RelV v u
  | none, none => True
  | _, _ => False
def KV {κ : Type} : List (κ × V) → List (κ × Value) → Prop := Paired fun (p : κ × V) (q : κ × Value) => p.1 = q.1 ∧ RelV p.2 q.2
def kV : Key → V
  | .inl i => .int i
  | .inr x => .str x
inductive HO where
  | lst (xs : List V)
  | tup (xs : List V)
  | dK (kvs : List (Key × V)) | dT (kvs : List (List Key × V))
  | set (S : Int → Bool) (n : Nat)
  | ins (C dx : Addr) (fs : List (Str × V))
  | own (x : Addr)
  | xd (fs : List (Str × V))
  | met (f x : Addr)
  | rng (lo hi : Int)
  | frz (o : Obj) (u : HO)
  | tbl (ps : Array Value)
  | ext (φ : Heap → Prop)
abbrev Hp := Addr → Option HO
def upd (H : Hp) (a : Addr) (o : HO) : Hp := fun b => if b = a then some o else H b
theorem upd_same {H : Hp} {a : Addr} {o : HO} : upd H a o a = some o := by unfold upd; rw [if_pos rfl]
theorem upd_ne {H : Hp} {a b : Addr} {o : HO} (h : b ≠ a) : upd H a o b = H b := by unfold upd; rw [if_neg h]
theorem ne_of_none {H : Hp} {a b : Addr} {o : HO} (h : H a = some o) (h' : H b = none) : a ≠ b := by
  intro e; subst e; rw [h] at h'; cases h'
section
variable (P : Program) (w : World)
def ObjOk (H : Hp) (h : Heap) (a : Addr) : HO → Prop
  | .lst xs => xs.length ≤ sizeLine ∧ ∃ (its : List Value) (n : Nat), Vals xs its ∧ h.get? a = some { cls := .type "list", data := .seq its.toArray n }
  | .tup xs => xs.length ≤ sizeLine ∧ ∃ its : List Value, Vals xs its ∧ IsTup h a its.toArray
  | .dK kvs => kvs.length ≤ sizeLine ∧ (a == sysModules) = false ∧ ∃ vs, KV kvs vs ∧ h.DictOf (mixKind P w) a vs
  | .dT kvs => kvs.length ≤ sizeLine ∧ (a == sysModules) = false ∧ ∃ xs : List (List Key × Addr × Value),
      Paired (fun (p : List Key × V) (q : List Key × Addr × Value) => p.1 = q.1 ∧ H q.2.1 = some (.tup (p.1.map kV)) ∧ RelV p.2 q.2.2) kvs xs ∧
      ∃ o es ep, h.get? a = some o ∧ o.ExactDict ∧ o.data = .dict es ep ∧ es.toList = xs.map (entryOfKey (tupleKind (mixKind P w))) ∧ (xs.map (·.1)).Nodup
  | .set S n => h.SetOf (intKind P w) a S n
  | .ins C dx fs => H dx = some (.own a) ∧ fs.length ≤ 1000 ∧ dx ≠ a ∧ h.get? a = some (PySem.W.instObj C dx) ∧
      ∃ mA, h.Ns1 dx mA ∧ (∀ f, RelO (fs.lookup f) (mA f)) ∧ PySem.Within mA (fs.map (·.1))
  | .own _ => ∃ o, h.get? a = some o
  | .xd fs => ∃ mA, h.Ns1 a mA ∧ ∀ f, RelO (fs.lookup f) (mA f)
  | .rng lo hi => ∃ t u v, h.get? a = some { cls := .type "range", data := .fields #[.int lo t, .int hi u, .int 1 v] }
  | .frz o u => h.get? a = some o ∧ ObjOk H h a u
  | .tbl ps => h.get? a = some { cls := .none, data := .fields ps }
  | .met f x => h.get? a = some (PySem.W.methodObj (.ref f) (.ref x))
  | .ext φ => φ h ∧ (∃ o, h.get? a = some o) ∧ ∀ h1 h2 : Heap, φ h1 → (∀ o, h1.get? a = some o → h2.get? a = some o) → φ h2
def HOk (H : Hp) (h : Heap) : Prop := ∀ a o, H a = some o → ObjOk P w H h a o
end
section
variable {P : Program} {w : World} {H H' : Hp} {h h' : Heap} {a : Addr} {o : HO}
theorem ObjOk.lt (x : ObjOk P w H h a o) : a < h.objs.size := by
  cases o with
  | lst xs => obtain ⟨_, _, _, _, e⟩ := x; exact Heap.lt_size e
  | tup xs => obtain ⟨_, _, _, p⟩ := x; exact p.lt
  | dK kvs => obtain ⟨_, _, _, _, o, _, _, e, _⟩ := x; exact Heap.lt_size e
  | dT kvs => obtain ⟨_, _, _, _, o, _, _, e, _⟩ := x; exact Heap.lt_size e
  | set S n => obtain ⟨o, _, _, _, e, _⟩ := x; exact Heap.lt_size e
  | ins C dx fs => obtain ⟨_, _, _, e, _⟩ := x; exact Heap.lt_size e
  | own y => obtain ⟨_, e⟩ := x; exact Heap.lt_size e
  | xd fs => obtain ⟨_, ⟨_, _, _, e, _⟩, _⟩ := x; exact Heap.lt_size e
  | rng lo hi => obtain ⟨_, _, _, e⟩ := x; exact Heap.lt_size e
  | frz ob u => obtain ⟨e, _⟩ := x; exact Heap.lt_size e
  | tbl ps => exact Heap.lt_size (show h.get? a = some _ from x)
  | met f y => exact Heap.lt_size (show h.get? a = some _ from x)
  | ext φ => obtain ⟨_, ⟨_, e⟩, _⟩ := x; exact Heap.lt_size e
theorem Paired.mapP {α β : Type} {F G : α → β → Prop} : ∀ {l₁ : List α} {l₂ : List β}, Paired F l₁ l₂ → (∀ a b, F a b → G a b) → Paired G l₁ l₂
  | _, _, .nil, _ => .nil
  | _, _, .cons r t, f => .cons (f _ _ r) (Paired.mapP t f)
theorem ObjOk.stay (x : ObjOk P w H h a o) (k : ∀ b u, (b = a ∨ H b = some (.own a)) → h.get? b = some u → h'.get? b = some u)
    (ho : ∀ b, H b = some (.own a) → H' b = some (.own a)) (ht : ∀ b xs, H b = some (.tup xs) → H' b = some (.tup xs)) : ObjOk P w H' h' a o := by
  induction o with
  | lst xs => obtain ⟨z, its, n, r, e⟩ := x; exact ⟨z, its, n, r, k _ _ (.inl rfl) e⟩
  | tup xs => obtain ⟨z, its, r, ob, e, c⟩ := x; exact ⟨z, its, r, ob, k _ _ (.inl rfl) e, c⟩
  | dK kvs => obtain ⟨z, y, vs, r, ob, es, ep, e, c⟩ := x; exact ⟨z, y, vs, r, ob, es, ep, k _ _ (.inl rfl) e, c⟩
  | dT kvs =>
    obtain ⟨z, y, xs, r, ob, es, ep, e, c⟩ := x
    exact ⟨z, y, xs, Paired.mapP r fun p q z => ⟨z.1, ht _ _ z.2.1, z.2.2⟩, ob, es, ep, k _ _ (.inl rfl) e, c⟩
  | set S n => obtain ⟨ob, es, ep, t, e, c⟩ := x; exact ⟨ob, es, ep, t, k _ _ (.inl rfl) e, c⟩
  | ins C dx fs =>
    obtain ⟨d, z, ne, e, mA, ⟨od, es, ep, e2, c⟩, r⟩ := x
    exact ⟨ho _ d, z, ne, k _ _ (.inl rfl) e, mA, ⟨od, es, ep, k _ _ (.inr d) e2, c⟩, r⟩
  | own y => obtain ⟨ob, e⟩ := x; exact ⟨ob, k _ _ (.inl rfl) e⟩
  | xd fs => obtain ⟨mA, ⟨od, es, ep, e, c⟩, r⟩ := x; exact ⟨mA, ⟨od, es, ep, k _ _ (.inl rfl) e, c⟩, r⟩
  | rng lo hi => obtain ⟨t, u, v, e⟩ := x; exact ⟨t, u, v, k _ _ (.inl rfl) e⟩
  | frz ob u ih => obtain ⟨e, q⟩ := x; exact ⟨k _ _ (.inl rfl) e, ih q⟩
  | tbl ps =>
    have e : h.get? a = some { cls := .none, data := .fields ps } := x
    show h'.get? a = some { cls := .none, data := .fields ps }
    exact k a _ (.inl rfl) e
  | met f y =>
    have e : h.get? a = some (PySem.W.methodObj (.ref f) (.ref y)) := x
    show h'.get? a = some (PySem.W.methodObj (.ref f) (.ref y))
    exact k a _ (.inl rfl) e
  | ext φ => obtain ⟨p, ⟨o, e⟩, st⟩ := x; exact ⟨st _ _ p fun o q => k _ _ (.inl rfl) q, ⟨o, k _ _ (.inl rfl) e⟩, st⟩
theorem HOk.lt (x : HOk P w H h) (e : H a = some o) : a < h.objs.size := (x a o e).lt
theorem HOk.fresh (x : HOk P w H h) (e : h.objs.size ≤ a) : H a = none := by
  cases q : H a with
  | none => rfl
  | some u => exact absurd (Nat.lt_of_lt_of_le (x.lt q) e) (Nat.lt_irrefl _)
theorem HOk.kept (x : HOk P w H h) (k : ∀ b u, h.get? b = some u → h'.get? b = some u) : HOk P w H h' := fun a o e =>
  (x a o e).stay (fun b u _ q => k b u q) (fun _ q => q) fun _ _ q => q
theorem HOk.laid (x : HOk P w H h) (k : ∀ b u, h.get? b = some u → h'.get? b = some u) (hp : h.objs.size ≤ a) (new : ObjOk P w (upd H a o) h' a o) : HOk P w (upd H a o) h' := fun b u e => by
  have hn := x.fresh hp
  by_cases hb : b = a
  · subst hb; rw [upd_same] at e; cases e; exact new
  · rw [upd_ne hb] at e
    exact (x b u e).stay (fun c v _ q => k c v q) (fun c q => by rw [upd_ne (ne_of_none q hn)]; exact q) fun c xs q => by rw [upd_ne (ne_of_none q hn)]; exact q
end
def Rd (H : Hp) (a : Addr) (u : HO) : Prop := H a = some u ∨ ∃ o, H a = some (.frz o u)
theorem Rd.of {H : Hp} {a : Addr} {u : HO} (h : H a = some u) : Rd H a u := .inl h
theorem Rd.ok {P : Program} {w : World} {H : Hp} {h : Heap} {a : Addr} {u : HO} (r : Rd H a u) (x : HOk P w H h) : ObjOk P w H h a u := by
  rcases r with r | ⟨o, r⟩
  · exact x a u r
  · obtain ⟨_, q⟩ := x a _ r
    exact q
def Mut : Option HO → Prop
  | some (.lst _) => True
  | some (.dK _) => True
  | some (.dT _) => True
  | some (.set _ _) => True
  | some (.ins _ _ _) => True
  | some (.ext _) => True
  | _ => False
section
variable {P : Program} {w : World} {H : Hp} {h h' : Heap} {x e : Addr} {o' : HO}
theorem HOk.write (ok : HOk P w H h) (mu : Mut (H x)) (he : e = x ∨ H e = some (.own x)) (k : ∀ b u, b ≠ e → h.get? b = some u → h'.get? b = some u) (heo : ∃ u, h'.get? e = some u)
    (new : ObjOk P w (upd H x o') h' x o') : HOk P w (upd H x o') h' := fun b u q => by
  have nown : ∀ c y, H c = some (.own y) → c ≠ x := fun c y r z => by subst z; rw [r] at mu; exact mu
  have ntup : ∀ c xs, H c = some (.tup xs) → c ≠ x := fun c xs r z => by subst z; rw [r] at mu; exact mu
  by_cases hb : b = x
  · subst hb; rw [upd_same] at q; cases q; exact new
  · rw [upd_ne hb] at q
    by_cases hbe : b = e
    · have q' : H b = some (.own x) := by
        rcases he with z | z
        · exact absurd (hbe.trans z) hb
        · rw [hbe]; exact z
      rw [q] at q'; cases q'
      obtain ⟨v, hv⟩ := heo
      exact ⟨v, by rw [hbe]; exact hv⟩
    · refine (ok b u q).stay (fun c v hc r => k c v ?_ r) (fun c r => by rw [upd_ne (nown c b r)]; exact r) fun c xs r => by rw [upd_ne (ntup c xs r)]; exact r
      rcases hc with rfl | hc
      · exact hbe
      · rintro rfl
        rcases he with z | z
        · exact nown c b hc z
        · rw [hc] at z; cases z; exact hb rfl
end
structure Un (fs ex : List Addr) (H H' : Hp) (h h' : Heap) : Prop where
  keep : ∀ b o, h.get? b = some o → H b = none → b ∉ fs → b ∉ ex → h'.get? b = some o
  slot : ∀ b o, h.get? b = some o → H b = none → b ∈ fs → b ∉ ex → ∃ sl, h'.get? b = some { o with slots := sl }
  free : ∀ b o, h.get? b = some o → H b = none → b ∉ ex → H' b = none
  there : ∀ b o, h.get? b = some o → b ∉ ex → ∃ o', h'.get? b = some o'
  tups : ∀ b xs, H b = some (.tup xs) → H' b = some (.tup xs)
  frzs : ∀ b o u, H b = some (.frz o u) → H' b = some (.frz o u)
  tbls : ∀ b ps, H b = some (.tbl ps) → ∃ more, H' b = some (.tbl (ps ++ more))
section
variable {fs fs' ex ex' : List Addr} {H H1 H2 : Hp} {h h1 h2 h' : Heap} {a x e : Addr} {o : HO}
theorem Un.any (u : Un fs ex H H1 h h1) {b : Addr} {ob : Obj} (q : h.get? b = some ob) (n : H b = none) (hx : b ∉ ex) : ∃ sl, h1.get? b = some { ob with slots := sl } := by
  by_cases hb : b ∈ fs
  · exact u.slot b ob q n hb hx
  · exact ⟨ob.slots, u.keep b ob q n hb hx⟩
theorem Un.trans (a : Un fs ex H H1 h h1) (b : Un fs ex H1 H2 h1 h2) : Un fs ex H H2 h h2 where
  keep := fun c ob q n hc hx => b.keep c ob (a.keep c ob q n hc hx) (a.free c ob q n hx) hc hx
  slot := fun c ob q n hc hx => by
    obtain ⟨sl, e1⟩ := a.slot c ob q n hc hx
    obtain ⟨sl', e2⟩ := b.slot c _ e1 (a.free c ob q n hx) hc hx
    exact ⟨sl', e2⟩
  free := fun c ob q n hx => by
    obtain ⟨o', e1⟩ := a.there c ob q hx
    exact b.free c o' e1 (a.free c ob q n hx) hx
  there := fun c ob q hx => by
    obtain ⟨o', e1⟩ := a.there c ob q hx
    exact b.there c o' e1 hx
  tups := fun c xs q => b.tups c xs (a.tups c xs q)
  frzs := fun c ob xs q => b.frzs c ob xs (a.frzs c ob xs q)
  tbls := fun c ps q => by
    obtain ⟨m1, e1⟩ := a.tbls c ps q
    obtain ⟨m2, e2⟩ := b.tbls c _ e1
    exact ⟨m1 ++ m2, by rw [e2, Array.append_assoc]⟩
theorem Un.kept (k : ∀ b u, h.get? b = some u → h'.get? b = some u) : Un fs ex H H h h' :=
  ⟨fun b ob q _ _ _ => k b ob q, fun b ob q _ _ _ => ⟨ob.slots, k b ob q⟩, fun _ _ _ n _ => n, fun b ob q _ => ⟨ob, k b ob q⟩, fun _ _ q => q, fun _ _ _ q => q, fun _ ps q => ⟨#[], by rw [q]; simp⟩⟩
theorem Un.refl : Un fs ex H H h h := Un.kept fun _ _ q => q
theorem Un.laid (k : ∀ b u, h.get? b = some u → h'.get? b = some u) (hp : h.objs.size ≤ a) (hn : H a = none) : Un fs ex H (upd H a o) h h' where
  keep := fun b u q _ _ _ => k b u q
  slot := fun b u q _ _ _ => ⟨u.slots, k b u q⟩
  free := fun b u q n _ => by rw [upd_ne (Nat.ne_of_lt (Nat.lt_of_lt_of_le (Heap.lt_size q) hp))]; exact n
  there := fun b u q _ => ⟨u, k b u q⟩
  tups := fun b xs q => by rw [upd_ne (ne_of_none q hn)]; exact q
  frzs := fun b u xs q => by rw [upd_ne (ne_of_none q hn)]; exact q
  tbls := fun b ps q => ⟨#[], by rw [upd_ne (ne_of_none q hn), q]; simp⟩
theorem Un.write (mu : Mut (H x)) (he : e = x ∨ H e = some (.own x)) (k : ∀ b u, b ≠ e → h.get? b = some u → h'.get? b = some u) (heo : ∃ u, h'.get? e = some u) : Un fs ex H (upd H x o) h h' := by
  have hx : ∀ b, H b = none → b ≠ x := fun b n z => by subst z; rw [n] at mu; exact mu
  have hb : ∀ b, H b = none → b ≠ e := fun b n z => by
    subst z
    rcases he with r | r
    · exact hx b n r
    · rw [n] at r; cases r
  have hm : ∀ b u, H b = some u → ¬ Mut (some u) → b ≠ x := fun b u q nm z => by subst z; rw [q] at mu; exact nm mu
  refine ⟨fun b u q n _ _ => k b u (hb b n) q, fun b u q n _ _ => ⟨u.slots, k b u (hb b n) q⟩, fun b u q n _ => by rw [upd_ne (hx b n)]; exact n, fun b u q _ => ?_,
    fun b xs q => by rw [upd_ne (hm b _ q fun z => z)]; exact q, fun b u xs q => by rw [upd_ne (hm b _ q fun z => z)]; exact q, fun b ps q => ⟨#[], by rw [upd_ne (hm b _ q fun z => z), q]; simp⟩⟩
  by_cases hbe : b = e
  · subst hbe; exact heo
  · exact ⟨u, k b u hbe q⟩
theorem Un.mono (u : Un fs ex H H1 h h1) (hs : ∀ b ∈ fs, b ∈ fs') (hx : ∀ b ∈ ex, b ∈ ex') : Un fs' ex' H H1 h h1 :=
  ⟨fun b ob q n hb he => u.keep b ob q n (fun z => hb (hs b z)) fun z => he (hx b z), fun _ _ q n _ he => u.any q n fun z => he (hx _ z), fun b ob q n he => u.free b ob q n fun z => he (hx b z), fun b ob q he => u.there b ob q fun z => he (hx b z), u.tups, u.frzs, u.tbls⟩
end
def trk (h : Heap) (H : Hp) : List Addr := (List.range h.objs.size).filter fun a => (H a).isSome
def hidT (h : Heap) (H : Hp) : Heap := PySem.W.hideAll h (trk h H)
theorem hidT_size (h : Heap) (H : Hp) : (hidT h H).objs.size = h.objs.size := PySem.W.hideAll_size _ _
theorem hidT_get {h : Heap} {H : Hp} {b : Addr} {o : Obj} (e : h.get? b = some o) (n : H b = none) : (hidT h H).get? b = some o :=
  PySem.W.hideAll_get _ e fun hm => by
    have q : (H b).isSome = true := (List.mem_filter.mp hm).2
    rw [n] at q; simp at q
theorem of_hidT {h : Heap} {H : Hp} {b : Addr} {o : Obj} (e : (hidT h H).get? b = some o) : h.get? b = some o ∧ H b = none := by
  have e' : h.get? b = some o := PySem.W.of_hideAll (trk h H) e
  refine ⟨e', ?_⟩
  cases q : H b with
  | none => rfl
  | some x =>
    have hm : b ∈ trk h H := List.mem_filter.mpr ⟨List.mem_range.mpr (Heap.lt_size e'), by simp [q]⟩
    have z : (hidT h H).get? b = none := PySem.W.hideAll_none (trk h H) hm
    rw [z] at e; cases e
def allNews (g h : Heap) (L : Addr) : List (Addr × Obj) := (List.range h.objs.size).filterMap fun a => if a = L ∨ (g.get? a).isSome = true then none else (h.get? a).map fun o => (a, o)
theorem mem_allNews {g h : Heap} {L a : Addr} {o : Obj} (h1 : a ≠ L) (h2 : g.get? a = none) (h3 : h.get? a = some o) : (a, o) ∈ allNews g h L :=
  List.mem_filterMap.mpr ⟨a, List.mem_range.mpr (Heap.lt_size h3), by simp [h1, h2, h3]⟩
theorem of_mem_allNews {g h : Heap} {L : Addr} {p : Addr × Obj} (hp : p ∈ allNews g h L) : p.1 ≠ L ∧ g.get? p.1 = none ∧ h.get? p.1 = some p.2 := by
  obtain ⟨b, _, e⟩ := List.mem_filterMap.mp hp
  split at e
  · cases e
  · rename_i hn
    cases q : h.get? b with
    | none => rw [q] at e; simp at e
    | some u =>
      rw [q] at e
      simp only [Option.map_some, Option.some.injEq] at e
      subst e
      refine ⟨fun z => hn (.inl z), ?_, q⟩
      show g.get? b = none
      cases r : g.get? b with
      | none => rfl
      | some v => exact (hn (.inr (by simp [r]))).elim
def rest (g h : Heap) (L d : Addr) : List (Addr × Obj) := (allNews g h L).filter fun p => decide (p.1 ≠ d)
theorem news_all {g h : Heap} {L : Addr} : News g L h (allNews g h L) := fun p hp => let ⟨a, b, c⟩ := of_mem_allNews hp; ⟨c, a, b⟩
end L2
namespace L2
open PySem PySem.Spec PyProof.Rows
structure Mod (K : PySem.W.Frag) (mg : Str → Option Value) (base : Heap) : Prop where
  kin : K.In base
  glob : base.Ns mainGlobals mg
  blt : ∃ mb, base.Ns builtinsNs mb ∧ ∀ x : Str, x ≠ "__name__" → mb x = bootBuiltins x
  nolimit : base.NoLimit
structure Cx where
  prog : Program
  w : World
  K : PySem.W.Frag
  mg : Str → Option Value
  base : Heap
  A : Around
  N : List Str
  s₀ : Shared
  H₀ : Hp
  env : Env
  outer : List Env
  stack : List Env
  ex : List Addr
  fn : Str → Bool
  calm : Bool
  pn : List (Addr × Obj)
  xe : Value → Shared → Prop
def frs (l : List Env) : List Addr := l.filterMap (·.frame)
abbrev Cx.fs (X : Cx) : List Addr := frs X.outer
def Vis (sc : Scope) (x : Str) : Prop := sc.names.lookup x = some .local ∨ sc.names.lookup x = some .cell ∨ sc.names.lookup x = some .free
def Loc (sc : Scope) (x : Str) : Prop := sc.names.lookup x = some .local ∨ sc.names.lookup x = some .cell
def Look (env : Env) (h : Heap) (m : Str → Option Value) (x : Str) (u : Value) : Prop :=
  (env.kindOf x = some .local ∧ m x = some u) ∨ ((env.kindOf x = some .cell ∨ env.kindOf x = some .free) ∧ ∃ c, env.cells.lookup x = some c ∧ h.IsCell c (some u))
structure Cx.Ok (X : Cx) : Prop where
  mod : Mod X.K X.mg X.base
  kind : X.env.scope.kind = .function
  glob : X.env.globals = mainGlobals
  blt : X.env.builtins = builtinsNs
  above : X.s₀.heap.objs.size ≤ X.env.locals
  inj : ∀ x y c, X.env.cells.lookup x = some c → X.env.cells.lookup y = some c → x = y
  has : ∀ x, (X.env.kindOf x = some .cell ∨ X.env.kindOf x = some .free) → ∃ c, X.env.cells.lookup x = some c
  cab : ∀ x c, X.fn x = true → X.env.cells.lookup x = some c → X.s₀.heap.objs.size ≤ c
  hd : X.calm = true → X.A.handled = none
  frames : X.A.frames = some X.stack
  stk : X.stack = X.outer ∨ (X.stack = X.env :: X.outer ∧ X.env.frame = some X.env.locals)
  exf : ∀ b ∈ X.ex, b ≠ X.env.locals ∧ ∀ x c, X.env.cells.lookup x = some c → c ≠ b
  bs : ∀ b o, X.base.get? b = some o → X.s₀.heap.get? b = some o ∧ X.H₀ b = none
  bsz : X.base.objs.size ≤ X.s₀.heap.objs.size
  noex : ∀ b o, X.base.get? b = some o → b ∉ X.ex
  exfs : ∀ b ∈ X.ex, b ∉ X.fs
  funs : X.s₀.heap.FunFrames X.base X.outer
  frf : ∀ b ∈ X.fs, X.H₀ b = none
structure Inv (X : Cx) (pins : List (Addr × Obj)) (σ : List (Option V)) (H : Hp) (s : Shared) : Prop where
  ok : X.Ok
  os : s.os = X.s₀.os
  bare : AllBare s.gens
  base : Un X.fs X.ex X.H₀ H X.s₀.heap s.heap
  loc : ∃ m, s.heap.Ns X.env.locals m ∧ ∀ (i : Nat) (x : Str) (v : V), X.N[i]? = some x → σ[i]? = some (some v) → Vis X.env.scope x → ∃ u, RelV v u ∧ Look X.env s.heap m x u
  cell : ∀ x c, X.env.cells.lookup x = some c → ∃ v, s.heap.IsCell c v
  free : H X.env.locals = none
  freeC : ∀ x c, X.env.cells.lookup x = some c → H c = none
  pin : ∀ p ∈ X.pn ++ pins, s.heap.get? p.1 = some p.2 ∧ H p.1 = none ∧ p.1 ≠ X.env.locals ∧ p.1 ∉ X.fs ∧ ∀ v, p.2.data ≠ .cell v
  hok : HOk X.prog X.w H s.heap
  len : σ.length = X.N.length
section
variable {X : Cx} {pins : List (Addr × Obj)} {σ : List (Option V)} {H H' : Hp} {s : Shared} {h' : Heap}
theorem Cx.Ok.nofr (ok : X.Ok) {b : Addr} {o : Obj} (e : X.base.get? b = some o) : b ∉ X.fs := fun hb => by
  have := (ok.funs.mem hb).1
  rw [e] at this; cases this
theorem Inv.bs (I : Inv X pins σ H s) : ∀ b o, X.base.get? b = some o → s.heap.get? b = some o ∧ H b = none := fun b o e =>
  ⟨I.base.keep b o (I.ok.bs b o e).1 (I.ok.bs b o e).2 (I.ok.nofr e) (I.ok.noex b o e), I.base.free b o (I.ok.bs b o e).1 (I.ok.bs b o e).2 (I.ok.noex b o e)⟩
theorem Inv.bk (I : Inv X pins σ H s) : ∀ b o, X.base.get? b = some o → s.heap.get? b = some o := fun b o e => (I.bs b o e).1
theorem Inv.mod (I : Inv X pins σ H s) : Mod X.K X.mg X.base := I.ok.mod
theorem Inv.kIn (I : Inv X pins σ H s) : X.K.In s.heap := I.ok.mod.kin.keeps I.bk
theorem Inv.nolimit (I : Inv X pins σ H s) : s.heap.NoLimit := I.ok.mod.nolimit.keeps I.bk
theorem Inv.fr (I : Inv X pins σ H s) : ∃ m, Fr X.base X.env.locals s.heap m :=
  let ⟨m, hn, _⟩ := I.loc
  ⟨m, hn, I.bk, Nat.le_trans I.ok.bsz I.ok.above⟩
theorem Inv.lt (I : Inv X pins σ H s) : X.env.locals < s.heap.objs.size := let ⟨_, hn, _⟩ := I.loc; hn.lt
theorem Inv.sz (I : Inv X pins σ H s) : X.s₀.heap.objs.size ≤ s.heap.objs.size := Nat.le_trans I.ok.above (Nat.le_of_lt I.lt)
theorem Inv.nofs (I : Inv X pins σ H s) {a : Addr} (h : s.heap.objs.size ≤ a) : a ∉ X.fs := fun hb => by
  obtain ⟨_, o, ho, _⟩ := I.ok.funs.mem hb
  exact absurd (Nat.lt_of_lt_of_le (Heap.lt_size ho) (Nat.le_trans I.sz h)) (Nat.lt_irrefl _)
theorem Inv.cne (I : Inv X pins σ H s) : ∀ x c, X.env.cells.lookup x = some c → c ≠ X.env.locals := fun x c e z => by
  obtain ⟨v, o, ho, hd⟩ := I.cell x c e
  obtain ⟨m, ⟨o', es, ep, ho', hd', _⟩, _⟩ := I.loc
  rw [z, ho'] at ho; cases ho; rw [hd'] at hd; cases hd
theorem Inv.funs (I : Inv X pins σ H s) : s.heap.FunFrames X.base X.outer := by
  have all : ∀ (l : List Env), (∀ b ∈ frs l, b ∈ X.fs) → X.s₀.heap.FunFrames X.base l → s.heap.FunFrames X.base l := by
    intro l
    induction l with
    | nil => intro _ _; trivial
    | cons env r ih =>
      intro hs hl
      obtain ⟨hk, ⟨L, o, hf, hn, ho, hd⟩, hr⟩ := hl
      have hL : L ∈ X.fs := hs L (by unfold frs; rw [List.filterMap_cons, hf]; exact List.mem_cons_self)
      obtain ⟨sl, e⟩ := I.base.slot L o ho (I.ok.frf L hL) hL fun z => I.ok.exfs L z hL
      exact ⟨hk, ⟨L, _, hf, hn, e, hd⟩, ih (fun b hb => hs b (by unfold frs; rw [List.filterMap_cons, hf]; exact List.mem_cons_of_mem _ hb)) hr⟩
  exact all X.outer (fun _ hb => hb) I.ok.funs
theorem Inv.stack (I : Inv X pins σ H s) : s.heap.FunFrames X.base X.stack := by
  rcases I.ok.stk with e | ⟨e, hf⟩
  · rw [e]; exact I.funs
  · rw [e]
    obtain ⟨m, hn, _⟩ := I.loc
    refine .cons (by rw [I.ok.kind]; decide) hf hn ?_ I.funs
    exact Heap.get?_none_of_le (Nat.le_trans I.ok.bsz I.ok.above)
theorem Inv.stkSub (I : Inv X pins σ H s) : ∀ b ∈ frs X.stack, b ∈ X.env.locals :: X.fs := fun b hb => by
  rcases I.ok.stk with e | ⟨e, hf⟩
  · rw [e] at hb; exact List.mem_cons_of_mem _ hb
  · rw [e] at hb
    unfold frs at hb
    rw [List.filterMap_cons, hf] at hb
    exact hb
theorem Inv.stkFree (I : Inv X pins σ H s) : ∀ b ∈ frs X.stack, H b = none := fun b hb => by
  rcases List.mem_cons.mp (I.stkSub b hb) with e | hb
  · rw [e]; exact I.free
  · obtain ⟨_, o, ho, _⟩ := I.ok.funs.mem hb
    exact I.base.free b o ho (I.ok.frf b hb) fun z => I.ok.exfs b z hb
theorem Inv.step {g' : Array GenState} {t' : Nat} {d' : Drawn} {ch : List Addr} (I : Inv X pins σ H s)
    (hch : ∀ b ∈ ch, (b ∈ X.ex ∨ X.s₀.heap.objs.size ≤ b) ∧ b ≠ X.env.locals ∧ (∀ x c, X.env.cells.lookup x = some c → c ≠ b) ∧ ∀ p ∈ X.pn ++ pins, p.1 ≠ b)
    (keep : ∀ b o, b ≠ X.env.locals → b ∉ X.fs → b ∉ ch → s.heap.get? b = some o → H b = none → h'.get? b = some o)
    (slot : ∀ b o, b ≠ X.env.locals → b ∈ X.fs → b ∉ ch → s.heap.get? b = some o → H b = none → ∃ sl, h'.get? b = some { o with slots := sl }) (free : ∀ b o, b ∉ ch → s.heap.get? b = some o → H b = none → H' b = none)
    (there : ∀ b o, b ∉ ch → s.heap.get? b = some o → ∃ o', h'.get? b = some o')
    (tups : ∀ b xs, H b = some (.tup xs) → H' b = some (.tup xs)) (frzs : ∀ b o u, H b = some (.frz o u) → H' b = some (.frz o u)) (tbls : ∀ b ps, H b = some (.tbl ps) → ∃ more, H' b = some (.tbl (ps ++ more)))
    (ns : ∀ m, s.heap.Ns X.env.locals m → h'.Ns X.env.locals m) (hok : HOk X.prog X.w H' h') (hg : AllBare g') :
    Inv X pins σ H' { s with heap := h', gens := g', drawn := d', toks := t' } := by
  have neL : ∀ b o, X.s₀.heap.get? b = some o → b ≠ X.env.locals := fun b o e => Nat.ne_of_lt (Nat.lt_of_lt_of_le (Heap.lt_size e) I.ok.above)
  have neC : ∀ b o, X.s₀.heap.get? b = some o → b ∉ X.ex → b ∉ ch := fun b o e hx hb => by
    rcases (hch b hb).1 with z | z
    · exact hx z
    · exact absurd (Nat.lt_of_lt_of_le (Heap.lt_size e) z) (Nat.lt_irrefl _)
  have cellK : ∀ x c, X.env.cells.lookup x = some c → ∀ v, s.heap.IsCell c v → h'.IsCell c v := fun x c e v ⟨o, ho, hd⟩ => by
    have nch : c ∉ ch := fun z => (hch c z).2.2.1 x c e rfl
    by_cases hc : c ∈ X.fs
    · obtain ⟨sl, q⟩ := slot c o (I.cne x c e) hc nch ho (I.freeC x c e)
      exact ⟨_, q, hd⟩
    · exact ⟨o, keep c o (I.cne x c e) hc nch ho (I.freeC x c e), hd⟩
  refine ⟨I.ok, I.os, hg, ⟨fun b o e n hb hx => ?_, fun b o e n hb hx => ?_, fun b o e n hx => ?_, fun b o e hx => ?_, fun b xs e => tups b xs (I.base.tups b xs e), fun b o xs e => frzs b o xs (I.base.frzs b o xs e), fun b ps e => ?_⟩, ?_, fun x c e => ?_, ?_, fun x c e => ?_, fun p hp => ?_, hok, I.len⟩
  · exact keep b o (neL b o e) hb (neC b o e hx) (I.base.keep b o e n hb hx) (I.base.free b o e n hx)
  · obtain ⟨sl, e1⟩ := I.base.slot b o e n hb hx
    obtain ⟨sl', e2⟩ := slot b _ (neL b o e) hb (neC b o e hx) e1 (I.base.free b o e n hx)
    exact ⟨sl', e2⟩
  · obtain ⟨o', e1⟩ := I.base.there b o e hx
    exact free b o' (neC b o e hx) e1 (I.base.free b o e n hx)
  · obtain ⟨o', e1⟩ := I.base.there b o e hx
    exact there b o' (neC b o e hx) e1
  · obtain ⟨m1, e1⟩ := I.base.tbls b ps e
    obtain ⟨m2, e2⟩ := tbls b _ e1
    exact ⟨m1 ++ m2, by rw [e2, Array.append_assoc]⟩
  · obtain ⟨m, hn, hl⟩ := I.loc
    refine ⟨m, ns m hn, fun i x v e1 e2 e3 => ?_⟩
    obtain ⟨u, r, l⟩ := hl i x v e1 e2 e3
    refine ⟨u, r, ?_⟩
    rcases l with l | ⟨k, c, e, z⟩
    · exact .inl l
    · exact .inr ⟨k, c, e, cellK x c e _ z⟩
  · obtain ⟨v, z⟩ := I.cell x c e
    exact ⟨v, cellK x c e v z⟩
  · obtain ⟨m, ⟨o, _, _, ho, _⟩, _⟩ := I.loc
    exact free _ o (fun z => (hch _ z).2.1 rfl) ho I.free
  · obtain ⟨v, o, ho, hd⟩ := I.cell x c e
    exact free c o (fun z => (hch c z).2.2.1 x c e rfl) ho (I.freeC x c e)
  · obtain ⟨e, n, ne, nf, d⟩ := I.pin p hp
    have nch : p.1 ∉ ch := fun z => (hch p.1 z).2.2.2 p hp rfl
    exact ⟨keep p.1 p.2 ne nf nch e n, free p.1 p.2 nch e n, ne, nf, d⟩
theorem Inv.un {t' : Nat} (I : Inv X pins σ H s) (u : Un X.fs [] H H' s.heap h') (hok : HOk X.prog X.w H' h') : Inv X pins σ H' { s with heap := h', toks := t' } := by
  obtain ⟨m, ⟨o, es, ep, ho, r⟩, _⟩ := id I.loc
  obtain ⟨sl, hL⟩ := u.any ho I.free (by simp)
  exact I.step (g' := s.gens) (d' := s.drawn) (ch := []) (fun _ z => nomatch z) (fun b o _ hb _ e n => u.keep b o e n hb (by simp)) (fun b o _ hb _ e n => u.slot b o e n hb (by simp)) (fun b o _ e n => u.free b o e n (by simp)) (fun b o _ e => u.there b o e (by simp)) u.tups u.frzs u.tbls (fun m' hm => by
    obtain ⟨o', es', ep', ho', r'⟩ := hm
    rw [ho] at ho'; cases ho'
    exact ⟨_, es', ep', hL, r'⟩) hok I.bare
theorem Inv.call {g' : Array GenState} {t' : Nat} {d' : Drawn} {ch : List Addr} (I : Inv X pins σ H s) (u : Un (frs X.stack) ch H H' s.heap h') (hok : HOk X.prog X.w H' h') (hg : AllBare g')
    (hch : ∀ b ∈ ch, (b ∈ X.ex ∨ X.s₀.heap.objs.size ≤ b) ∧ b ≠ X.env.locals ∧ (∀ x c, X.env.cells.lookup x = some c → c ≠ b) ∧ ∀ p ∈ X.pn ++ pins, p.1 ≠ b) :
    Inv X pins σ H' { s with heap := h', gens := g', drawn := d', toks := t' } := by
  obtain ⟨m, ⟨o, es, ep, ho, r⟩, _⟩ := id I.loc
  obtain ⟨sl, hL⟩ := u.any ho I.free fun z => (hch _ z).2.1 rfl
  exact I.step (ch := ch) hch (fun b o hL hb hc e n => u.keep b o e n (fun z => (List.mem_cons.mp (I.stkSub b z)).elim hL hb) hc) (fun b o _ _ hc e n => u.any e n hc) (fun b o hc e n => u.free b o e n hc) (fun b o hc e => u.there b o e hc) u.tups u.frzs u.tbls (fun m' hm => by
    obtain ⟨o', es', ep', ho', r'⟩ := hm
    rw [ho] at ho'; cases ho'
    exact ⟨_, es', ep', hL, r'⟩) hok hg
theorem Inv.turned {t' : Nat} {it : Addr} (I : Inv X pins σ H s) (k : ∀ b o, b ≠ it → s.heap.get? b = some o → h'.get? b = some o) (hn : H it = none) (hL : it ≠ X.env.locals)
    (h1 : it ∈ X.ex ∨ X.s₀.heap.objs.size ≤ it) (h2 : ∀ x c, X.env.cells.lookup x = some c → c ≠ it) (h3 : ∀ p ∈ X.pn ++ pins, p.1 ≠ it) : Inv X pins σ H { s with heap := h', toks := t' } := by
  have nit : ∀ b u, H b = some u → b ≠ it := fun b u e z => by rw [z, hn] at e; cases e
  refine I.step (g' := s.gens) (d' := s.drawn) (ch := [it]) (fun b hb => ?_) (fun b o _ _ hc e _ => k b o (fun z => hc (by simp [z])) e) (fun b o _ _ hc e _ => ⟨o.slots, k b o (fun z => hc (by simp [z])) e⟩) (fun _ _ _ _ n => n)
    (fun b o hc e => ⟨o, k b o (fun z => hc (by simp [z])) e⟩) (fun _ _ e => e) (fun _ _ _ e => e) (fun b ps e => ⟨#[], by rw [e]; simp⟩) (fun m hm => ?_) (fun b u e => ?_) I.bare
  · have e : b = it := by simpa using hb
    subst e
    exact ⟨h1, hL, h2, h3⟩
  · obtain ⟨o, es, ep, ho, r⟩ := hm
    exact ⟨o, es, ep, k _ o (Ne.symm hL) ho, r⟩
  · refine (I.hok b u e).stay (fun c v hc q => k c v ?_ q) (fun _ q => q) fun _ _ q => q
    rcases hc with z | z
    · rw [z]; exact nit b u e
    · exact nit c _ z
theorem Inv.tok (I : Inv X pins σ H s) (t : Nat) : Inv X pins σ H { s with toks := t } := I.un (h' := s.heap) (t' := t) Un.refl I.hok
theorem Inv.kept {t' : Nat} (I : Inv X pins σ H s) (k : ∀ b u, s.heap.get? b = some u → h'.get? b = some u) : Inv X pins σ H { s with heap := h', toks := t' } := I.un (Un.kept k) (I.hok.kept k)
theorem Inv.laid {a : Addr} {o : HO} {t' : Nat} (I : Inv X pins σ H s) (k : ∀ b u, s.heap.get? b = some u → h'.get? b = some u) (hp : s.heap.objs.size ≤ a) (new : ObjOk X.prog X.w (upd H a o) h' a o) :
    Inv X pins σ (upd H a o) { s with heap := h', toks := t' } := I.un (Un.laid k hp (I.hok.fresh hp)) (I.hok.laid k hp new)
theorem Inv.write {x e : Addr} {o : HO} {t' : Nat} (I : Inv X pins σ H s) (mu : Mut (H x)) (he : e = x ∨ H e = some (.own x)) (k : ∀ b u, b ≠ e → s.heap.get? b = some u → h'.get? b = some u) (heo : ∃ u, h'.get? e = some u)
    (new : ObjOk X.prog X.w (upd H x o) h' x o) : Inv X pins σ (upd H x o) { s with heap := h', toks := t' } := I.un (Un.write mu he k heo) (I.hok.write mu he k heo new)
theorem Inv.pins_of {pins' : List (Addr × Obj)} (I : Inv X pins σ H s) (h : ∀ p ∈ pins', s.heap.get? p.1 = some p.2 ∧ H p.1 = none ∧ p.1 ≠ X.env.locals ∧ p.1 ∉ X.fs ∧ ∀ v, p.2.data ≠ .cell v) : Inv X pins' σ H s :=
  ⟨I.ok, I.os, I.bare, I.base, I.loc, I.cell, I.free, I.freeC, fun p hp => (List.mem_append.mp hp).elim (fun z => I.pin p (List.mem_append_left _ z)) (h p), I.hok, I.len⟩
theorem nodup_ix {N : List Str} (hN : N.Nodup) {i j : Nat} {x : Str} (a : N[i]? = some x) (b : N[j]? = some x) : i = j := by
  obtain ⟨h1, e1⟩ := List.getElem?_eq_some_iff.mp a
  obtain ⟨h2, e2⟩ := List.getElem?_eq_some_iff.mp b
  exact (List.getElem_inj hN).mp (e1.trans e2.symm)
theorem store_ok2 {M : Model} {A : Around} {E : Value → Shared → Prop} {i : Nat} {x : Str} {v : V} {u : Value} {Q : Unit → Shared → Prop} (I : Inv X pins σ H s) (hN : X.N.Nodup) (hi : X.N[i]? = some x) (hx : Loc X.env.scope x) (r : RelV v u)
    (h : ∀ s', Inv X pins (σ.set i (some v)) H s' → (∃ a, Heap.SameBut a s.heap s'.heap ∧ (a = X.env.locals ∨ X.env.cells.lookup x = some a)) → Q () s') (hf : X.fn x = true ∨ X.env.scope.names.lookup x = some .local := by first | exact .inl rfl | exact .inr rfl | assumption) : wpAny M A (storeName X.env x u) Q E s := by
  obtain ⟨m, hn, hl⟩ := id I.loc
  have hcls : (X.env.scope.kind == .class || (X.env.scope.kind == .module && X.env.locals != X.env.globals)) = false := by rw [I.ok.kind]; rfl
  have hiσ : i < σ.length := by rw [I.len]; exact (List.getElem?_eq_some_iff.mp hi).1
  have cne := I.cne
  have tracked : ∀ {a : Addr} {h' : Heap}, (∃ o, s.heap.get? a = some o ∧ H a = none) → Heap.SameBut a s.heap h' → HOk X.prog X.w H h' := fun {a h'} ha hs b ob e => by
    obtain ⟨_, _, hfree⟩ := ha
    refine (I.hok b ob e).stay (fun c w' hc q => (hs.2 c ?_).trans q) (fun _ q => q) fun _ _ q => q
    rintro rfl
    rcases hc with rfl | hc
    · rw [hfree] at e; cases e
    · rw [hfree] at hc; cases hc
  rcases hx with hk | hk
  · refine wpAny_storeName_local hk hn (fun h' hn' hs => ?_) hcls
    obtain ⟨oL, _, _, hoL, _⟩ := id hn
    refine h _ ⟨I.ok, I.os, I.bare, ⟨fun b o e n hb hx => ?_, fun b o e n hb hx => ?_, I.base.free, fun b o e hx => ?_, I.base.tups, I.base.frzs, I.base.tbls⟩, ⟨_, hn', fun j y v' e1 e2 e3 => ?_⟩, fun y c e => ?_, I.free, I.freeC, fun p hp => ?_, tracked ⟨oL, hoL, I.free⟩ hs, by simpa using I.len⟩ ⟨_, hs, .inl rfl⟩
    · exact (hs.2 b (Nat.ne_of_lt (Nat.lt_of_lt_of_le (Heap.lt_size e) I.ok.above))).trans (I.base.keep b o e n hb hx)
    · obtain ⟨sl, e1⟩ := I.base.slot b o e n hb hx
      exact ⟨sl, (hs.2 b (Nat.ne_of_lt (Nat.lt_of_lt_of_le (Heap.lt_size e) I.ok.above))).trans e1⟩
    · obtain ⟨o', e1⟩ := I.base.there b o e hx
      exact ⟨o', (hs.2 b (Nat.ne_of_lt (Nat.lt_of_lt_of_le (Heap.lt_size e) I.ok.above))).trans e1⟩
    · by_cases hj : j = i
      · subst hj
        rw [hi] at e1; cases e1
        rw [List.getElem?_set_self hiσ] at e2
        cases e2
        exact ⟨u, r, .inl ⟨hk, by simp⟩⟩
      · rw [List.getElem?_set_ne (Ne.symm hj)] at e2
        obtain ⟨u', r', q⟩ := hl j y v' e1 e2 e3
        refine ⟨u', r', ?_⟩
        rcases q with ⟨k, e⟩ | ⟨k, c, e, z⟩
        · refine .inl ⟨k, ?_⟩
          have : y ≠ x := fun e => hj (nodup_ix hN e1 (e ▸ hi))
          simp [this, e]
        · exact .inr ⟨k, c, e, z.sameBut hs (cne y c e)⟩
    · obtain ⟨w', z⟩ := I.cell y c e
      exact ⟨w', z.sameBut hs (cne y c e)⟩
    · obtain ⟨e, n, ne, nf, d⟩ := I.pin p hp
      exact ⟨(hs.2 p.1 ne).trans e, n, ne, nf, d⟩
  · have hfn : X.fn x = true := by
      rcases hf with z | z
      · exact z
      · rw [z] at hk; cases hk
    obtain ⟨c, hc⟩ := I.ok.has x (.inl hk)
    obtain ⟨w', z⟩ := I.cell x c hc
    refine wpAny_storeName_cell I.ok.kind hk hc z (fun h' hc' hs => ?_)
    obtain ⟨oc, hoc, hocd⟩ := id z
    refine h { s with heap := h' } ⟨I.ok, I.os, I.bare, ⟨fun b o e n hb hx => ?_, fun b o e n hb hx => ?_, I.base.free, fun b o e hx => ?_, I.base.tups, I.base.frzs, I.base.tbls⟩, ⟨m, hn.sameBut hs (Ne.symm (cne x c hc)), fun j y v' e1 e2 e3 => ?_⟩, fun y c' e => ?_, I.free, I.freeC, fun p hp => ?_, tracked ⟨oc, hoc, I.freeC x c hc⟩ hs, by simpa using I.len⟩ ⟨c, hs, .inr hc⟩
    · exact (hs.2 b (Nat.ne_of_lt (Nat.lt_of_lt_of_le (Heap.lt_size e) (I.ok.cab x c hfn hc)))).trans (I.base.keep b o e n hb hx)
    · obtain ⟨sl, e1⟩ := I.base.slot b o e n hb hx
      exact ⟨sl, (hs.2 b (Nat.ne_of_lt (Nat.lt_of_lt_of_le (Heap.lt_size e) (I.ok.cab x c hfn hc)))).trans e1⟩
    · obtain ⟨o', e1⟩ := I.base.there b o e hx
      exact ⟨o', (hs.2 b (Nat.ne_of_lt (Nat.lt_of_lt_of_le (Heap.lt_size e) (I.ok.cab x c hfn hc)))).trans e1⟩
    · by_cases hj : j = i
      · subst hj
        rw [hi] at e1; cases e1
        rw [List.getElem?_set_self hiσ] at e2
        cases e2
        exact ⟨u, r, .inr ⟨.inl hk, c, hc, hc'⟩⟩
      · rw [List.getElem?_set_ne (Ne.symm hj)] at e2
        obtain ⟨u', r', q⟩ := hl j y v' e1 e2 e3
        refine ⟨u', r', ?_⟩
        rcases q with q | ⟨k, c', e, z'⟩
        · exact .inl q
        · refine .inr ⟨k, c', e, z'.sameBut hs ?_⟩
          rintro rfl
          exact hj (nodup_ix hN e1 (I.ok.inj _ _ _ e hc ▸ hi))
    · by_cases hcc : c' = c
      · subst hcc; exact ⟨_, hc'⟩
      · obtain ⟨w2, z2⟩ := I.cell y c' e
        exact ⟨w2, z2.sameBut hs hcc⟩
    · obtain ⟨e, n, ne, nf, d⟩ := I.pin p hp
      refine ⟨(hs.2 p.1 ?_).trans e, n, ne, nf, d⟩
      intro q
      rw [q, hoc] at e
      have q' : oc = p.2 := Option.some.inj e
      exact d w' (by rw [← q']; exact hocd)
theorem store_ok {M : Model} {A : Around} {E : Value → Shared → Prop} {i : Nat} {x : Str} {v : V} {u : Value} {Q : Unit → Shared → Prop} (I : Inv X pins σ H s) (hN : X.N.Nodup) (hi : X.N[i]? = some x) (hx : Loc X.env.scope x) (r : RelV v u)
    (h : ∀ s', Inv X pins (σ.set i (some v)) H s' → Q () s') (hf : X.fn x = true ∨ X.env.scope.names.lookup x = some .local := by first | exact .inl rfl | exact .inr rfl | assumption) : wpAny M A (storeName X.env x u) Q E s :=
  store_ok2 I hN hi hx r (fun s' I' _ => h s' I') hf
theorem Inv.call' {s' : Shared} {ch : List Addr} (I : Inv X pins σ H s) (ho : s'.os = s.os) (u : Un (frs X.stack) ch H H' s.heap s'.heap) (hok : HOk X.prog X.w H' s'.heap) (hg : AllBare s'.gens)
    (hch : ∀ b ∈ ch, (b ∈ X.ex ∨ X.s₀.heap.objs.size ≤ b) ∧ b ≠ X.env.locals ∧ (∀ x c, X.env.cells.lookup x = some c → c ≠ b) ∧ ∀ p ∈ X.pn ++ pins, p.1 ≠ b) : Inv X pins σ H' s' := by
  obtain ⟨h', g', d', t', o'⟩ := s'
  have e : o' = s.os := ho
  subst e
  exact I.call (g' := g') (t' := t') (d' := d') u hok hg hch
end
abbrev XK := Value → Option Addr → Hp → Prop
abbrev St := List (Option V)
abbrev VK := V → Hp → Prop
abbrev TE := St → Hp → VK → Prop
abbrev TT := St → Hp → (Bool → Hp → Prop) → Prop
abbrev TA := St → Hp → (List V → Hp → Prop) → Prop
structure Ends where
  nx : St → Hp → Prop
  rt : VK
  bk : St → Hp → Prop := fun _ _ => False
  ct : St → Hp → Prop := fun _ _ => False
abbrev TS := Ends → St → Hp → Prop
def EP (X : Cx) (pins : List (Addr × Obj)) (σ : St) (Q : VK) (u : Value) (s' : Shared) : Prop := ∃ v H', Inv X pins σ H' s' ∧ RelV v u ∧ Q v H'
def TP (X : Cx) (pins : List (Addr × Obj)) (σ : St) (Q : Bool → Hp → Prop) (b : Bool) (s' : Shared) : Prop := ∃ H', Inv X pins σ H' s' ∧ Q b H'
def AP (X : Cx) (pins : List (Addr × Obj)) (σ : St) (Q : List V → Hp → Prop) (us : List Value) (s' : Shared) : Prop := ∃ vs H', Inv X pins σ H' s' ∧ Vals vs us ∧ Q vs H'
def SP (X : Cx) (pins : List (Addr × Obj)) (D : Ends) (f : Flow) (s' : Shared) : Prop :=
  match f with
  | .next => ∃ σ' H', Inv X pins σ' H' s' ∧ D.nx σ' H'
  | .brk => ∃ σ' H', Inv X pins σ' H' s' ∧ D.bk σ' H'
  | .cont => ∃ σ' H', Inv X pins σ' H' s' ∧ D.ct σ' H'
  | .ret u => ∃ v σ' H', Inv X pins σ' H' s' ∧ RelV v u ∧ D.rt v H'
def PE (X : Cx) (e : Expr) (t : TE) : Prop :=
  ∀ (pins : List (Addr × Obj)) (s : Shared) (σ : St) (H : Hp) (Q : VK), Inv X pins σ H s → t σ H Q → wpAny (model X.prog X.w) X.A (eval e X.env) (EP X pins σ Q) X.xe s
def PT (X : Cx) (e : Expr) (t : TT) : Prop :=
  ∀ (pins : List (Addr × Obj)) (s : Shared) (σ : St) (H : Hp) (Q : Bool → Hp → Prop), Inv X pins σ H s → t σ H Q → wpAny (model X.prog X.w) X.A (isTrue e X.env (eval e X.env)) (TP X pins σ Q) X.xe s
def PW (X : Cx) (e : Expr) (t : TT) : Prop :=
  ∀ (whole : Sem Value) (pins : List (Addr × Obj)) (s : Shared) (σ : St) (H : Hp) (Q : Bool → Hp → Prop), Inv X pins σ H s → t σ H Q → wpAny (model X.prog X.w) X.A (isTrue e X.env whole) (TP X pins σ Q) X.xe s
theorem PW.pt {X : Cx} {e : Expr} {t : TT} (h : PW X e t) : PT X e t := h _
def PA (X : Cx) (es : List Expr) (t : TA) : Prop :=
  ∀ (pos : Pos) (pins : List (Addr × Obj)) (s : Shared) (σ : St) (H : Hp) (Q : List V → Hp → Prop), Inv X pins σ H s → t σ H Q → wpAny (model X.prog X.w) X.A (spliced (backTo pos (starEach es X.env))) (AP X pins σ Q) X.xe s
def PS (X : Cx) (st : Stmt) (t : TS) : Prop :=
  ∀ (pins : List (Addr × Obj)) (s : Shared) (σ : St) (H : Hp) (D : Ends), Inv X pins σ H s → t D σ H → wpAny (model X.prog X.w) X.A (exec st X.env) (SP X pins D) X.xe s
def PSs (X : Cx) (st : List Stmt) (t : TS) : Prop :=
  ∀ (pins : List (Addr × Obj)) (s : Shared) (σ : St) (H : Hp) (D : Ends), Inv X pins σ H s → t D σ H → wpAny (model X.prog X.w) X.A (execs st X.env) (SP X pins D) X.xe s
theorem thn {α : Type} {t : Sem α} {Q Q' : α → Shared → Prop} {M : Model} {A : Around} {E : Value → Shared → Prop} {s : Shared} (h : wpAny M A t Q E s) (hQ : ∀ a s, Q a s → Q' a s) : wpAny M A t Q' E s := wpAny_mono h hQ fun _ _ x => x
end L2
namespace L2
open PySem PySem.Spec PyProof.Rows
section
variable {X : Cx}
def tVar (i : Nat) : TE := fun σ H Q => ∃ v, σ[i]? = some (some v) ∧ Q v H
def tC (v : V) : TE := fun _ H Q => Q v H
theorem pe_var {i : Nat} {x : Str} {pos : Pos} (hN : X.N[i]? = some x) (hv : Vis X.env.scope x) (hd : (x == ("__debug__" : Str)) = false := by decide) (hcd : (x == ("__classdict__" : Str)) = false := by decide) : PE X (.Name x pos) (tVar i) := by
  intro pins s σ H Q I h
  obtain ⟨v, e, h⟩ := h
  obtain ⟨m, hn, hl⟩ := I.loc
  obtain ⟨u, r, l⟩ := hl i x v hN e hv
  have fin : EP X pins σ Q u s := ⟨v, H, I, r, h⟩
  rcases l with ⟨hk, hm⟩ | ⟨hk, c, hc, hcell⟩
  · exact wpAny_Name (wpAny_loadName_local I.ok.kind hk hn hm fin) hd
  · rcases hk with hk | hk
    · exact wpAny_Name (wpAny_loadName_cell I.ok.kind hk hc hcell fin) hd
    · exact wpAny_Name (wpAny_loadName_free I.ok.kind hk hc hcell fin hcd) hd
theorem pe_int {i j pos} : PE X (.Constant (.int i) j pos) (tC (.int i)) := fun _ _ _ H _ I h => wpAny_Constant_int ⟨.int i, H, I.tok _, ⟨_, rfl⟩, h⟩
theorem pe_bl {b j pos} : PE X (.Constant (.bool b) j pos) (tC (.bl b)) := fun _ _ _ H _ I h => Constant_bool ⟨.bl b, H, I, rfl, h⟩
theorem pe_non {j pos} : PE X (.Constant .none j pos) (tC .non) := fun _ _ _ H _ I h => Constant_none ⟨.non, H, I, rfl, h⟩
theorem pe_str {x j pos} : PE X (.Constant (.str x) j pos) (tC (.str x)) := fun _ _ _ H _ I h => Calls.Constant_str ⟨.str x, H, I.tok _, ⟨_, rfl⟩, h⟩
def Gl (X : Cx) (x : Str) : Prop := X.env.kindOf x = some .globalImplicit
theorem ld_glob {E : Value → Shared → Prop} {pins : List (Addr × Obj)} {s : Shared} {σ : St} {H : Hp} {x : Str} {u : Value} {pos : Pos} {Q : Value → Shared → Prop} (I : Inv X pins σ H s) (hg : Gl X x) (hm : X.mg x = some u) (h : Q u s)
    (hd : (x == ("__debug__" : Str)) = false := by decide) : wpAny (model X.prog X.w) X.A (eval (.Name x pos) X.env) Q E s :=
  Calls.Name_function_global I.ok.kind hg (Calls.loadGlobal_global (by rw [I.ok.glob]; exact I.mod.glob.keeps I.bk) hm h) hd
theorem ld_blt {E : Value → Shared → Prop} {pins : List (Addr × Obj)} {s : Shared} {σ : St} {H : Hp} {x : Str} {u : Value} {pos : Pos} {Q : Value → Shared → Prop} (I : Inv X pins σ H s) (hg : Gl X x) (hm : X.mg x = none) (hv : bootBuiltins x = some u) (h : Q u s)
    (hn : x ≠ "__name__" := by decide) (hd : (x == ("__debug__" : Str)) = false := by decide) : wpAny (model X.prog X.w) X.A (eval (.Name x pos) X.env) Q E s := by
  obtain ⟨mb, h1, h2⟩ := I.mod.blt
  exact Calls.Name_function_global I.ok.kind hg (Calls.loadGlobal_builtin (by rw [I.ok.glob]; exact I.mod.glob.keeps I.bk) hm (by rw [I.ok.blt]; exact h1.keeps I.bk) ((h2 x hn).trans hv) h) hd
theorem pe_bltn {x : Str} {v : V} {u : Value} {pos : Pos} (hg : Gl X x) (hm : X.mg x = none) (hv : bootBuiltins x = some u) (r : RelV v u) (hn : x ≠ "__name__" := by decide) (hd : (x == ("__debug__" : Str)) = false := by decide) : PE X (.Name x pos) (tC v) :=
  fun _ _ _ H _ I h => ld_blt I hg hm hv ⟨v, H, I, r, h⟩ hn hd
def t2I (ta tb : TE) (k : Int → Int → Hp → Prop) : St → Hp → Prop := fun σ H => ta σ H fun x H1 => tb σ H1 fun y H2 => ∃ i j, x = .int i ∧ y = .int j ∧ k i j H2
def tAdd (ta tb : TE) : TE := fun σ H Q => t2I ta tb (fun i j H2 => Q (.int (i + j)) H2) σ H
def tSub (ta tb : TE) : TE := fun σ H Q => t2I ta tb (fun i j H2 => Q (.int (i - j)) H2) σ H
def tMul (ta tb : TE) : TE := fun σ H Q => t2I ta tb (fun i j H2 => (-(2 ^ 64) < i ∧ i < 2 ^ 64) ∧ Q (.int (i * j)) H2) σ H
variable {a b : Expr} {ta tb : TE} {pos : Pos}
def PC (X : Cx) (op : CmpOp) (a b : Expr) (t : TE) : Prop :=
  ∀ (pins : List (Addr × Obj)) (s : Shared) (σ : St) (H : Hp) (Q : VK), Inv X pins σ H s → t σ H Q →
    wpAny (model X.prog X.w) X.A (eval a X.env) (fun v s₁ => wpAny (model X.prog X.w) X.A (eval b X.env) (fun u s₂ => wpAny (model X.prog X.w) X.A (compareOp op v u) (EP X pins σ Q) X.xe s₂) X.xe s₁) X.xe s
def tCmp (p : Int → Int → Bool) (ta tb : TE) : TE := fun σ H Q => t2I ta tb (fun i j H2 => Q (.bl (p i j)) H2) σ H
abbrev tLt : TE → TE → TE := tCmp fun i j => decide (i < j)
abbrev tLe : TE → TE → TE := tCmp fun i j => decide (i ≤ j)
abbrev tGt : TE → TE → TE := tCmp fun i j => decide (j < i)
abbrev tGe : TE → TE → TE := tCmp fun i j => decide (j ≤ i)
abbrev tEqI : TE → TE → TE := tCmp fun i j => decide (i = j)
abbrev tNeI : TE → TE → TE := tCmp fun i j => !decide (i = j)
def tIsN (ta : TE) : TE := fun σ H Q => ta σ H fun x H1 => Q (.bl (decide (x = .non))) H1
def tNotN (ta : TE) : TE := fun σ H Q => ta σ H fun x H1 => Q (.bl (!decide (x = .non))) H1
def tB (t : TE) : TT := fun σ H Q => t σ H fun x H1 => ∃ c, x = .bl c ∧ Q c H1
theorem pt_val {e : Expr} {t : TE} (h : PE X e t) (he : ∀ whole, isTrue e X.env whole = (do let v ← whole; standAt e.pos; holding [v] (truthy v)) := by intro _; rfl) : PT X e (tB t) := by
  intro pins s σ H Q I hw
  refine isTrue_plain (thn (h pins s σ H _ I hw) fun v s1 ⟨x, H1, I1, r1, q1⟩ => ?_) (he _)
  obtain ⟨d, rfl, q⟩ := q1
  cases r1
  exact wpAny_truthy_bool ⟨H1, I1, q⟩
variable {tA tB' : TT} {rest : List Expr}
def tAnd (t u : TT) : TT := fun σ H Q => t σ H fun c H1 => if c = true then u σ H1 Q else Q false H1
def tOr (t u : TT) : TT := fun σ H Q => t σ H fun c H1 => if c = true then Q true H1 else u σ H1 Q
def tNot (t : TT) : TT := fun σ H Q => t σ H fun c H1 => Q (!c) H1
theorem pw_and1 (ha : PT X a tA) : PW X (.BoolOp .And [a] pos) tA := by
  intro wh pins s σ H Q I h
  refine isTrue_and (thn (ha pins s σ H Q I h) fun c s1 e => ?_)
  cases c with
  | true => exact isTrue_and_nil e
  | false => exact e
theorem pw_or1 (ha : PT X a tA) : PW X (.BoolOp .Or [a] pos) tA := by
  intro wh pins s σ H Q I h
  refine isTrue_or (thn (ha pins s σ H Q I h) fun c s1 e => ?_)
  cases c with
  | false => exact isTrue_or_nil e
  | true => exact e
theorem pw_and (ha : PT X a tA) (hb : PW X (.BoolOp .And (b :: rest) pos) tB') : PW X (.BoolOp .And (a :: b :: rest) pos) (tAnd tA tB') := by
  intro wh pins s σ H Q I h
  refine isTrue_and (thn (ha pins s σ H _ I h) fun c s1 ⟨H1, I1, q1⟩ => ?_)
  cases c with
  | true => exact hb wh pins s1 σ H1 Q I1 q1
  | false => exact ⟨H1, I1, q1⟩
theorem pw_or (ha : PT X a tA) (hb : PW X (.BoolOp .Or (b :: rest) pos) tB') : PW X (.BoolOp .Or (a :: b :: rest) pos) (tOr tA tB') := by
  intro wh pins s σ H Q I h
  refine isTrue_or (thn (ha pins s σ H _ I h) fun c s1 ⟨H1, I1, q1⟩ => ?_)
  cases c with
  | true => exact ⟨H1, I1, q1⟩
  | false => exact hb wh pins s1 σ H1 Q I1 q1
theorem pt_not (ha : PT X a tA) : PT X (.UnaryOp .Not a pos) (tNot tA) := by
  intro pins s σ H Q I h
  exact isTrue_not (ha pins s σ H (fun c H1 => Q (!c) H1) I h)
def tAndV (ta tb : TE) : TE := fun σ H Q => ta σ H fun x H1 => ∃ c, x = .bl c ∧ if c = true then tb σ H1 Q else Q (.bl false) H1
def tOrV (ta tb : TE) : TE := fun σ H Q => ta σ H fun x H1 => ∃ c, x = .bl c ∧ if c = true then Q (.bl true) H1 else tb σ H1 Q
def tNotV (ta : TE) : TE := fun σ H Q => ta σ H fun x H1 => ∃ c, x = .bl c ∧ Q (.bl (!c)) H1
theorem pe_one {op} {t : TE} (h : PE X a t) : PE X (.BoolOp op [a] pos) t := fun pins s σ H Q I hw => BoolOp_one (h pins s σ H Q I hw)
theorem pe_and (ha : PE X a ta) (hb : PE X (.BoolOp .And (b :: rest) pos) tb) : PE X (.BoolOp .And (a :: b :: rest) pos) (tAndV ta tb) := by
  intro pins s σ H Q I h
  refine BoolOp_and (thn (ha pins s σ H _ I h) fun v s1 ⟨x, H1, I1, r1, q1⟩ => ?_)
  obtain ⟨c, rfl, q1⟩ := q1
  cases r1
  refine wpAny_truthy_bool ?_
  cases c with
  | true => exact hb pins s1 σ H1 Q I1 q1
  | false => exact ⟨.bl false, H1, I1, rfl, q1⟩
theorem pe_not (ha : PE X a ta) : PE X (.UnaryOp .Not a pos) (tNotV ta) := by
  intro pins s σ H Q I h
  refine UnaryOp_ (thn (ha pins s σ H _ I h) fun v s1 ⟨x, H1, I1, r1, q1⟩ => ?_)
  obtain ⟨c, rfl, q1⟩ := q1
  cases r1
  exact not_of (wpAny_truthy_bool ⟨.bl (!c), H1, I1, rfl, q1⟩)
def tIf (t : TT) (ta tb : TE) : TE := fun σ H Q => t σ H fun c H1 => if c = true then ta σ H1 Q else tb σ H1 Q
theorem pe_ifExp {c : Expr} (hc : PT X c tA) (ha : PE X a ta) (hb : PE X b tb) : PE X (.IfExp c a b pos) (tIf tA ta tb) := by
  intro pins s σ H Q I h
  refine wpAny_IfExp (thn (hc pins s σ H _ I h) fun d s1 ⟨H1, I1, q1⟩ => ?_)
  cases d with
  | true => exact ha pins s1 σ H1 Q I1 q1
  | false => exact hb pins s1 σ H1 Q I1 q1
end
end L2
namespace L2
open PySem PySem.Spec PyProof.Rows
def SqL (K : PySem.W.Frag) (H : Hp) (a : Addr) (xs : List V) : Prop :=
  Rd H a (.lst xs) ∨
    ∃ (o : Obj) (its : Array Value) (n : Nat), K.lookup a = some o ∧ o.cls = .type "list" ∧ o.dict = none ∧ o.data = .seq its n ∧ its.size ≤ sizeLine ∧ Vals xs its.toList
def SqT (K : PySem.W.Frag) (H : Hp) (a : Addr) (xs : List V) : Prop :=
  Rd H a (.tup xs) ∨
    ∃ (o : Obj) (its : Array Value) (n : Nat), K.lookup a = some o ∧ o.cls = .type "tuple" ∧ o.data = .seq its n ∧ its.size ≤ sizeLine ∧ Vals xs its.toList
def absV : Value → Option V
  | .none => some .non
  | .bool b => some (.bl b)
  | .int i _ => some (.int i)
  | .str x _ => some (.str x)
  | .bytes b _ => some (.byt b)
  | .float b _ => some (.flt b)
  | .ref a => some (.ref a)
  | .type n => some (.ty n)
  | _ => none
theorem RelV.abs {x : V} {u : Value} (r : RelV x u) : absV u = some x := by
  cases x with
  | non => cases r; rfl
  | bl _ => cases r; rfl
  | int _ => obtain ⟨t, rfl⟩ := r; rfl
  | str _ => obtain ⟨t, rfl⟩ := r; rfl
  | byt _ => obtain ⟨t, rfl⟩ := r; rfl
  | flt _ => obtain ⟨t, rfl⟩ := r; rfl
  | ref _ => cases r; rfl
  | ty _ => cases r; rfl
theorem RelV.inj {x y : V} {u : Value} (r : RelV x u) (q : RelV y u) : x = y := Option.some.inj (r.abs.symm.trans q.abs)
theorem Vals.inj : ∀ {xs ys : List V} {us : List Value}, Vals xs us → Vals ys us → xs = ys
  | _, _, _, .nil, .nil => rfl
  | _, _, _, .cons r t, .cons r' t' => by rw [r.inj r', Vals.inj t t']
section
variable {X : Cx} {pins : List (Addr × Obj)} {σ : St} {H : Hp} {s : Shared} {a : Addr} {xs ys : List V}
theorem SqL.of {K : PySem.W.Frag} (h : H a = some (.lst xs)) : SqL K H a xs := .inl (.inl h)
theorem SqT.of {K : PySem.W.Frag} (h : H a = some (.tup xs)) : SqT K H a xs := .inl (.inl h)
theorem Inv.list (I : Inv X pins σ H s) (h : SqL X.K H a xs) : ∃ its : List Value, Vals xs its ∧ PlainL s.heap a its.toArray ∧ xs.length ≤ sizeLine := by
  rcases h with h | ⟨o, its, n, hk, hc, hd, hs, hz, r⟩
  · obtain ⟨z, its, n, r, e⟩ := h.ok I.hok
    exact ⟨its, r, ⟨_, n, e, rfl, rfl, rfl⟩, z⟩
  · refine ⟨its.toList, r, ⟨o, n, I.kIn a o hk, hc, hd, by simpa using hs⟩, ?_⟩
    have e := r.length
    simp only [Array.length_toList] at e
    omega
theorem Inv.tuple (I : Inv X pins σ H s) (h : SqT X.K H a xs) : ∃ its : List Value, Vals xs its ∧ IsTup s.heap a its.toArray ∧ xs.length ≤ sizeLine := by
  rcases h with h | ⟨o, its, n, hk, hc, hs, hz, r⟩
  · obtain ⟨z, its, r, p⟩ := h.ok I.hok
    exact ⟨its, r, p, z⟩
  · refine ⟨its.toList, r, ⟨o, I.kIn a o hk, hc, n, by simpa using hs⟩, ?_⟩
    have e := r.length
    simp only [Array.length_toList] at e
    omega
theorem Inv.tuple_inj (I : Inv X pins σ H s) (h : SqT X.K H a xs) (h' : SqT X.K H a ys) : xs = ys := by
  obtain ⟨its, r, ⟨o, e, _, n, d⟩, _⟩ := I.tuple h
  obtain ⟨its', r', ⟨o', e', _, n', d'⟩, _⟩ := I.tuple h'
  rw [e] at e'; cases e'
  rw [d] at d'
  injection d' with d1 _
  have : its = its' := by simpa using congrArg Array.toList d1
  subst this
  exact r.inj r'
end
abbrev Cx.wish (X : Cx) (E : Value → Shared → Prop) : Cx := { X with xe := E }
abbrev Cx.nox (X : Cx) : Cx := X.wish fun _ _ => False
theorem Cx.Ok.wish {X : Cx} (ok : X.Ok) (E : Value → Shared → Prop) : (X.wish E).Ok :=
  ⟨ok.mod, ok.kind, ok.glob, ok.blt, ok.above, ok.inj, ok.has, ok.cab, ok.hd, ok.frames, ok.stk, ok.exf, ok.bs, ok.bsz, ok.noex, ok.exfs, ok.funs, ok.frf⟩
theorem Cx.Ok.unwish {X : Cx} {E : Value → Shared → Prop} (ok : (X.wish E).Ok) : X.Ok :=
  ⟨ok.mod, ok.kind, ok.glob, ok.blt, ok.above, ok.inj, ok.has, ok.cab, ok.hd, ok.frames, ok.stk, ok.exf, ok.bs, ok.bsz, ok.noex, ok.exfs, ok.funs, ok.frf⟩
section
variable {X : Cx} {pins : List (Addr × Obj)} {σ : St} {H : Hp} {s : Shared} {E : Value → Shared → Prop}
theorem Inv.wish (I : Inv X pins σ H s) (E : Value → Shared → Prop) : Inv (X.wish E) pins σ H s := ⟨I.ok.wish E, I.os, I.bare, I.base, I.loc, I.cell, I.free, I.freeC, I.pin, I.hok, I.len⟩
theorem Inv.unwish (I : Inv (X.wish E) pins σ H s) : Inv X pins σ H s := ⟨I.ok.unwish, I.os, I.bare, I.base, I.loc, I.cell, I.free, I.freeC, I.pin, I.hok, I.len⟩
theorem SP.unwish {D : Ends} {f : Flow} {s' : Shared} (h : SP (X.wish E) pins D f s') : SP X pins D f s' := by
  cases f with
  | next => obtain ⟨σ', H', I, q⟩ := h; exact ⟨σ', H', I.unwish, q⟩
  | brk => obtain ⟨σ', H', I, q⟩ := h; exact ⟨σ', H', I.unwish, q⟩
  | cont => obtain ⟨σ', H', I, q⟩ := h; exact ⟨σ', H', I.unwish, q⟩
  | ret u => obtain ⟨v, σ', H', I, r, q⟩ := h; exact ⟨v, σ', H', I.unwish, r, q⟩
theorem PE.nox {e : Expr} {t : TE} (h : PE X.nox e t) : PE X e t := fun pins s σ H Q I hw =>
  wpAny_mono (h pins s σ H Q (I.wish _) hw) (fun _ _ ⟨v, H', I', r, q⟩ => ⟨v, H', I'.unwish, r, q⟩) fun _ _ z => False.elim z
theorem PT.nox {e : Expr} {t : TT} (h : PT X.nox e t) : PT X e t := fun pins s σ H Q I hw =>
  wpAny_mono (h pins s σ H Q (I.wish _) hw) (fun _ _ ⟨H', I', q⟩ => ⟨H', I'.unwish, q⟩) fun _ _ z => False.elim z
theorem PSs.nox {st : List Stmt} {t : TS} (h : PSs X.nox st t) : PSs X st t := fun pins s σ H D I hw =>
  wpAny_mono (h pins s σ H D (I.wish _) hw) (fun _ _ q => q.unwish) fun _ _ z => False.elim z
end
section
variable {X : Cx} {st : Stmt} {rest : List Stmt} {t u : TS} {e : Expr} {te : TE} {pos : Pos}
def tNext : TS := fun D σ H => D.nx σ H
def tSeq (t u : TS) : TS := fun D σ H => t { D with nx := u D } σ H
theorem pss_nil : PSs X [] tNext := fun _ _ σ H _ I h => wpAny_execs_nil ⟨σ, H, I, h⟩
theorem pss_cons (h1 : PS X st t) (h2 : PSs X rest u) : PSs X (st :: rest) (tSeq t u) := by
  intro pins s σ H D I h
  refine wpAny_execs_cons (thn (h1 pins s σ H { D with nx := u D } I h) fun f s1 q => ?_)
  cases f with
  | next =>
    obtain ⟨σ', H', I', q⟩ := q
    exact h2 pins s1 σ' H' D I' q
  | ret v => exact q
  | brk => exact q
  | cont => exact q
theorem pss_one (h1 : PS X st t) : PSs X [st] t := by
  intro pins s σ H D I h
  refine wpAny_execs_cons (thn (h1 pins s σ H D I h) fun f s1 q => ?_)
  cases f with
  | next => exact wpAny_execs_nil q
  | ret v => exact q
  | brk => exact q
  | cont => exact q
def tBreak : TS := fun D σ H => D.bk σ H
def tCont : TS := fun D σ H => D.ct σ H
def tDrop (te : TE) : TS := fun D σ H => te σ H fun _ H1 => D.nx σ H1
def tRet (te : TE) : TS := fun D σ H => te σ H D.rt
theorem ps_ret (he : PE X e te) : PS X (.Return (some e) pos) (tRet te) := by
  intro pins s σ H D I h
  exact wpAny_Return_some (thn (he pins s σ H _ I h) fun v s1 ⟨x, H1, I1, r1, q1⟩ => ⟨x, σ, H1, I1, r1, q1⟩)
def tRetN : TS := fun D _ H => D.rt .non H
def tIfS (c : TT) (t u : TS) : TS := fun D σ H => c σ H fun b H1 => if b = true then t D σ H1 else u D σ H1
theorem ps_if {c : Expr} {a b : List Stmt} {tc : TT} (hc : PT X c tc) (ha : PSs X a t) (hb : PSs X b u) : PS X (.If c a b pos) (tIfS tc t u) := by
  intro pins s σ H D I h
  refine wpAny_If (thn (hc pins s σ H _ I h) fun d s1 ⟨H1, I1, q1⟩ => ?_)
  cases d with
  | true => exact ha pins s1 σ H1 D I1 q1
  | false => exact hb pins s1 σ H1 D I1 q1
def tNever : TS := fun _ _ _ => False
end
abbrev TG := V → St → Hp → (St → Hp → Prop) → Prop
abbrev TGs := List V → St → Hp → (St → Hp → Prop) → Prop
def PG (X : Cx) (target : Expr) (t : TG) : Prop :=
  ∀ (pins : List (Addr × Obj)) (s : Shared) (σ : St) (H : Hp) (v : V) (u : Value) (Q : St → Hp → Prop), Inv X pins σ H s → RelV v u → t v σ H Q →
    wpAny (model X.prog X.w) X.A (assign target X.env u) (fun _ s' => ∃ σ' H', Inv X pins σ' H' s' ∧ Q σ' H') X.xe s
def PGs (X : Cx) (ts : List Expr) (t : TGs) : Prop :=
  ∀ (pins : List (Addr × Obj)) (s : Shared) (σ : St) (H : Hp) (vs : List V) (us : List Value) (Q : St → Hp → Prop), Inv X pins σ H s → Vals vs us → t vs σ H Q →
    wpAny (model X.prog X.w) X.A (assignInOrder ((assignEach ts X.env).map (·.2)) us) (fun _ s' => ∃ σ' H', Inv X pins σ' H' s' ∧ Q σ' H') X.xe s
abbrev TSet := V → V → V → Hp → (Hp → Prop) → Prop
def PSet (X : Cx) (t : TSet) : Prop :=
  ∀ (pins : List (Addr × Obj)) (s : Shared) (σ : St) (H : Hp) (o i v : V) (ov iv u : Value) (Q : Hp → Prop), Inv X pins σ H s → RelV o ov → RelV i iv → RelV v u → t o i v H Q →
    wpAny (model X.prog X.w) X.A (setItem ov iv u) (fun _ s' => ∃ H', Inv X pins σ H' s' ∧ Q H') X.xe s
abbrev TIp := V → V → Hp → VK → Prop
def PIp (X : Cx) (op : Operator) (t : TIp) : Prop :=
  ∀ (pins : List (Addr × Obj)) (s : Shared) (σ : St) (H : Hp) (x y : V) (v u : Value) (Q : VK), Inv X pins σ H s → RelV x v → RelV y u → t x y H Q →
    wpAny (model X.prog X.w) X.A (inplaceOp op v u) (EP X pins σ Q) X.xe s
section
variable {X : Cx} {pos : Pos}
def gName (i : Nat) : TG := fun v σ H Q => Q (σ.set i (some v)) H
theorem pg_name {i : Nat} {x : Str} (hN : X.N.Nodup) (hi : X.N[i]? = some x) (hx : Loc X.env.scope x) (hf : X.fn x = true ∨ X.env.scope.names.lookup x = some .local := by first | exact .inl rfl | exact .inr rfl | assumption) : PG X (.Name x pos) (gName i) := by
  intro pins s σ H v u Q I r h
  exact wpAny_assign_Name (store_ok I hN hi hx r (fun s' I' => ⟨_, H, I', h⟩) hf)
def gNil : TGs := fun vs σ H Q => vs = [] ∧ Q σ H
def gCons (t : TG) (u : TGs) : TGs := fun vs σ H Q => ∃ v r, vs = v :: r ∧ t v σ H fun σ' H' => u r σ' H' Q
theorem pgs_nil : PGs X [] gNil := by
  intro pins s σ H vs us Q I r h
  obtain ⟨e, h⟩ := h
  subst e
  cases r
  exact assignInOrder_nil ⟨σ, H, I, h⟩
theorem pgs_cons {e : Expr} {es : List Expr} {t : TG} {u : TGs} (h1 : PG X e t) (h2 : PGs X es u)
    (hs : (assignEach (e :: es) X.env).map (·.2) = assign e X.env :: (assignEach es X.env).map (·.2) := by rfl) : PGs X (e :: es) (gCons t u) := by
  intro pins s σ H vs us Q I r h
  obtain ⟨v, vr, e1, h⟩ := h
  subst e1
  cases r with
  | cons r rr =>
    rw [hs]
    refine assignInOrder_cons (thn (h1 pins s σ H _ _ _ I r h) fun _ s1 ⟨σ1, H1, I1, q1⟩ => ?_)
    exact h2 pins s1 σ1 H1 _ _ Q I1 rr q1
def gTup (K : PySem.W.Frag) (n : Nat) (t : TGs) : TG := fun v σ H Q => ∃ a xs, v = .ref a ∧ SqT K H a xs ∧ xs.length = n ∧ t xs σ H Q
theorem pg_tup {es : List Expr} {k : Nat} {t : TGs} {n : Nat} (hc : X.calm = true) (h : PGs X es t)
    (hn : (assignEach es X.env).length = n := by rfl) (hst : (assignEach es X.env).findIdx? (·.1) = none := by rfl) : PG X (.Tuple es k pos) (gTup X.K n t) := by
  intro pins s σ H v u Q I r hw
  obtain ⟨a, xs, e1, hq, hl, hw⟩ := hw
  subst e1
  cases r
  obtain ⟨its, rv, ht, hz⟩ := I.tuple hq
  refine assign_Tuple_tuple (I.ok.hd hc) ht (by simp [hn, ← hl, rv.length]) hst fun h' hx => ?_
  have I1 : Inv X pins σ H { s with heap := h' } := I.kept (t' := s.toks) fun b o e => hx b o (Nat.ne_of_lt (Heap.lt_size e)) e
  exact h pins _ σ H xs _ Q I1 (by simpa using rv) hw
def gSub (to ti : TE) (t : TSet) : TG := fun v σ H Q => to σ H fun o H1 => ti σ H1 fun i H2 => t o i v H2 fun H3 => Q σ H3
theorem pg_sub {o i : Expr} {to ti : TE} {t : TSet} (ho : PE X o to) (hi : PE X i ti) (hs : PSet X t)
    (ha : ∀ v, assign (.Subscript o i pos) X.env v = (do
      let ov ← holding [v] (eval o X.env)
      let iv ← holding [v, ov] (eval i X.env)
      standAt pos
      holding [v, ov, iv] (setItem ov iv v)
      release [v, ov, iv] []) := by intro _; rfl) : PG X (.Subscript o i pos) (gSub to ti t) := by
  intro pins s σ H v u Q I r h
  rw [ha]
  refine wpAny_bind (wpAny_holding (thn (ho pins s σ H _ I h) fun ov s1 ⟨x, H1, I1, r1, q1⟩ => ?_))
  refine wpAny_bind (wpAny_holding (thn (hi pins s1 σ H1 _ I1 q1) fun iv s2 ⟨y, H2, I2, r2, q2⟩ => ?_))
  refine wpAny_bind (wpAny_standAt (wpAny_bind (wpAny_holding (thn (hs pins s2 σ H2 x y v ov iv u _ I2 r1 r2 r q2) fun _ s3 ⟨H3, I3, q3⟩ => ?_))))
  exact wpAny_release ⟨σ, H3, I3, q3⟩
def tAsg (te : TE) (g : TG) : TS := fun D σ H => te σ H fun x H1 => g x σ H1 D.nx
theorem ps_asg {tg e : Expr} {te : TE} {g : TG} (he : PE X e te) (hg : PG X tg g) (hs : swapsWithSole [tg] e pos.line X.env = pure false := by rfl) (hw : swappedStores [tg] e X.env = pure none := by rfl)
    (h1 : (assignEach [tg] X.env).map (·.2) = [assign tg X.env] := by rfl) : PS X (.Assign [tg] e pos) (tAsg te g) := by
  intro pins s σ H D I h
  refine wpAny_Assign_stores (thn (he pins s σ H _ I h) fun v s1 ⟨x, H1, I1, r1, q1⟩ => ?_) hs hw
  rw [h1]
  exact thn (hg pins s1 σ H1 x v _ I1 r1 q1) fun _ s2 q => q
theorem ps_set {i : Nat} {x : Str} {e : Expr} {te : TE} {pos' : Pos} (hN : X.N.Nodup) (hi : X.N[i]? = some x) (hx : Loc X.env.scope x) (he : PE X e te) (hs : swapsWith e (some (.Name x pos')) pos.line X.env = pure false := by rfl) (hf : X.fn x = true ∨ X.env.scope.names.lookup x = some .local := by first | exact .inl rfl | exact .inr rfl | assumption) :
    PS X (.Assign [.Name x pos'] e pos) (tAsg te (gName i)) := by
  intro pins s σ H D I h
  refine wpAny_Assign_Name (thn (he pins s σ H _ I h) fun v s1 ⟨y, H1, I1, r1, q1⟩ => ?_) hs
  exact store_ok I1 hN hi hx r1 (fun s2 I2 => ⟨_, H1, I2, q1⟩) hf
def tPar (i j : Nat) (ta : TA) : TS := fun D σ H => ta σ H fun vs H1 => ∃ v w, vs = [v, w] ∧ D.nx ((σ.set i (some v)).set j (some w)) H1
theorem ps_par {i j : Nat} {x y : Str} {a b : Expr} {ta : TA} {px py pt : Pos} {kt k2 pt2} (hc : X.calm = true) (hN : X.N.Nodup) (hi : X.N[i]? = some x) (hj : X.N[j]? = some y) (hij : i ≠ j)
    (hx : X.env.scope.names.lookup x = some .local) (hy : X.env.scope.names.lookup y = some .local) (ha : PA X [a, b] ta)
    (hw : swappedStores [.Tuple [.Name x px, .Name y py] kt pt] (.Tuple [a, b] k2 pt2) X.env = pure (some [x, y]))
    (hs : swapsWithSole [.Tuple [.Name x px, .Name y py] kt pt] (.Tuple [a, b] k2 pt2) pos.line X.env = pure false := by rfl) :
    PS X (.Assign [.Tuple [.Name x px, .Name y py] kt pt] (.Tuple [a, b] k2 pt2) pos) (tPar i j ta) := by
  intro pins s σ H D I h
  rw [exec_Assign_arm]
  refine wpAny_bind (wpAny_standAt ?_)
  rw [hs]
  refine wpAny_bind (wpAny_pure ?_)
  rw [if_neg (by decide)]
  refine wpAny_bind (Tuple_ (thn (ha _ pins s σ H _ I h) fun us s1 ⟨vs, H1, I1, r1, q1⟩ => ?_))
  obtain ⟨v, w, e1, q1⟩ := q1
  subst e1
  obtain ⟨u1, u2, rfl, rv, rw'⟩ : ∃ u1 u2, us = [u1, u2] ∧ RelV v u1 ∧ RelV w u2 := by
    cases r1 with
    | cons p q =>
      cases q with
      | cons p' q' =>
        cases q'
        exact ⟨_, _, rfl, p, p'⟩
  refine wpAny_newObj_type ?_ (by show 2 ≤ sizeLine; decide)
  have I2 : Inv X pins σ H1 { s1 with heap := s1.heap.push { cls := .type "tuple", data := .seq [u1, u2].toArray } } := I1.kept (t' := s1.toks) fun b o e => Heap.get?_push_of_some _ e
  rw [hw]
  refine wpAny_bind (wpAny_pure ?_)
  show wpAny (model X.prog X.w) X.A (do rule "assign.swapped-stores"; let items ← unpackItems (.ref s1.heap.objs.size) 2 none; assignInOrder [fun v => bindName X.env y v, fun v => bindName X.env x v] items.reverse; pure Flow.next) _ _ _
  refine wpAny_bind (wpAny_rule (wpAny_bind (unpackItems_tuple (items := #[u1, u2]) (I.ok.hd hc) (IsTup.new s1.heap _) fun h' hx' => ?_)))
  have I3 := I2.kept (h' := h') (t' := s1.toks) fun b o e => hx' b o (Nat.ne_of_lt (Heap.lt_size e)) e
  show wpAny _ _ (assignInOrder [fun v => bindName X.env y v, fun v => bindName X.env x v] [u2, u1] >>= fun _ => pure Flow.next) _ _ _
  refine wpAny_bind (assignInOrder_cons (wpAny_bindName (store_ok I3 hN hj (.inl hy) rw' (fun s2 I4 => ?_) (.inr hy))))
  refine assignInOrder_cons (wpAny_bindName (store_ok I4 hN hi (.inl hx) rv (fun s3 I5 => assignInOrder_nil (wpAny_pure ?_)) (.inr hx)))
  rw [List.set_comm _ _ (Ne.symm hij)] at I5
  exact ⟨_, H1, I5, q1⟩
def tAug (i : Nat) (te : TE) (ti : TIp) : TS := fun D σ H => ∃ x, σ[i]? = some (some x) ∧ te σ H fun y H1 => ti x y H1 fun z H2 => D.nx (σ.set i (some z)) H2
def tAugS (to ti te : TE) (tget : V → V → Hp → VK → Prop) (tip : TIp) (tset : TSet) : TS := fun D σ H => to σ H fun o H1 => ti σ H1 fun i H2 => tget o i H2 fun x H3 => te σ H3 fun y H4 => tip x y H4 fun z H5 => tset o i z H5 fun H6 => D.nx σ H6
def PGet (X : Cx) (t : V → V → Hp → VK → Prop) : Prop :=
  ∀ (pins : List (Addr × Obj)) (s : Shared) (σ : St) (H : Hp) (o i : V) (ov iv : Value) (Q : VK), Inv X pins σ H s → RelV o ov → RelV i iv → t o i H Q →
    wpAny (model X.prog X.w) X.A (getItem ov iv) (EP X pins σ Q) X.xe s
def ipI (f : Int → Int → Int) : TIp := fun x y H Q => ∃ i j, x = .int i ∧ y = .int j ∧ Q (.int (f i j)) H
end
section
variable {X : Cx} {pos : Pos}
def tWhile (c : TT) (tb : TS) : TS := fun D σ H => ∃ W : Nat → St → Hp → Prop, (∃ m, W m σ H) ∧ ∀ m σ H, W m σ H →
  c σ H fun b H1 => if b = true then ∃ N : St → Hp → Prop, (∀ σ' H', N σ' H' → ∃ m', m' < m ∧ W m' σ' H') ∧ tb { D with nx := N, ct := N, bk := D.nx } σ H1 else D.nx σ H1
theorem ps_while {c : Expr} {body : List Stmt} {tc : TT} {tb : TS} (hp : PassesOwn (model X.prog X.w) X.A X.env X.xe) (hc : PT X c tc) (hb : PSs X body tb) : PS X (.While c body [] pos) (tWhile tc tb) := by
  intro pins s σ H D I h
  obtain ⟨W, ⟨m0, w0⟩, turn⟩ := h
  refine wpAny_While (codeAny_whileLoop (fun n s' => ∃ σ' H', Inv X pins σ' H' s' ∧ W n σ' H') ?_ m0 ⟨σ, H, I, w0⟩)
  rintro n s1 ⟨σ1, H1, I1, w1⟩
  refine wpAny_passesOwn hp (thn (hc pins s1 σ1 H1 _ I1 (turn n σ1 H1 w1)) fun b s2 ⟨H2, I2, q2⟩ => ?_)
  cases b with
  | true =>
    obtain ⟨N, hN, q2⟩ := q2
    rw [if_pos rfl]
    refine wpAny_passesOwn hp (thn (hb pins s2 σ1 H2 _ I2 q2) fun f s3 q3 => ?_)
    cases f with
    | next =>
      obtain ⟨σ3, H3, I3, n3⟩ := q3
      obtain ⟨m', hm, w3⟩ := hN σ3 H3 n3
      exact ⟨m', hm, σ3, H3, I3, w3⟩
    | cont =>
      obtain ⟨σ3, H3, I3, n3⟩ := q3
      obtain ⟨m', hm, w3⟩ := hN σ3 H3 n3
      exact ⟨m', hm, σ3, H3, I3, w3⟩
    | brk => exact q3
    | ret v => exact q3
  | false =>
    rw [if_neg Bool.false_ne_true]
    exact wpAny_execs_nil ⟨σ1, H2, I2, q2⟩
end
structure It where
  go : Nat → Hp → Prop
  yld : Nat → Hp → V → Hp → Prop
  stop : Nat → Hp → Prop
def FpOk (X : Cx) (pins : List (Addr × Obj)) (H : Hp) (b : Addr) : Prop :=
  H b = none ∧ b ≠ X.env.locals ∧ b ∉ X.fs ∧ (b ∈ X.ex ∨ X.s₀.heap.objs.size ≤ b) ∧ (∀ x c, X.env.cells.lookup x = some c → c ≠ b) ∧ ∀ p ∈ X.pn ++ pins, p.1 ≠ b
theorem Inv.fpOk {X : Cx} {pins : List (Addr × Obj)} {σ : St} {H H' : Hp} {s : Shared} {b : Addr} (I : Inv X pins σ H s) (hb : s.heap.objs.size ≤ b) (hn : H' b = none) : FpOk X pins H' b := by
  refine ⟨hn, Nat.ne_of_gt (Nat.lt_of_lt_of_le I.lt hb), I.nofs hb, .inr (Nat.le_trans I.sz hb), fun x c e z => ?_, fun p hp z => ?_⟩
  · obtain ⟨v, q⟩ := I.cell x c e
    exact absurd (Nat.lt_of_lt_of_le q.lt (by rw [z]; exact hb)) (Nat.lt_irrefl _)
  · exact absurd (Nat.lt_of_lt_of_le (Heap.lt_size (I.pin p hp).1) (by rw [z]; exact hb)) (Nat.lt_irrefl _)
structure Turn (P : Program) (w : World) (K : PySem.W.Frag) (tg : Expr) (J : It) (fp : List Addr) (it : Addr) (tn : Nat → Heap → Prop) : Prop where
  mem : it ∈ fp
  obj : ∀ i h, tn i h → ∀ b ∈ fp, ∃ o, h.get? b = some o ∧ ∀ v, o.data ≠ .cell v
  keep : ∀ i h h', tn i h → (∀ b ∈ fp, ∀ o, h.get? b = some o → h'.get? b = some o) → tn i h'
  item : ∀ (X : Cx), X.prog = P → X.w = w → X.K = K → X.calm = true → ∀ (i : Nat) (pins : List (Addr × Obj)) (s : Shared) (σ : St) (H : Hp) (E : Value → Shared → Prop), Inv X pins σ H s → (∀ b ∈ fp, FpOk X pins H b) → tn i s.heap → J.go i H →
    wpAny (model P w) X.A (pyNext (.ref it)) (fun r s1 => ∃ u, r = some u ∧
      wpAny (model P w) X.A (letOwnedTupleGo tg (.ref it) u) (fun _ s2 => ∃ x H', Inv X pins σ H' s2 ∧ RelV x u ∧ J.yld i H x H' ∧ tn (i + 1) s2.heap ∧ ∀ b ∈ fp, H' b = none) E s1) E s
  done : ∀ (X : Cx), X.prog = P → X.w = w → X.K = K → X.calm = true → ∀ (i : Nat) (pins : List (Addr × Obj)) (s : Shared) (σ : St) (H : Hp) (E : Value → Shared → Prop), Inv X pins σ H s → (∀ b ∈ fp, FpOk X pins H b) → tn i s.heap → J.stop i H →
    wpAny (model P w) X.A (pyNext (.ref it)) (fun r s1 => r = none ∧ Inv X pins σ H s1) E s
  self : ∀ (A : Around) (i : Nat) (s : Shared) (Q : Value → Shared → Prop) (E : Value → Shared → Prop), tn i s.heap → Q (.ref it) s → wpAny (model P w) A (pyIter (.ref it)) Q E s
abbrev TI := St → Hp → (It → Hp → Prop) → Prop
def PIE (X : Cx) (pins : List (Addr × Obj)) (σ : St) (tg : Expr) (R : It → Hp → Prop) (itv : Value) (s2 : Shared) : Prop :=
  ∃ (it : Addr) (fp : List Addr) (tn : Nat → Heap → Prop) (J : It) (H' : Hp), itv = .ref it ∧ Inv X pins σ H' s2 ∧ Turn X.prog X.w X.K tg J fp it tn ∧ tn 0 s2.heap ∧ (∀ b ∈ fp, FpOk X pins H' b) ∧ R J H'
def PI (X : Cx) (tg iter : Expr) (wi : TI) : Prop :=
  ∀ (pins : List (Addr × Obj)) (s : Shared) (σ : St) (H : Hp) (R : It → Hp → Prop), Inv X pins σ H s → wi σ H R →
    wpAny (model X.prog X.w) X.A (eval iter X.env) (fun v s1 => wpAny (model X.prog X.w) X.A (pyIter v) (PIE X pins σ tg R) X.xe s1) X.xe s
theorem go_of {M : Model} {A : Around} {E : Value → Shared → Prop} {s : Shared} {tg : Expr} {it : Addr} {u : Value} {o : Obj} {n : String} {vs : Array Value} {Q : Unit → Shared → Prop} (ho : s.heap.get? it = some o) (hc : o.cls = .type n) (hd : o.data = .fields vs)
    (hn : ["enumerate", "zip", "dict_itemiterator", "dict_reverseitemiterator", "odict_iterator", "itertools.zip_longest", "itertools.pairwise"].contains n = false) (hQ : Q () s) : wpAny M A (letOwnedTupleGo tg (.ref it) u) Q E s := by
  unfold letOwnedTupleGo
  cases tg <;> first
    | exact wpAny_pure hQ
    | (cases u <;> first
        | exact wpAny_pure hQ
        | (refine wpAny_bind (wpAny_load ho ?_)
           rw [hc, hd]
           show wpAny M A (if (["enumerate", "zip", "dict_itemiterator", "dict_reverseitemiterator", "odict_iterator", "itertools.zip_longest", "itertools.pairwise"].contains n && vs[0]? == some (rawInt _)) = true then _ else _) Q E s
           rw [if_neg (by intro h; rw [hn, Bool.false_and] at h; cases h)]
           exact wpAny_pure hQ))
def Itl (K : PySem.W.Frag) (a : Addr) : It :=
  ⟨fun i H => ∃ xs x, SqL K H a xs ∧ xs[i]? = some x, fun i H x H' => H' = H ∧ ∀ xs, SqL K H a xs → xs[i]? = some x, fun i H => ∃ xs, SqL K H a xs ∧ xs.length ≤ i⟩
def Itt (K : PySem.W.Frag) (a : Addr) : It :=
  ⟨fun i H => ∃ xs x, SqT K H a xs ∧ xs[i]? = some x, fun i H x H' => H' = H ∧ ∀ xs, SqT K H a xs → xs[i]? = some x, fun i H => ∃ xs, SqT K H a xs ∧ xs.length ≤ i⟩
def Itr (lo : Int) (n : Nat) : It := ⟨fun i _ => i < n, fun i H x H' => H' = H ∧ x = .int (lo + i), fun i _ => n ≤ i⟩
theorem turn_tuple {P : Program} {w : World} {K : PySem.W.Frag} {tg : Expr} (a it : Addr) : Turn P w K tg (Itt K a) [it] it (fun i h => h.IsTupleIter it a i) where
  mem := by simp
  obj := fun i h st b hb => by
    have e : b = it := by simpa using hb
    subst e
    obtain ⟨o, e, c, d⟩ := st
    exact ⟨o, e, fun v z => by rw [d] at z; cases z⟩
  keep := fun i h h' st k => st.at fun o e => k it (by simp) o e
  item := by
    intro X hP hw hK hc i pins s σ H E I hf st hg
    subst hP hw hK
    obtain ⟨xs, x, hq, hx⟩ := hg
    obtain ⟨its, rv, p, hz⟩ := I.tuple hq
    obtain ⟨u, hu, ru⟩ := rv.get hx
    obtain ⟨f0, f1, f2, f3, f4, f5⟩ := hf it (by simp)
    refine wpAny_pyNext_tuple_item st (show s.heap.IsTuple a its.toArray from p) (x := u) (by simpa using hu) fun h' st' sb => ?_
    have I1 : Inv X pins σ H { s with heap := h' } := I.turned (t' := s.toks) (fun b o hb e => (sb.2 b hb).trans e) f0 f1 f3 f4 f5
    obtain ⟨o, e, c, d⟩ := id st'
    exact ⟨u, rfl, go_of (s := { s with heap := h' }) e c d (by decide) ⟨x, H, I1, ru, ⟨rfl, fun ys hy => by rw [I.tuple_inj hy hq]; exact hx⟩, st', fun b hb => (hf b hb).1⟩⟩
  done := by
    intro X hP hw hK hc i pins s σ H E I hf st hg
    subst hP hw hK
    obtain ⟨xs, hq, hx⟩ := hg
    obtain ⟨its, rv, p, hz⟩ := I.tuple hq
    obtain ⟨f0, f1, f2, f3, f4, f5⟩ := hf it (by simp)
    have hl := rv.length
    exact wpAny_pyNext_tuple_end (I.ok.hd hc) st (show s.heap.IsTuple a its.toArray from p) (by simp; omega) fun h' eb => ⟨rfl, I.turned (t' := s.toks) (fun b o hb e => eb b o hb e) f0 f1 f3 f4 f5⟩
  self := fun _ _ _ _ _ st h => wpAny_pyIter_tupleiter st h
theorem turn_range {P : Program} {w : World} {K : PySem.W.Frag} {tg : Expr} (it : Addr) (lo : Int) (n : Nat) : Turn P w K tg (Itr lo n) [it] it (fun i h => IsRangeIter h it (lo + (i : Nat) * 1) ((n : Int) - (i : Nat)) 1) where
  mem := by simp
  obj := fun i h st b hb => by
    have e : b = it := by simpa using hb
    subst e
    exact ⟨_, st, fun v z => by
      have z' : Data.fields _ = Data.cell v := z
      cases z'⟩
  keep := fun i h h' st k => k it (by simp) _ st
  item := by
    intro X hP hw hK hc i pins s σ H E I hf st hg
    subst hP hw hK
    obtain ⟨f0, f1, f2, f3, f4, f5⟩ := hf it (by simp)
    have W := Walks.range (prog := X.prog) (w := X.w) (I.ok.hd hc) it lo 1 n
    refine W.item i s _ _ hg st fun v h' tk hv st' kk => ?_
    obtain ⟨t, rfl⟩ := hv
    have I1 : Inv X pins σ H { s with heap := h', toks := tk } := I.turned (fun b o hb e => kk b o (by simpa using hb) e) f0 f1 f3 f4 f5
    refine ⟨_, rfl, go_of (s := { s with heap := h', toks := tk }) (n := "range_iterator") st' rfl rfl (by decide) ⟨.int (lo + i), H, I1, ⟨t, ?_⟩, ⟨rfl, rfl⟩, st', fun b hb => (hf b hb).1⟩⟩
    rw [Int.mul_one]
  done := by
    intro X hP hw hK hc i pins s σ H E I hf st hg
    subst hP hw hK
    obtain ⟨f0, f1, f2, f3, f4, f5⟩ := hf it (by simp)
    exact wpAny_pyNext_range_end (I.ok.hd hc) st (by have : n ≤ i := hg; omega) fun h' eb => ⟨rfl, I.turned (t' := s.toks) (fun b o hb e => eb b o hb e) f0 f1 f3 f4 f5⟩
  self := fun _ _ _ _ _ st h => wpAny_pyIter_rangeiter st h
end L2
namespace L2
open PySem PySem.Spec PyProof.Rows
section
variable {X : Cx} {tg : Expr}
def iList (K : PySem.W.Frag) (tl : TE) : TI := fun σ H R => tl σ H fun x H1 => ∃ a, x = .ref a ∧ (∃ xs, SqL K H1 a xs) ∧ R (Itl K a) H1
def iTup (K : PySem.W.Frag) (tl : TE) : TI := fun σ H R => tl σ H fun x H1 => ∃ a, x = .ref a ∧ (∃ xs, SqT K H1 a xs) ∧ R (Itt K a) H1
theorem pi_tup {l : Expr} {tl : TE} (hl : PE X l tl) : PI X tg l (iTup X.K tl) := by
  intro pins s σ H R I h
  refine thn (hl pins s σ H _ I h) fun v s1 ⟨x, H1, I1, r1, q1⟩ => ?_
  obtain ⟨a, e, ⟨xs, hq⟩, q⟩ := q1
  subst e
  cases r1
  obtain ⟨its, rv, p, hz⟩ := I1.tuple hq
  refine wpAny_pyIter_tuple (show s1.heap.IsTuple a its.toArray from p) ?_
  refine ⟨s1.heap.objs.size, [s1.heap.objs.size], _, _, H1, rfl, I1.kept (t' := s1.toks) fun b o e => Heap.get?_push_of_some _ e, turn_tuple a _, ⟨_, Heap.get?_push_size _ rfl, rfl, rfl⟩, fun b hb => ?_, q⟩
  have e : b = s1.heap.objs.size := by simpa using hb
  subst e
  exact I1.fpOk (Nat.le_refl _) (I1.hok.fresh (Nat.le_refl _))
theorem range_it {pins : List (Addr × Obj)} {σ : St} {H : Hp} {s : Shared} {R : It → Hp → Prop} {E : Value → Shared → Prop} {lo hi : Int} {t u v : Tok} {tk : Nat} (I : Inv X pins σ H s) (h1 : -(2 ^ 62) ≤ lo) (h2 : lo < 2 ^ 62) (h3 : -(2 ^ 62) ≤ hi) (h4 : hi < 2 ^ 62)
    (q : R (Itr lo (hi - lo).toNat) H) : wpAny (model X.prog X.w) X.A (pyIter (.ref s.heap.objs.size)) (PIE X pins σ tg R) E { s with heap := s.heap.push { cls := .type "range", data := .fields #[.int lo t, .int hi u, .int 1 v] }, toks := tk } := by
  refine wpAny_pyIter_range (IsRange.new ..) (small_one h1 h2 h3 h4) ?_
  have I1 : Inv X pins σ H { s with heap := s.heap.push { cls := .type "range", data := .fields #[.int lo t, .int hi u, .int 1 v] }, toks := tk } := I.kept fun b o e => Heap.get?_push_of_some _ e
  refine ⟨(s.heap.push { cls := .type "range", data := .fields #[.int lo t, .int hi u, .int 1 v] }).objs.size, [(s.heap.push { cls := .type "range", data := .fields #[.int lo t, .int hi u, .int 1 v] }).objs.size], _, _, H, rfl,
    I1.kept (t' := tk) fun b o e => Heap.get?_push_of_some _ e, turn_range _ lo (hi - lo).toNat, ?_, fun b hb => ?_, q⟩
  · have e1 : lo + ((0 : Nat) : Int) * 1 = lo := by simp
    have e2 : (((hi - lo).toNat : Nat) : Int) - ((0 : Nat) : Int) = Builtin.Range.rangeSize lo hi 1 := by rw [rangeSize_one]; split <;> omega
    show IsRangeIter _ _ (lo + ((0 : Nat) : Int) * 1) ((((hi - lo).toNat : Nat) : Int) - ((0 : Nat) : Int)) 1
    rw [e1, e2]
    exact Heap.get?_push_size _ rfl
  · have e : b = (s.heap.push { cls := .type "range", data := .fields #[.int lo t, .int hi u, .int 1 v] }).objs.size := by simpa using hb
    subst e
    exact I1.fpOk (Nat.le_refl _) (I1.hok.fresh (Nat.le_refl _))
def iRng1 (ta : TA) : TI := fun σ H R => ta σ H fun vs H1 => ∃ j : Int, vs = [.int j] ∧ -(2 ^ 62) ≤ j ∧ j < 2 ^ 62 ∧ R (Itr 0 j.toNat) H1
def iRng2 (ta : TA) : TI := fun σ H R => ta σ H fun vs H1 => ∃ i j : Int, vs = [.int i, .int j] ∧ (-(2 ^ 62) ≤ i ∧ i < 2 ^ 62 ∧ -(2 ^ 62) ≤ j ∧ j < 2 ^ 62) ∧ R (Itr i (j - i).toNat) H1
theorem pi_range1 {a : Expr} {ta : TA} {p pos : Pos} (hg : Gl X "range") (hm : X.mg "range" = none) (ha : PA X [a] ta) (hs : starEach [a] X.env = [(false, eval a X.env)] := by rfl) : PI X tg (.Call (.Name "range" p) [a] [] pos) (iRng1 ta) := by
  intro pins s σ H R I h
  refine Call_ (ld_blt I hg hm boot_range (PyProof.Rows.callWith_type1 (thn (ha pos pins s σ H _ I h) fun us s1 ⟨vs, H1, I1, r1, q1⟩ => ?_) hs rfl))
  obtain ⟨j, e, q1, q2, q⟩ := q1
  subst e
  cases r1 with
  | cons r rr =>
    cases rr
    obtain ⟨t, rfl⟩ := r
    exact call_range_1 (range_it I1 (by omega) (by omega) q1 q2 (by simpa using q))
def tFor (wi : TI) (g : TG) (tb : TS) : TS := fun D σ H => wi σ H fun J H1 => ∃ W : Nat → Nat → St → Hp → Prop, (∃ m, W 0 m σ H1) ∧ ∀ i m σ H, W i m σ H →
  (J.stop i H ∧ D.nx σ H) ∨ (J.go i H ∧ ∃ N : St → Hp → Prop, (∀ σ' H', N σ' H' → ∃ m', m' < m ∧ W (i + 1) m' σ' H') ∧ ∀ x H', J.yld i H x H' → g x σ H' fun σ2 H2 => tb { D with nx := N, ct := N, bk := D.nx } σ2 H2)
def pinsAt (fp : List Addr) (h : Heap) : List (Addr × Obj) := fp.filterMap fun b => (h.get? b).map fun o => (b, o)
theorem mem_pinsAt {fp : List Addr} {h : Heap} {b : Addr} {o : Obj} (hb : b ∈ fp) (e : h.get? b = some o) : (b, o) ∈ pinsAt fp h := List.mem_filterMap.mpr ⟨b, hb, by rw [e]; rfl⟩
theorem of_pinsAt {fp : List Addr} {h : Heap} {p : Addr × Obj} (hp : p ∈ pinsAt fp h) : p.1 ∈ fp ∧ h.get? p.1 = some p.2 := by
  obtain ⟨b, hb, e⟩ := List.mem_filterMap.mp hp
  cases q : h.get? b with
  | none => rw [q] at e; cases e
  | some o =>
    rw [q] at e
    have e' : (b, o) = p := Option.some.inj e
    subst e'
    exact ⟨hb, q⟩
theorem Inv.pinned {pins : List (Addr × Obj)} {σ : St} {H : Hp} {s : Shared} {fp : List Addr} (I : Inv X pins σ H s) (hf : ∀ b ∈ fp, FpOk X pins H b) (ho : ∀ b ∈ fp, ∃ o, s.heap.get? b = some o ∧ ∀ v, o.data ≠ .cell v) : Inv X (pins ++ pinsAt fp s.heap) σ H s :=
  I.pins_of fun p hp => (List.mem_append.mp hp).elim (fun z => I.pin p (List.mem_append_right _ z)) fun z => by
    obtain ⟨hb, e⟩ := of_pinsAt z
    obtain ⟨f0, f1, f2, _⟩ := hf p.1 hb
    obtain ⟨o, e', d⟩ := ho p.1 hb
    rw [e] at e'; cases e'
    exact ⟨e, f0, f1, f2, d⟩
theorem Inv.unpinned {pins pl : List (Addr × Obj)} {σ : St} {H : Hp} {s : Shared} (I : Inv X (pins ++ pl) σ H s) : Inv X pins σ H s := I.pins_of fun p hp => I.pin p (List.mem_append_right _ (List.mem_append_left _ hp))
theorem ps_for {iter : Expr} {body : List Stmt} {wi : TI} {g : TG} {tb : TS} {pos : Pos} (hp : PassesOwn (model X.prog X.w) X.A X.env X.xe) (hc : X.calm = true) (hi : PI X tg iter wi) (hg : PG X tg g) (hb : PSs X body tb)
    (hs : ∀ x, foldedSetIterable iter X.env x = pure x := by intro _; rfl) : PS X (.For tg iter body [] pos) (tFor wi g tb) := by
  intro pins s σ H D I h
  refine wpAny_For (thn (hi pins s σ H _ I h) fun v s1 h1 => thn h1 fun itv s2 h2 => ?_) hs
  obtain ⟨it, fp, tn, J, H2, e, I2, T, st2, f2, W, ⟨m0, w0⟩, turn⟩ := h2
  subst e
  -- what stays true of the iterator's objects through the loop
  have stat : ∀ {H' : Hp}, (∀ b ∈ fp, H' b = none) → ∀ b ∈ fp, FpOk X pins H' b := fun hn b hb => ⟨hn b hb, (f2 b hb).2⟩
  refine codeAny_forLoop_any (fun n s' => ∃ i σ' H', Inv X pins σ' H' s' ∧ tn i s'.heap ∧ (∀ b ∈ fp, H' b = none) ∧ W i n σ' H') ?_ m0 ⟨0, σ, H2, I2, st2, fun b hb => (f2 b hb).1, w0⟩
  rintro n s3 ⟨i, σ3, H3, I3, st3, fr3, w3⟩
  rcases turn i n σ3 H3 w3 with ⟨stop, qn⟩ | ⟨go, N, hN, step⟩
  · refine wpAny_passesOwn hp (thn (T.done X rfl rfl rfl hc i pins s3 σ3 H3 X.xe I3 (stat fr3) st3 stop) fun r s4 ⟨hr, I4⟩ => ?_)
    subst hr
    exact wpAny_execs_nil ⟨σ3, H3, I4, qn⟩
  · refine wpAny_passesOwn hp (thn (T.item X rfl rfl rfl hc i pins s3 σ3 H3 X.xe I3 (stat fr3) st3 go) fun r s4 ⟨u, hr, h4⟩ => ?_)
    subst hr
    refine wpAny_passesOwn hp (thn h4 fun _ s5 ⟨x, H5, I5, r5, y5, st5, fr5⟩ => ?_)
    have I5' := I5.pinned (stat fr5) (T.obj _ _ st5)
    refine wpAny_passesOwn hp (thn (hg _ s5 σ3 H5 x u _ I5' r5 (step x H5 y5)) fun _ s6 ⟨σ6, H6, I6, q6⟩ => ?_)
    refine wpAny_passesOwn hp (thn (hb _ s6 σ6 H6 _ I6 q6) fun f s7 q7 => ?_)
    have again : ∀ {σ7 : St} {H7 : Hp}, Inv X (pins ++ pinsAt fp s5.heap) σ7 H7 s7 → N σ7 H7 → ∃ m, m < n ∧ ∃ i σ' H', Inv X pins σ' H' s7 ∧ tn i s7.heap ∧ (∀ b ∈ fp, H' b = none) ∧ W i m σ' H' := fun {σ7 H7} I7 n7 => by
      obtain ⟨m', hm, w7⟩ := hN σ7 H7 n7
      refine ⟨m', hm, i + 1, σ7, H7, I7.unpinned, T.keep _ _ _ st5 fun b hb o e => (I7.pin (b, o) (List.mem_append_right _ (List.mem_append_right _ (mem_pinsAt hb e)))).1, fun b hb => ?_, w7⟩
      obtain ⟨o, e, d⟩ := T.obj _ _ st5 b hb
      exact (I7.pin (b, o) (List.mem_append_right _ (List.mem_append_right _ (mem_pinsAt hb e)))).2.1
    cases f with
    | next => obtain ⟨σ7, H7, I7, n7⟩ := q7; exact again I7 n7
    | cont => obtain ⟨σ7, H7, I7, n7⟩ := q7; exact again I7 n7
    | brk => obtain ⟨σ7, H7, I7, q7⟩ := q7; exact ⟨σ7, H7, I7.unpinned, q7⟩
    | ret v => obtain ⟨x7, σ7, H7, I7, r7, q7⟩ := q7; exact ⟨x7, σ7, H7, I7.unpinned, r7, q7⟩
end
end L2
namespace L2
open PySem PySem.Spec PyProof.Rows
abbrev R2 := V → V → Hp → VK → Prop
def OpR (X : Cx) (f : Value → Value → Sem Value) (r : R2) : Prop :=
  ∀ (pins : List (Addr × Obj)) (s : Shared) (σ : St) (H : Hp) (x y : V) (v u : Value) (Q : VK), Inv X pins σ H s → RelV x v → RelV y u → r x y H Q →
    wpAny (model X.prog X.w) X.A (f v u) (EP X pins σ Q) X.xe s
def UnR (X : Cx) (f : Value → Sem Value) (r : V → Hp → VK → Prop) : Prop :=
  ∀ (pins : List (Addr × Obj)) (s : Shared) (σ : St) (H : Hp) (x : V) (v : Value) (Q : VK), Inv X pins σ H s → RelV x v → r x H Q →
    wpAny (model X.prog X.w) X.A (f v) (EP X pins σ Q) X.xe s
def CallR (X : Cx) (f : Value) (r : List V → Hp → VK → Prop) : Prop :=
  ∀ (pins : List (Addr × Obj)) (s : Shared) (σ : St) (H : Hp) (xs : List V) (us : List Value) (Q : VK), Inv X pins σ H s → Vals xs us → r xs H Q →
    wpAny (model X.prog X.w) X.A (call f us) (EP X pins σ Q) X.xe s
def TruR (X : Cx) (r : V → Hp → (Bool → Hp → Prop) → Prop) : Prop :=
  ∀ (pins : List (Addr × Obj)) (s : Shared) (σ : St) (H : Hp) (x : V) (v : Value) (Q : Bool → Hp → Prop), Inv X pins σ H s → RelV x v → r x H Q →
    wpAny (model X.prog X.w) X.A (truthy v) (TP X pins σ Q) X.xe s
def tOp (r : R2) (ta tb : TE) : TE := fun σ H Q => ta σ H fun x H1 => tb σ H1 fun y H2 => r x y H2 Q
def tUn (r : V → Hp → VK → Prop) (ta : TE) : TE := fun σ H Q => ta σ H fun x H1 => r x H1 Q
def rI (C : Int → Int → Prop) (g : Int → Int → V) : R2 := fun x y H Q => ∃ i j, x = .int i ∧ y = .int j ∧ C i j ∧ Q (g i j) H
def rI0 (g : Int → Int → V) : R2 := fun x y H Q => ∃ i j, x = .int i ∧ y = .int j ∧ Q (g i j) H
def rU (g : Int → V) : V → Hp → VK → Prop := fun x H Q => ∃ i, x = .int i ∧ Q (g i) H
section
variable {X : Cx} {a b c : Expr} {ta tb tc : TE} {pos : Pos}
theorem binT (ha : PE X a ta) (hb : PE X b tb) {pins : List (Addr × Obj)} {s : Shared} {σ : St} {H : Hp} {R : V → V → Hp → Prop} (I : Inv X pins σ H s)
    (h : ta σ H fun x H1 => tb σ H1 fun y H2 => R x y H2) {Q : Value → Shared → Prop} {f : Value → Value → Sem Value}
    (hf : ∀ v u s2 x y H2, Inv X pins σ H2 s2 → RelV x v → RelV y u → R x y H2 → wpAny (model X.prog X.w) X.A (f v u) Q X.xe s2) :
    wpAny (model X.prog X.w) X.A (eval a X.env) (fun v s₁ => wpAny (model X.prog X.w) X.A (eval b X.env) (fun u s₂ => wpAny (model X.prog X.w) X.A (f v u) Q X.xe s₂) X.xe s₁) X.xe s := by
  refine thn (ha pins s σ H _ I h) fun v s1 ⟨x, H1, I1, r1, q1⟩ => ?_
  refine thn (hb pins s1 σ H1 _ I1 q1) fun u s2 ⟨y, H2, I2, r2, q2⟩ => ?_
  exact hf v u s2 x y H2 I2 r1 r2 q2
theorem pe_op {op : Operator} {r : R2} (ho : OpR X (binaryOp op) r) (ha : PE X a ta) (hb : PE X b tb) : PE X (.BinOp a op b pos) (tOp r ta tb) := by
  intro pins s σ H Q I h
  exact wpAny_BinOp (binT ha hb I h fun v u s2 x y H2 I2 rx ry q => ho pins s2 σ H2 x y v u Q I2 rx ry q)
theorem pe_un {op : UnaryOp} {r : V → Hp → VK → Prop} (ho : UnR X (unaryOp op) r) (ha : PE X a ta) : PE X (.UnaryOp op a pos) (tUn r ta) := by
  intro pins s σ H Q I h
  exact UnaryOp_ (thn (ha pins s σ H _ I h) fun v s1 ⟨x, H1, I1, r1, q1⟩ => ho pins s1 σ H1 x v Q I1 r1 q1)
theorem opI {f : Value → Value → Sem Value} {C : Int → Int → Prop} {g : Int → Int → Int}
    (rule : ∀ (i j : Int) (t u : Tok) (s : Shared) (Q : Value → Shared → Prop) (E : Value → Shared → Prop), C i j → Q (.int (g i j) s.toks) { s with toks := s.toks + 1 } → wpAny (model X.prog X.w) X.A (f (.int i t) (.int j u)) Q E s) :
    OpR X f (rI C fun i j => .int (g i j)) := by
  intro pins s σ H x y v u Q I rx ry h
  obtain ⟨i, j, rfl, rfl, hc, q⟩ := h
  obtain ⟨t, rfl⟩ := rx
  obtain ⟨t', rfl⟩ := ry
  exact rule i j t t' s _ _ hc ⟨.int (g i j), H, I.tok _, ⟨_, rfl⟩, q⟩
theorem opI0 {f : Value → Value → Sem Value} {g : Int → Int → Int}
    (rule : ∀ (i j : Int) (t u : Tok) (s : Shared) (Q : Value → Shared → Prop) (E : Value → Shared → Prop), Q (.int (g i j) s.toks) { s with toks := s.toks + 1 } → wpAny (model X.prog X.w) X.A (f (.int i t) (.int j u)) Q E s) :
    OpR X f (rI0 fun i j => .int (g i j)) := by
  intro pins s σ H x y v u Q I rx ry h
  obtain ⟨i, j, rfl, rfl, q⟩ := h
  obtain ⟨t, rfl⟩ := rx
  obtain ⟨t', rfl⟩ := ry
  exact rule i j t t' s _ _ ⟨.int (g i j), H, I.tok _, ⟨_, rfl⟩, q⟩
theorem opB0 {f : Value → Value → Sem Value} {g : Int → Int → Bool}
    (rule : ∀ (i j : Int) (t u : Tok) (s : Shared) (Q : Value → Shared → Prop) (E : Value → Shared → Prop), Q (.bool (g i j)) s → wpAny (model X.prog X.w) X.A (f (.int i t) (.int j u)) Q E s) :
    OpR X f (rI0 fun i j => .bl (g i j)) := by
  intro pins s σ H x y v u Q I rx ry h
  obtain ⟨i, j, rfl, rfl, q⟩ := h
  obtain ⟨t, rfl⟩ := rx
  obtain ⟨t', rfl⟩ := ry
  exact rule i j t t' s _ _ ⟨.bl (g i j), H, I, rfl, q⟩
def CDiv (i j : Int) : Prop := 0 < j ∧ j < 1073741824
def CDivN (i j : Int) : Prop := j ≠ 0 ∧ j.natAbs < 1073741824
def CPow (i j : Int) : Prop := 0 ≤ j ∧ j ≤ 1000000 ∧ i.natAbs < 2 ^ 64
def CMul (i j : Int) : Prop := (-(2 ^ 64) < i ∧ i < 2 ^ 64) ∨ (-(2 ^ 64) < j ∧ j < 2 ^ 64)
theorem CMul.ok {i j : Int} (h : CMul i j) : IntMulOk i j := by
  rcases h with ⟨h1, h2⟩ | ⟨h1, h2⟩
  · exact .of_left (intBits_le_64 h1 h2)
  · exact .of_right (intBits_le_64 h1 h2)
theorem op_add : OpR X (binaryOp .Add) (rI0 fun i j => .int (i + j)) := opI0 fun _ _ _ _ _ _ _ q => add_int q
theorem op_sub : OpR X (binaryOp .Sub) (rI0 fun i j => .int (i - j)) := opI0 fun _ _ _ _ _ _ _ q => sub_int q
theorem op_modN : OpR X (binaryOp .Mod) (rI (fun _ j => j ≠ 0) fun i j => .int (i.fmod j)) := opI fun _ _ _ _ _ _ _ hc q => mod_int' hc q
theorem op_pow : OpR X (binaryOp .Pow) (rI CPow fun i j => .int (i ^ j.toNat)) := opI fun _ _ _ _ _ _ _ hc q => pow_int_small hc.1 hc.2.1 hc.2.2 q
theorem unI {f : Value → Sem Value} {g : Int → Int}
    (rule : ∀ (i : Int) (t : Tok) (s : Shared) (Q : Value → Shared → Prop) (E : Value → Shared → Prop), Q (.int (g i) s.toks) { s with toks := s.toks + 1 } → wpAny (model X.prog X.w) X.A (f (.int i t)) Q E s) :
    UnR X f (rU fun i => .int (g i)) := by
  intro pins s σ H x v Q I rx h
  obtain ⟨i, rfl, q⟩ := h
  obtain ⟨t, rfl⟩ := rx
  exact rule i t s _ _ ⟨.int (g i), H, I.tok _, ⟨_, rfl⟩, q⟩
theorem un_neg : UnR X (unaryOp .USub) (rU fun i => .int (-i)) := unI fun _ _ _ _ _ q => neg_int q
end
def scal : V → V → Bool
  | .non, .non => true | .non, .int _ => true | .int _, .non => true | .non, .bl _ => true | .bl _, .non => true | .non, .str _ => true | .str _, .non => true
  | .int _, .int _ => true | .bl _, .bl _ => true | .str _, .str _ => true | .byt _, .byt _ => true
  | .int _, .str _ => true | .str _, .int _ => true | .bl _, .str _ => true | .str _, .bl _ => true
  | _, _ => false
def rEq : R2 := fun x y H Q => scal x y = true ∧ Q (.bl (decide (x = y))) H
def rNe : R2 := fun x y H Q => scal x y = true ∧ Q (.bl (!decide (x = y))) H
theorem dec_int {i j : Int} : decide (V.int i = V.int j) = (i == j) := by
  rw [Bool.eq_iff_iff]
  simp
theorem dec_bl {i j : Bool} : decide (V.bl i = V.bl j) = (i == j) := by
  rw [Bool.eq_iff_iff]
  simp
theorem dec_str {i j : Str} : decide (V.str i = V.str j) = (i == j) := by
  rw [Bool.eq_iff_iff]
  simp
theorem dec_byt {i j : Array UInt8} : decide (V.byt i = V.byt j) = (i.toList == j.toList) := by
  rw [Bool.eq_iff_iff]
  cases i
  cases j
  simp
section
variable {X : Cx} {a b c : Expr} {ta tb tc : TE} {pos : Pos}
theorem fin_bl {pins : List (Addr × Obj)} {σ : St} {H : Hp} {s : Shared} {Q : VK} {k k' : Bool} (I : Inv X pins σ H s) (q : Q (.bl k) H) (e : k = k') : EP X pins σ Q (.bool k') s := by
  subst e
  exact ⟨.bl k, H, I, rfl, q⟩
theorem op_eq : OpR X (compareOp .Eq) rEq := by
  intro pins s σ H x y v u Q I rx ry h
  obtain ⟨hs, q⟩ := h
  cases x with
  | non =>
    cases rx
    cases y with
    | non => cases ry; exact PySem.EqNone.eq_none_none (fin_bl I q (by simp))
    | bl j => cases ry; exact PySem.EqNone.eq_none_bool (fin_bl I q (by simp))
    | int j => obtain ⟨t', rfl⟩ := ry; exact PySem.EqNone.eq_none_int (fin_bl I q (by simp))
    | str j => obtain ⟨t', rfl⟩ := ry; exact PySem.EqNone.eq_none_str (fin_bl I q (by simp))
    | _ => exact absurd (show false = true from hs) Bool.false_ne_true
  | bl i =>
    cases rx
    cases y with
    | non => cases ry; exact PySem.EqNone.eq_bool_none (fin_bl I q (by simp))
    | bl j => cases ry; exact eq_bool (fin_bl I q dec_bl)
    | str j => obtain ⟨t', rfl⟩ := ry; exact PySem.EqMixed.eq_bool_str (fin_bl I q (by simp))
    | _ => exact absurd (show false = true from hs) Bool.false_ne_true
  | int i =>
    obtain ⟨t, rfl⟩ := rx
    cases y with
    | non => cases ry; exact PySem.EqNone.eq_int_none (fin_bl I q (by simp))
    | int j => obtain ⟨t', rfl⟩ := ry; exact eq_int (fin_bl I q dec_int)
    | str j => obtain ⟨t', rfl⟩ := ry; exact PySem.EqMixed.eq_int_str (fin_bl I q (by simp))
    | _ => exact absurd (show false = true from hs) Bool.false_ne_true
  | str i =>
    obtain ⟨t, rfl⟩ := rx
    cases y with
    | non => cases ry; exact PySem.EqNone.eq_str_none (fin_bl I q (by simp))
    | bl j => cases ry; exact PySem.EqMixed.eq_str_bool (fin_bl I q (by simp))
    | int j => obtain ⟨t', rfl⟩ := ry; exact PySem.EqMixed.eq_str_int (fin_bl I q (by simp))
    | str j => obtain ⟨t', rfl⟩ := ry; exact eq_str (fin_bl I q dec_str)
    | _ => exact absurd (show false = true from hs) Bool.false_ne_true
  | byt i =>
    obtain ⟨t, rfl⟩ := rx
    cases y with
    | byt j => obtain ⟨t', rfl⟩ := ry; exact PySem.W.eq_bytes (fin_bl I q dec_byt)
    | _ => exact absurd (show false = true from hs) Bool.false_ne_true
  | _ => cases y <;> exact absurd (show false = true from hs) Bool.false_ne_true
theorem op_ne : OpR X (compareOp .NotEq) rNe := by
  intro pins s σ H x y v u Q I rx ry h
  obtain ⟨hs, q⟩ := h
  cases x with
  | non =>
    cases rx
    cases y with
    | non => cases ry; exact PySem.EqNone.ne_none_none (fin_bl I q (by simp))
    | bl j => cases ry; exact PySem.EqNone.ne_none_bool (fin_bl I q (by simp))
    | int j => obtain ⟨t', rfl⟩ := ry; exact PySem.EqNone.ne_none_int (fin_bl I q (by simp))
    | str j => obtain ⟨t', rfl⟩ := ry; exact PySem.EqNone.ne_none_str (fin_bl I q (by simp))
    | _ => exact absurd (show false = true from hs) Bool.false_ne_true
  | bl i =>
    cases rx
    cases y with
    | non => cases ry; exact PySem.EqNone.ne_bool_none (fin_bl I q (by simp))
    | bl j => cases ry; exact ne_bool (fin_bl I q (congrArg not dec_bl))
    | str j => obtain ⟨t', rfl⟩ := ry; exact PySem.EqMixed.ne_bool_str (fin_bl I q (by simp))
    | _ => exact absurd (show false = true from hs) Bool.false_ne_true
  | int i =>
    obtain ⟨t, rfl⟩ := rx
    cases y with
    | non => cases ry; exact PySem.EqNone.ne_int_none (fin_bl I q (by simp))
    | int j => obtain ⟨t', rfl⟩ := ry; exact ne_int (fin_bl I q (congrArg not dec_int))
    | str j => obtain ⟨t', rfl⟩ := ry; exact PySem.EqMixed.ne_int_str (fin_bl I q (by simp))
    | _ => exact absurd (show false = true from hs) Bool.false_ne_true
  | str i =>
    obtain ⟨t, rfl⟩ := rx
    cases y with
    | non => cases ry; exact PySem.EqNone.ne_str_none (fin_bl I q (by simp))
    | bl j => cases ry; exact PySem.EqMixed.ne_str_bool (fin_bl I q (by simp))
    | int j => obtain ⟨t', rfl⟩ := ry; exact PySem.EqMixed.ne_str_int (fin_bl I q (by simp))
    | str j => obtain ⟨t', rfl⟩ := ry; exact ne_str (fin_bl I q (congrArg not dec_str))
    | _ => exact absurd (show false = true from hs) Bool.false_ne_true
  | byt i =>
    obtain ⟨t, rfl⟩ := rx
    cases y with
    | byt j => obtain ⟨t', rfl⟩ := ry; exact PySem.W.ne_bytes (fin_bl I q (congrArg not dec_byt))
    | _ => exact absurd (show false = true from hs) Bool.false_ne_true
  | _ => cases y <;> exact absurd (show false = true from hs) Bool.false_ne_true
theorem op_lt : OpR X (compareOp .Lt) (rI0 fun i j => .bl (decide (i < j))) := opB0 fun _ _ _ _ _ _ _ q => lt_int q
theorem op_le : OpR X (compareOp .LtE) (rI0 fun i j => .bl (decide (i ≤ j))) := opB0 fun _ _ _ _ _ _ _ q => le_int q
theorem op_gt : OpR X (compareOp .Gt) (rI0 fun i j => .bl (decide (j < i))) := opB0 fun _ _ _ _ _ _ _ q => gt_int q
theorem op_isN : OpR X (compareOp .Is) (fun x y H Q => y = .non ∧ Q (.bl (decide (x = .non))) H) := by
  intro pins s σ H x y v u Q I rx ry h
  obtain ⟨rfl, q⟩ := h
  cases ry
  refine is_none_gen (fin_bl I q ?_)
  cases x <;> first
    | (cases rx; rfl)
    | (obtain ⟨t, rfl⟩ := rx; rfl)
theorem op_notN : OpR X (compareOp .IsNot) (fun x y H Q => y = .non ∧ Q (.bl (!decide (x = .non))) H) := by
  intro pins s σ H x y v u Q I rx ry h
  obtain ⟨rfl, q⟩ := h
  cases ry
  refine isnot_none_gen (fin_bl I q ?_)
  cases x <;> first
    | (cases rx; rfl)
    | (obtain ⟨t, rfl⟩ := rx; rfl)
def isObj : HO → Bool
  | .lst _ => true
  | .ins _ _ _ => true
  | _ => false
theorem OpR.or {f : Value → Value → Sem Value} {r r' : R2} (h : OpR X f r) (h' : OpR X f r') : OpR X f (fun x y H Q => r x y H Q ∨ r' x y H Q) := by
  intro pins s σ H x y v u Q I rx ry q
  rcases q with q | q
  · exact h pins s σ H x y v u Q I rx ry q
  · exact h' pins s σ H x y v u Q I rx ry q
theorem nomark (b : Expr) {op : CmpOp} (h : op ≠ .In := by decide) (h2 : op ≠ .NotIn := by decide) : behindInMarks op b = false := by
  have e1 : (op == CmpOp.In) = false := by cases op <;> first | rfl | exact absurd rfl h
  have e2 : (op == CmpOp.NotIn) = false := by cases op <;> first | rfl | exact absurd rfl h2
  cases b <;> simp [behindInMarks, e1, e2]
theorem pe_cmpR {op : CmpOp} {r : R2} (ho : OpR X (compareOp op) r) (ha : PE X a ta) (hb : PE X b tb) (hm : behindInMarks op b = false) : PE X (.Compare a [op] [b] pos) (tOp r ta tb) := by
  intro pins s σ H Q I h
  exact wpAny_Compare1 (binT ha hb I h fun v u s2 x y H2 I2 rx ry q => ho pins s2 σ H2 x y v u Q I2 rx ry q) hm
def tTest (t : TE) : TT := fun σ H Q => t σ H fun x H' => ∃ k, x = .bl k ∧ Q k H'
theorem pt_cmpR {op : CmpOp} {r : R2} (ho : OpR X (compareOp op) r) (ha : PE X a ta) (hb : PE X b tb) (hm : behindInMarks op b = false) : PT X (.Compare a [op] [b] pos) (tTest (tOp r ta tb)) := by
  intro pins s σ H Q I h
  refine wpAny_isTrue_Compare1 (thn (ha pins s σ H _ I h) fun v s1 ⟨x, H1, I1, r1, q1⟩ => thn (hb pins s1 σ H1 _ I1 q1) fun u s2 ⟨y, H2, I2, r2, q2⟩ =>
    thn (ho pins s2 σ H2 x y v u _ I2 r1 r2 q2) fun c s3 ⟨z, H3, I3, r3, k, e, q3⟩ => ?_) hm
  subst e
  cases r3
  exact wpAny_truthy_bool ⟨H3, I3, q3⟩
def tChain (r r' : R2) (ta tb tc : TE) : TE := fun σ H Q => ta σ H fun x H1 => tb σ H1 fun y H2 => r x y H2 fun z H3 => ∃ k, z = .bl k ∧
  (if k = true then tc σ H3 fun w' H4 => r' y w' H4 Q else Q (.bl false) H3)
theorem pt_chain {op op' : CmpOp} {r r' : R2} (ho : OpR X (compareOp op) r) (ho' : OpR X (compareOp op') r') (ha : PE X a ta) (hb : PE X b tb) (hc : PE X c tc)
    (hm : lastMarks [op, op'] [b, c] = false := by with_unfolding_all rfl) : PT X (.Compare a [op, op'] [b, c] pos) (tTest (tChain r r' ta tb tc)) := by
  intro pins s σ H Q I h
  refine isTrue_chain (thn (ha pins s σ H _ I h) fun v s1 ⟨x, H1, I1, r1, q1⟩ => test_link (thn (hb pins s1 σ H1 _ I1 q1) fun u s2 ⟨y, H2, I2, r2, q2⟩ =>
    thn (ho pins s2 σ H2 x y v u _ I2 r1 r2 q2) fun d s3 ⟨z, H3, I3, r3, k, e, q3⟩ => ?_)) hm
  subst e
  cases r3
  refine wpAny_truthy_bool ?_
  cases k with
  | false =>
    obtain ⟨k', e', q'⟩ := q3
    cases e'
    exact ite_ff ⟨H3, I3, q'⟩
  | true =>
    refine ite_tt (test_last (thn (hc pins s3 σ H3 _ I3 q3) fun w' s4 ⟨z', H4, I4, r4, q4⟩ => thn (ho' pins s4 σ H4 y z' u w' _ I4 r2 r4 q4) fun d' s5 ⟨z2, H5, I5, r5, k2, e2, q5⟩ => ?_))
    subst e2
    cases r5
    exact wpAny_truthy_bool ⟨H5, I5, q5⟩
def TruV (K : PySem.W.Frag) (x : V) (H : Hp) (k : Bool) : Prop :=
  match x with
  | .non => k = false
  | .bl b => k = b
  | .int i => k = (i != 0)
  | .str y => y.length ≤ sizeLine ∧ k = ((y.length : Int) != 0)
  | .byt y => y.size ≤ sizeLine ∧ k = ((y.size : Int) != 0)
  | .ref p => (∃ xs, SqL K H p xs ∧ k = !xs.isEmpty) ∨ (∃ xs, SqT K H p xs ∧ k = !xs.isEmpty) ∨ ∃ kvs, H p = some (.dK kvs) ∧ k = !kvs.isEmpty
  | _ => False
theorem line63 : (sizeLine : Nat) < 2 ^ 63 := by rw [sizeLine_eq]; decide
def PlainIxT (b : Expr) : Prop := ∀ o i, subscripted b false o i = operate [o, i] (getItem o i)
theorem vals1 {x : V} {us : List Value} (r : Vals [x] us) : ∃ u, us = [u] ∧ RelV x u := by
  cases r with
  | cons r1 r2 => cases r2; exact ⟨_, rfl, r1⟩
theorem vals2 {x y : V} {us : List Value} (r : Vals [x, y] us) : ∃ u w', us = [u, w'] ∧ RelV x u ∧ RelV y w' := by
  cases r with
  | cons r1 r2 =>
    cases r2 with
    | cons r3 r4 => cases r4; exact ⟨_, _, rfl, r1, r3⟩
theorem call_abs : CallR X (.builtin "abs") (fun xs H Q => ∃ i, xs = [.int i] ∧ Q (.int (if i < 0 then -i else i)) H) := by
  intro pins s σ H xs us Q I r h
  obtain ⟨i, rfl, q⟩ := h
  obtain ⟨u, rfl, t, rfl⟩ := vals1 r
  exact call_abs_int fun u tk => ⟨.int (if i < 0 then -i else i), H, I.tok _, ⟨_, rfl⟩, q⟩
theorem call_max2 (hc : X.calm = true) : CallR X (.builtin "max") (fun xs H Q => ∃ i j, xs = [.int i, .int j] ∧ Q (.int (if j > i then j else i)) H) := by
  intro pins s σ H xs us Q I r h
  obtain ⟨i, j, rfl, q⟩ := h
  obtain ⟨u, w', rfl, ⟨t, rfl⟩, ⟨t', rfl⟩⟩ := vals2 r
  refine max_two_ints (I.ok.hd hc) fun h' tk k => ⟨_, H, I.kept k, ?_, q⟩
  by_cases hj : j > i
  · rw [if_pos hj, if_pos hj]; exact ⟨_, rfl⟩
  · rw [if_neg hj, if_neg hj]; exact ⟨_, rfl⟩
theorem call_int1 : CallR X (.type "int") (fun xs H Q => (∃ i, xs = [.int i] ∧ Q (.int i) H) ∨ ∃ k, xs = [.bl k] ∧ Q (.int (if k then 1 else 0)) H) := by
  intro pins s σ H xs us Q I r h
  rcases h with ⟨i, rfl, q⟩ | ⟨k, rfl, q⟩
  · obtain ⟨u, rfl, t, rfl⟩ := vals1 r
    exact call_int_int ⟨.int i, H, I, ⟨_, rfl⟩, q⟩
  · obtain ⟨u, rfl, r1⟩ := vals1 r
    cases r1
    exact call_int_bool ⟨.int (if k then 1 else 0), H, I.tok _, ⟨_, rfl⟩, q⟩
def LenV (K : PySem.W.Frag) (x : V) (H : Hp) (n : Nat) : Prop :=
  match x with
  | .str y => y.length ≤ sizeLine ∧ n = y.length
  | .byt y => y.size ≤ sizeLine ∧ n = y.size
  | .ref p => (∃ xs, SqL K H p xs ∧ n = xs.length) ∨ ∃ xs, SqT K H p xs ∧ n = xs.length
  | _ => False
end
end L2
namespace L2
open PySem PySem.Spec PyProof.Rows
structure ObjM (h : Heap) (x dx C : Addr) (mA : Str → Option Value) : Prop where
  obj : h.get? x = some (PySem.W.instObj C dx)
  ns : h.Ns1 dx mA
  ne : dx ≠ x
theorem lookIn_ns {h : Heap} {dx : Addr} {mA : Str → Option Value} (n : h.Ns1 dx mA) : ∃ od, h.get? dx = some od ∧ ∀ name, PySem.W.lookIn name od = some (mA name) := by
  obtain ⟨o, es, ep, ho, hd, hk, _, hm⟩ := n
  refine ⟨o, ho, fun name => ?_⟩
  have e := hm name
  unfold nsFind findBy at e
  rw [← Array.find?_toList] at e
  unfold PySem.W.lookIn
  rw [hd]
  dsimp only
  split
  · rename_i y q
    rw [q] at e
    exact congrArg some e
  · rename_i q
    rw [q] at e
    have a : es.toList.any (·.refKey) = false := by
      rw [List.any_eq_false]
      intro y hy
      obtain ⟨z, t, hkey⟩ := hk y (Array.mem_toList_iff.mp hy)
      simp [DictEntry.refKey, hkey]
    have a' : ¬ es.toList.any (·.refKey) = true := by rw [a]; exact Bool.false_ne_true
    rw [if_neg a']
    exact congrArg some e
theorem ObjM.look {h : Heap} {x dx C : Addr} {mA : Str → Option Value} (I : ObjM h x dx C mA) : ∃ od, PySem.W.InstAt h x (PySem.W.instObj C dx) C (some od) ∧ ∀ name, PySem.W.lookIn name od = some (mA name) :=
  let ⟨od, ho, hl⟩ := lookIn_ns I.ns
  ⟨od, ⟨I.obj, rfl, rfl, ho⟩, hl⟩
section
variable {prog : Program} {w : World} {A : Around} {E : Value → Shared → Prop} {s : Shared} {K : PySem.W.Frag} {x dx C f : Addr} {mA : Str → Option Value} {name : Str} {v : Value}
end
def putF (f : Str) (v : V) : List (Str × V) → List (Str × V)
  | [] => [(f, v)]
  | (g, x) :: r => if g = f then (g, v) :: r else (g, x) :: putF f v r
section
variable {P : Program} {w : World} {H H' : Hp} {h h' : Heap} {a C dx : Addr} {fs fs' : List (Str × V)}
theorem ins_get (hok : HOk P w H h) (e : H a = some (.ins C dx fs)) : ∃ mA, ObjM h a dx C mA ∧ (∀ f, RelO (fs.lookup f) (mA f)) ∧ PySem.Within mA (fs.map (·.1)) ∧ fs.length ≤ 1000 ∧ H dx = some (.own a) := by
  obtain ⟨d, z, ne, ob, mA, n, r, q⟩ := (show ObjOk P w H h a (.ins C dx fs) from hok a _ e)
  exact ⟨mA, ⟨ob, n, ne⟩, r, q, z, d⟩
end
structure Cls (K : PySem.W.Frag) (C : Addr) : Prop where
  pg : PySem.W.plainGet K C Str.empty = true
  hd : PySem.W.hasDictIn K C = true
  po : PySem.W.plainOver K C = true
  sa : PySem.W.findIn K (.ref C) "__setattr__" = some (some (.builtin "object.__setattr__"))
theorem Cls.get {K : PySem.W.Frag} {C : Addr} (c : Cls K C) (f : Str) : PySem.W.plainGet K C f = true := c.pg
def NoAttr (K : PySem.W.Frag) (C : Addr) (f : Str) : Prop := PySem.W.findIn K (.ref C) f = some none
structure Con (K : PySem.W.Frag) (C : Addr) (f : Str) (v : V) (u : Value) : Prop where
  at_ : PySem.W.findIn K (.ref C) f = some (some u)
  rel : RelV v u
  get : PySem.W.specialIn K u "__get__" = some none
  cp : PySem.W.copiedNames.contains f = false
structure Meth (K : PySem.W.Frag) (C : Addr) (m : Str) (f : Addr) : Prop where
  at_ : PySem.W.findIn K (.ref C) m = some (some (.ref f))
  fn : PySem.W.isFn K (.ref f) = true
  kp : PySem.W.keepIn K (.ref f) = true
section
variable {X : Cx} {pins : List (Addr × Obj)} {σ : St} {H : Hp} {s : Shared} {a C dx : Addr} {fs : List (Str × V)} {f : Str} {v : V} {A : Around} {E : Value → Shared → Prop}
end
def tFld (K : PySem.W.Frag) (ta : TE) (f : Str) : TE := fun σ H Q => ta σ H fun x H1 => ∃ a C dx fs v, x = .ref a ∧ H1 a = some (.ins C dx fs) ∧ Cls K C ∧ NoAttr K C f ∧ fs.lookup f = some v ∧ Q v H1
def tCon (K : PySem.W.Frag) (ta : TE) (f : Str) : TE := fun σ H Q => ta σ H fun x H1 => ∃ a C dx fs v u, x = .ref a ∧ H1 a = some (.ins C dx fs) ∧ Cls K C ∧ Con K C f v u ∧ fs.lookup f = none ∧ Q v H1
def sFld (K : PySem.W.Frag) (ta tv : TE) (f : Str) : TS := fun D σ H => tv σ H fun y H1 => ta σ H1 fun x H2 => ∃ a C dx fs, x = .ref a ∧ H2 a = some (.ins C dx fs) ∧ Cls K C ∧ NoAttr K C f ∧ fs.length < 1000 ∧
  D.nx σ (upd H2 a (.ins C dx (putF f y fs)))
def InOp (X : Cx) (op : Operator) (rd : V → V → Hp → VK → Prop) : Prop :=
  ∀ (pins : List (Addr × Obj)) (s : Shared) (σ : St) (H : Hp) (x y : V) (u v : Value) (Q : VK), Inv X pins σ H s → RelV x u → RelV y v → rd x y H Q → wpAny (model X.prog X.w) X.A (inplaceOp op u v) (EP X pins σ Q) X.xe s
def sFldAug (K : PySem.W.Frag) (ta tv : TE) (rd : V → V → Hp → VK → Prop) (f : Str) : TS := fun D σ H => ta σ H fun x H1 => ∃ a C dx fs v, x = .ref a ∧ H1 a = some (.ins C dx fs) ∧ Cls K C ∧ NoAttr K C f ∧ fs.lookup f = some v ∧
  tv σ H1 fun y H2 => rd v y H2 fun z H3 => ∃ dx' fs', H3 a = some (.ins C dx' fs') ∧ fs'.length < 1000 ∧ D.nx σ (upd H3 a (.ins C dx' (putF f z fs')))
section
variable {X : Cx} {o e value : Expr} {f : Str} {pos pos' tpos : Pos} {ta tv : TE}
def rAdd : V → V → Hp → VK → Prop := fun x y H Q => ∃ i j, x = .int i ∧ y = .int j ∧ Q (.int (i + j)) H
def rSub : V → V → Hp → VK → Prop := fun x y H Q => ∃ i j, x = .int i ∧ y = .int j ∧ Q (.int (i - j)) H
end
section
variable {X : Cx} {pins : List (Addr × Obj)} {σ : St} {H : Hp} {s : Shared} {A : Around} {E : Value → Shared → Prop} {Q : Value → Shared → Prop} {c : Value} {b : Bool}
inductive TyOf (K : PySem.W.Frag) (H : Hp) : V → Value → Prop where
  | non : TyOf K H .non (.type "NoneType")
  | bl (x : Bool) : TyOf K H (.bl x) (.type "bool")
  | int (i : Int) : TyOf K H (.int i) (.type "int")
  | str (x : Str) : TyOf K H (.str x) (.type "str")
  | flt (x : UInt64) : TyOf K H (.flt x) (.type "float")
  | lst {a : Addr} {xs : List V} (e : H a = some (.lst xs)) : TyOf K H (.ref a) (.type "list")
  | frz {a : Addr} {o : Obj} {xs : List V} (e : H a = some (.frz o (.lst xs))) : TyOf K H (.ref a) (.type "list")
  | tup {a : Addr} {xs : List V} (e : H a = some (.tup xs)) : TyOf K H (.ref a) (.type "tuple")
  | dK {a : Addr} {kvs : List (Key × V)} (e : H a = some (.dK kvs)) : TyOf K H (.ref a) (.type "dict")
  | dT {a : Addr} {kvs : List (List Key × V)} (e : H a = some (.dT kvs)) : TyOf K H (.ref a) (.type "dict")
  | ins {a C dx : Addr} {fs : List (Str × V)} (e : H a = some (.ins C dx fs)) (cl : Cls K C) (ha : PySem.W.findIn K (.ref C) "__class__" = some (some (.builtin "object.__class__")))
      (hn : PySem.W.specialIn K (.builtin "object.__class__") "__get__" = some (some (.builtin "getset_descriptor.__get__"))) (htk : PySem.W.takesIn K (.builtin "object.__class__") = some true)
      (hm : PySem.W.mroIn K C (.type "object") = some true) : TyOf K H (.ref a) (.ref C)
theorem isinst_ok {x : V} {u t : Value} (I : Inv X pins σ H s) (rx : RelV x u) (ty : TyOf X.K H x t) (e : PySem.W.kitOne X.K t c = some b) (h : ∀ tk, Q (.bool b) { s with toks := tk }) :
    wpAny (model X.prog X.w) A (call (.builtin "isinstance") [u, c]) Q E s := by
  cases ty with
  | non => cases (show u = Value.none from rx); exact PySem.W.kia_one PySem.W.kitx_none I.kIn True.intro e (fun z => nomatch z) h
  | bl y => cases (show u = Value.bool y from rx); exact PySem.W.kia_one PySem.W.kitx_bool I.kIn True.intro e (fun z => nomatch z) h
  | int i => obtain ⟨t, q⟩ := (show ∃ t, u = Value.int i t from rx); cases q; exact PySem.W.kia_one PySem.W.kitx_int I.kIn True.intro e (fun z => nomatch z) h
  | str y => obtain ⟨t, q⟩ := (show ∃ t, u = Value.str y t from rx); cases q; exact PySem.W.kia_one PySem.W.kitx_str I.kIn True.intro e (fun z => nomatch z) h
  | flt y => obtain ⟨t, q⟩ := (show ∃ t, u = Value.float y t from rx); cases q; exact PySem.W.kia_one PySem.W.kitx_float I.kIn True.intro e (fun z => nomatch z) h
  | @lst a xs ea =>
    cases (show u = Value.ref a from rx)
    obtain ⟨_, _, n, _, h1⟩ := (show ObjOk X.prog X.w H s.heap a (.lst xs) from I.hok a _ ea)
    exact PySem.W.kia_one PySem.W.kitx_list I.kIn ⟨_, h1, rfl⟩ e (fun z => nomatch z) h
  | @frz a ob xs ea =>
    cases (show u = Value.ref a from rx)
    obtain ⟨_, _, _, n, _, h1⟩ := (show ObjOk X.prog X.w H s.heap a (.frz ob (.lst xs)) from I.hok a _ ea)
    exact PySem.W.kia_one PySem.W.kitx_list I.kIn ⟨_, h1, rfl⟩ e (fun z => nomatch z) h
  | @tup a xs ea =>
    cases (show u = Value.ref a from rx)
    obtain ⟨_, _, _, p⟩ := (show ObjOk X.prog X.w H s.heap a (.tup xs) from I.hok a _ ea)
    obtain ⟨o, h1, h2, _⟩ := p
    exact PySem.W.kia_one PySem.W.kitx_tuple I.kIn ⟨o, h1, h2⟩ e (fun z => nomatch z) h
  | @dK a kvs ea =>
    cases (show u = Value.ref a from rx)
    obtain ⟨_, _, vs, _, p⟩ := (show ObjOk X.prog X.w H s.heap a (.dK kvs) from I.hok a _ ea)
    obtain ⟨o, es, ep, h1, h2, _⟩ := p
    exact PySem.W.kia_one PySem.W.kitx_dict I.kIn ⟨o, h1, h2.1⟩ e (fun z => nomatch z) h
  | @dT a kvs ea =>
    cases (show u = Value.ref a from rx)
    obtain ⟨_, _, xs, _, o, es, ep, h1, h2, _⟩ := (show ObjOk X.prog X.w H s.heap a (.dT kvs) from I.hok a _ ea)
    exact PySem.W.kia_one PySem.W.kitx_dict I.kIn ⟨o, h1, h2.1⟩ e (fun z => nomatch z) h
  | @ins a C dx fs ea cl ha hn htk hm =>
    cases (show u = Value.ref a from rx)
    obtain ⟨mA, O, _⟩ := ins_get I.hok ea
    obtain ⟨od, J, _⟩ := O.look
    exact PySem.W.kia_one (PySem.W.kitx_own (cl.get _) cl.hd ha hn htk hm) I.kIn J e (fun z => nomatch z) h
end
end L2
namespace L2
open PySem PySem.Spec PyProof.Rows
structure Room (k : Nat) (A : Around) : Prop where
  hd : A.handled = none
  dp : A.depth + 3 * k + 5 < recursionLimit
  un : A.units + 16 * k + 200 < cLine
theorem Room.mono {j k : Nat} {A : Around} (r : Room k A) (h : j ≤ k) : Room j A := ⟨r.hd, by have := r.dp; omega, by have := r.un; omega⟩
theorem Room.deeper {k : Nat} {A : Around} (r : Room (k + 1) A) (env : Env) : Room k (A.deeper env) :=
  ⟨r.hd, by have := r.dp; show A.depth + 1 + 3 * k + 5 < _; omega, by have := r.un; show A.units + 3 + 16 * k + 200 < _; omega⟩
theorem Room.in1 {k : Nat} {A : Around} (r : Room (k + 1) A) : Room k A.in1 :=
  ⟨r.hd, by have := r.dp; show A.depth + 3 * k + 5 < _; omega, by have := r.un; show A.units + 1 + 16 * k + 200 < _; omega⟩
theorem Room.depth {k : Nat} {A : Around} (r : Room k A) : A.depth < recursionLimit := by have := r.dp; omega
theorem Room.units {k : Nat} {A : Around} (r : Room k A) : A.units + 64 < cLine := by have := r.un; omega
def tNil : TA := fun _ H Q => Q [] H
def tCons (ta : TE) (tr : TA) : TA := fun σ H Q => ta σ H fun x H1 => tr σ H1 fun xs H2 => Q (x :: xs) H2
section
variable {X : Cx} {e : Expr} {es : List Expr} {te : TE} {t : TA} {pos : Pos}
theorem pa_nil : PA X [] tNil := fun _ _ _ _ H Q I h => Calls.spliced_nil ⟨[], H, I, .nil, h⟩
theorem pa_cons (ha : PE X e te) (hr : PA X es t) (hs : starEach (e :: es) X.env = (false, eval e X.env) :: starEach es X.env := by rfl) : PA X (e :: es) (tCons te t) := by
  intro pos pins s σ H Q I h
  rw [hs]
  show wpAny _ _ (spliced ((false, eval e X.env) :: backTo pos (starEach es X.env))) _ _ s
  refine Calls.spliced_cons (thn (ha pins s σ H _ I h) fun u s1 ⟨x, H1, I1, r1, q1⟩ => ?_)
  exact thn (hr pos pins s1 σ H1 _ I1 q1) fun us s2 ⟨xs, H2, I2, r2, q2⟩ => ⟨x :: xs, H2, I2, .cons r1 r2, q2⟩
def tTup (t : TA) : TE := fun σ H Q => t σ H fun xs H1 => xs.length ≤ sizeLine ∧ ∀ p, H1 p = none → Q (.ref p) (upd H1 p (.tup xs))
def tLst (t : TA) : TE := fun σ H Q => t σ H fun xs H1 => xs.length ≤ sizeLine ∧ ∀ p, H1 p = none → Q (.ref p) (upd H1 p (.lst xs))
theorem pe_tup {x1} (h : PA X es t) : PE X (.Tuple es x1 pos) (tTup t) := by
  intro pins s σ H Q I hq
  refine wpAny_Tuple_spliced (thn (h pos pins s σ H _ I hq) fun us s1 ⟨xs, H1, I1, r, z, q⟩ => ⟨by rw [← r.length]; exact z, ?_⟩)
  have hf : H1 s1.heap.objs.size = none := I1.hok.fresh (Nat.le_refl _)
  refine ⟨.ref s1.heap.objs.size, upd H1 s1.heap.objs.size (.tup xs), I1.laid (t' := s1.toks) (fun b u e => Heap.get?_push_of_some _ e) (Nat.le_refl _) ?_, rfl, q _ hf⟩
  exact ⟨z, us, r, ⟨_, Heap.get?_push_size _ rfl, rfl, _, rfl⟩⟩
theorem pe_lst (h : PA X es t) : PE X (.List es pos) (tLst t) := by
  intro pins s σ H Q I hq
  refine wpAny_List_spliced (thn (h pos pins s σ H _ I hq) fun us s1 ⟨xs, H1, I1, r, z, q⟩ => ⟨by rw [← r.length]; exact z, ?_⟩)
  have hf : H1 s1.heap.objs.size = none := I1.hok.fresh (Nat.le_refl _)
  refine ⟨.ref s1.heap.objs.size, upd H1 s1.heap.objs.size (.lst xs), I1.laid (t' := s1.toks) (fun b u e => Heap.get?_push_of_some _ e) (Nat.le_refl _) ?_, rfl, q _ hf⟩
  exact ⟨z, us, 0, r, Heap.get?_push_size _ rfl⟩
end
abbrev Sp := List V → Hp → VK → XK → Prop
abbrev CXT := List Env → Hp → Shared → XK → Value → Shared → Prop
structure Env0 (P : Program) (w : World) (K : PySem.W.Frag) (mg : Str → Option Value) (base : Heap) (A : Around) (outer : List Env) (s : Shared) (H : Hp) : Prop where
  frames : A.frames = some outer
  mod : Mod K mg base
  bs : ∀ b o, base.get? b = some o → s.heap.get? b = some o ∧ H b = none
  bsz : base.objs.size ≤ s.heap.objs.size
  funs : s.heap.FunFrames base outer
  frf : ∀ b ∈ frs outer, H b = none
  hok : HOk P w H s.heap
  bare : AllBare s.gens
def CE (outer : List Env) (P : Program) (w : World) (H : Hp) (s : Shared) (Q : VK) (u : Value) (s' : Shared) : Prop :=
  ∃ v H', s'.os = s.os ∧ AllBare s'.gens ∧ Un (frs outer) [] H H' s.heap s'.heap ∧ HOk P w H' s'.heap ∧ RelV v u ∧ Q v H'
def CR (CX : CXT) (outer : List Env) (P : Program) (w : World) (H : Hp) (s : Shared) (Q : VK) (E : XK) (r : Result) (s' : Shared) : Prop :=
  match r with
  | .ok (.ret u) => CE outer P w H s Q u s'
  | .ok _ => False
  | .error e => CX outer H s E e s'
structure FnOk (P : Program) (w : World) (K : PySem.W.Frag) (mg : Str → Option Value) (base : Heap) (CX : CXT) (k : Nat) (f : Addr) (fd : FuncData) (ps : List Str) (sp : Sp) : Prop where
  len : ∀ vs H Q E, sp vs H Q E → vs.length = ps.length
  run : ∀ (A : Around) (outer : List Env) (s : Shared) (H : Hp) (args : Args) (us : List Value) (vs : List V) (Q : VK) (E : XK), Room k A → Env0 P w K mg base A outer s H → BindsTo s fd args (ps.zip us) → Vals vs us → sp vs H Q E →
    codeAny (model P w) A (.call (.ref f) args) (CR CX outer P w H s Q E) s
theorem FnOk.mono {P : Program} {w : World} {K : PySem.W.Frag} {mg : Str → Option Value} {base : Heap} {CX : CXT} {j k : Nat} {f : Addr} {fd : FuncData} {ps : List Str} {sp : Sp} (F : FnOk P w K mg base CX j f fd ps sp) (h : j ≤ k) :
    FnOk P w K mg base CX k f fd ps sp := ⟨F.len, fun A outer s H args us vs Q E hr => F.run A outer s H args us vs Q E (hr.mono h)⟩
theorem FnOk.imp {P : Program} {w : World} {K : PySem.W.Frag} {mg : Str → Option Value} {base : Heap} {CX : CXT} {k : Nat} {f : Addr} {fd : FuncData} {ps : List Str} {sp sp' : Sp} (F : FnOk P w K mg base CX k f fd ps sp)
    (h : ∀ vs H Q E, sp' vs H Q E → sp vs H Q E) : FnOk P w K mg base CX k f fd ps sp' :=
  ⟨fun vs H Q E q => F.len vs H Q E (h _ _ _ _ q), fun A outer s H args us vs Q E hr he hb hv hs => F.run A outer s H args us vs Q E hr he hb hv (h _ _ _ _ hs)⟩
theorem Env0.in1 {P : Program} {w : World} {K : PySem.W.Frag} {mg : Str → Option Value} {base : Heap} {A : Around} {outer : List Env} {s : Shared} {H : Hp} (e : Env0 P w K mg base A outer s H) :
    Env0 P w K mg base A.in1 outer s H := ⟨e.frames, e.mod, e.bs, e.bsz, e.funs, e.frf, e.hok, e.bare⟩
section
variable {X : Cx} {pins : List (Addr × Obj)} {σ : St} {H : Hp} {s s' : Shared}
theorem Inv.env0 (I : Inv X pins σ H s) : Env0 X.prog X.w X.K X.mg X.base X.A X.stack s H :=
  ⟨I.ok.frames, I.ok.mod, I.bs, Nat.le_trans I.ok.bsz I.sz, I.stack, I.stkFree, I.hok, I.bare⟩
theorem Inv.after {Q : VK} {u : Value} (I : Inv X pins σ H s) (h : CE X.stack X.prog X.w H s Q u s') : EP X pins σ Q u s' := by
  obtain ⟨v, H', os, bare, un, hok, r, q⟩ := h
  obtain ⟨hh, g, d, t, os'⟩ := s'
  obtain rfl : os' = s.os := os
  exact ⟨v, H', I.call (h' := hh) (g' := g) (d' := d) (t' := t) (ch := []) un hok bare (fun b z => absurd z (by simp)), r, q⟩
end
def tCall (sp : Sp) (dvs : List V) (E : XK) (t : TA) : TE := fun σ H Q => t σ H fun vs H1 => sp (vs ++ dvs) H1 Q E
def tMeth (C : Addr) (m : Str) (sp : Sp) (dvs : List V) (E : XK) (ta : TE) (t : TA) : TE := fun σ H Q => ta σ H fun x H1 => ∃ a dx fs, x = .ref a ∧ H1 a = some (.ins C dx fs) ∧ fs.lookup m = none ∧
  t σ H1 fun vs H2 => sp (x :: (vs ++ dvs)) H2 Q E
def tMake (C : Addr) (sp : Sp) (dvs : List V) (E : XK) (t : TA) : TE := fun σ H Q => t σ H fun vs H1 => ∀ x dx, H1 x = none → H1 dx = none → dx ≠ x →
  sp (.ref x :: (vs ++ dvs)) (upd (upd H1 dx (.own x)) x (.ins C dx [])) (fun v H2 => v = .non ∧ Q (.ref x) H2) E
def Binds (K : PySem.W.Frag) (fd : FuncData) (ps : List Str) (ds : List Value) : Prop :=
  ∀ (s : Shared) (us : List Value), K.In s.heap → (us ++ ds).length = ps.length → BindsTo s fd ⟨us, []⟩ (ps.zip (us ++ ds))
theorem Binds.all {K : PySem.W.Frag} {fd : FuncData} {ps : List Str} (h : ∀ us : List Value, us.length = ps.length → bindArgs fd ⟨us, []⟩ = pure (ps.zip us)) : Binds K fd ps [] := fun s us _ hl => by
  rw [List.append_nil] at hl ⊢
  exact .of_eq (h us hl)
def Passes (CX : CXT) (X : Cx) (E : XK) : Prop := ∀ (pins : List (Addr × Obj)) (σ : St) (H : Hp) (s : Shared) (e : Value) (s' : Shared), Inv X pins σ H s → CX X.stack H s E e s' → X.xe e s'
section
variable {X : Cx} {CX : CXT} {k : Nat} {f C : Addr} {fd : FuncData} {ps : List Str} {sp : Sp} {dvs : List V} {ds : List Value} {E : XK} {x m : Str} {p pos apos : Pos} {e o : Expr} {es : List Expr} {ta : TE} {t : TA}
theorem run_fn {pins : List (Addr × Obj)} {σ : St} {H : Hp} {s : Shared} {Q : VK} {us : List Value} {vs : List V} (F : FnOk X.prog X.w X.K X.mg X.base CX k f fd ps sp) (hr : Room k X.A) (hb : Binds X.K fd ps ds) (hd : Vals dvs ds) (hx : Passes CX X E)
    (I : Inv X pins σ H s) (r : Vals vs us) (h : sp (vs ++ dvs) H Q E) : wpAny (model X.prog X.w) X.A (call (.ref f) us) (EP X pins σ Q) X.xe s := by
  have r2 : Vals (vs ++ dvs) (us ++ ds) := r.append hd
  have hl : (us ++ ds).length = ps.length := by rw [← r2.length]; exact F.len _ _ _ _ h
  refine wpAny_call (codeAny_mono (F.run X.A X.stack s H ⟨us, []⟩ (us ++ ds) (vs ++ dvs) Q E hr I.env0 (hb s us I.kIn hl) r2 h) fun r s' hq => ?_)
  cases r with
  | error e => exact hx pins σ H s e s' I hq
  | ok fl =>
    cases fl with
    | ret u => exact I.after hq
    | next => exact False.elim hq
    | brk => exact False.elim hq
    | cont => exact False.elim hq
theorem pe_call (F : FnOk X.prog X.w X.K X.mg X.base CX k f fd ps sp) (hr : Room k X.A) (hg : Gl X x) (hm : X.mg x = some (.ref f)) (hk : PySem.W.keepIn X.K (.ref f) = true) (hb : Binds X.K fd ps ds) (hd : Vals dvs ds) (hx : Passes CX X E)
    (ha : PA X (e :: es) t) (hdb : (x == ("__debug__" : Str)) = false := by decide) (he : starEach (e :: es) X.env = (false, eval e X.env) :: starEach es X.env := by rfl) (hpl : (backTo pos (starEach es X.env)).any (·.1) = false := by rfl) :
    PE X (.Call (.Name x p) (e :: es) [] pos) (tCall sp dvs E t) := by
  intro pins s σ H Q I h
  refine wpAny_Call_Name_kw (ld_glob I hg hm ?_ hdb)
  refine PySem.W.callWith_K (h₀ := X.base) I.ok.mod.kin hk (thn (ha pos pins s σ H _ I h) fun us s1 ⟨vs, H1, I1, r, q⟩ => ⟨I1.kIn, ?_⟩) he hpl
  exact run_fn F hr hb hd hx I1 r q
structure Mk (K : PySem.W.Frag) (C f : Addr) : Prop where
  makes : PySem.W.makesIn K C = true
  init : PySem.W.findIn K (.ref C) "__init__" = some (some (.ref f))
  fn : PySem.W.isFn K (.ref f) = true
  kp : PySem.W.keepIn K (.ref C) = true
end
def PK (X : Cx) (kws : List Keyword) (t : TA) : Prop :=
  ∀ (pos : Pos) (pins : List (Addr × Obj)) (s : Shared) (σ : St) (H : Hp) (Q : List V → Hp → Prop), Inv X pins σ H s → t σ H Q → wpAny (model X.prog X.w) X.A (evalAll ((backToKw pos (keywordEach kws X.env)).map (·.2))) (AP X pins σ Q) X.xe s
section
variable {X : Cx} {CX : CXT} {k : Nat} {f C : Addr} {fd : FuncData} {ps ks : List Str} {sp : Sp} {E : XK} {x m : Str} {p pos apos kpos : Pos} {e o : Expr} {es : List Expr} {kws : List Keyword} {te ta : TE} {t tk : TA} {nm : Option Str}
structure KBinds (K : PySem.W.Frag) (fd : FuncData) (ps ks : List Str) (g : List Value → List Value → List Value) (gV : List V → List V → List V) : Prop where
  to : ∀ (s : Shared) (us ws : List Value), K.In s.heap → (g us ws).length = ps.length → BindsTo s fd ⟨us, ks.zip ws⟩ (ps.zip (g us ws))
  rel : ∀ {vs : List V} {us : List Value} {zs : List V} {ws : List Value}, Vals vs us → Vals zs ws → Vals (gV vs zs) (g us ws)
def tCallK (sp : Sp) (gV : List V → List V → List V) (E : XK) (t tk : TA) : TE := fun σ H Q => t σ H fun vs H1 => tk σ H1 fun zs H2 => sp (gV vs zs) H2 Q E
variable {g : List Value → List Value → List Value} {gV : List V → List V → List V}
end
structure FnScope (N P : List Str) (sc : Scope) : Prop where
  kind : sc.kind = .function
  co : sc.isCoroutine = false
  gen : sc.isGenerator = false
  nd : N.Nodup
  pre : N.take P.length = P
  par : ∀ x ∈ P, sc.names.lookup x = some .local ∨ sc.names.lookup x = some .cell
  nofree : ∀ y ∈ sc.names, y.2 ≠ .free
theorem bindL_out {kindOf : Str → Option NameKind} {x : Str} : ∀ {binds : List (Str × Value)} {m : Str → Option Value}, (∀ v, (x, v) ∉ binds) → bindL kindOf binds m x = m x
  | [], _, _ => rfl
  | (n, v) :: r, m, h => by
    unfold bindL
    rw [bindL_out fun w hw => h w (List.mem_cons_of_mem _ hw)]
    split
    · have : x ≠ n := by rintro rfl; exact h v List.mem_cons_self
      simp [this]
    · rfl
theorem bindC_out {kindOf : Str → Option NameKind} {x : Str} : ∀ {binds : List (Str × Value)} {m : Str → Option Value}, (∀ v, (x, v) ∉ binds) → bindC kindOf binds m x = m x
  | [], _, _ => rfl
  | (n, v) :: r, m, h => by
    unfold bindC
    rw [bindC_out fun w hw => h w (List.mem_cons_of_mem _ hw)]
    split
    · rfl
    · have : x ≠ n := by rintro rfl; exact h v List.mem_cons_self
      simp [this]
theorem bindL_get {kindOf : Str → Option NameKind} {x : Str} {v : Value} : ∀ {P : List Str} {vs : List Value} {i : Nat} {m : Str → Option Value}, P.Nodup → P[i]? = some x → vs[i]? = some v → kindOf x = some .local →
    bindL kindOf (P.zip vs) m x = some v
  | [], _, _, _, _, h, _, _ => by simp at h
  | _ :: _, [], _, _, _, _, h, _ => by simp at h
  | p :: P, w :: vs, 0, m, nd, h1, h2, hk => by
    simp at h1 h2; subst h1; subst h2
    show bindL kindOf ((p, w) :: P.zip vs) m p = _
    unfold bindL
    rw [bindL_out fun v hv => (List.nodup_cons.mp nd).1 (List.of_mem_zip hv).1, if_pos hk]
    simp
  | p :: P, w :: vs, i + 1, m, nd, h1, h2, hk => by
    show bindL kindOf ((p, w) :: P.zip vs) m x = _
    unfold bindL
    exact bindL_get (i := i) (List.nodup_cons.mp nd).2 (by simpa using h1) (by simpa using h2) hk
theorem bindC_get {kindOf : Str → Option NameKind} {x : Str} {v : Value} : ∀ {P : List Str} {vs : List Value} {i : Nat} {m : Str → Option Value}, P.Nodup → P[i]? = some x → vs[i]? = some v → kindOf x ≠ some .local →
    bindC kindOf (P.zip vs) m x = some v
  | [], _, _, _, _, h, _, _ => by simp at h
  | _ :: _, [], _, _, _, _, h, _ => by simp at h
  | p :: P, w :: vs, 0, m, nd, h1, h2, hk => by
    simp at h1 h2; subst h1; subst h2
    show bindC kindOf ((p, w) :: P.zip vs) m p = _
    unfold bindC
    rw [bindC_out fun v hv => (List.nodup_cons.mp nd).1 (List.of_mem_zip hv).1, if_neg hk]
    simp
  | p :: P, w :: vs, i + 1, m, nd, h1, h2, hk => by
    show bindC kindOf ((p, w) :: P.zip vs) m x = _
    unfold bindC
    exact bindC_get (i := i) (List.nodup_cons.mp nd).2 (by simpa using h1) (by simpa using h2) hk
def start (N : List Str) (vs : List V) : St := vs.map some ++ List.replicate (N.length - vs.length) none
def cxOf (CX : CXT) (P : Program) (w : World) (K : PySem.W.Frag) (mg : Str → Option Value) (base : Heap) (N : List Str) (qual : Str) (scope : Scope) (f : Addr) (cd : Value) (A : Around) (outer : List Env) (s : Shared) (H : Hp) (E : XK) : Cx where
  prog := P
  w := w
  K := K
  mg := mg
  base := base
  A := A.deeper (envOfC qual scope s.heap.objs.size f cd)
  N := N
  s₀ := s
  H₀ := H
  env := envOfC qual scope s.heap.objs.size f cd
  outer := outer
  stack := envOfC qual scope s.heap.objs.size f cd :: outer
  ex := []
  calm := true
  fn := fun _ => true
  pn := []
  xe := fun e s' => wpAny (model P w) (A.deeper (envOfC qual scope s.heap.objs.size f cd)) (leaving (envOfC qual scope s.heap.objs.size f cd) e) (fun _ s'' => CX outer H s E e s'') (fun e' s'' => CX outer H s E e' s'') s'
theorem cell_has {sc : Scope} {n : Nat} {x : Str} (h : sc.names.lookup x = some .cell) : ∃ c, (cellsFrom n sc.names []).lookup x = some c := by
  have q := PySem.W.cellsFrom_some sc.names n [] (.inl h)
  exact Option.isSome_iff_exists.mp q
theorem inv_start {CX : CXT} {P : Program} {w : World} {K : PySem.W.Frag} {mg : Str → Option Value} {base : Heap} {N ps : List Str} {qual : Str} {scope : Scope} {f : Addr} {cd : Value} {A : Around} {outer : List Env} {s s1 : Shared} {H : Hp} {E : XK} {us : List Value} {vs : List V}
    (S : FnScope N ps scope) (hd : A.handled = none) (e0 : Env0 P w K mg base A outer s H) (hl : vs.length = ps.length) (r : Vals vs us)
    (x : InCallC s s.heap.objs.size (bindL (envOfC qual scope s.heap.objs.size f cd).kindOf (ps.zip us) fun _ => none) (cellsFrom (s.heap.objs.size + 1) scope.names []) (bindC (envOfC qual scope s.heap.objs.size f cd).kindOf (ps.zip us) fun _ => none) s1) :
    Inv (cxOf CX P w K mg base N qual scope f cd A outer s H E) [] (start N vs) H s1 := by
  have hpl : ps.length ≤ N.length := by have := congrArg List.length S.pre; rw [List.length_take] at this; omega
  obtain ⟨h1, tk, rfl, hk⟩ := x.done
  have noA : ∀ b : Addr, b ∉ (cxOf CX P w K mg base N qual scope f cd A outer s H E).ex := fun b z => absurd (show b ∈ ([] : List Addr) from z) (by simp)
  refine ⟨⟨e0.mod, S.kind, rfl, rfl, Nat.le_refl _, fun y z c h1 h2 => ?_, fun y hy => ?_, fun y c _ h => ?_, fun _ => hd, Around.frames_deeper e0.frames, .inr ⟨rfl, rfl⟩, fun b z => absurd z (noA b), e0.bs, e0.bsz, fun b _ _ => noA b, fun b z => absurd z (noA b), e0.funs, e0.frf⟩,
    rfl, e0.bare, Un.kept hk, ⟨_, x.toInCall.ns, fun i y v h1 h2 h3 => ?_⟩, fun y c h => ⟨_, x.cell y c h⟩, e0.hok.fresh (Nat.le_refl _), fun y c h => ?_, fun p hp => absurd (show p ∈ ([] : List (Addr × Obj)) from hp) (by simp), e0.hok.kept hk, ?_⟩
  · exact name_of_addr x.apart (PySem.mem_of_lookup h1) (PySem.mem_of_lookup h2)
  · have hy : scope.names.lookup y = some .cell ∨ scope.names.lookup y = some .free := hy
    rcases hy with hy | hy
    · exact cell_has hy
    · exact absurd rfl (S.nofree _ (PySem.mem_of_lookup hy))
  · exact Nat.le_of_lt (x.above y c (PySem.mem_of_lookup h))
  · have hi : i < vs.length := by
      unfold start at h2
      by_cases hi : i < vs.length
      · exact hi
      · rw [List.getElem?_append_right (by simpa using hi)] at h2
        rw [List.getElem?_replicate] at h2
        split at h2 <;> cases h2
    have ha : vs[i]? = some v := by
      unfold start at h2
      rw [List.getElem?_append_left (by simpa using hi), List.getElem?_map] at h2
      cases e : vs[i]? with
      | none => rw [e] at h2; cases h2
      | some a => rw [e] at h2; cases h2; rfl
    obtain ⟨u, hu, rv⟩ := r.get ha
    have hp : ps[i]? = some y := by
      rw [← S.pre, List.getElem?_take_of_lt (by omega)]; exact h1
    have ndP : ps.Nodup := by rw [← S.pre]; exact S.nd.sublist (List.take_sublist _ _)
    refine ⟨u, rv, ?_⟩
    rcases S.par y (List.mem_of_getElem? hp) with k | k
    · exact .inl ⟨k, bindL_get ndP hp hu k⟩
    · obtain ⟨c, e⟩ := cell_has (n := s.heap.objs.size + 1) k
      refine .inr ⟨.inl k, c, e, ?_⟩
      have q := x.cell y c e
      rw [bindC_get ndP hp hu (by show scope.names.lookup y ≠ _; rw [k]; decide)] at q
      exact q
  · exact e0.hok.fresh (Nat.le_of_lt (x.above y c (PySem.mem_of_lookup h)))
  · unfold start
    show _ = N.length
    rw [List.length_append, List.length_map, List.length_replicate]
    omega
theorem fn_of {CX : CXT} {P : Program} {w : World} {K : PySem.W.Frag} {mg : Str → Option Value} {base : Heap} {k : Nat} {f : Addr} {name qual : Str} {params : Arguments} {body : List Stmt} {scope : Scope} {dV kV doc pm cdv ct oc : Value} {an od : Option Addr}
    {osl : Array (Option Value)} {N ps : List Str} {sp : Sp} (lk : K.lookup f = some ⟨oc, od, .func (PySem.W.fnOf name qual params body scope dV kV doc pm an cdv ct), osl⟩) (hcd : PySem.W.codeIn K cdv qual = true) (S : FnScope N ps scope)
    (len : ∀ vs H Q E, sp vs H Q E → vs.length = ps.length)
    (hbody : ∀ (A : Around) (outer : List Env) (s : Shared) (H : Hp) (vs : List V) (Q : VK) (E : XK), Room k (A.deeper (envOfC qual scope s.heap.objs.size f cdv)) → sp vs H Q E →
      ∃ t, PSs (cxOf CX P w K mg base N qual scope f cdv A outer s H E) body t ∧ t { nx := fun _ H' => Q .non H', rt := Q } (start N vs) H) :
    FnOk P w K mg base CX (k + 1) f (PySem.W.fnOf name qual params body scope dV kV doc pm an cdv ct) ps sp := by
  refine ⟨len, fun A outer s H args us vs Q E hr e0 hb r hsp => ?_⟩
  have hl := len _ _ _ _ hsp
  have KX : K.In s.heap := e0.mod.kin.keeps fun b o e => (e0.bs b o e).1
  have lim : s.heap.NoLimit := e0.mod.nolimit.keeps fun b o e => (e0.bs b o e).1
  have hkind : ∀ y ∈ ps.zip us, scope.names.lookup y.1 = some .local ∨ (scope.names.lookup y.1 = some .cell ∧ ((cellsFrom (s.heap.objs.size + 1) scope.names []).lookup y.1).isSome = true) := fun ⟨n, v⟩ hy => by
    rcases S.par n (List.of_mem_zip hy).1 with q | q
    · exact .inl q
    · exact .inr ⟨q, PySem.W.cellsFrom_some _ _ _ (.inl q)⟩
  refine codeAny_call_function hr.depth (KX _ _ lk) rfl S.co S.gen rfl (PySem.W.codeRec_of KX hcd) (hb _ _ _ _ ?_)
  refine wpAny_newFunctionEnv_cells S.kind hkind fun env he s1 x => ?_
  subst he
  refine ⟨lim.keeps x.toInCall.keep, codeAny_func ?_⟩
  obtain ⟨t, ht, hq⟩ := hbody A outer s H vs Q E (hr.deeper _) hsp
  have I : Inv (cxOf CX P w K mg base N qual scope f cdv A outer s H E) [] (start N vs) H s1 := inv_start S hr.hd e0 hl r x
  refine wpAny_mono (ht [] s1 (start N vs) H _ I hq) (fun fl s' hs => ?_) fun e s' hs => hs
  have fin : ∀ {σ' : St} {H' : Hp} {v : V} {u : Value}, Inv (cxOf CX P w K mg base N qual scope f cdv A outer s H E) [] σ' H' s' → RelV v u → Q v H' → CE outer P w H s Q u s' :=
    fun {σ' H' v u} J rv q => ⟨v, H', J.os, J.bare, J.base, J.hok, rv, q⟩
  cases fl with
  | ret u =>
    obtain ⟨v, σ', H', J, rv, q⟩ := hs
    exact fin J rv q
  | next =>
    obtain ⟨σ', H', J, q⟩ := hs
    exact fin (v := V.non) (u := Value.none) J rfl q
  | brk =>
    obtain ⟨_, _, _, q⟩ := hs
    exact False.elim q
  | cont =>
    obtain ⟨_, _, _, q⟩ := hs
    exact False.elim q
end L2
namespace L2
open PySem PySem.Spec PyProof.Rows
section
variable {X : Cx} {x : Str} {p pos : Pos} {e : Expr} {es : List Expr} {t : TA} {id T : String} {r : List V → Hp → VK → Prop}
def tCB (r : List V → Hp → VK → Prop) (t : TA) : TE := fun σ H Q => t σ H fun vs H1 => r vs H1 Q
theorem pe_callB (hc : CallR X (.builtin id) r) (hg : Gl X x) (hm : X.mg x = none) (hv : bootBuiltins x = some (.builtin id)) (ha : PA X (e :: es) t) (hn : x ≠ "__name__" := by decide) (hdb : (x == ("__debug__" : Str)) = false := by decide)
    (he : starEach (e :: es) X.env = (false, eval e X.env) :: starEach es X.env := by rfl) (hpl : (backTo pos (starEach es X.env)).any (·.1) = false := by rfl) : PE X (.Call (.Name x p) (e :: es) [] pos) (tCB r t) := by
  intro pins s σ H Q I h
  refine wpAny_Call_Name_kw (ld_blt I hg hm hv ?_ hn hdb)
  exact PyProof.Rows.callWith_builtin1 (thn (ha pos pins s σ H _ I h) fun us s1 ⟨vs, H1, I1, r1, q1⟩ => hc pins s1 σ H1 vs us Q I1 r1 q1) he hpl
theorem pe_callTy (hc : CallR X (.type T) r) (hg : Gl X x) (hm : X.mg x = none) (hv : bootBuiltins x = some (.type T)) (ha : PA X (e :: es) t) (hn : x ≠ "__name__" := by decide) (hdb : (x == ("__debug__" : Str)) = false := by decide)
    (he : starEach (e :: es) X.env = (false, eval e X.env) :: starEach es X.env := by rfl) (hpl : (backTo pos (starEach es X.env)).any (·.1) = false := by rfl) : PE X (.Call (.Name x p) (e :: es) [] pos) (tCB r t) := by
  intro pins s σ H Q I h
  refine wpAny_Call_Name_kw (ld_blt I hg hm hv ?_ hn hdb)
  exact PyProof.Rows.callWith_type1 (thn (ha pos pins s σ H _ I h) fun us s1 ⟨vs, H1, I1, r1, q1⟩ => hc pins s1 σ H1 vs us Q I1 r1 q1) he hpl
end
end L2
namespace HT
open PySem PyProof.Rows
def lexLt : List Int → List Int → Bool
  | [], [] => false
  | [], _ :: _ => true
  | _ :: _, [] => false
  | x :: xs, y :: ys => if x = y then lexLt xs ys else decide (x < y)
section
open PySem.SeqAt
open PySem.AutoSeq1 (wpAny_loadPart')
open PySem.MeetsSeq PySem.MeetsSeq2 PySem.MeetsSeq3
end
section
variable {prog : Program} {w : World} {A : Around} {E : Value → Shared → Prop} {s : Shared}
theorem cat_tup {t b : Addr} {vs ws : List Value} {Q : Value → Shared → Prop} (ht : IsTup s.heap t vs.toArray) (hb : IsTup s.heap b ws.toArray) (hv : vs ≠ [])
    (h1 : ws = [] → Q (.ref t) s) (h2 : ws ≠ [] → Q (.ref s.heap.objs.size) { s with heap := s.heap.push { cls := .type "tuple", data := .seq (vs ++ ws).toArray } })
    (hsz : vs.length + ws.length ≤ sizeLine) : wpAny (model prog w) A (binaryOp .Add (.ref t) (.ref b)) Q E s := by
  obtain ⟨⟨cls, dd, data, sl⟩, ho, hc, n, hd⟩ := id ht
  obtain ⟨⟨cls2, dd2, data2, sl2⟩, ho2, hc2, n2, hd2⟩ := id hb
  simp only at hc hd hc2 hd2
  subst hc hd hc2 hd2
  have e : vs.toArray ++ ws.toArray = (vs ++ ws).toArray := by simp
  by_cases hw : ws = []
  · exact concat_meets ⟨_, ho, rfl⟩ ⟨_, ho2, rfl⟩ noFill_tuple_add seq_tuple_add PySem.F.slot_tuple_add PySem.F.entry_tuple_add (PySem.F.args_tuple_add_2 _ _)
      (tuple_addW1 t b vs.toArray ws.toArray n n2 dd dd2 sl sl2 (by simpa using hv) (by simp [hw])) ⟨ho, ho2, h1 hw⟩
  · refine concat_meets ⟨_, ho, rfl⟩ ⟨_, ho2, rfl⟩ noFill_tuple_add seq_tuple_add PySem.F.slot_tuple_add PySem.F.entry_tuple_add (PySem.F.args_tuple_add_2 _ _)
      (tuple_addW2 t b vs.toArray ws.toArray n n2 dd dd2 sl sl2 (by simpa using hv) (by simpa using hw) (by rw [List.size_toArray, List.size_toArray]; exact hsz)) ⟨ho, ho2, ?_⟩
    rw [e]
    exact h2 hw
def sIx (n d : Nat) : Option Int → Nat
  | none => d
  | some v => if v < 0 then (v + (n : Int)).toNat else min v.toNat n
theorem sIx_le (n d : Nat) (hd : d ≤ n) (o : Option Int) : sIx n d o ≤ n := by
  cases o with
  | none => exact hd
  | some v =>
    show (if v < 0 then (v + (n : Int)).toNat else min v.toNat n) ≤ n
    by_cases hv : v < 0
    · rw [if_pos hv]; omega
    · rw [if_neg hv]; exact Nat.min_le_right _ _
theorem clip_eq (v : Int) (n d : Nat) : (if v < 0 then max (v + (n : Int)) 0 else min v (n : Int)) = ((sIx n d (some v) : Nat) : Int) := by
  show (if v < 0 then max (v + (n : Int)) 0 else min v (n : Int)) = (((if v < 0 then (v + (n : Int)).toNat else min v.toNat n) : Nat) : Int)
  by_cases hv : v < 0
  · simp only [if_pos hv]; omega
  · simp only [if_neg hv]; omega
theorem adjust_gen (lo hi : Option Int) (n : Nat) : Builtin.Slice.sliceAdjust lo hi 1 (n : Int) = (((sIx n 0 lo : Nat) : Int), ((sIx n n hi : Nat) : Int)) := by
  have h1 : ¬ ((1 : Int) < 0) := by omega
  unfold Builtin.Slice.sliceAdjust
  simp only [h1, if_false]
  refine Prod.ext ?_ ?_
  · cases lo with
    | none => rfl
    | some v => exact clip_eq v n 0
  · cases hi with
    | none => rfl
    | some v => exact clip_eq v n n
theorem places_gen (i j : Nat) : Builtin.Slice.slicePlaces (i : Int) (j : Int) 1 = j - i := by
  unfold Builtin.Slice.slicePlaces
  have h1 : (1 : Int) > 0 := by omega
  simp only [h1, if_true, Int.ediv_one]
  split <;> omega
theorem slicePart_ {v : Value} {o : Option Int} {Q : Option Int → Shared → Prop} (p : IsPart v o) (h : Q o s) : wpAny (model prog w) A (Builtin.Slice.slicePartIndex v) Q E s := by
  cases p with
  | none => exact slicePart_none h
  | int i t => exact slicePart_int h
theorem sliceApplied_gen {sl : Addr} {vl vu : Value} {lo hi : Option Int} {n : Nat} {Q : Int × Int × Nat → Shared → Prop} (hs : s.heap.IsSliceOf sl vl vu .none) (pl : IsPart vl lo) (pu : IsPart vu hi)
    (h : Q (((sIx n 0 lo : Nat) : Int), 1, sIx n n hi - sIx n 0 lo) s) : wpAny (model prog w) A (Builtin.Slice.sliceApplied (.ref sl) (pure (n : Int))) Q E s := by
  obtain ⟨os, hos, hcs, hds⟩ := id hs
  unfold Builtin.Slice.sliceApplied Builtin.Slice.sliceFields
  refine wpAny_bind (wpAny_bind (wpAny_field hos hds (x := vl) rfl (wpAny_bind (wpAny_field hos hds (x := vu) rfl (wpAny_bind (wpAny_field hos hds (x := .none) rfl (wpAny_pure ?_)))))))
  refine wpAny_bind (slicePart_none ?_)
  show wpAny _ _ (if ((1 : Int) == 0) = true then _ else _) _ _ s
  rw [if_neg (by decide)]
  refine wpAny_bind (slicePart_ pl (wpAny_bind (slicePart_ pu (wpAny_bind (wpAny_pure ?_)))))
  show wpAny _ _ (match Builtin.Slice.sliceAdjust lo hi 1 (n : Int) with | (lo, hi) => pure (lo, (1 : Int), Builtin.Slice.slicePlaces lo hi 1)) _ _ s
  rw [adjust_gen lo hi n]
  show wpAny _ _ (pure (((sIx n 0 lo : Nat) : Int), (1 : Int), Builtin.Slice.slicePlaces ((sIx n 0 lo : Nat) : Int) ((sIx n n hi : Nat) : Int) 1)) _ _ s
  rw [places_gen]
  exact wpAny_pure h
theorem pick_gen (xs : Array Value) (i k : Nat) : ((List.range k).filterMap fun (m : Nat) => xs[((i : Int) + (m : Int) * 1).toNat]?).toArray = ((xs.toList.drop i).take k).toArray := by
  have e : (fun (m : Nat) => xs[((i : Int) + (m : Int) * 1).toNat]?) = fun m => xs[i + m]? := by
    funext m
    have : ((i : Int) + (m : Int) * 1).toNat = i + m := by omega
    rw [this]
  rw [e]
  have := pick_run xs i k
  rw [List.filterMap_map] at this
  have e2 : ((fun x => xs[x]?) ∘ fun x => i + x) = fun m => xs[i + m]? := rfl
  rw [e2] at this
  rw [this]
theorem getItem_tuple_cut {t sl : Addr} {items : Array Value} {vl vu : Value} {lo hi : Option Int} {Q : Value → Shared → Prop} (ht : IsTup s.heap t items) (hs : s.heap.IsSliceOf sl vl vu .none) (pl : IsPart vl lo) (pu : IsPart vu hi)
    (hw : ¬ (sIx items.size 0 lo = 0 ∧ sIx items.size items.size hi = items.size))
    (h : Q (.ref s.heap.objs.size) { s with heap := s.heap.push { cls := .type "tuple", data := .seq ((items.toList.drop (sIx items.size 0 lo)).take (sIx items.size items.size hi - sIx items.size 0 lo)).toArray } })
    (hsz : items.size ≤ sizeLine) : wpAny (model prog w) A (getItem (.ref t) (.ref sl)) Q E s := by
  have htake : sizeOk (.seq ((items.toList.drop (sIx items.size 0 lo)).take (sIx items.size items.size hi - sIx items.size 0 lo)).toArray) := by
    show ((items.toList.drop (sIx items.size 0 lo)).take (sIx items.size items.size hi - sIx items.size 0 lo)).toArray.size ≤ sizeLine
    rw [List.size_toArray, List.length_take, List.length_drop, Array.length_toList]
    omega
  have hj : sIx items.size items.size hi ≤ items.size := sIx_le _ _ (Nat.le_refl _) hi
  obtain ⟨os, hos, hcs, hds⟩ := id hs
  have hTs : s.TypeIs (.ref sl) "slice" := ⟨os, hos, hcs⟩
  unfold getItem
  try with_reducible refine wpAny_holding ?_
  first | refine wpAny_bind (wpAny_pure ?_) | skip
  refine wpAny_bind (wpAny_sequenceKey ht.typeIs (by decide) ?_)
  refine wpAny_bind (wpAny_callSpecial?_slot (name := Str.ofString "__getitem__") ht.typeIs PyProof.Rows.slot_tuple_getitem
    (wpAny_call_entry PyProof.Rows.slot_tuple_getitem ht.typeIs entry_tuple_getitem ?_ (args_tuple_getitem _ _)))
  show wpAny _ _ (Builtin.Tuple.tupleItemsOf (.ref t) >>= _) _ _ s
  refine wpAny_bind (tupleItemsOf_ ht ?_)
  refine wpAny_bind (wpAny_typeOf hTs ?_)
  rw [if_pos (by decide)]
  refine wpAny_bind (sliceApplied_gen hs pl pu ?_)
  have hno : ¬ ((((sIx items.size 0 lo : Nat) : Int) == 0 && (1 : Int) == 1 && (sIx items.size items.size hi - sIx items.size 0 lo) == items.size) = true) := by
    intro q
    rw [Bool.and_eq_true, Bool.and_eq_true] at q
    have q1 : ((sIx items.size 0 lo : Nat) : Int) = 0 := eq_of_beq q.1.1
    have q2 : sIx items.size items.size hi - sIx items.size 0 lo = items.size := eq_of_beq q.2
    exact hw ⟨by omega, by omega⟩
  show wpAny _ _ (if (((sIx items.size 0 lo : Nat) : Int) == 0 && (1 : Int) == 1 && (sIx items.size items.size hi - sIx items.size 0 lo) == items.size) = true then _ else _) _ _ s
  rw [if_neg hno, pick_gen]
  first
    | exact wpAny_bind (m := Builtin.Tuple.tupleExact _) (wpAny_newObj_type (wpAny_pure ⟨_, rfl, wpAny_pure h⟩) htake)
    | exact wpAny_bind (m := Builtin.Tuple.tupleExact _) (wpAny_newObj_type (wpAny_bind (wpAny_pure (wpAny_pure ⟨_, rfl, wpAny_pure h⟩))) htake)
    | exact wpAny_bind (wpAny_bind (m := Builtin.Tuple.tupleExact _) (wpAny_newObj_type (wpAny_pure (wpAny_pure ⟨_, rfl, wpAny_pure h⟩)) htake))
    | exact wpAny_bind (wpAny_bind (m := Builtin.Tuple.tupleExact _) (wpAny_newObj_type (wpAny_pure ⟨_, rfl, wpAny_pure h⟩) htake))
end
end HT
namespace L2
open PySem PySem.Spec PyProof.Rows
abbrev TO := St → Hp → (Option Int → Hp → Prop) → Prop
def PO (X : Cx) (e : Option Expr) (t : TO) : Prop :=
  ∀ (pins : List (Addr × Obj)) (s : Shared) (σ : St) (H : Hp) (Q : Option Int → Hp → Prop), Inv X pins σ H s → t σ H Q →
    wpAny (model X.prog X.w) X.A (evalPart e X.env) (fun u s' => ∃ o H', Inv X pins σ H' s' ∧ IsPart u o ∧ Q o H') X.xe s
def tNoPart : TO := fun _ H Q => Q none H
def tPart (t : TE) : TO := fun σ H Q => t σ H fun x H1 => ∃ i, x = .int i ∧ Q (some i) H1
section
variable {X : Cx} {e : Expr} {te : TE} {lo hi : Option Expr} {tl th : TO} {pos p2 : Pos}
theorem po_none : PO X none tNoPart := by
  intro pins s σ H Q I h
  rw [evalPart_none]
  exact wpAny_pure ⟨none, H, I, .none, h⟩
theorem po_some (h : PE X e te) : PO X (some e) (tPart te) := by
  intro pins s σ H Q I hw
  rw [evalPart_some]
  refine thn (h pins s σ H _ I hw) fun u s1 ⟨x, H1, I1, r1, q1⟩ => ?_
  obtain ⟨i, rfl, q⟩ := q1
  obtain ⟨t, rfl⟩ := r1
  exact ⟨some i, H1, I1, .int i t, q⟩
def SlR (X : Cx) (r : V → Option Int → Option Int → Hp → VK → Prop) : Prop :=
  ∀ (pins : List (Addr × Obj)) (s : Shared) (σ : St) (H : Hp) (x : V) (v vl vu : Value) (lo hi : Option Int) (sl : Addr) (Q : VK), Inv X pins σ H s → RelV x v → s.heap.IsSliceOf sl vl vu .none → IsPart vl lo → IsPart vu hi → r x lo hi H Q →
    ∃ T id, typeLookup (.type T) "__getitem__" = pure (some (.builtin id)) ∧ s.TypeIs v T ∧ wpAny (model X.prog X.w) X.A (getItem v (.ref sl)) (EP X pins σ Q) X.xe s
theorem SlR.or {r r' : V → Option Int → Option Int → Hp → VK → Prop} (h : SlR X r) (h' : SlR X r') : SlR X (fun x lo hi H Q => r x lo hi H Q ∨ r' x lo hi H Q) := by
  intro pins s σ H x v vl vu lo hi sl Q I rx hs pl pu q
  rcases q with q | q
  · exact h pins s σ H x v vl vu lo hi sl Q I rx hs pl pu q
  · exact h' pins s σ H x v vl vu lo hi sl Q I rx hs pl pu q
def tSl (r : V → Option Int → Option Int → Hp → VK → Prop) (te : TE) (tl th : TO) : TE := fun σ H Q => te σ H fun x H1 => tl σ H1 fun l H2 => th σ H2 fun u H3 => r x l u H3 Q
theorem pe_slice {r : V → Option Int → Option Int → Hp → VK → Prop} (hr : SlR X r) (he : PE X e te) (hl : PO X lo tl) (hu : PO X hi th) : PE X (.Subscript e (.Slice lo hi none p2) pos) (tSl r te tl th) := by
  intro pins s σ H Q I h
  refine Subscript_ (thn (he pins s σ H _ I h) fun v s1 ⟨x, H1, I1, r1, q1⟩ => ?_)
  refine wpAny_Slice (thn (hl pins s1 σ H1 _ I1 q1) fun vl s2 ⟨l, H2, I2, pl, q2⟩ => thn (hu pins s2 σ H2 _ I2 q2) fun vu s3 ⟨u, H3, I3, pu, q3⟩ => ?_)
  rw [evalPart_none]
  refine wpAny_pure ?_
  have I4 : Inv X pins σ H3 { s3 with heap := s3.heap.push { cls := .type "slice", data := .fields #[vl, vu, .none] } } := I3.kept (t' := s3.toks) fun b ob q => Heap.get?_push_of_some _ q
  obtain ⟨T, id, hT, ht, hg⟩ := hr pins { s3 with heap := s3.heap.push { cls := .type "slice", data := .fields #[vl, vu, .none] } } σ H3 x v vl vu l u s3.heap.objs.size Q I4 r1 (Heap.IsSliceOf.new ..) pl pu q3
  show wpAny (model X.prog X.w) X.A (subscriptTail e (.Slice lo hi none p2) v (.ref s3.heap.objs.size)) (EP X pins σ Q) X.xe { s3 with heap := s3.heap.push { cls := .type "slice", data := .fields #[vl, vu, .none] } }
  exact tail_any (ops := [.ref s3.heap.objs.size, v]) ht hT hg (by with_unfolding_all rfl)
def cutV (xs : List V) (lo hi : Option Int) : List V := (xs.drop (HT.sIx xs.length 0 lo)).take (HT.sIx xs.length xs.length hi - HT.sIx xs.length 0 lo)
theorem cutV_length (xs : List V) (lo hi : Option Int) : (cutV xs lo hi).length ≤ xs.length := by
  unfold cutV
  rw [List.length_take, List.length_drop]
  omega
def rSlT (K : PySem.W.Frag) : V → Option Int → Option Int → Hp → VK → Prop := fun x lo hi H Q => ∃ a xs, x = .ref a ∧ SqT K H a xs ∧
  ¬ (HT.sIx xs.length 0 lo = 0 ∧ HT.sIx xs.length xs.length hi = xs.length) ∧ ∀ p, H p = none → Q (.ref p) (upd H p (.tup (cutV xs lo hi)))
theorem sl_tup : SlR X (rSlT X.K) := by
  intro pins s σ H x v vl vu lo hi sl Q I rx hs pl pu h
  obtain ⟨a, xs, rfl, hx, hw, q⟩ := h
  cases rx
  obtain ⟨its, r, ht, hz⟩ := I.tuple hx
  have hlen : its.toArray.size = xs.length := by rw [List.size_toArray]; exact r.length.symm
  refine ⟨"tuple", _, PyProof.Rows.slot_tuple_getitem.lookup, ht.typeIs, ?_⟩
  refine HT.getItem_tuple_cut ht hs pl pu (by rw [hlen]; exact hw) ?_ (by rw [hlen]; exact hz)
  rw [hlen]
  refine ⟨.ref s.heap.objs.size, _, I.laid (t' := s.toks) (o := .tup (cutV xs lo hi)) (fun b ob q => Heap.get?_push_of_some _ q) (Nat.le_refl _) ?_, rfl, q _ (I.hok.fresh (Nat.le_refl _))⟩
  exact ⟨Nat.le_trans (cutV_length xs lo hi) hz, _, (r.drop (HT.sIx xs.length 0 lo)).take (HT.sIx xs.length xs.length hi - HT.sIx xs.length 0 lo), IsTup.new _ _⟩
def rLtT (K : PySem.W.Frag) : R2 := fun x y H Q => ∃ a b ns ms, x = .ref a ∧ y = .ref b ∧ SqT K H a (ns.map V.int) ∧ SqT K H b (ms.map V.int) ∧ Q (.bl (HT.lexLt ns ms)) H
def rCatT (K : PySem.W.Frag) : R2 := fun x y H Q => ∃ a b xs ys, x = .ref a ∧ y = .ref b ∧ SqT K H a xs ∧ SqT K H b ys ∧ xs ≠ [] ∧ xs.length + ys.length ≤ sizeLine ∧
  (ys = [] → Q (.ref a) H) ∧ (ys ≠ [] → ∀ p, H p = none → Q (.ref p) (upd H p (.tup (xs ++ ys))))
theorem Vals.nil_iff {xs : List V} {us : List Value} (r : Vals xs us) : us = [] ↔ xs = [] := by
  cases r with
  | nil => simp
  | cons _ _ => simp
theorem op_catT : OpR X (binaryOp .Add) (rCatT X.K) := by
  intro pins s σ H x y v u Q I rx ry h
  obtain ⟨a, b, xs, ys, rfl, rfl, ha, hb, hx, hz, q1, q2⟩ := h
  cases rx
  cases ry
  obtain ⟨its, r1, p1, _⟩ := I.tuple ha
  obtain ⟨its2, r2, p2, _⟩ := I.tuple hb
  refine HT.cat_tup p1 p2 (fun z => hx (r1.nil_iff.mp z)) (fun z => ⟨.ref a, H, I, rfl, q1 (r2.nil_iff.mp z)⟩) (fun z => ?_) (by rw [← r1.length, ← r2.length]; exact hz)
  refine ⟨.ref s.heap.objs.size, _, I.laid (t' := s.toks) (o := .tup (xs ++ ys)) (fun b ob q => Heap.get?_push_of_some _ q) (Nat.le_refl _) ?_, rfl, q2 (fun w => z (r2.nil_iff.mpr w)) _ (I.hok.fresh (Nat.le_refl _))⟩
  exact ⟨by rw [List.length_append]; exact hz, _, r1.append r2, IsTup.new _ _⟩
end
end L2
namespace L2
open PySem PySem.Spec PyProof.Rows
def ixN (n : Nat) (i : Int) : Option Nat := if 0 ≤ i then (if i < n then some i.toNat else none) else if -(n : Int) ≤ i then some (i + n).toNat else none
def atI {α : Type} (xs : List α) (i : Int) : Option α := (ixN xs.length i).bind fun j => xs[j]?
theorem ixN_seq {n : Nat} {i : Int} {j : Nat} (h : ixN n i = some j) : seqIndex? i n = some j ∧ j < n ∧ -(n : Int) ≤ i ∧ i < n := by
  unfold ixN at h
  by_cases h0 : 0 ≤ i
  · rw [if_pos h0] at h
    by_cases h1 : i < n
    · rw [if_pos h1] at h
      have e : i.toNat = j := Option.some.inj h
      exact ⟨by rw [seqIndex_of h0 h1, e], by omega, by omega, h1⟩
    · rw [if_neg h1] at h; cases h
  · rw [if_neg h0] at h
    by_cases h1 : -(n : Int) ≤ i
    · rw [if_pos h1] at h
      have e : (i + n).toNat = j := Option.some.inj h
      exact ⟨by rw [seqIndex_neg (by omega) h1, e], by omega, h1, by omega⟩
    · rw [if_neg h1] at h; cases h
theorem atI_get {α : Type} {xs : List α} {i : Int} {v : α} (h : atI xs i = some v) : ∃ j, seqIndex? i xs.length = some j ∧ xs[j]? = some v ∧ j < xs.length ∧ -(xs.length : Int) ≤ i ∧ i < xs.length := by
  unfold atI at h
  cases e : ixN xs.length i with
  | none => rw [e] at h; cases h
  | some j =>
    rw [e] at h
    obtain ⟨h1, h2, h3, h4⟩ := ixN_seq e
    exact ⟨j, h1, h, h2, h3, h4⟩
def PlainIx (b : Expr) : Prop := ∀ o i, subscripted b false o i = operate [o, i] (getItem o i)
def IxR (X : Cx) (r : R2) : Prop :=
  ∀ (value slice : Expr) (pins : List (Addr × Obj)) (s : Shared) (σ : St) (H : Hp) (x y : V) (v u : Value) (Q : VK), Inv X pins σ H s → RelV x v → RelV y u → r x y H Q →
    subscripted slice false v u = operate [v, u] (getItem v u) → wpAny (model X.prog X.w) X.A (subscriptTail value slice v u) (EP X pins σ Q) X.xe s
def MtR (X : Cx) (id : String) (r : V → List V → Hp → VK → Prop) : Prop :=
  ∀ (pins : List (Addr × Obj)) (s : Shared) (σ : St) (H : Hp) (x : V) (xs : List V) (v : Value) (us : List Value) (Q : VK), Inv X pins σ H s → RelV x v → Vals xs us → r x xs H Q →
    wpAny (model X.prog X.w) X.A (call (.builtin id) (v :: us)) (EP X pins σ Q) X.xe s
section
variable {X : Cx} {a b : Expr} {ta tb : TE} {pos : Pos}
theorem IxR.or {r r' : R2} (h : IxR X r) (h' : IxR X r') : IxR X (fun x y H Q => r x y H Q ∨ r' x y H Q) := by
  intro value slice pins s σ H x y v u Q I rx ry q hs
  rcases q with q | q
  · exact h value slice pins s σ H x y v u Q I rx ry q hs
  · exact h' value slice pins s σ H x y v u Q I rx ry q hs
theorem MtR.or {id : String} {r r' : V → List V → Hp → VK → Prop} (h : MtR X id r) (h' : MtR X id r') : MtR X id (fun x xs H Q => r x xs H Q ∨ r' x xs H Q) := by
  intro pins s σ H x xs v us Q I rx rs q
  rcases q with q | q
  · exact h pins s σ H x xs v us Q I rx rs q
  · exact h' pins s σ H x xs v us Q I rx rs q
theorem pe_ix {r : R2} (hr : IxR X r) (ha : PE X a ta) (hb : PE X b tb) (hs : PlainIx b) : PE X (.Subscript a b pos) (tOp r ta tb) := by
  intro pins s σ H Q I h
  exact Subscript_ (binT ha hb I h fun v u s2 x y H2 I2 rx ry q => hr a b pins s2 σ H2 x y v u Q I2 rx ry q (hs _ _))
def rIxL (K : PySem.W.Frag) : R2 := fun x y H Q => ∃ p xs i v, x = .ref p ∧ y = .int i ∧ SqL K H p xs ∧ atI xs i = some v ∧ Q v H
def rIxT (K : PySem.W.Frag) : R2 := fun x y H Q => ∃ p xs i v, x = .ref p ∧ y = .int i ∧ SqT K H p xs ∧ atI xs i = some v ∧ Q v H
def rIxS : R2 := fun x y H Q => ∃ z i c, x = .str z ∧ y = .int i ∧ z.length ≤ sizeLine ∧ atI z.cps.toList i = some c ∧ Q (.str ⟨#[c]⟩) H
theorem ix_list : IxR X (rIxL X.K) := by
  intro value slice pins s σ H x y v u Q I rx ry h hs
  obtain ⟨p, xs, i, z, rfl, rfl, hq, he, q⟩ := h
  cases rx
  obtain ⟨t, rfl⟩ := ry
  obtain ⟨its, r, pl, hz⟩ := I.list hq
  obtain ⟨j, h1, h2, h3, h4, h5⟩ := atI_get he
  obtain ⟨w, ew, rw'⟩ := r.get h2
  have hl := r.length
  have hn := line63
  have fin : EP X pins σ Q w s := ⟨z, H, I, rw', q⟩
  by_cases h0 : 0 ≤ i
  · have hj : i.toNat = j := by
      rw [seqIndex_of h0 h5] at h1
      exact Option.some.inj h1
    exact item_listR pl.isList h0 (by omega) (by rw [hj]; simpa using ew) fin hs
  · have hj : (i + (its.toArray.size : Int)).toNat = j := by
      rw [seqIndex_neg (by omega) h4] at h1
      rw [List.size_toArray, ← hl]
      exact Option.some.inj h1
    exact subscriptTail_builtinR (x := w) pl.isList.typeIs slot_list_getitem.lookup
      (wpAny_getItem_list_neg (Q := fun r s' => r = w ∧ EP X pins σ Q r s') pl.isList (by omega) (by rw [List.size_toArray] <;> omega) (by omega) (by rw [hj]; simpa using ew) ⟨rfl, fin⟩) hs
theorem ix_tup : IxR X (rIxT X.K) := by
  intro value slice pins s σ H x y v u Q I rx ry h hs
  obtain ⟨p, xs, i, z, rfl, rfl, hq, he, q⟩ := h
  cases rx
  obtain ⟨t, rfl⟩ := ry
  obtain ⟨its, r, pl, hz⟩ := I.tuple hq
  obtain ⟨j, h1, h2, h3, h4, h5⟩ := atI_get he
  obtain ⟨w, ew, rw'⟩ := r.get h2
  have hl := r.length
  have hn := line63
  have fin : EP X pins σ Q w s := ⟨z, H, I, rw', q⟩
  exact subscriptTail_builtinR (x := w) pl.typeIs slot_tuple_getitem.lookup
    (getItem_tuple (j := j) (Q := fun r s' => r = w ∧ EP X pins σ Q r s') pl (by omega) (by omega) (by rw [List.size_toArray, ← hl]; exact h1) (by simpa using ew) ⟨rfl, fin⟩) hs
theorem ix_str : IxR X rIxS := by
  intro value slice pins s σ H x y v u Q I rx ry h hs
  obtain ⟨z, i, c, rfl, rfl, hz, he, q⟩ := h
  obtain ⟨t, rfl⟩ := rx
  obtain ⟨t', rfl⟩ := ry
  obtain ⟨j, h1, h2, h3, h4, h5⟩ := atI_get he
  have hl : z.cps.toList.length = z.length := by simp [Str.length]
  rw [hl] at h1 h4 h5
  have hn := line63
  exact tail_any (typeIs_str s z t) slot_str_getitem.lookup (getItem_str (c := c) (by
    have e1 : decide (i < -(2 ^ 63 : Int)) = false := decide_eq_false (by omega)
    have e2 : decide (i ≥ 2 ^ 63) = false := decide_eq_false (by omega)
    rw [e1, e2, Bool.or_false]) (by rw [h1]; simpa using h2) ⟨.str ⟨#[c]⟩, H, I.tok _, ⟨_, rfl⟩, q⟩) hs
def rIx (K : PySem.W.Frag) : R2 := fun x y H Q => rIxL K x y H Q ∨ rIxT K x y H Q ∨ rIxS x y H Q
theorem ix_seq : IxR X (rIx X.K) := ix_list.or (ix_tup.or ix_str)
theorem mapSeq_set (its : List Value) (n j : Nat) (u : Value) : Obj.mapSeq (·.setIfInBounds j u) { cls := .type "list", data := .seq its.toArray n } = { cls := .type "list", data := .seq (its.set j u).toArray n } := by
  simp [Obj.mapSeq]
theorem Inv.lst {pins : List (Addr × Obj)} {σ : St} {H : Hp} {s : Shared} {p : Addr} {xs : List V} (I : Inv X pins σ H s) (h : H p = some (.lst xs)) :
    ∃ (its : List Value) (n : Nat), Vals xs its ∧ s.heap.get? p = some { cls := .type "list", data := .seq its.toArray n } ∧ xs.length ≤ sizeLine := by
  obtain ⟨z, its, n, r, e⟩ := I.hok p _ h
  exact ⟨its, n, r, e, z⟩
theorem Inv.lstUpd {pins : List (Addr × Obj)} {σ : St} {H : Hp} {s : Shared} {p : Addr} {xs ys : List V} {its its' : List Value} {n n' : Nat} {f : Obj → Obj} (I : Inv X pins σ H s) (h : H p = some (.lst xs))
    (ho : s.heap.get? p = some { cls := .type "list", data := .seq its.toArray n }) (hf : f { cls := .type "list", data := .seq its.toArray n } = { cls := .type "list", data := .seq its'.toArray n' }) (r : Vals ys its') (hz : ys.length ≤ sizeLine) (t : Nat) :
    Inv X pins σ (upd H p (.lst ys)) { s with heap := s.heap.update p f, toks := t } := by
  have e : (s.heap.update p f).get? p = some { cls := .type "list", data := .seq its'.toArray n' } := by
    rw [Heap.get?_update_self f ho (by rw [hf] <;> rfl), hf]
  refine I.write (x := p) (e := p) (by rw [h]; trivial) (.inl rfl) (fun b u hb q => (Heap.get?_update_other _ _ (Ne.symm hb)).trans q) ⟨_, e⟩ ?_
  exact ⟨hz, its', n', r, e⟩
def rSetL : V → V → V → Hp → (Hp → Prop) → Prop := fun o i v H Q => ∃ p xs k j, o = .ref p ∧ i = .int k ∧ H p = some (.lst xs) ∧ ixN xs.length k = some j ∧ Q (upd H p (.lst (xs.set j v)))
theorem set_list : PSet X rSetL := by
  intro pins s σ H o i v ov iv u Q I ro ri rv h
  obtain ⟨p, xs, k, j, rfl, rfl, hp, hj, q⟩ := h
  cases ro
  obtain ⟨t, rfl⟩ := ri
  obtain ⟨its, n, r, ho, hz⟩ := I.lst hp
  obtain ⟨h1, h2, h3, h4⟩ := ixN_seq hj
  have hl := r.length
  have hn := line63
  have I' : Inv X pins σ (upd H p (.lst (xs.set j v))) { s with heap := s.heap.update p (Obj.mapSeq (·.setIfInBounds j u)) } :=
    I.lstUpd hp ho (mapSeq_set its n j u) (r.set rv j) (by rw [List.length_set]; exact hz) s.toks
  by_cases h0 : 0 ≤ k
  · have hk : k.toNat = j := by
      rw [seqIndex_of h0 h4] at h1
      exact Option.some.inj h1
    exact PySem.W.ki_setAt ho h0 (by omega) (by rw [List.size_toArray, ← hl]; exact h4) (by rw [hk]; exact ⟨_, I', q⟩)
  · have hk : (k + (its.toArray.size : Int)).toNat = j := by
      rw [seqIndex_neg (by omega) h3] at h1
      rw [List.size_toArray, ← hl]
      exact Option.some.inj h1
    exact PySem.W.ki_setBack ho (by omega) (by rw [List.size_toArray, ← hl]; exact h3) (by omega) (by rw [hk]; exact ⟨_, I', q⟩)
theorem slice_bounds (lo hi : Option Int) (n : Nat) : (sliceBounds lo hi none n).1 = ((HT.sIx n 0 lo : Nat) : Int) ∧ (sliceBounds lo hi none n).2.1 = ((HT.sIx n n hi : Nat) : Int) ∧ (sliceBounds lo hi none n).2.2 = 1 := by
  refine ⟨?_, ?_, rfl⟩
  · cases lo with
    | none => simp [sliceBounds, HT.sIx]
    | some i =>
      simp only [sliceBounds, HT.sIx, Option.getD_none, show (1 : Int) > 0 by decide, if_true]
      by_cases h : i < 0
      · simp only [h, if_true] <;> omega
      · simp only [h, if_false] <;> omega
  · cases hi with
    | none => simp [sliceBounds, HT.sIx]
    | some i =>
      simp only [sliceBounds, HT.sIx, Option.getD_none, show (1 : Int) > 0 by decide, if_true]
      by_cases h : i < 0
      · simp only [h, if_true] <;> omega
      · simp only [h, if_false] <;> omega
theorem slicePick_cut (its : List Value) (lo hi : Option Int) : slicePick its.toArray lo hi none = ((its.drop (HT.sIx its.length 0 lo)).take (HT.sIx its.length its.length hi - HT.sIx its.length 0 lo)).toArray := by
  obtain ⟨h1, h2, h3⟩ := slice_bounds lo hi its.toArray.size
  unfold slicePick
  rw [h1, h2, h3]
  simp only [sliceRange_one, pick_run, List.size_toArray] <;> rfl
def rSlL (K : PySem.W.Frag) : V → Option Int → Option Int → Hp → VK → Prop := fun x lo hi H Q => ∃ a xs, x = .ref a ∧ SqL K H a xs ∧ ∀ p, H p = none → Q (.ref p) (upd H p (.lst (cutV xs lo hi)))
theorem sl_list : SlR X (rSlL X.K) := by
  intro pins s σ H x v vl vu lo hi sl Q I rx hs pl pu h
  obtain ⟨a, xs, rfl, hx, q⟩ := h
  cases rx
  obtain ⟨its, r, ht, hz⟩ := I.list hx
  have hlen := r.length
  refine ⟨"list", _, slot_list_getitem.lookup, ht.isList.typeIs, ?_⟩
  refine wpAny_getItem_list_slice ht.isList hs pl pu .none (by simp) ?_ (by rw [List.size_toArray] <;> omega)
  rw [slicePick_cut, ← hlen]
  refine ⟨.ref s.heap.objs.size, _, I.laid (t' := s.toks) (o := .lst (cutV xs lo hi)) (fun b ob q => Heap.get?_push_of_some _ q) (Nat.le_refl _) ?_, rfl, q _ (I.hok.fresh (Nat.le_refl _))⟩
  exact ⟨Nat.le_trans (cutV_length xs lo hi) hz, _, 0, (r.drop (HT.sIx xs.length 0 lo)).take (HT.sIx xs.length xs.length hi - HT.sIx xs.length 0 lo), Heap.get?_push_size _ rfl⟩
def flatV : V → Bool
  | .non => true
  | .bl _ => true
  | .int _ => true
  | .str _ => true
  | _ => false
def eqV : V → V → Bool
  | .non, .non => true
  | .bl a, .bl b => a == b
  | .bl a, .int b => (if a then 1 else 0) == b
  | .int a, .bl b => a == (if b then 1 else 0)
  | .int a, .int b => a == b
  | .str a, .str b => a == b
  | _, _ => false
def eqU (x : V) (u : Value) : Bool := match u with
  | .none => eqV .non x
  | .bool b => eqV (.bl b) x
  | .int i _ => eqV (.int i) x
  | .str z _ => eqV (.str z) x
  | _ => false
def inV (x : V) (xs : List V) : Bool := xs.any fun y => eqV y x
def rIn (K : PySem.W.Frag) (neg : Bool) : R2 := fun x y H Q => ∃ p xs, y = .ref p ∧ (SqL K H p xs ∨ SqT K H p xs) ∧ flatV x = true ∧ xs.all flatV = true ∧ Q (.bl (if neg then !inV x xs else inV x xs)) H
theorem call_len_seq : CallR X (.builtin "len") (fun xs H Q => ∃ p ys, xs = [.ref p] ∧ (SqL X.K H p ys ∨ SqT X.K H p ys) ∧ Q (.int ys.length) H) := by
  intro pins s σ H xs us Q I r h
  obtain ⟨p, ys, rfl, hq, q⟩ := h
  obtain ⟨u, rfl, rx⟩ := vals1 r
  cases rx
  have hn := line63
  rcases hq with hq | hq
  · obtain ⟨its, r', pl, hz⟩ := I.list hq
    have hlen := r'.length
    exact Calls.call_len_list pl.isList (by simp only [List.size_toArray] <;> omega) ⟨.int ys.length, H, I.tok _, ⟨s.toks + 1, by rw [List.size_toArray, hlen]⟩, q⟩
  · obtain ⟨its, r', pl, hz⟩ := I.tuple hq
    have hlen := r'.length
    exact len_tuple pl (by simp only [List.size_toArray] <;> omega) ⟨.int ys.length, H, I.tok _, ⟨s.toks + 1, by rw [List.size_toArray, hlen]⟩, q⟩
theorem CallR.or {f : Value} {r r' : List V → Hp → VK → Prop} (h : CallR X f r) (h' : CallR X f r') : CallR X f (fun xs H Q => r xs H Q ∨ r' xs H Q) := by
  intro pins s σ H xs us Q I rs q
  rcases q with q | q
  · exact h pins s σ H xs us Q I rs q
  · exact h' pins s σ H xs us Q I rs q
def tyV (K : PySem.W.Frag) (T : String) (x : V) (H : Hp) : Prop := match x with
  | .str _ => T = "str"
  | .int _ => T = "int"
  | .ref p => (T = "list" ∧ ∃ xs, SqL K H p xs) ∨ (T = "tuple" ∧ ∃ o, K.lookup p = some o ∧ o.cls = .type "tuple" ∧ o.dict = none) ∨
      (T = "dict" ∧ ((∃ kvs, H p = some (.dK kvs)) ∨ ∃ kvs, H p = some (.dT kvs))) ∨ (T = "set" ∧ ∃ S n, H p = some (.set S n))
  | _ => False
def tBM0 (K : PySem.W.Frag) (T : String) (r : V → List V → Hp → VK → Prop) (to : TE) : TE := fun σ H Q => to σ H fun x H1 => tyV K T x H1 ∧ r x [] H1 Q
def tBM (K : PySem.W.Frag) (T : String) (r : V → List V → Hp → VK → Prop) (to : TE) (t : TA) : TE := fun σ H Q => to σ H fun x H1 => tyV K T x H1 ∧ t σ H1 fun xs H2 => r x xs H2 Q
variable {o e : Expr} {es : List Expr} {to : TE} {t : TA} {name : Str} {apos cpos : Pos} {T id : String} {r : V → List V → Hp → VK → Prop}
end
end L2
namespace L2
open PySem PySem.Spec PyProof.Rows
def MtM (X : Cx) (id : String) (r : V → List V → Hp → VK → Prop) : Prop :=
  ∀ (pins : List (Addr × Obj)) (s : Shared) (σ : St) (H : Hp) (x : V) (xs : List V) (v : Value) (us : List Value) (Q : VK), Inv X pins σ H s → RelV x v → Vals xs us → r x xs H Q →
    wpAny (model X.prog X.w) X.A (call (.builtin id) (v :: us)) (EP X pins σ Q) X.xe s
theorem Vals.one : ∀ {x : V} {us : List Value}, Vals [x] us → ∃ u, us = [u] ∧ RelV x u
  | _, _, .cons r .nil => ⟨_, rfl, r⟩
theorem Vals.two : ∀ {x y : V} {us : List Value}, Vals [x, y] us → ∃ u v, us = [u, v] ∧ RelV x u ∧ RelV y v
  | _, _, _, .cons r (.cons q .nil) => ⟨_, _, rfl, r, q⟩
theorem Vals.zero : ∀ {us : List Value}, Vals [] us → us = []
  | _, .nil => rfl
theorem Vals.dropLast {xs : List V} {us : List Value} (h : Vals xs us) : Vals xs.dropLast us.dropLast := by
  induction h with
  | nil => exact .nil
  | cons r t ih =>
    cases t with
    | nil => exact .nil
    | cons q t' => exact .cons r ih
theorem Vals.eraseIdx : ∀ {xs : List V} {us : List Value} (i : Nat), Vals xs us → Vals (xs.eraseIdx i) (us.eraseIdx i)
  | _, _, _, .nil => .nil
  | _, _, 0, .cons _ t => t
  | _, _, i + 1, .cons r t => .cons r (Vals.eraseIdx i t)
theorem Vals.reverse {xs : List V} {us : List Value} (h : Vals xs us) : Vals xs.reverse us.reverse := by
  induction h with
  | nil => exact .nil
  | cons r t ih => rw [List.reverse_cons, List.reverse_cons]; exact Vals.append ih (.cons r .nil)
section
variable {X : Cx} {pins : List (Addr × Obj)} {σ : St} {H : Hp} {s : Shared} {l b : Addr} {xs ys zs : List V}
theorem Inv.lset {its its' : List Value} {n : Nat} {f : Array Value → Array Value} {t' : Nat} (I : Inv X pins σ H s) (hH : H l = some (.lst xs))
    (e : s.heap.get? l = some { cls := .type "list", data := .seq its.toArray n }) (hf : f its.toArray = its'.toArray) (hv : Vals ys its') (hz : ys.length ≤ sizeLine) :
    Inv X pins σ (upd H l (.lst ys)) { s with heap := s.heap.update l (Obj.mapSeq f), toks := t' } := by
  have q := PySem.IsL.update e f
  rw [hf] at q
  refine I.write (x := l) (e := l) (by rw [hH]; exact trivial) (.inl rfl) (fun b' u hb hu => (Heap.get?_update_other s.heap (Obj.mapSeq f) (Ne.symm hb)).trans hu) ⟨_, q⟩ ?_
  exact ⟨hz, its', _, hv, q⟩
theorem Inv.lnew {its : List Value} {t' : Nat} (I : Inv X pins σ H s) (hv : Vals ys its) (hz : ys.length ≤ sizeLine) :
    Inv X pins σ (upd H s.heap.objs.size (.lst ys)) { s with heap := s.heap.push { cls := .type "list", data := .seq its.toArray }, toks := t' } :=
  I.laid (fun _ _ q => Heap.get?_push_of_some _ q) (Nat.le_refl _) ⟨hz, its, 0, hv, Heap.get?_push_size _ rfl⟩
theorem Inv.fresh (I : Inv X pins σ H s) : H s.heap.objs.size = none := I.hok.fresh (Nat.le_refl _)
theorem Inv.lstM (I : Inv X pins σ H s) (hH : H l = some (.lst xs)) : xs.length ≤ sizeLine ∧ ∃ (its : List Value) (n : Nat), Vals xs its ∧ xs.length = its.length ∧ s.heap.get? l = some { cls := .type "list", data := .seq its.toArray n } := by
  obtain ⟨z, its, n, r, e⟩ := I.hok l _ hH
  exact ⟨z, its, n, r, r.length, e⟩
end
section
variable {X : Cx}
def rAppend : V → List V → Hp → VK → Prop := fun x vs H Q => ∃ l xs y, x = .ref l ∧ vs = [y] ∧ H l = some (.lst xs) ∧ xs.length < sizeLine ∧ Q .non (upd H l (.lst (xs ++ [y])))
theorem mt_append : MtM X "list.append" rAppend := by
  intro pins s σ H x vs v us Q I rx rv h
  obtain ⟨l, xs, y, rfl, rfl, hH, hz, q⟩ := h
  cases rx
  obtain ⟨u, rfl, ru⟩ := rv.one
  obtain ⟨z, its, n, r, hl, e⟩ := I.lstM hH
  refine call_meets F.slot_list_append ⟨_, e, rfl⟩ F.entry_list_append (F.args_list_append_2 _ _) (PySem.list_append l its.toArray n u (by rw [List.size_toArray]; omega)) ⟨e, ?_⟩
  refine ⟨.non, _, I.lset (its' := its ++ [u]) hH e (by simp) (r.append (.cons ru .nil)) ?_, rfl, q⟩
  rw [List.length_append, List.length_singleton]
  omega
def rExtend : V → List V → Hp → VK → Prop := fun x vs H Q => ∃ l b xs zs, x = .ref l ∧ vs = [.ref b] ∧ H l = some (.lst xs) ∧ H b = some (.lst zs) ∧ xs.length + zs.length ≤ sizeLine ∧ Q .non (upd H l (.lst (xs ++ zs)))
def rPop : V → List V → Hp → VK → Prop := fun x vs H Q => ∃ l xs y, x = .ref l ∧ vs = [] ∧ H l = some (.lst xs) ∧ xs[xs.length - 1]? = some y ∧ Q y (upd H l (.lst xs.dropLast))
def rPopAt : V → List V → Hp → VK → Prop := fun x vs H Q => ∃ l xs i k y, x = .ref l ∧ vs = [.int i] ∧ H l = some (.lst xs) ∧ -(2 ^ 63) ≤ i ∧ i < 2 ^ 63 ∧ seqIndex? i xs.length = some k ∧ xs[k]? = some y ∧ Q y (upd H l (.lst (xs.eraseIdx k)))
def rReverse : V → List V → Hp → VK → Prop := fun x vs H Q => ∃ l xs, x = .ref l ∧ vs = [] ∧ H l = some (.lst xs) ∧ Q .non (upd H l (.lst xs.reverse))
def rClear : V → List V → Hp → VK → Prop := fun x vs H Q => ∃ l xs, x = .ref l ∧ vs = [] ∧ H l = some (.lst xs) ∧ Q .non (upd H l (.lst []))
def rCat : R2 := fun x y H Q => ∃ l b xs zs, x = .ref l ∧ y = .ref b ∧ H l = some (.lst xs) ∧ H b = some (.lst zs) ∧ xs.length + zs.length ≤ sizeLine ∧ ∀ p, H p = none → Q (.ref p) (upd H p (.lst (xs ++ zs)))
theorem op_cat : OpR X (binaryOp .Add) rCat := by
  intro pins s σ H x y v u Q I rx ry h
  obtain ⟨l, b, xs, zs, rfl, rfl, hH, hB, hz, q⟩ := h
  cases rx
  cases ry
  obtain ⟨z, its, n, r, hl, e⟩ := I.lstM hH
  obtain ⟨z2, its2, n2, r2, hl2, e2⟩ := I.lstM hB
  refine PySem.P.add_list e e2 ?_ (by rw [List.size_toArray, List.size_toArray]; omega)
  have ea : its.toArray ++ its2.toArray = (its ++ its2).toArray := by simp
  rw [ea]
  exact ⟨.ref _, _, I.lnew (t' := s.toks) (r.append r2) (by rw [List.length_append]; omega), rfl, q _ I.fresh⟩
def rRep : R2 := fun x y H Q => ∃ l k xs, x = .ref l ∧ y = .int k ∧ H l = some (.lst xs) ∧ -(2 ^ 63) ≤ k ∧ k < 2 ^ 63 ∧ xs.length * k.toNat ≤ sizeLine ∧
  ∀ p, H p = none → Q (.ref p) (upd H p (.lst (List.replicate k.toNat xs).flatten))
end
section
variable {prog : Program} {w : World} {A : Around} {E : Value → Shared → Prop} {s : Shared}
end
section
variable {X : Cx}
end
end L2
namespace Att
open PySem PySem.W PySem.Calls PyProof.Rows
theorem ints_of_wellAll {P : Params} {h : Heap} : ∀ (ns : List Int) (vs : List Value), WellAll P h vs (ns.map WData.int) → IntsAre vs ns := by
  intro ns
  induction ns with
  | nil =>
    intro vs w
    rw [List.map_nil] at w
    cases w
    exact .nil
  | cons n ns ih =>
    intro vs w
    rw [List.map_cons] at w
    cases w with
    | cons a b =>
      cases a
      exact .cons _ _ (ih _ b)
theorem script_of {l : OpenLaw} {n : Nat} (hn : l.most = some n) {P : Params} {h : Heap} {args : List WData} {vals : List Value}
    (hpre : l.row.toRowW.claim.pre args = true) (hwl : WellAll P h vals args) :
    ∃ a vs ns, vals = [Value.ref a] ∧ args = [WData.list (ns.map WData.int)] ∧ h.get? a = some { cls := .type "list", data := .seq vs.toArray } ∧ IntsAre vs ns ∧ ns.length ≤ n := by
  have hsh : WShape.hasAll [] args [.list .int] = true := (pre_splitW hpre).1
  have hc : l.pre.holds [] { args := args } = true := (pre_splitW hpre).2
  obtain ⟨d, r, rfl, h1, h2⟩ := hasAllW_cons hsh
  obtain rfl := hasAllW_nil h2
  obtain ⟨xs, rfl, h3⟩ := hasW_list h1
  obtain ⟨ns, rfl⟩ := items_int h3
  have hlen : ns.length ≤ n := by
    unfold OpenLaw.pre at hc
    have h4 : (WTm.not (.lt (.lit (.int (n : Int))) (.len (.arg 0)))).holds [] { args := [.list (ns.map .int)] } = true := by
      have h4 := (holds_andW hc).1
      rw [hn] at h4
      exact h4
    have h5 := condW_of h4 (w_not (w_lt w_lit (w_len_list (w_arg rfl))))
    rw [List.length_map] at h5
    refine Nat.le_of_not_lt fun q => ?_
    have q' : (n : Int) < ((ns.length : Nat) : Int) := by omega
    first
      | (rw [decide_eq_true q'] at h5; exact absurd h5 (by decide))
      | (simp at h5; omega)
  cases hwl with
  | cons w1 w2 =>
    cases w2
    cases w1 with
    | list ho hall => exact ⟨_, _, ns, rfl, rfl, ho, ints_of_wellAll ns _ hall, hlen⟩
theorem post_true (l : OpenLaw) (args : List WData) : l.row.toRowW.claim.post args (.bool true) args = true :=
  postW_of (r := l.row.toRowW) (X := (true == true))
    (show WShape.has [] (.bool true) .bool = true by first | rfl | decide | simp [WShape.has, WShape.arms, WShape.armsAll])
    (show (WTm.eq .res (.lit (.bool true))).value [] { args := args, res := some (.bool true), after := args } = some (.bool (true == true)) from w_eq_bool (w_res rfl) w_lit) rfl
theorem attach_call {l : OpenLaw} {n : Nat} {q : Program} {loose : List Str} {XP : (Str → Option Value) → Heap → Prop} {YP : World → Heap → Prop} {d : DefRec}
    (hn : l.most = some n) (hdf : d.params.defaults = [])
    (call : ∀ (w : World) (s₀ s₁ : Shared) (mg mb : Str → Option Value) (fa : Addr) (o : Obj) (pm cd doc : Value) (a : Addr) (vs : List Value) (ns : List Int),
      Ground q loose [] XP w s₀ mg mb s₁.heap → YP w s₁.heap →
      s₁.heap.get? fa = some o → o.data = .func (docDef d.name d.params d.body d.scope pm cd doc) → s₁.heap.CodeRec cd d.name → mg d.name = some (.ref fa) →
      s₁.heap.get? a = some { cls := .type "list", data := .seq vs.toArray } → IntsAre vs ns → ns.length ≤ n → s₁.gens = #[] →
      codeAny (model l.prog w) callerA (.call (.ref fa) ⟨[.ref a], []⟩) (fun r s' => r = .ok (.ret (.bool true)) ∧ OldK s₁.heap s'.heap ∧ s'.os = s₁.os ∧ AllBare s'.gens) s₁) :
    WalkO q loose XP YP l.row.toRowW d [] (fun f vs => PySem.call f vs) := by
  intro w s₀ s₁ mg mb G Y fa o pm cd doc dV kV ho hd hcd hD hmg hg args vals as hpre hlay hrd hwl hlo
  obtain rfl : dV = .none := Dflts.none hD hdf
  obtain rfl : kV = .none := Dflts.noKw hD
  obtain ⟨a, vs, ns, rfl, rfl, hobj, hints, hlen⟩ := script_of hn hpre hwl
  refine enter_call (codeAny_mono (call w s₀ s₁ mg mb fa o pm cd doc a vs ns G Y ho (fd_plain hd) hcd hmg hobj hints hlen hg) fun r s' hq => ?_)
  obtain ⟨rfl, h2, h3, h4⟩ := hq
  exact ⟨.inl ⟨.bool true, .bool true, [], rfl, fun _ => rfl, .bool true, post_true l _, fun _ => ⟨List.Pairwise.nil, fun _ hm => (nomatch hm)⟩⟩, h2, h3, h4⟩
section
variable {prog : Program} {w : World} {A : Around} {E : Value → Shared → Prop} {s : Shared} {K : Frag}
def noObjs (h : Heap) : Heap := { h with objs := #[] }
def ledger (h : Heap) (L d : Addr) : List (Addr × Obj) := (List.range h.objs.size).filterMap fun a => if a = L ∨ a = d then none else (h.get? a).map fun o => (a, o)
end
end Att
namespace L2
open PySem PySem.Spec PyProof.Rows
theorem vals_ints : ∀ {vs : List Value} {ns : List Int}, IntsAre vs ns → Vals (ns.map V.int) vs
  | _, _, .nil => .nil
  | _, _, .cons n t h => .cons ⟨t, rfl⟩ (vals_ints h)
def Only (H : Hp) : Prop := ∀ b, H b = none ∨ ∃ o xs, H b = some (.frz o (.lst xs))
theorem law_call {P : Program} {w : World} {K : PySem.W.Frag} {mg mb : Str → Option Value} {CX : CXT} {k : Nat} {fa a : Addr} {fd : FuncData} {x : Str} {sp : Sp} {s₁ : Shared} {vs : List Value} {ns : List Int}
    (KX : K.In s₁.heap) (hns : s₁.heap.Ns mainGlobals mg) (hb : s₁.heap.Ns builtinsNs mb) (hbb : ∀ x : Str, x ≠ "__name__" → mb x = bootBuiltins x) (hlim : s₁.heap.NoLimit) (hg : s₁.gens = #[])
    (ha : s₁.heap.get? a = some { cls := .type "list", data := .seq vs.toArray }) (hi : IntsAre vs ns) (hl : ns.length ≤ sizeLine) (hr : Room k callerA)
    (F : ∀ base : Heap, K.In base → base.Ns mainGlobals mg → FnOk P w K mg base CX k fa fd [x] sp) (hbind : ∀ (s : Shared) (u : Value), BindsTo s fd ⟨[u], []⟩ [(x, u)])
    (hsp : ∀ H : Hp, Only H → SqL K H a (ns.map V.int) → sp [.ref a] H (fun v _ => v = .bl true) fun _ _ _ => False)
    (hCX : ∀ H e s', CX [] H s₁ (fun _ _ _ => False) e s' → False) :
    codeAny (model P w) callerA (.call (.ref fa) ⟨[.ref a], []⟩) (fun r s' => r = .ok (.ret (.bool true)) ∧ OldK s₁.heap s'.heap ∧ s'.os = s₁.os ∧ AllBare s'.gens) s₁ := by
  have rv := vals_ints hi
  have lenV := hi.length
  -- from an abstract heap in which nothing but the script may be tracked
  have core : ∀ H : Hp, Only H → SqL K H a (ns.map V.int) → HOk P w H s₁.heap → (∀ b, H b ≠ none → b = a) → (H a ≠ none → K.lookup a = none) →
      codeAny (model P w) callerA (.call (.ref fa) ⟨[.ref a], []⟩) (fun r s' => r = .ok (.ret (.bool true)) ∧ OldK s₁.heap s'.heap ∧ s'.os = s₁.os ∧ AllBare s'.gens) s₁ := by
    intro H hO hS hok hA hK
    have base_of : ∀ {b : Addr} {o : Obj}, s₁.heap.get? b = some o → H b = none → (hidT s₁.heap H).get? b = some o := fun e n => hidT_get e n
    have noA : ∀ {b : Addr} {o : Obj} {es : Array DictEntry} {ep : Nat}, s₁.heap.get? b = some o → o.data = .dict es ep → H b = none := fun {b o es ep} e d => by
      cases q : H b with
      | none => rfl
      | some u =>
        have e' : b = a := hA b (by rw [q]; simp)
        subst e'
        rw [ha] at e; cases e
        have d' : Data.seq vs.toArray _ = Data.dict es ep := d
        cases d'
    have nsK : ∀ {b : Addr} {m : Str → Option Value}, s₁.heap.Ns b m → (hidT s₁.heap H).Ns b m := fun {b m} ⟨o, es, ep, e, d, r⟩ => ⟨o, es, ep, base_of e (noA e d), d, r⟩
    have hKb : K.In (hidT s₁.heap H) := fun b o e => base_of (KX b o e) (by
      cases q : H b with
      | none => rfl
      | some u =>
        have e' : b = a := hA b (by rw [q]; simp)
        subst e'
        rw [hK (by rw [q]; simp)] at e; cases e)
    have hM : Mod K mg (hidT s₁.heap H) := ⟨hKb, nsK hns, ⟨mb, nsK hb, hbb⟩, let ⟨mc, h1, h2⟩ := hlim; ⟨mc, nsK h1, h2⟩⟩
    have e0 : Env0 P w K mg (hidT s₁.heap H) callerA [] s₁ H := ⟨rfl, hM, fun b o e => of_hidT e, Nat.le_of_eq (hidT_size _ _), trivial, fun b hb => absurd (show b ∈ ([] : List Addr) from hb) (by simp), hok, .of_eq hg⟩
    refine codeAny_mono ((F _ hKb (nsK hns)).run callerA [] s₁ H ⟨[.ref a], []⟩ [.ref a] [.ref a] _ _ hr e0 (hbind s₁ (.ref a)) (.cons rfl .nil) (hsp H hO hS)) fun r s' h => ?_
    cases r with
    | error e => exact (hCX H e s' h).elim
    | ok fl =>
      cases fl with
      | next => exact False.elim h
      | brk => exact False.elim h
      | cont => exact False.elim h
      | ret u =>
        obtain ⟨v, H', os, bare, un, hok', r', q⟩ := h
        have q' : v = .bl true := q
        subst q'
        obtain rfl : u = Value.bool true := r'
        refine ⟨rfl, OldK.of_keep fun b o e => ?_, os, bare⟩
        cases q : H b with
        | none => exact un.keep b o e q (by intro z; exact absurd (show b ∈ ([] : List Addr) from z) (by simp)) (by simp)
        | some u =>
          rcases hO b with z | ⟨ob, xs, z⟩
          · rw [q] at z; cases z
          · have z2 := un.frzs b ob _ z
            obtain ⟨e1, _⟩ := hok b _ z
            obtain ⟨e2, _⟩ := hok' b _ z2
            rw [e] at e1; cases e1
            exact e2
  cases hk : K.lookup a with
  | some o =>
    -- the script is one of the module's own objects
    have e := KX a o hk
    rw [ha] at e
    cases e
    refine core (fun _ => none) (fun _ => .inl rfl) (.inr ⟨_, vs.toArray, _, hk, rfl, rfl, rfl, by rw [List.size_toArray, lenV]; exact hl, by simpa using rv⟩) (fun b u z => by have z' : (none : Option HO) = some u := z; cases z') (fun b z => absurd rfl z) fun z => absurd rfl z
  | none =>
    refine core (fun b => if b = a then some (.frz { cls := .type "list", data := .seq vs.toArray } (.lst (ns.map V.int))) else none) (fun b => ?_) (.inl (.inr ⟨{ cls := .type "list", data := .seq vs.toArray }, if_pos rfl⟩)) (fun b u z => ?_) (fun b z => ?_) fun _ => hk
    · by_cases hb : b = a
      · exact .inr ⟨_, _, if_pos hb⟩
      · exact .inl (if_neg hb)
    · by_cases hb : b = a
      · have z' := (if_pos hb).symm.trans z
        cases z'
        subst hb
        exact ⟨ha, by rw [List.length_map]; exact hl, vs, _, rv, ha⟩
      · have z' := (if_neg hb).symm.trans z
        cases z'
    · by_cases hb : b = a
      · exact hb
      · exact absurd (if_neg hb) z
end L2
namespace L2
open PySem PySem.Spec PyProof.Rows
abbrev KOf {K : PySem.W.Frag} {h : Heap} (_ : K.In h) : PySem.W.Frag := K
theorem walk_of {l : PySem.W.OpenLaw} {n k : Nat} {q : Program} {loose : List Str} {XP : (Str → Option Value) → Heap → Prop} {YP : World → Heap → Prop} {d : DefRec} {K : Params → PySem.W.Frag} {CX : World → CXT} {sp : World → Sp} {x : Str}
    (hn : l.most = some n) (hn2 : n ≤ sizeLine) (hdf : d.params.defaults = []) (hr : Room k callerA)
    (hY : ∀ (w : World) (h : Heap), YP w h → (K w.params).In h)
    (F : ∀ (w : World) (mg : Str → Option Value) (fa : Addr) (h : Heap), (K w.params).In h → h.Ns mainGlobals mg → mg d.name = some (.ref fa) →
      ∃ fd : FuncData, (∀ (s : Shared) (u : Value), BindsTo s fd ⟨[u], []⟩ [(x, u)]) ∧
        ∀ base : Heap, (K w.params).In base → base.Ns mainGlobals mg → FnOk l.prog w (K w.params) mg base (CX w) k fa fd [x] (sp w))
    (hsp : ∀ (w : World) (H : Hp) (a : Addr) (ns : List Int), ns.length ≤ n → Only H → SqL (K w.params) H a (ns.map V.int) → sp w [.ref a] H (fun v _ => v = .bl true) fun _ _ _ => False)
    (hCX : ∀ (w : World) (H : Hp) (s : Shared) (e : Value) (s' : Shared), CX w [] H s (fun _ _ _ => False) e s' → False) :
    PySem.W.WalkO q loose XP YP l.row.toRowW d [] (fun f vs => PySem.call f vs) := by
  refine Att.attach_call hn hdf fun w s₀ s₁ mg mb fa o pm cd doc a vs ns G Y ho hd hcd hmg hobj hints hlen hg => ?_
  have KX := hY w _ Y
  obtain ⟨fd, hb, hF⟩ := F w mg fa _ KX G.T.g hmg
  exact law_call KX G.T.g G.T.b G.T.builtins G.T.nolimit hg hobj hints (Nat.le_trans hlen hn2) hr hF hb (fun H hO hS => hsp w H a ns hlen hO hS) fun H e s' => hCX w H s₁ e s'
end L2
namespace L2
open PySem PySem.Spec PyProof.Rows
def inClass (s : Stmt) (j : Nat) : Stmt := match s with
  | .ClassDef _ _ _ body _ _ _ _ _ _ _ => body.getD j (.Pass ⟨0, 0, 0, 0⟩)
  | _ => .Pass ⟨0, 0, 0, 0⟩
def defArgs (s : Stmt) : Arguments := match s with
  | .FunctionDef _ a _ _ _ _ _ _ _ _ => a
  | _ => { posonlyargs := [], args := [], vararg := none, kwonlyargs := [], kw_defaults := [], kwarg := none, defaults := [] }
def defBody (s : Stmt) : List Stmt := match s with
  | .FunctionDef _ _ b _ _ _ _ _ _ _ => b
  | _ => []
def defScope (s : Stmt) : Scope := match s with
  | .FunctionDef _ _ _ _ _ _ sc _ _ _ => sc
  | _ => { kind := .function, names := [], isGenerator := false, isCoroutine := false }
abbrev CX0 : CXT := fun _ _ _ _ _ _ => False
abbrev E0 : XK := fun _ _ _ => False
theorem pass0 {X : Cx} : Passes CX0 X E0 := fun _ _ _ _ _ _ _ h => h.elim
structure Fun (K : PySem.W.Frag) (x qual : Str) (st : Stmt) (f : Addr) (fd : FuncData) : Prop where
  ex : ∃ (oc : Value) (od : Option Addr) (kV doc pm : Value) (an : Option Addr) (cdv ct : Value) (osl : Array (Option Value)),
    fd = PySem.W.fnOf x qual (defArgs st) (defBody st) (defScope st) .none kV doc pm an cdv ct ∧ K.lookup f = some ⟨oc, od, .func fd, osl⟩ ∧ PySem.W.codeIn K cdv qual = true
  kp : PySem.W.keepIn K (.ref f) = true
section
variable {P : Program} {w : World} {K : PySem.W.Frag} {mg : Str → Option Value} {base : Heap}
theorem Fun.ok {x qual : Str} {st : Stmt} {f : Addr} {fd : FuncData} {N ps : List Str} {k : Nat} {sp : Sp} (F : Fun K x qual st f fd) (S : FnScope N ps (defScope st)) (len : ∀ vs H Q E, sp vs H Q E → vs.length = ps.length)
    (hbody : ∀ (cdv : Value) (A : Around) (outer : List Env) (s : Shared) (H : Hp) (vs : List V) (Q : VK) (E : XK), Room k (A.deeper (envOfC qual (defScope st) s.heap.objs.size f cdv)) → sp vs H Q E →
      ∃ t, PSs (cxOf CX0 P w K mg base N qual (defScope st) f cdv A outer s H E).nox (defBody st) t ∧ t { nx := fun _ H' => Q .non H', rt := Q } (start N vs) H) : FnOk P w K mg base CX0 (k + 1) f fd ps sp := by
  obtain ⟨oc, od, kV, doc, pm, an, cdv, ct, osl, rfl, lk, hcd⟩ := F.ex
  refine fn_of lk hcd S len fun A outer s H vs Q E hr hsp => ?_
  obtain ⟨t, h, q⟩ := hbody cdv A outer s H vs Q E hr hsp
  exact ⟨t, h.nox, q⟩
theorem Fun.binds {x qual : Str} {st : Stmt} {f : Addr} {fd : FuncData} {ps : List Str} (F : Fun K x qual st f fd)
    (h : ∀ (kV doc pm : Value) (an : Option Addr) (cdv ct : Value) (us : List Value), us.length = ps.length → bindArgs (PySem.W.fnOf x qual (defArgs st) (defBody st) (defScope st) .none kV doc pm an cdv ct) ⟨us, []⟩ = pure (ps.zip us)) : Binds K fd ps [] := by
  obtain ⟨oc, od, kV, doc, pm, an, cdv, ct, osl, rfl, lk, hcd⟩ := F.ex
  exact .all (h kV doc pm an cdv ct)
theorem fun_mk {x qual : Str} {st : Stmt} {f : Addr} {oc : Value} {od an : Option Addr} {osl : Array (Option Value)} {kV doc pm cdv ct : Value} (l : K.lookup f = some ⟨oc, od, .func (PySem.W.fnOf x qual (defArgs st) (defBody st) (defScope st) .none kV doc pm an cdv ct), osl⟩)
    (c : PySem.W.codeIn K cdv qual = true) (k : PySem.W.keepIn K (.ref f) = true) : Fun K x qual st f (PySem.W.fnOf x qual (defArgs st) (defBody st) (defScope st) .none kV doc pm an cdv ct) := ⟨⟨oc, od, kV, doc, pm, an, cdv, ct, osl, rfl, l, c⟩, k⟩
end
section
variable {X : Cx}
theorem pv (i : Nat) {x : Str} {pos : Pos} (hN : X.N[i]? = some x := by rfl) (hv : Vis X.env.scope x := by first | exact Or.inl rfl | exact Or.inr (Or.inl rfl) | exact Or.inr (Or.inr rfl)) (hd : (x == ("__debug__" : Str)) = false := by decide)
    (hcd : (x == ("__classdict__" : Str)) = false := by decide) : PE X (.Name x pos) (tVar i) := pe_var hN hv hd hcd
end
def Same (H H' : Hp) : Prop := ∀ b o, H b = some o → H' b = some o
theorem Same.refl (H : Hp) : Same H H := fun _ _ h => h
theorem Same.trans {H H1 H2 : Hp} (a : Same H H1) (b : Same H1 H2) : Same H H2 := fun c o h => b c o (a c o h)
theorem Same.free {H H' : Hp} (e : Same H H') {l : Addr} (h : H' l = Option.none) : H l = Option.none := by
  cases q : H l with
  | none => rfl
  | some o =>
    rw [e l o q] at h
    cases h
theorem Same.seq {K : PySem.W.Frag} {H H' : Hp} {a : Addr} {xs : List V} (e : Same H H') (h : SqL K H a xs) : SqL K H' a xs := by
  rcases h with (h | ⟨o, h⟩) | h
  · exact .inl (.inl (e _ _ h))
  · exact .inl (.inr ⟨o, e _ _ h⟩)
  · exact .inr h
end L2
namespace My
structure Bd (k : Nat) (x : Int) : Prop where
  lt : x.natAbs < 2 ^ k
theorem Bd.mono {j k : Nat} {x : Int} (h : Bd j x) (e : j ≤ k) : Bd k x := ⟨Nat.lt_of_lt_of_le h.lt (Nat.pow_le_pow_right (by decide) e)⟩
theorem Bd.mul {j k : Nat} {x y : Int} (h : Bd j x) (g : Bd k y) : Bd (j + k) (x * y) := by
  refine ⟨?_⟩
  rw [Int.natAbs_mul, Nat.pow_add]
  exact Nat.mul_lt_mul_of_lt_of_lt h.lt g.lt
theorem Bd.add {j k : Nat} {x y : Int} (h : Bd j x) (g : Bd k y) : Bd (max j k + 1) (x + y) := by
  have h' := (h.mono (Nat.le_max_left j k)).lt
  have g' := (g.mono (Nat.le_max_right j k)).lt
  refine ⟨?_⟩
  rw [Nat.pow_succ]
  omega
theorem Bd.neg {k : Nat} {x : Int} (h : Bd k x) : Bd k (-x) := ⟨by have := h.lt; omega⟩
theorem Bd.sub {j k : Nat} {x y : Int} (h : Bd j x) (g : Bd k y) : Bd (max j k + 1) (x - y) := by
  rw [Int.sub_eq_add_neg]; exact h.add g.neg
theorem Bd.of_le {k : Nat} {x y : Int} (h : Bd k y) (e : x.natAbs ≤ y.natAbs) : Bd k x := ⟨Nat.lt_of_le_of_lt e h.lt⟩
theorem Bd.log2 {k : Nat} {x : Int} (h : Bd k x) (hk : 0 < k) : x.natAbs.log2 < k := by
  have h := h.lt
  by_cases z : x.natAbs = 0
  · rw [z]; simpa using hk
  · exact (Nat.log2_lt z).mpr h
theorem fmod_natAbs_lt (n : Int) {m : Int} (h : m ≠ 0) : (n.fmod m).natAbs < m.natAbs := by
  rcases Int.lt_or_gt_of_ne h with hm | hm
  · have e : n.fmod m = -((-n).fmod (-m)) := by
      rw [Int.fmod_def, Int.fmod_def, Int.neg_fdiv_neg]
      grind
    have h1 : 0 ≤ (-n).fmod (-m) := Int.fmod_nonneg_of_pos _ (by omega)
    have h2 : (-n).fmod (-m) < -m := Int.fmod_lt_of_pos _ (by omega)
    rw [e]; omega
  · have h1 : 0 ≤ n.fmod m := Int.fmod_nonneg_of_pos _ hm
    have h2 : n.fmod m < m := Int.fmod_lt_of_pos _ hm
    omega
theorem gcd_fmod (n m : Int) : Int.gcd m (n.fmod m) = Int.gcd n m := by
  rw [Int.fmod_def, Int.mul_comm, Int.gcd_sub_mul_right_right, Int.gcd_comm]
theorem gcd_emod (n m : Int) : Int.gcd m (n % m) = Int.gcd n m := by
  rw [Int.emod_def, Int.mul_comm, Int.gcd_sub_mul_right_right, Int.gcd_comm]
theorem gcd_zero (n : Int) : ((Int.gcd n 0 : Nat) : Int) = if n < 0 then -n else n := by
  rw [Int.gcd_zero_right]; split <;> omega
theorem gcd_abs (n m : Int) : Int.gcd (if n < 0 then -n else n) (if m < 0 then -m else m) = Int.gcd n m := by
  split <;> split <;> simp [Int.gcd_neg, Int.neg_gcd]
def sg (n d : Int) : Int := if d < 0 then -(Int.gcd n d : Int) else (Int.gcd n d : Int)
def nm (n d : Int) : Int := n.fdiv (sg n d)
def dn (n d : Int) : Int := d.fdiv (sg n d)
theorem gcd_pos {n d : Int} (h : d ≠ 0) : (0 : Int) < (Int.gcd n d : Int) := by
  have := Int.gcd_pos_of_ne_zero_right n h
  omega
theorem sg_dvd_n (n d : Int) : sg n d ∣ n := by
  unfold sg; split
  · exact Int.neg_dvd.mpr (Int.gcd_dvd_left n d)
  · exact Int.gcd_dvd_left n d
theorem sg_dvd_d (n d : Int) : sg n d ∣ d := by
  unfold sg; split
  · exact Int.neg_dvd.mpr (Int.gcd_dvd_right n d)
  · exact Int.gcd_dvd_right n d
theorem nm_mul (n d : Int) : sg n d * nm n d = n := Int.mul_fdiv_cancel' (sg_dvd_n n d)
theorem dn_mul (n d : Int) : sg n d * dn n d = d := Int.mul_fdiv_cancel' (sg_dvd_d n d)
theorem dn_pos {n d : Int} (h : d ≠ 0) : 0 < dn n d := by
  have e := dn_mul n d
  have g := gcd_pos (n := n) h
  unfold sg at e
  split at e
  · rename_i hd
    refine Int.not_le.mp fun hle => ?_
    have : 0 ≤ -(Int.gcd n d : Int) * dn n d := Int.mul_nonneg_of_nonpos_of_nonpos (by omega) hle
    omega
  · rename_i hd
    refine Int.not_le.mp fun hle => ?_
    have : (Int.gcd n d : Int) * dn n d ≤ 0 := Int.mul_nonpos_of_nonneg_of_nonpos (by omega) hle
    omega
theorem nm_dn {n d : Int} : nm n d * d = n * dn n d := by
  have e1 := nm_mul n d
  have e2 := dn_mul n d
  generalize sg n d = s at *
  generalize nm n d = a at *
  generalize dn n d = b at *
  subst e1 e2
  grind
theorem sg_natAbs (n d : Int) : (sg n d).natAbs = Int.gcd n d := by
  unfold sg; split <;> omega
theorem nm_dn_gcd {n d : Int} (h : d ≠ 0) : Int.gcd (nm n d) (dn n d) = 1 := by
  have e1 := nm_mul n d
  have e2 := dn_mul n d
  have e3 : Int.gcd (sg n d * nm n d) (sg n d * dn n d) = (sg n d).natAbs * Int.gcd (nm n d) (dn n d) := Int.gcd_mul_left _ _ _
  rw [e1, e2, sg_natAbs] at e3
  have g := Int.gcd_pos_of_ne_zero_right n h
  have : Int.gcd n d * 1 = Int.gcd n d * Int.gcd (nm n d) (dn n d) := by rw [Nat.mul_one]; exact e3
  exact (Nat.eq_of_mul_eq_mul_left g this).symm
theorem sg_le {n d : Int} (h : d ≠ 0) : (sg n d).natAbs ≤ d.natAbs := by
  rw [sg_natAbs]
  exact Nat.le_of_dvd (by omega) (Int.natAbs_dvd_natAbs.mpr (Int.gcd_dvd_right n d) |> fun z => by simpa using z)
structure IsNum (a b n d : Int) : Prop where
  pos : 0 < b
  low : Int.gcd a b = 1
  eq : a * d = n * b
theorem mul_ne {a b : Int} (ha : a ≠ 0) (hb : b ≠ 0) : a * b ≠ 0 := Int.mul_ne_zero ha hb
theorem IsNum.times {a b n d c e' m e : Int} (x : IsNum a b n d) (y : IsNum c e' m e) :
    IsNum (nm (a * c) (b * e')) (dn (a * c) (b * e')) (n * m) (d * e) := by
  have hb := x.pos; have he := y.pos; have e1 := x.eq; have e2 := y.eq
  have hne : b * e' ≠ 0 := mul_ne (by omega) (by omega)
  refine ⟨dn_pos hne, nm_dn_gcd hne, ?_⟩
  have e3 := nm_dn (n := a * c) (d := b * e')
  refine Int.eq_of_mul_eq_mul_left hne ?_
  generalize nm (a * c) (b * e') = u at *
  generalize dn (a * c) (b * e') = v at *
  grind
end My
namespace My
def det (a0 a1 a2 b0 b1 b2 c0 c1 c2 : Int) : Int := (a1 * b2 - a2 * b1) * c0 + (a2 * b0 - a0 * b2) * c1 + (a0 * b1 - a1 * b0) * c2
def sgn (n : Int) : Int := if 0 < n then 1 else if n < 0 then -1 else 0
theorem sgn_neg (n : Int) : sgn (-n) = 0 - sgn n := by
  unfold sgn
  rcases Int.lt_trichotomy n 0 with hn | hn | hn
  · rw [if_pos (by omega), if_neg (by omega), if_pos hn]; rfl
  · subst hn; rfl
  · rw [if_neg (by omega), if_pos (by omega), if_pos hn]; rfl
theorem det_swap (a0 a1 a2 b0 b1 b2 c0 c1 c2 : Int) : det b0 b1 b2 a0 a1 a2 c0 c1 c2 = -det a0 a1 a2 b0 b1 b2 c0 c1 c2 := by unfold det; grind
structure Alike (x y w x' y' w' : Int) : Prop where
  pos : 0 < w
  pos' : 0 < w'
  ex : x' * w = x * w'
  ey : y' * w = y * w'
def sg3 (x y w : Int) : Int := if w < 0 then -(Int.gcd (Int.gcd x w : Int) y : Int) else (Int.gcd (Int.gcd x w : Int) y : Int)
def sx (x y w : Int) : Int := x.fdiv (sg3 x y w)
def sy (x y w : Int) : Int := y.fdiv (sg3 x y w)
def sw (x y w : Int) : Int := w.fdiv (sg3 x y w)
theorem g3_pos {x y w : Int} (h : w ≠ 0) : (0 : Int) < (Int.gcd (Int.gcd x w : Int) y : Int) := by
  have h1 := gcd_pos (n := x) h
  have h2 : 0 < Int.gcd (Int.gcd x w : Int) y := Int.gcd_pos_of_ne_zero_left _ (by omega)
  omega
theorem g3_x (x y w : Int) : (Int.gcd (Int.gcd x w : Int) y : Int) ∣ x := Int.dvd_trans (Int.gcd_dvd_left _ _) (Int.gcd_dvd_left _ _)
theorem g3_w (x y w : Int) : (Int.gcd (Int.gcd x w : Int) y : Int) ∣ w := Int.dvd_trans (Int.gcd_dvd_left _ _) (Int.gcd_dvd_right _ _)
theorem g3_y (x y w : Int) : (Int.gcd (Int.gcd x w : Int) y : Int) ∣ y := Int.gcd_dvd_right _ _
theorem sg3_abs (x y w : Int) : (sg3 x y w).natAbs = Int.gcd (Int.gcd x w : Int) y := by unfold sg3; split <;> omega
theorem sg3_ne {x y w : Int} (h : w ≠ 0) : sg3 x y w ≠ 0 := by
  have := g3_pos (x := x) (y := y) h
  unfold sg3; split <;> omega
theorem sg3_dvd {x y w z : Int} (h : (Int.gcd (Int.gcd x w : Int) y : Int) ∣ z) : sg3 x y w ∣ z := by
  unfold sg3; split
  · exact Int.neg_dvd.mpr h
  · exact h
theorem sx_mul (x y w : Int) : sg3 x y w * sx x y w = x := Int.mul_fdiv_cancel' (sg3_dvd (g3_x x y w))
theorem sy_mul (x y w : Int) : sg3 x y w * sy x y w = y := Int.mul_fdiv_cancel' (sg3_dvd (g3_y x y w))
theorem sw_mul (x y w : Int) : sg3 x y w * sw x y w = w := Int.mul_fdiv_cancel' (sg3_dvd (g3_w x y w))
theorem sw_pos {x y w : Int} (h : w ≠ 0) : 0 < sw x y w := by
  have e := sw_mul x y w
  have g := g3_pos (x := x) (y := y) h
  unfold sg3 at e
  split at e
  · refine Int.not_le.mp fun hle => ?_
    have : 0 ≤ -(Int.gcd (Int.gcd x w : Int) y : Int) * sw x y w := Int.mul_nonneg_of_nonpos_of_nonpos (by omega) hle
    omega
  · refine Int.not_le.mp fun hle => ?_
    have : (Int.gcd (Int.gcd x w : Int) y : Int) * sw x y w ≤ 0 := Int.mul_nonpos_of_nonneg_of_nonpos (by omega) hle
    omega
theorem le_of_mul {s a b : Int} (h : s ≠ 0) (e : s * a = b) : a.natAbs ≤ b.natAbs := by
  have e := congrArg Int.natAbs e
  rw [Int.natAbs_mul] at e
  rw [← e]
  exact Nat.le_mul_of_pos_left _ (by omega)
theorem sx_le {x y w : Int} (h : w ≠ 0) : (sx x y w).natAbs ≤ x.natAbs := le_of_mul (sg3_ne h) (sx_mul x y w)
theorem sy_le {x y w : Int} (h : w ≠ 0) : (sy x y w).natAbs ≤ y.natAbs := le_of_mul (sg3_ne h) (sy_mul x y w)
theorem sw_le {x y w : Int} (h : w ≠ 0) : (sw x y w).natAbs ≤ w.natAbs := le_of_mul (sg3_ne h) (sw_mul x y w)
theorem sg3_le {x y w : Int} (h : w ≠ 0) : (sg3 x y w).natAbs ≤ w.natAbs := by
  rw [sg3_abs]
  exact Nat.le_of_dvd (by omega) (Int.natAbs_dvd_natAbs.mpr (g3_w x y w) |> fun z => by simpa using z)
theorem sx_like {x y w : Int} (h : w ≠ 0) : sx x y w * w = x * sw x y w := by
  have e1 := sx_mul x y w; have e2 := sw_mul x y w
  generalize sg3 x y w = s at *; generalize sx x y w = a at *; generalize sw x y w = b at *
  subst e1 e2; grind
theorem sy_like {x y w : Int} (h : w ≠ 0) : sy x y w * w = y * sw x y w := by
  have e1 := sy_mul x y w; have e2 := sw_mul x y w
  generalize sg3 x y w = s at *; generalize sy x y w = a at *; generalize sw x y w = b at *
  subst e1 e2; grind
end My
namespace My
structure Low (x y w : Int) : Prop where
  pos : 0 < w
  low : Int.gcd (Int.gcd x w : Int) y = 1
theorem dvd_low {x y w z : Int} (h : Int.gcd (Int.gcd x w : Int) y = 1) {k : Int} (h1 : k ∣ x * z) (h2 : k ∣ w * z) (h3 : k ∣ y * z) : k ∣ z := by
  have e1 : k.natAbs ∣ Int.gcd (x * z) (w * z) := Int.dvd_gcd (Int.natAbs_dvd.mpr h1) (Int.natAbs_dvd.mpr h2)
  rw [Int.gcd_mul_right] at e1
  have e2 : k ∣ (Int.gcd x w : Int) * z := by
    have : (k.natAbs : Int) ∣ ((Int.gcd x w * z.natAbs : Nat) : Int) := Int.natCast_dvd_natCast.mpr e1
    have h4 : k ∣ ((Int.gcd x w * z.natAbs : Nat) : Int) := Int.natAbs_dvd.mp this
    rw [Int.natCast_mul] at h4
    rcases Int.natAbs_eq z with hz | hz
    · rw [hz]; exact h4
    · rw [hz, Int.mul_neg]; exact Int.dvd_neg.mpr h4
  have e3 : k.natAbs ∣ Int.gcd ((Int.gcd x w : Int) * z) (y * z) := Int.dvd_gcd (Int.natAbs_dvd.mpr e2) (Int.natAbs_dvd.mpr h3)
  rw [Int.gcd_mul_right, h, Nat.one_mul] at e3
  exact Int.natAbs_dvd_natAbs.mp e3
theorem low_unique {x y w x' y' w' : Int} (h : Low x y w) (h' : Low x' y' w') (ex : x * w' = x' * w) (ey : y * w' = y' * w) : x = x' ∧ y = y' ∧ w = w' := by
  have d1 : w ∣ w' := dvd_low h.low (k := w) (z := w') (by rw [ex]; exact Int.dvd_mul_left _ _) (Int.dvd_mul_right _ _) (by rw [ey]; exact Int.dvd_mul_left _ _)
  have d2 : w' ∣ w := dvd_low h'.low (k := w') (z := w) (by rw [← ex]; exact Int.dvd_mul_left _ _) (Int.dvd_mul_right _ _) (by rw [← ey]; exact Int.dvd_mul_left _ _)
  have p := h.pos; have p' := h'.pos
  have e : w = w' := Int.dvd_antisymm (by omega) (by omega) d1 d2
  subst e
  exact ⟨Int.eq_of_mul_eq_mul_right (by omega) ex, Int.eq_of_mul_eq_mul_right (by omega) ey, rfl⟩
theorem spot_low {x y w : Int} (h : w ≠ 0) : Low (sx x y w) (sy x y w) (sw x y w) := by
  refine ⟨sw_pos h, ?_⟩
  have e1 := sx_mul x y w; have e2 := sy_mul x y w; have e3 := sw_mul x y w
  have g := g3_pos (x := x) (y := y) h
  have ga := sg3_abs x y w
  generalize sg3 x y w = s at *
  generalize sx x y w = a at *
  generalize sy x y w = b at *
  generalize sw x y w = c at *
  have q : Int.gcd (Int.gcd x w : Int) y = s.natAbs * Int.gcd (Int.gcd a c : Int) b := by
    rw [← e1, ← e2, ← e3, Int.gcd_mul_left]
    have : ((s.natAbs * Int.gcd a c : Nat) : Int) = (s.natAbs : Int) * (Int.gcd a c : Int) := Int.natCast_mul _ _
    rw [this]
    have e4 : Int.gcd ((s.natAbs : Int) * (Int.gcd a c : Int)) (s * b) = Int.gcd ((s.natAbs : Int) * (Int.gcd a c : Int)) ((s.natAbs : Int) * b) := by
      rcases Int.natAbs_eq s with hs | hs
      · rw [← hs]
      · have : s * b = -((s.natAbs : Int) * b) := by rw [← Int.neg_mul, ← hs]
        rw [this, Int.gcd_neg]
    rw [e4, Int.gcd_mul_left]
    simp
  rw [← ga] at q
  have : s.natAbs * 1 = s.natAbs * Int.gcd (Int.gcd a c : Int) b := by rw [Nat.mul_one]; exact q
  exact (Nat.eq_of_mul_eq_mul_left (by omega) this).symm
theorem spot_eq {x y w x' y' w' : Int} (h : w ≠ 0) (h' : w' ≠ 0) (ex : x * w' = x' * w) (ey : y * w' = y' * w) : sx x y w = sx x' y' w' ∧ sy x y w = sy x' y' w' ∧ sw x y w = sw x' y' w' := by
  refine low_unique (spot_low h) (spot_low h') ?_ ?_
  · have a := sx_like (x := x) (y := y) h; have b := sx_like (x := x') (y := y') h'
    refine Int.eq_of_mul_eq_mul_left (mul_ne h h') ?_
    generalize sx x y w = p at *; generalize sw x y w = q at *; generalize sx x' y' w' = p' at *; generalize sw x' y' w' = q' at *
    grind
  · have a := sy_like (x := x) (y := y) h; have b := sy_like (x := x') (y := y') h'
    refine Int.eq_of_mul_eq_mul_left (mul_ne h h') ?_
    generalize sy x y w = p at *; generalize sw x y w = q at *; generalize sy x' y' w' = p' at *; generalize sw x' y' w' = q' at *
    grind
theorem low_own {x y w : Int} (h : Low x y w) : sx x y w = x ∧ sy x y w = y ∧ sw x y w = w := by
  have hp := h.pos
  exact low_unique (spot_low (by omega)) h (sx_like (by omega)) (sy_like (by omega))
theorem gcd3_comm (x y w : Int) : Int.gcd (Int.gcd x y : Int) w = Int.gcd (Int.gcd x w : Int) y := by
  have a : ∀ p q r : Int, Int.gcd (Int.gcd p q : Int) r = Int.gcd p (Int.gcd q r : Int) := fun p q r => Int.gcd_assoc p q r
  rw [a, a, Int.gcd_comm y w]
theorem lowest_pos {x y w : Int} (h : 0 < w) : x / (Int.gcd (Int.gcd x y : Int) w : Int) = sx x y w ∧ y / (Int.gcd (Int.gcd x y : Int) w : Int) = sy x y w ∧ w / (Int.gcd (Int.gcd x y : Int) w : Int) = sw x y w := by
  have g := g3_pos (x := x) (y := y) (w := w) (by omega)
  have e : sg3 x y w = (Int.gcd (Int.gcd x y : Int) w : Int) := by unfold sg3; rw [if_neg (by omega), gcd3_comm]
  have g' : (0 : Int) ≤ (Int.gcd (Int.gcd x y : Int) w : Int) := by rw [gcd3_comm]; omega
  unfold sx sy sw
  rw [e]
  exact ⟨(Int.fdiv_eq_ediv_of_nonneg _ g').symm, (Int.fdiv_eq_ediv_of_nonneg _ g').symm, (Int.fdiv_eq_ediv_of_nonneg _ g').symm⟩
theorem lowest_neg {x y w : Int} (h : w < 0) : (0 - x) / (Int.gcd (Int.gcd (0 - x) (0 - y) : Int) (0 - w) : Int) = sx x y w ∧ (0 - y) / (Int.gcd (Int.gcd (0 - x) (0 - y) : Int) (0 - w) : Int) = sy x y w ∧ (0 - w) / (Int.gcd (Int.gcd (0 - x) (0 - y) : Int) (0 - w) : Int) = sw x y w := by
  obtain ⟨a, b, c⟩ := lowest_pos (x := 0 - x) (y := 0 - y) (w := 0 - w) (by omega)
  rw [a, b, c]
  exact spot_eq (by omega) (by omega) (by grind) (by grind)
end My
namespace My
def ahd (p0 p1 p2 q0 q1 q2 : Int) : Bool := if p0 * q2 = q0 * p2 then decide (p1 * q2 < q1 * p2) else decide (p0 * q2 < q0 * p2)
def onS (c0 c1 c2 a0 a1 a2 b0 b1 b2 : Int) : Bool := if det a0 a1 a2 b0 b1 b2 c0 c1 c2 = 0 then (if ahd a0 a1 a2 b0 b1 b2 = true then !ahd c0 c1 c2 a0 a1 a2 && !ahd b0 b1 b2 c0 c1 c2 else !ahd c0 c1 c2 b0 b1 b2 && !ahd a0 a1 a2 c0 c1 c2) else false
theorem sgn_zero {n : Int} (h : sgn n = 0) : n = 0 := by
  unfold sgn at h
  split at h
  · cases h
  · split at h
    · cases h
    · omega
def m0 (a0 a1 a2 b0 b1 b2 c0 c1 c2 d0 d1 d2 : Int) : Int := (a2 * b0 - a0 * b2) * (c0 * d1 - c1 * d0) - (a0 * b1 - a1 * b0) * (c2 * d0 - c0 * d2)
def m1 (a0 a1 a2 b0 b1 b2 c0 c1 c2 d0 d1 d2 : Int) : Int := (a0 * b1 - a1 * b0) * (c1 * d2 - c2 * d1) - (a1 * b2 - a2 * b1) * (c0 * d1 - c1 * d0)
def m2 (a0 a1 a2 b0 b1 b2 c0 c1 c2 d0 d1 d2 : Int) : Int := (a1 * b2 - a2 * b1) * (c2 * d0 - c0 * d2) - (a2 * b0 - a0 * b2) * (c1 * d2 - c2 * d1)
section
variable (a0 a1 a2 b0 b1 b2 c0 c1 c2 d0 d1 d2 : Int)
def u0 : Int := b0 * (a2 * c2 * d2) - a0 * (b2 * c2 * d2)
def u1 : Int := b1 * (a2 * c2 * d2) - a1 * (b2 * c2 * d2)
def v0 : Int := d0 * (a2 * b2 * c2) - c0 * (a2 * b2 * d2)
def v1 : Int := d1 * (a2 * b2 * c2) - c1 * (a2 * b2 * d2)
def z0 : Int := c0 * (a2 * b2 * d2) - a0 * (b2 * c2 * d2)
def z1 : Int := c1 * (a2 * b2 * d2) - a1 * (b2 * c2 * d2)
end
section
variable {a0 a1 a2 b0 b1 b2 c0 c1 c2 d0 d1 d2 : Int}
theorem whole_eq : (b0 * (a2 * c2 * d2) - a0 * (b2 * c2 * d2)) * (d1 * (a2 * b2 * c2) - c1 * (a2 * b2 * d2)) - (b1 * (a2 * c2 * d2) - a1 * (b2 * c2 * d2)) * (d0 * (a2 * b2 * c2) - c0 * (a2 * b2 * d2)) = (a2 * b2 * c2 * d2) * m2 a0 a1 a2 b0 b1 b2 c0 c1 c2 d0 d1 d2 := by
  unfold m2; grind
theorem t1_eq : -((c0 * (a2 * b2 * d2) - a0 * (b2 * c2 * d2)) * (b1 * (a2 * c2 * d2) - a1 * (b2 * c2 * d2)) - (c1 * (a2 * b2 * d2) - a1 * (b2 * c2 * d2)) * (b0 * (a2 * c2 * d2) - a0 * (b2 * c2 * d2))) = (a2 * b2 * c2 * d2 * d2) * det a0 a1 a2 b0 b1 b2 c0 c1 c2 := by
  unfold det; grind
theorem b1_eq : (c0 * (a2 * b2 * d2) - a0 * (b2 * c2 * d2)) * (d1 * (a2 * b2 * c2) - c1 * (a2 * b2 * d2)) - (c1 * (a2 * b2 * d2) - a1 * (b2 * c2 * d2)) * (d0 * (a2 * b2 * c2) - c0 * (a2 * b2 * d2)) = (a2 * b2 * c2 * d2 * b2) * det c0 c1 c2 d0 d1 d2 a0 a1 a2 := by
  unfold det; grind
theorem t2_eq : c2 * det a0 a1 a2 b0 b1 b2 d0 d1 d2 - d2 * det a0 a1 a2 b0 b1 b2 c0 c1 c2 = m2 a0 a1 a2 b0 b1 b2 c0 c1 c2 d0 d1 d2 := by
  unfold det m2; grind
theorem b2_eq : b2 * det c0 c1 c2 d0 d1 d2 a0 a1 a2 - a2 * det c0 c1 c2 d0 d1 d2 b0 b1 b2 = m2 a0 a1 a2 b0 b1 b2 c0 c1 c2 d0 d1 d2 := by
  unfold det m2; grind
theorem cross_x : det c0 c1 c2 d0 d1 d2 a0 a1 a2 * b0 - det c0 c1 c2 d0 d1 d2 b0 b1 b2 * a0 = m0 a0 a1 a2 b0 b1 b2 c0 c1 c2 d0 d1 d2 := by
  unfold det m0; grind
theorem cross_y : det c0 c1 c2 d0 d1 d2 a0 a1 a2 * b1 - det c0 c1 c2 d0 d1 d2 b0 b1 b2 * a1 = m1 a0 a1 a2 b0 b1 b2 c0 c1 c2 d0 d1 d2 := by
  unfold det m1; grind
theorem cross_w : det c0 c1 c2 d0 d1 d2 a0 a1 a2 * b2 - det c0 c1 c2 d0 d1 d2 b0 b1 b2 * a2 = m2 a0 a1 a2 b0 b1 b2 c0 c1 c2 d0 d1 d2 := by
  unfold det m2; grind
theorem m_swap : m0 c0 c1 c2 d0 d1 d2 a0 a1 a2 b0 b1 b2 = -m0 a0 a1 a2 b0 b1 b2 c0 c1 c2 d0 d1 d2 ∧ m1 c0 c1 c2 d0 d1 d2 a0 a1 a2 b0 b1 b2 = -m1 a0 a1 a2 b0 b1 b2 c0 c1 c2 d0 d1 d2 ∧ m2 c0 c1 c2 d0 d1 d2 a0 a1 a2 b0 b1 b2 = -m2 a0 a1 a2 b0 b1 b2 c0 c1 c2 d0 d1 d2 := by
  unfold m0 m1 m2; grind
theorem m_back : m0 b0 b1 b2 a0 a1 a2 c0 c1 c2 d0 d1 d2 = -m0 a0 a1 a2 b0 b1 b2 c0 c1 c2 d0 d1 d2 ∧ m1 b0 b1 b2 a0 a1 a2 c0 c1 c2 d0 d1 d2 = -m1 a0 a1 a2 b0 b1 b2 c0 c1 c2 d0 d1 d2 ∧ m2 b0 b1 b2 a0 a1 a2 c0 c1 c2 d0 d1 d2 = -m2 a0 a1 a2 b0 b1 b2 c0 c1 c2 d0 d1 d2 := by
  unfold m0 m1 m2; grind
theorem spot_neg {x y w : Int} (h : w ≠ 0) : sx (-x) (-y) (-w) = sx x y w ∧ sy (-x) (-y) (-w) = sy x y w ∧ sw (-x) (-y) (-w) = sw x y w :=
  spot_eq (by omega) h (by grind) (by grind)
theorem law_cross_x : (a0 * (b2 * c2 * d2)) * ((a2 * b2 * c2 * d2) * m2 a0 a1 a2 b0 b1 b2 c0 c1 c2 d0 d1 d2) + (b0 * (a2 * c2 * d2) - a0 * (b2 * c2 * d2)) * ((a2 * b2 * c2 * d2 * b2) * det c0 c1 c2 d0 d1 d2 a0 a1 a2) = (a2 * b2 * c2 * d2) * (a2 * b2 * c2 * d2) * m0 a0 a1 a2 b0 b1 b2 c0 c1 c2 d0 d1 d2 := by
  unfold det m0 m2; grind
theorem law_cross_y : (a1 * (b2 * c2 * d2)) * ((a2 * b2 * c2 * d2) * m2 a0 a1 a2 b0 b1 b2 c0 c1 c2 d0 d1 d2) + (b1 * (a2 * c2 * d2) - a1 * (b2 * c2 * d2)) * ((a2 * b2 * c2 * d2 * b2) * det c0 c1 c2 d0 d1 d2 a0 a1 a2) = (a2 * b2 * c2 * d2) * (a2 * b2 * c2 * d2) * m1 a0 a1 a2 b0 b1 b2 c0 c1 c2 d0 d1 d2 := by
  unfold det m1 m2; grind
end
end My
namespace L2
open PySem PySem.Spec PyProof.Rows
section
variable {X : Cx} {a b : Expr} {ta tb : TE} {pos : Pos}
theorem op_mulB : OpR X (binaryOp .Mult) (rI IntMulOk fun i j => .int (i * j)) := opI fun _ _ _ _ _ _ _ hc q => mul_int q hc
def CDivB (_i j : Int) : Prop := j ≠ 0 ∧ j.natAbs.log2 < 9000
def CDivP (_i j : Int) : Prop := 0 < j ∧ j.natAbs.log2 < 9000
theorem op_fdivB : OpR X (binaryOp .FloorDiv) (rI CDivB fun i j => .int (i.fdiv j)) := opI fun _ _ _ _ _ _ _ hc q => floordiv_int hc.1 q (.inl (PyProof.noPylong_of_log2 hc.2))
theorem call_isinst : CallR X (.builtin "isinstance") (fun xs H Q => ∃ x n t k, xs = [x, .ty n] ∧ TyOf X.K H x t ∧ PySem.W.kitOne X.K t (.type n) = some k ∧ Q (.bl k) H) := by
  intro pins s σ H xs us Q I r h
  obtain ⟨x, n, t, k, rfl, ty, e, q⟩ := h
  obtain ⟨u, w', rfl, rx, rc⟩ := vals2 r
  cases (show w' = Value.type n from rc)
  exact isinst_ok I rx ty e fun tk => ⟨.bl k, H, I.tok tk, rfl, q⟩
def eAt (xs ys : List V) (j : Nat) : Bool := match xs[j]?, ys[j]? with
  | some x, some y => eqV x y
  | _, _ => false
def eqT (xs ys : List V) : Bool := (List.range (min xs.length ys.length)).all (eAt xs ys) && xs.length == ys.length
def rEqT (K : PySem.W.Frag) : R2 := fun x y H Q => ∃ a b xs ys, x = .ref a ∧ y = .ref b ∧ SqT K H a xs ∧ SqT K H b ys ∧ xs.all flatV = true ∧ ys.all flatV = true ∧ Q (.bl (eqT xs ys)) H
end
section
variable {X : Cx} {K : PySem.W.Frag}
end
theorem get_new {H : Hp} {p q : Addr} {x z : HO} (h : H p = some x) (hq : H q = none) : upd H q z p = some x := by
  rw [upd_ne (ne_of_none h hq)]; exact h
theorem same_new {H : Hp} {q : Addr} {z : HO} (hq : H q = none) : Same H (upd H q z) := fun _ _ h => get_new h hq
theorem Same.seqT {K : PySem.W.Frag} {H H' : Hp} {a : Addr} {xs : List V} (e : Same H H') (h : SqT K H a xs) : SqT K H' a xs := by
  rcases h with (h | ⟨o, h⟩) | h
  · exact .inl (.inl (e _ _ h))
  · exact .inl (.inr ⟨o, e _ _ h⟩)
  · exact .inr h
theorem len2 {us : List Value} {v : Value} (h : (us ++ [v]).length = 3) : ∃ a b, us = [a, b] := by
  match us, h with
  | [a, b], _ => exact ⟨a, b, rfl⟩
  | [], h => simp at h
  | [_], h => simp at h
  | _ :: _ :: _ :: _, h => simp at h
theorem len3' {us : List Value} (h : (us ++ []).length = 3) : ∃ a b c, us = [a, b, c] := by
  match us, h with
  | [a, b, c], _ => exact ⟨a, b, c, rfl⟩
  | [], h => simp at h
  | [_], h => simp at h
  | [_, _], h => simp at h
  | _ :: _ :: _ :: _ :: _, h => simp at h
structure FunD (K : PySem.W.Frag) (x qual : Str) (st : Stmt) (f : Addr) (fd : FuncData) : Prop where
  ex : ∃ (oc : Value) (od : Option Addr) (dV kV doc pm : Value) (an : Option Addr) (cdv ct : Value) (osl : Array (Option Value)),
    fd = PySem.W.fnOf x qual (defArgs st) (defBody st) (defScope st) dV kV doc pm an cdv ct ∧ K.lookup f = some ⟨oc, od, .func fd, osl⟩ ∧ PySem.W.codeIn K cdv qual = true
  kp : PySem.W.keepIn K (.ref f) = true
section
variable {P : Program} {w : World} {K : PySem.W.Frag} {mg : Str → Option Value} {base : Heap}
theorem FunD.ok {x qual : Str} {st : Stmt} {f : Addr} {fd : FuncData} {N ps : List Str} {k : Nat} {sp : Sp} (F : FunD K x qual st f fd) (S : FnScope N ps (defScope st)) (len : ∀ vs H Q E, sp vs H Q E → vs.length = ps.length)
    (hbody : ∀ (cdv : Value) (A : Around) (outer : List Env) (s : Shared) (H : Hp) (vs : List V) (Q : VK) (E : XK), Room k (A.deeper (envOfC qual (defScope st) s.heap.objs.size f cdv)) → sp vs H Q E →
      ∃ t, PSs (cxOf CX0 P w K mg base N qual (defScope st) f cdv A outer s H E).nox (defBody st) t ∧ t { nx := fun _ H' => Q .non H', rt := Q } (start N vs) H) : FnOk P w K mg base CX0 (k + 1) f fd ps sp := by
  obtain ⟨oc, od, dV, kV, doc, pm, an, cdv, ct, osl, rfl, lk, hcd⟩ := F.ex
  refine fn_of lk hcd S len fun A outer s H vs Q E hr hsp => ?_
  obtain ⟨t, h, q⟩ := hbody cdv A outer s H vs Q E hr hsp
  exact ⟨t, h.nox, q⟩
theorem fund_mk {x qual : Str} {st : Stmt} {f : Addr} {oc : Value} {od an : Option Addr} {osl : Array (Option Value)} {dV kV doc pm cdv ct : Value} (l : K.lookup f = some ⟨oc, od, .func (PySem.W.fnOf x qual (defArgs st) (defBody st) (defScope st) dV kV doc pm an cdv ct), osl⟩)
    (c : PySem.W.codeIn K cdv qual = true) (k : PySem.W.keepIn K (.ref f) = true) : FunD K x qual st f (PySem.W.fnOf x qual (defArgs st) (defBody st) (defScope st) dV kV doc pm an cdv ct) := ⟨⟨oc, od, dV, kV, doc, pm, an, cdv, ct, osl, rfl, l, c⟩, k⟩
end
end L2
namespace My
open PySem PyProof.Rows
theorem bits_le {k : Nat} {x : Int} (h : Bd k x) : PySem.Builtin.Int.intBits x ≤ k := by
  unfold PySem.Builtin.Int.intBits
  split
  · exact Nat.zero_le _
  · rename_i z
    have z' : x.natAbs ≠ 0 := by
      intro e
      apply z
      have : x = 0 := by omega
      rw [this]; rfl
    have := (Nat.log2_lt z').mpr h.lt
    omega
theorem mulOk {x y : Int} {j k : Nat} (hx : Bd j x) (hy : Bd k y) (h : (decide (j ≤ 100000) && decide (k ≤ 100000)) = true) : PySem.IntMulOk x y := by
  rw [Bool.and_eq_true, decide_eq_true_eq, decide_eq_true_eq] at h
  have e : (2 : Nat) ^ 20 = 1048576 := by decide
  exact PySem.IntMulOk.of_bits (by have := bits_le hx; omega) (by have := bits_le hy; omega)
theorem mulOkL {x y : Int} (h1 : -(2 ^ 64) < x) (h2 : x < 2 ^ 64) : PySem.IntMulOk x y := PySem.IntMulOk.of_left (PySem.intBits_le_64 h1 h2)
theorem mulOkR {x y : Int} (h1 : -(2 ^ 64) < y) (h2 : y < 2 ^ 64) : PySem.IntMulOk x y := PySem.IntMulOk.of_right (PySem.intBits_le_64 h1 h2)
end My
namespace L2
open PySem PySem.Spec PyProof.Rows
theorem bt_abs : bootBuiltins "abs" = some (.builtin "abs") := by decide +kernel
theorem bt_len : bootBuiltins "len" = some (.builtin "len") := by decide +kernel
theorem bt_max : bootBuiltins "max" = some (.builtin "max") := by decide +kernel
theorem bt_min : bootBuiltins "min" = some (.builtin "min") := by decide +kernel
theorem bt_isinstance : bootBuiltins "isinstance" = some (.builtin "isinstance") := by decide +kernel
theorem bt_int : bootBuiltins "int" = some (.type "int") := by decide +kernel
theorem bt_tuple : bootBuiltins "tuple" = some (.type "tuple") := by decide +kernel
def SB (p : Addr) (H H' : Hp) : Prop := ∀ b o, b ≠ p → H b = some o → H' b = some o
theorem SB.refl (p : Addr) (H : Hp) : SB p H H := fun _ _ _ h => h
theorem SB.trans {p : Addr} {H H1 H2 : Hp} (a : SB p H H1) (b : SB p H1 H2) : SB p H H2 := fun c o n h => b c o n (a c o n h)
theorem SB.put {p : Addr} {H : Hp} {o : HO} : SB p H (upd H p o) := fun _ _ n h => by rw [upd_ne n]; exact h
theorem SB.same {p : Addr} {H H' : Hp} (e : Same H H') : SB p H H' := fun b o _ h => e b o h
def Pl (H : Hp) (p : Addr) : Prop := ∃ a b : Int, H p = some (.lst [.int a, .int b]) ∧ 0 ≤ a ∧ 0 ≤ b
theorem Pl.same {H H' : Hp} {p : Addr} (h : Pl H p) (e : Same H H') : Pl H' p := by
  obtain ⟨a, b, q, r⟩ := h
  exact ⟨a, b, e _ _ q, r⟩
theorem Pl.new {H : Hp} {p : Addr} {a b : Int} (h1 : 0 ≤ a) (h2 : 0 ≤ b) : Pl (upd H p (.lst [.int a, .int b])) p := ⟨a, b, upd_same, h1, h2⟩
theorem divB {i j : Int} {k : Nat} (h0 : j ≠ 0) (h : My.Bd k j) (hk : (decide (0 < k) && decide (k ≤ 9000)) = true) : CDivB i j := by
  rw [Bool.and_eq_true, decide_eq_true_eq, decide_eq_true_eq] at hk
  exact ⟨h0, Nat.lt_of_lt_of_le (My.Bd.log2 h hk.1) hk.2⟩
end L2
namespace L2
open PySem PySem.Spec PyProof.Rows
def closOf (cells : List (Str × Addr)) : List (Str × NameKind) → List (Str × Addr) → List (Str × Addr)
  | [], cs => cs
  | (n, k) :: r, cs => closOf cells r (if k == .free then (match cells.lookup n with | some a => (n, a) :: cs | none => cs) else cs)
theorem clos_forIn {env : Env} : ∀ (names : List (Str × NameKind)) (cs : List (Str × Addr)), (∀ y ∈ names, y.2 = .free → ∃ c, env.cells.lookup y.1 = some c) →
    (forIn names cs (fun (x : Str × NameKind) (r : List (Str × Addr)) => (do
      if x.2 == .free then
        let a ← cellOf env x.1
        pure (ForInStep.yield ((x.1, a) :: r))
      else pure (ForInStep.yield r) : Sem (ForInStep (List (Str × Addr)))))) = (pure (closOf env.cells names cs) : Sem _)
  | [], cs, _ => rfl
  | (n, k) :: r, cs, h => by
    rw [List.forIn_cons]
    have hr : ∀ y ∈ r, y.2 = .free → ∃ c, env.cells.lookup y.1 = some c := fun y hy => h y (List.mem_cons_of_mem _ hy)
    by_cases hk : k = .free
    · subst hk
      obtain ⟨c, hc⟩ := h (n, .free) List.mem_cons_self rfl
      have hc' : env.cells.lookup n = some c := hc
      simp only [beq_self_eq_true, if_true, cellOf, hc', pure_bind, closOf]
      exact clos_forIn r _ hr
    · have hb : (k == NameKind.free) = false := by simpa using hk
      simp only [hb, Bool.false_eq_true, if_false, pure_bind, closOf]
      exact clos_forIn r _ hr
theorem closureFor_of {scope : Scope} {env : Env} (h : ∀ y ∈ scope.names, y.2 = .free → ∃ c, env.cells.lookup y.1 = some c) : closureFor scope env = pure (closOf env.cells scope.names []) := by
  have e := clos_forIn (env := env) scope.names [] h
  unfold closureFor
  simp only [bind_pure_comp] at e ⊢
  first
    | (simpa using e)
    | (rw [← e]; rfl)
theorem closOf_sub {cells : List (Str × Addr)} {x : Str} {c : Addr} : ∀ {names : List (Str × NameKind)} {cs : List (Str × Addr)}, (closOf cells names cs).lookup x = some c → (∀ c', cs.lookup x = some c' → cells.lookup x = some c') → cells.lookup x = some c
  | [], cs, h, hc => hc c h
  | (n, k) :: r, cs, h, hc => by
    refine closOf_sub (names := r) h fun c' hc' => ?_
    by_cases hk : (k == NameKind.free) = true
    · rw [if_pos hk] at hc'
      cases e : cells.lookup n with
      | none => rw [e] at hc'; exact hc c' hc'
      | some a =>
        rw [e] at hc'
        by_cases hx : x = n
        · subst hx
          simp only [List.lookup_cons, beq_self_eq_true] at hc'
          rw [e]; exact hc'
        · have hb : (x == n) = false := beq_eq_false_iff_ne.mpr hx
          simp only [List.lookup_cons, hb] at hc'
          exact hc c' hc'
    · rw [if_neg hk] at hc'
      exact hc c' hc'
theorem closOf_mono {cells : List (Str × Addr)} {x : Str} : ∀ {names : List (Str × NameKind)} {cs : List (Str × Addr)}, (∃ c, cs.lookup x = some c) → ∃ c, (closOf cells names cs).lookup x = some c
  | [], _, h => h
  | (n, k) :: r, cs, h => by
    refine closOf_mono (names := r) ?_
    split
    · split
      · rename_i a _
        by_cases hx : x = n
        · subst hx; exact ⟨a, by simp⟩
        · have hb : (x == n) = false := beq_eq_false_iff_ne.mpr hx
          simpa [List.lookup_cons, hb] using h
      · exact h
    · exact h
theorem closOf_has {cells : List (Str × Addr)} {x : Str} : ∀ {names : List (Str × NameKind)} {cs : List (Str × Addr)}, (x, NameKind.free) ∈ names → (∃ c, cells.lookup x = some c) → ∃ c, (closOf cells names cs).lookup x = some c
  | [], _, h, _ => nomatch h
  | (n, k) :: r, cs, h, hc => by
    rcases List.mem_cons.mp h with e | h
    · cases e
      refine closOf_mono (names := r) ?_
      obtain ⟨c, hc⟩ := hc
      rw [if_pos (by rfl), hc]
      exact ⟨c, by simp⟩
    · exact closOf_has (names := r) h hc
theorem compLoop_own {prog : Program} {w : World} {A : Around} {R : Result → Shared → Prop} {s : Shared} {elt target iter : Expr} {ifs : List Expr} {scope : Scope} {pos : Pos} {it acc : Value} {env : Env} (I : Nat → Shared → Prop)
    (turn : ∀ n s, I n s → wpAny (model prog w) A (pyNext it) (fun r s₁ => match r with
      | none => R (.ok .next) s₁
      | some v => wpAny (model prog w) A (letOwnedTupleGo target it v) (fun _ s₀ => wpAny (model prog w) A (assign target env v) (fun _ s₂ =>
          wpAny (model prog w) A (forIn ifs true fun c r => if r = true then do let ok ← isTrue c env (eval c env); pure (ForInStep.yield ok) else pure (ForInStep.yield r)) (fun ok s₃ =>
            if ok = true then wpAny (model prog w) A (eval elt env) (fun x s₄ =>
              wpAny (model prog w) A (call (.builtin "list.append") [acc, x]) (fun _ s₅ => ∃ m, m < n ∧ I m s₅) (fun _ _ => False) s₄) (fun _ _ => False) s₃
            else ∃ m, m < n ∧ I m s₃) (fun _ _ => False) s₂) (fun _ _ => False) s₀) (fun _ _ => False) s₁) (fun _ _ => False) s)
    (n : Nat) (h : I n s) :
    codeAny (model prog w) A (.compLoop (.ListComp elt [⟨target, iter, ifs, 0⟩] scope pos) 0 it acc env) R s := by
  refine codeAny_loop rfl I (fun n s hI => ?_) n h
  show wpAny _ A ((compTurn (.ListComp elt [⟨target, iter, ifs, 0⟩] scope pos) 0 it acc env).onRaise (fun x => do noteFrame x env; theTreesLotGoes x)) _ _ s
  refine wpAny_noted ?_
  rw [compTurn_list]
  refine wpAny_bind (wpAny_standAt (wpAny_bind (wpAny_mono (turn n s hI) (fun r s₁ h₁ => ?_) fun _ _ h' => h'.elim)))
  cases r with
  | none => exact wpAny_pure h₁
  | some v =>
    refine wpAny_bind (wpAny_mono h₁ (fun _ s₀ h₀ => ?_) fun _ _ h' => h'.elim)
    refine wpAny_bind (wpAny_mono h₀ (fun _ s₂ h₂ => wpAny_bind (wpAny_mono h₂ (fun ok s₃ h₃ => ?_) fun _ _ h' => h'.elim)) fun _ _ h' => h'.elim)
    cases ok with
    | false => exact wpAny_pure ⟨rfl, h₃⟩
    | true =>
      exact wpAny_bind (wpAny_bind (wpAny_mono h₃ (fun x s₄ h₄ => wpAny_bind (wpAny_mono h₄ (fun _ s₅ h₅ => wpAny_pure (wpAny_pure ⟨rfl, h₅⟩)) fun _ _ h' => h'.elim)) fun _ _ h' => h'.elim))
abbrev Cx.blk (X : Cx) (scope : Scope) (C : Addr) (N' : List Str) (s₀ : Shared) (H₀ : Hp) (fp : List Addr) : Cx :=
  { X with N := N', s₀ := s₀, H₀ := H₀, env := compEnvC scope (closOf X.env.cells scope.names []) C X.env, outer := X.stack, ex := fp, fn := fun _ => false, pn := [], xe := fun _ _ => False }
def tau (σ : St) (cap : List (Option Nat)) : St := cap.map fun o => match o with
  | some i => (match σ[i]? with | some v => v | none => none)
  | none => none
structure BlkOk (X : Cx) (scope : Scope) (N' : List Str) (cap : List (Option Nat)) : Prop where
  kind : scope.kind = .function
  ncell : ∀ y ∈ scope.names, y.2 ≠ .cell
  names : ∀ y ∈ scope.names, y.2 = .local → scope.names.lookup y.1 = some .local
  frees : ∀ y ∈ scope.names, y.2 = .free → X.env.kindOf y.1 = some .cell ∨ X.env.kindOf y.1 = some .free
  len : cap.length = N'.length
  caps : ∀ (j i : Nat) (x : Str), cap[j]? = some (some i) → N'[j]? = some x → X.N[i]? = some x ∧ (x, NameKind.free) ∈ scope.names
  vis : ∀ (j i : Nat) (x : Str), cap[j]? = some (some i) → N'[j]? = some x → Vis X.env.scope x
  un : ∀ (j i : Nat) (x : Str), cap[j]? = some (some i) → N'[j]? = some x → ∀ z ∈ scope.names, z.1 = x → z.2 = .free
def capOk (sc scope : Scope) (NN : List Str) : List Str → List (Option Nat) → Bool
  | [], [] => true
  | _ :: N, none :: c => capOk sc scope NN N c
  | x :: N, some i :: c => decide (NN[i]? = some x) && decide ((x, NameKind.free) ∈ scope.names) && (decide (sc.names.lookup x = some .local) || decide (sc.names.lookup x = some .cell) || decide (sc.names.lookup x = some .free)) && decide (∀ z ∈ scope.names, z.1 = x → z.2 = .free) && capOk sc scope NN N c
  | _, _ => false
theorem capOk_len {sc scope : Scope} {NN : List Str} : ∀ {N' : List Str} {cap : List (Option Nat)}, capOk sc scope NN N' cap = true → cap.length = N'.length
  | [], [], _ => rfl
  | _ :: _, none :: _, h => congrArg (· + 1) (capOk_len (by simpa only [capOk] using h))
  | _ :: _, some _ :: _, h => congrArg (· + 1) (capOk_len (by simp only [capOk, Bool.and_eq_true] at h; exact h.2))
  | [], _ :: _, h => by simp [capOk] at h
  | _ :: _, [], h => by simp [capOk] at h
theorem capOk_at {sc scope : Scope} {NN : List Str} : ∀ {N' : List Str} {cap : List (Option Nat)}, capOk sc scope NN N' cap = true → ∀ (j i : Nat) (x : Str), cap[j]? = some (some i) → N'[j]? = some x →
    NN[i]? = some x ∧ (x, NameKind.free) ∈ scope.names ∧ Vis sc x ∧ ∀ z ∈ scope.names, z.1 = x → z.2 = .free
  | [], [], _, j, i, x, e, _ => by simp at e
  | _ :: _, none :: _, h, 0, i, x, e, _ => by simp at e
  | _ :: _, none :: _, h, j + 1, i, x, e, e' => capOk_at (by simpa only [capOk] using h) j i x (by simpa using e) (by simpa using e')
  | y :: _, some k :: _, h, 0, i, x, e, e' => by
    simp only [List.getElem?_cons_zero, Option.some.injEq] at e e'
    subst e e'
    simp only [capOk, Bool.and_eq_true, Bool.or_eq_true, decide_eq_true_eq] at h
    obtain ⟨⟨⟨⟨h1, h2⟩, h3⟩, h4⟩, _⟩ := h
    refine ⟨h1, h2, ?_, h4⟩
    rcases h3 with (h3 | h3) | h3
    · exact .inl h3
    · exact .inr (.inl h3)
    · exact .inr (.inr h3)
  | _ :: _, some _ :: _, h, j + 1, i, x, e, e' => capOk_at (by simp only [capOk, Bool.and_eq_true] at h; exact h.2) j i x (by simpa using e) (by simpa using e')
  | [], _ :: _, h, _, _, _, _, _ => by simp [capOk] at h
  | _ :: _, [], h, _, _, _, _, _ => by simp [capOk] at h
theorem blk_mk {X : Cx} {sc scope : Scope} {NN N' : List Str} {cap : List (Option Nat)} (e : X.env.scope = sc) (eN : X.N = NN) (h1 : scope.kind = .function) (h2 : ∀ y ∈ scope.names, y.2 ≠ .cell) (h3 : ∀ y ∈ scope.names, y.2 = .local → scope.names.lookup y.1 = some .local)
    (h4 : ∀ y ∈ scope.names, y.2 = .free → sc.names.lookup y.1 = some .cell ∨ sc.names.lookup y.1 = some .free) (h5 : capOk sc scope NN N' cap = true) : BlkOk X scope N' cap := by
  subst e eN
  exact ⟨h1, h2, h3, h4, capOk_len h5, fun j i x a b => ⟨(capOk_at h5 j i x a b).1, (capOk_at h5 j i x a b).2.1⟩, fun j i x a b => (capOk_at h5 j i x a b).2.2.1, fun j i x a b => (capOk_at h5 j i x a b).2.2.2⟩
def tComp (wi : TI) (cap : List (Option Nat)) (g : TG) (tt : TT) (te : TE) : TE := fun σ H Q => wi σ H fun J H1 => ∀ l, H1 l = none →
  ∃ W : Nat → Nat → St → Hp → Prop, (∃ m, W 0 m (tau σ cap) (upd H1 l (.lst []))) ∧ ∀ i m τ H2, W i m τ H2 →
    (J.stop i H2 ∧ Q (.ref l) H2) ∨ (J.go i H2 ∧ ∃ N : St → Hp → Prop, (∀ τ' H', N τ' H' → ∃ m', m' < m ∧ W (i + 1) m' τ' H') ∧
      ∀ x H', J.yld i H2 x H' → g x τ H' fun τ2 H3 => tt τ2 H3 fun b H4 => if b = true then te τ2 H4 fun y H5 => ∃ ys, H5 l = some (.lst ys) ∧ ys.length < sizeLine ∧ N τ2 (upd H5 l (.lst (ys ++ [y]))) else N τ2 H4)
def tYes : TT := fun _ H Q => Q true H
def PIfs (X : Cx) (ifs : List Expr) (t : TT) : Prop :=
  ∀ (pins : List (Addr × Obj)) (s : Shared) (σ : St) (H : Hp) (Q : Bool → Hp → Prop), Inv X pins σ H s → t σ H Q →
    wpAny (model X.prog X.w) X.A (forIn ifs true fun c r => if r = true then do let ok ← isTrue c X.env (eval c X.env); pure (ForInStep.yield ok) else pure (ForInStep.yield r)) (TP X pins σ Q) X.xe s
theorem ifs_none {X : Cx} : PIfs X [] tYes := fun _ _ _ H _ I h => wpAny_tests_nil ⟨H, I, h⟩
section
variable {X : Cx} {x : Str} {px pos : Pos} {elt iter : Expr} {ifs : List Expr} {scope : Scope} {N' : List Str} {cap : List (Option Nat)} {wi : TI} {g : TG} {tt : TT} {te : TE}
theorem relabel_free {X : Cx} : ∀ {names : List (Str × NameKind)} {y : Str} {k : NameKind}, (names.map fun (n, k) => if (k == NameKind.free && X.env.scope.kind == .function && X.env.kindOf n == some .cell) then (n, NameKind.cell) else (n, k)).lookup y = some k →
    (k = .cell ∨ k = .free) → (∀ z ∈ names, z.2 ≠ .cell) → (y, NameKind.free) ∈ names
  | [], _, _, h, _, _ => by simp at h
  | (n, k0) :: r, y, k, h, hk, hc => by
    have hcr : ∀ z ∈ r, z.2 ≠ .cell := fun z hz => hc z (List.mem_cons_of_mem _ hz)
    have h0 : k0 ≠ .cell := hc (n, k0) List.mem_cons_self
    rw [List.map_cons] at h
    dsimp only at h
    by_cases hy : y = n
    · subst hy
      have : k0 = .free := by
        by_cases hf : k0 = .free
        · exact hf
        · exfalso
          have hb : (k0 == NameKind.free) = false := by simpa using hf
          simp only [hb, Bool.false_and, Bool.false_eq_true, if_false, List.lookup_cons, beq_self_eq_true] at h
          cases h
          rcases hk with e | e
          · exact h0 e
          · exact hf e
      subst this
      exact List.mem_cons_self
    · have hb : (y == n) = false := beq_eq_false_iff_ne.mpr hy
      have h' : (r.map fun (n, k) => if (k == NameKind.free && X.env.scope.kind == .function && X.env.kindOf n == some .cell) then (n, NameKind.cell) else (n, k)).lookup y = some k := by
        split at h <;> simpa only [List.lookup_cons, hb] using h
      exact List.mem_cons_of_mem _ (relabel_free (X := X) h' hk hcr)
theorem relabel_kind {X : Cx} : ∀ {names : List (Str × NameKind)} {y : Str}, (y, NameKind.free) ∈ names → (∀ z ∈ names, z.1 = y → z.2 = .free) → ∃ k, (k = NameKind.cell ∨ k = .free) ∧
    (names.map fun (n, k) => if (k == NameKind.free && X.env.scope.kind == .function && X.env.kindOf n == some .cell) then (n, NameKind.cell) else (n, k)).lookup y = some k
  | [], _, h, _ => nomatch h
  | (n, k0) :: r, y, h, hu => by
    rw [List.map_cons]
    dsimp only
    by_cases hy : y = n
    · subst hy
      have : k0 = .free := hu (y, k0) List.mem_cons_self rfl
      subst this
      split
      · exact ⟨.cell, .inl rfl, by simp⟩
      · exact ⟨.free, .inr rfl, by simp⟩
    · have hb : (y == n) = false := beq_eq_false_iff_ne.mpr hy
      have hm : (y, NameKind.free) ∈ r := by
        rcases List.mem_cons.mp h with e | h
        · cases e; exact absurd rfl hy
        · exact h
      obtain ⟨k, hk, e⟩ := relabel_kind (X := X) hm fun z hz => hu z (List.mem_cons_of_mem _ hz)
      refine ⟨k, hk, ?_⟩
      split <;> simpa only [List.lookup_cons, hb] using e
theorem inv_blk {pins : List (Addr × Obj)} {σ : St} {H : Hp} {s : Shared} {fp : List Addr} {h1 : Heap} {m : Str → Option Value} {t' : Nat} (B : BlkOk X scope N' cap)
    (I : Inv X pins σ H s) (hf : ∀ b ∈ fp, FpOk X pins H b) (ho : ∀ b ∈ fp, ∃ o, s.heap.get? b = some o) (keep : ∀ b o, s.heap.get? b = some o → h1.get? b = some o) (hns : h1.Ns s.heap.objs.size m) :
    Inv (X.blk scope s.heap.objs.size N' s H fp) [] (tau σ cap) H { s with heap := h1, toks := t' } := by
  have I1 : Inv X pins σ H { s with heap := h1, toks := t' } := I.kept keep
  have csub : ∀ y c, (closOf X.env.cells scope.names []).lookup y = some c → X.env.cells.lookup y = some c := fun y c h => closOf_sub h fun c' hc' => by simp at hc'
  refine ⟨⟨I.ok.mod, B.kind, I.ok.glob, I.ok.blt, Nat.le_refl _, fun y z c e1 e2 => I.ok.inj y z c (csub y c e1) (csub z c e2), fun y hy => ?_, fun y c e _ => absurd e (by simp), I.ok.hd, I.ok.frames, .inl rfl, fun b hb => ⟨?_, fun y c e => (hf b hb).2.2.2.2.1 y c (csub y c e)⟩, fun b o e => I.bs b o e, Nat.le_trans I.ok.bsz I.sz, fun b o e hb => ?_, fun b hb hs => ?_, I.stack, I.stkFree⟩,
    rfl, I.bare, Un.kept keep, ⟨m, hns, fun j y v e1 e2 e3 => ?_⟩, fun y c e => I1.cell y c (csub y c e), I.hok.fresh (Nat.le_refl _), fun y c e => I.freeC y c (csub y c e), fun p hp => absurd hp (by simp), I1.hok, ?_⟩
  · -- has
    have hy' : (y, NameKind.free) ∈ scope.names := by
      rcases hy with hy | hy
      · exact relabel_free (X := X) (k := .cell) hy (.inl rfl) B.ncell
      · exact relabel_free (X := X) (k := .free) hy (.inr rfl) B.ncell
    exact closOf_has hy' (I.ok.has y (B.frees (y, .free) hy' rfl))
  · -- fp below the block's frame
    obtain ⟨o, e⟩ := ho b hb
    exact Nat.ne_of_lt (Heap.lt_size e)
  · -- base
    rcases (hf b hb).2.2.2.1 with z | z
    · exact I.ok.noex b o e z
    · exact absurd (Nat.lt_of_lt_of_le (Heap.lt_size e) (Nat.le_trans I.ok.bsz z)) (Nat.lt_irrefl _)
  · -- frames
    rcases List.mem_cons.mp (I.stkSub b hs) with z | z
    · exact (hf b hb).2.1 z
    · exact (hf b hb).2.2.1 z
  · -- captured values
    have hc : ∃ i, cap[j]? = some (some i) ∧ σ[i]? = some (some v) := by
      unfold tau at e2
      rw [List.getElem?_map] at e2
      cases e : cap[j]? with
      | none => rw [e] at e2; cases e2
      | some o =>
        rw [e] at e2
        cases o with
        | none => simp at e2
        | some i =>
          refine ⟨i, rfl, ?_⟩
          simp only [Option.map_some, Option.some.injEq] at e2
          cases q : σ[i]? with
          | none => rw [q] at e2; cases e2
          | some w =>
            rw [q] at e2
            have e2' : w = some v := e2
            rw [e2']
    obtain ⟨i, hi, hv⟩ := hc
    obtain ⟨hN, hfree⟩ := B.caps j i y hi e1
    obtain ⟨m1, _, hl⟩ := I1.loc
    obtain ⟨u, r, l⟩ := hl i y v hN hv (B.vis j i y hi e1)
    refine ⟨u, r, .inr ?_⟩
    obtain ⟨k, hk, ek⟩ := relabel_kind (X := X) hfree (B.un j i y hi e1)
    have hcell : ∃ c, X.env.cells.lookup y = some c ∧ h1.IsCell c (some u) := by
      rcases l with ⟨k1, _⟩ | ⟨_, c, e, z⟩
      · rcases B.frees (y, .free) hfree rfl with q | q
        · rw [show X.env.kindOf y = some NameKind.local from k1] at q; cases q
        · rw [show X.env.kindOf y = some NameKind.local from k1] at q; cases q
      · exact ⟨c, e, z⟩
    obtain ⟨c, ec, zc⟩ := hcell
    obtain ⟨c', ec'⟩ := closOf_has (cs := []) hfree ⟨c, ec⟩
    have : c' = c := by have := csub y c' ec'; rw [ec] at this; cases this; rfl
    subst this
    refine ⟨?_, c', ec', zc⟩
    rcases hk with rfl | rfl
    · exact .inl ek
    · exact .inr ek
  · show (tau σ cap).length = N'.length
    unfold tau
    rw [List.length_map]; exact B.len
theorem comp_core {RR : Value → Addr → Result → Shared → Prop} {pins : List (Addr × Obj)} {σ : St} {H2 : Hp} {s2 : Shared} {it : Addr} {fp : List Addr} {tn : Nat → Heap → Prop} {J : It} {Q : VK} (B : BlkOk X scope N' cap) (hc : X.calm = true)
    (hg : ∀ C s₀ H₀ fp, PG (X.blk scope C N' s₀ H₀ fp) (.Name x px) g) (ht : ∀ C s₀ H₀ fp, PIfs (X.blk scope C N' s₀ H₀ fp) ifs tt) (he : ∀ C s₀ H₀ fp, PE (X.blk scope C N' s₀ H₀ fp) elt te)
    (I2 : Inv X pins σ H2 s2) (T : Turn X.prog X.w X.K (.Name x px) J fp it tn) (st2 : tn 0 s2.heap) (f2 : ∀ b ∈ fp, FpOk X pins H2 b)
    (hcont : ∀ l, H2 l = none → ∃ W : Nat → Nat → St → Hp → Prop, (∃ m, W 0 m (tau σ cap) (upd H2 l (.lst []))) ∧ ∀ i m τ H2, W i m τ H2 →
      (J.stop i H2 ∧ Q (.ref l) H2) ∨ (J.go i H2 ∧ ∃ N : St → Hp → Prop, (∀ τ' H', N τ' H' → ∃ m', m' < m ∧ W (i + 1) m' τ' H') ∧
        ∀ x H', J.yld i H2 x H' → g x τ H' fun τ2 H3 => tt τ2 H3 fun b H4 => if b = true then te τ2 H4 fun y H5 => ∃ ys, H5 l = some (.lst ys) ∧ ys.length < sizeLine ∧ N τ2 (upd H5 l (.lst (ys ++ [y]))) else N τ2 H4))
    (fin : ∀ (D C : Addr) (o : Obj) (m : Str → Option Value) (H5 : Hp) (s5 : Shared), Inv X pins σ H5 s5 → FpOk X pins H5 C → s5.heap.get? C = some o → (∀ v, o.data ≠ .cell v) → s5.heap.Ns C m → Q (.ref D) H5 → RR (.ref D) C (.ok .next) s5) :
    wpAny (model X.prog X.w) X.A (newList []) (fun acc s₃ => wpAny (model X.prog X.w) X.A (newFunctionEnv scope X.env.globals (closOf X.env.cells scope.names []) [] X.env.qual none .none (some X.env)) (fun cenv s₄ =>
      codeAny (model X.prog X.w) X.A (.compStart (.ListComp elt [⟨.Name x px, iter, ifs, 0⟩] scope pos) 0 (.ref it) acc { cenv with scope := relabel scope X.env }) (RR acc cenv.locals) s₄) X.xe s₃) X.xe s2 := by
  refine wpAny_newObj_type (wpAny_newFunctionEnv B.ncell (by intro y hy; simp at hy) (fun h₁ hns₁ hsb₁ => ?_) B.kind)
  dsimp only at hns₁ hsb₁ ⊢
  have I3 : Inv X pins σ (upd H2 s2.heap.objs.size (.lst [])) { s2 with heap := s2.heap.push { cls := .type "list", dict := none, data := .seq ([] : List Value).toArray } } := I2.lnew (t' := s2.toks) (its := []) (ys := []) .nil (Nat.zero_le _)
  have hD : H2 s2.heap.objs.size = none := I2.fresh
  have hfpD : ∀ b ∈ fp, b ≠ s2.heap.objs.size := fun b hb => by
    obtain ⟨o, e, _⟩ := T.obj 0 _ st2 b hb
    exact Nat.ne_of_lt (Heap.lt_size e)
  have f3 : ∀ b ∈ fp, FpOk X pins (upd H2 s2.heap.objs.size (.lst [])) b := fun b hb => ⟨by rw [upd_ne (hfpD b hb)]; exact (f2 b hb).1, (f2 b hb).2⟩
  obtain ⟨W, ⟨m0, w0⟩, turn⟩ := hcont s2.heap.objs.size hD
  generalize hs3 : ({ s2 with heap := s2.heap.push { cls := .type "list", dict := none, data := .seq ([] : List Value).toArray } } : Shared) = s3 at I3
  have hh3 : s3.heap = s2.heap.push { cls := .type "list", dict := none, data := .seq ([] : List Value).toArray } := by rw [← hs3]
  have keep : ∀ b o, s3.heap.get? b = some o → h₁.get? b = some o := fun b o e => by
    have hlt := Heap.lt_size e
    rw [hh3] at e hlt
    exact hsb₁.extBut b o (Nat.ne_of_lt hlt) (Heap.get?_push_of_some _ e)
  have ho3 : ∀ b ∈ fp, ∃ o, s3.heap.get? b = some o := fun b hb => by
    obtain ⟨o, e, _⟩ := T.obj 0 _ st2 b hb
    exact ⟨o, by rw [hh3]; exact Heap.get?_push_of_some _ e⟩
  have hsz3 : s3.heap.objs.size = (s2.heap.push { cls := .type "list", dict := none, data := .seq ([] : List Value).toArray }).objs.size := by rw [hh3]
  rw [← hsz3] at hns₁ ⊢
  have J0 : Inv (X.blk scope s3.heap.objs.size N' s3 (upd H2 s2.heap.objs.size (.lst [])) fp) [] (tau σ cap) (upd H2 s2.heap.objs.size (.lst [])) { s3 with heap := h₁, toks := s3.toks } := inv_blk (t' := s3.toks) B I3 f3 ho3 keep hns₁
  have tn0 : tn 0 h₁ := T.keep 0 s2.heap h₁ st2 fun b hb o e => keep b o (by rw [hh3]; exact Heap.get?_push_of_some _ e)
  have es : ({ s2 with heap := h₁, toks := s2.toks + ([] : List (Str × Value)).length } : Shared) = { s3 with heap := h₁, toks := s3.toks } := by
    rw [← hs3]; rfl
  have keep5 : ∀ {s5 : Shared} {H5 : Hp} {τ5 : St}, Inv (X.blk scope s3.heap.objs.size N' s3 (upd H2 s2.heap.objs.size (.lst [])) fp) [] τ5 H5 s5 → Inv X pins σ H5 s5 := fun {s5 H5 τ5} J5 =>
    I3.call' (ch := fp) J5.os J5.base J5.hok J5.bare fun b hb => ⟨(f3 b hb).2.2.2.1, (f3 b hb).2.1, (f3 b hb).2.2.2.2.1, (f3 b hb).2.2.2.2.2⟩
  have fok : ∀ {H' : Hp}, (∀ b ∈ fp, H' b = none) → ∀ b ∈ fp, FpOk (X.blk scope s3.heap.objs.size N' s3 (upd H2 s2.heap.objs.size (.lst [])) fp) [] H' b := fun {H'} hn b hb =>
    ⟨hn b hb, (J0.ok.exf b hb).1, J0.ok.exfs b hb, .inl hb, (J0.ok.exf b hb).2, fun p hp => absurd hp (by simp)⟩
  have loop : codeAny (model X.prog X.w) X.A (.compLoop (.ListComp elt [⟨.Name x px, iter, ifs, 0⟩] scope pos) 0 (.ref it) (.ref s2.heap.objs.size) (compEnvC scope (closOf X.env.cells scope.names []) s3.heap.objs.size X.env))
      (RR (.ref s2.heap.objs.size) s3.heap.objs.size) { s3 with heap := h₁, toks := s3.toks } := by
    refine compLoop_own (fun n s' => ∃ i τ H', Inv (X.blk scope s3.heap.objs.size N' s3 (upd H2 s2.heap.objs.size (.lst [])) fp) [] τ H' s' ∧ tn i s'.heap ∧ (∀ b ∈ fp, H' b = none) ∧ W i n τ H') ?_ m0 ⟨0, _, _, J0, tn0, fun b hb => (f3 b hb).1, w0⟩
    rintro n s4 ⟨i, τ, H4, J4, st4, fr4, w4⟩
    rcases turn i n τ H4 w4 with ⟨stop, q⟩ | ⟨go, N, hN, step⟩
    · refine wpAny_mono (T.done (X.blk scope s3.heap.objs.size N' s3 (upd H2 s2.heap.objs.size (.lst [])) fp) rfl rfl rfl hc i [] s4 τ H4 (fun _ _ => False) J4 (fok fr4) st4 stop) (fun r s5 ⟨hr, J5⟩ => ?_) (fun _ _ f => f)
      subst hr
      obtain ⟨m5, hn5, _⟩ := J5.loc
      have I5 : Inv X pins σ H4 s5 := keep5 J5
      obtain ⟨o5, es5, ep5, ho5, hd5, _⟩ := id hn5
      refine fin _ _ o5 m5 H4 s5 I5 ⟨J5.free, fun e => ?_, I3.nofs (Nat.le_refl _), .inr I3.sz, fun y c e z => ?_, fun p hp z => ?_⟩ ho5 (fun v e => ?_) hn5 q
      · have := I3.lt
        rw [← e] at this
        exact Nat.lt_irrefl _ this
      · obtain ⟨v, o, hoc, _⟩ := I3.cell y c e
        have := Heap.lt_size hoc
        rw [z] at this
        exact Nat.lt_irrefl _ this
      · have := Heap.lt_size (I3.pin p hp).1
        rw [z] at this
        exact Nat.lt_irrefl _ this
      · rw [hd5] at e; cases e
    · refine wpAny_mono (T.item (X.blk scope s3.heap.objs.size N' s3 (upd H2 s2.heap.objs.size (.lst [])) fp) rfl rfl rfl hc i [] s4 τ H4 (fun _ _ => False) J4 (fok fr4) st4 go) (fun r s5 ⟨u, hr, h5⟩ => ?_) (fun _ _ f => f)
      subst hr
      refine wpAny_mono h5 (fun _ s6 ⟨xv, H6, J6, r6, y6, st6, fr6⟩ => ?_) (fun _ _ f => f)
      have J6' := J6.pinned (fok fr6) (T.obj _ _ st6)
      have again : ∀ {s7 : Shared} {τ7 : St} {H7 : Hp}, Inv (X.blk scope s3.heap.objs.size N' s3 (upd H2 s2.heap.objs.size (.lst [])) fp) ([] ++ pinsAt fp s6.heap) τ7 H7 s7 → N τ7 H7 → ∃ m, m < n ∧ ∃ i τ H', Inv (X.blk scope s3.heap.objs.size N' s3 (upd H2 s2.heap.objs.size (.lst [])) fp) [] τ H' s7 ∧ tn i s7.heap ∧ (∀ b ∈ fp, H' b = none) ∧ W i m τ H' := fun {s7 τ7 H7} J7 n7 => by
        obtain ⟨m', hm, w7⟩ := hN τ7 H7 n7
        refine ⟨m', hm, i + 1, τ7, H7, J7.unpinned, T.keep _ _ _ st6 fun b hb o e => (J7.pin (b, o) (List.mem_append_right _ (List.mem_append_right _ (mem_pinsAt hb e)))).1, fun b hb => ?_, w7⟩
        obtain ⟨o, e, d⟩ := T.obj _ _ st6 b hb
        exact (J7.pin (b, o) (List.mem_append_right _ (List.mem_append_right _ (mem_pinsAt hb e)))).2.1
      refine wpAny_mono (hg s3.heap.objs.size s3 (upd H2 s2.heap.objs.size (.lst [])) fp _ s6 τ H6 xv u _ J6' r6 (step xv H6 y6)) (fun _ s7 ⟨τ7, H7, J7, q7⟩ => ?_) (fun _ _ f => f)
      refine wpAny_mono (ht s3.heap.objs.size s3 (upd H2 s2.heap.objs.size (.lst [])) fp _ s7 τ7 H7 _ J7 q7) (fun ok s8 ⟨H8, J8, q8⟩ => ?_) (fun _ _ f => f)
      cases ok with
      | false =>
        rw [if_neg (by decide)] at q8 ⊢
        exact again J8 q8
      | true =>
        rw [if_pos rfl] at q8 ⊢
        refine wpAny_mono (he s3.heap.objs.size s3 (upd H2 s2.heap.objs.size (.lst [])) fp _ s8 τ7 H8 _ J8 q8) (fun yv s9 ⟨y, H9, J9, r9, q9⟩ => ?_) (fun _ _ f => f)
        obtain ⟨ys, hl, hz, n9⟩ := q9
        exact wpAny_mono (mt_append (X := X.blk scope s3.heap.objs.size N' s3 (upd H2 s2.heap.objs.size (.lst [])) fp) _ s9 τ7 H9 (.ref s2.heap.objs.size) [y] (.ref s2.heap.objs.size) [yv] (fun _ H' => N τ7 H') J9 rfl (.cons r9 .nil) ⟨_, ys, y, rfl, rfl, hl, hz, n9⟩) (fun _ s10 ⟨_, H10, J10, _, n10⟩ => again J10 n10) (fun _ _ f => f)
  rw [es]
  exact codeAny_compStart_list loop (T.self _ 0 _ _ _ tn0 loop)
theorem pe_comp (B : BlkOk X scope N' cap) (hc : X.calm = true)
    (hi : PI X (.Name x px) iter wi) (hg : ∀ C s₀ H₀ fp, PG (X.blk scope C N' s₀ H₀ fp) (.Name x px) g) (ht : ∀ C s₀ H₀ fp, PIfs (X.blk scope C N' s₀ H₀ fp) ifs tt) (he : ∀ C s₀ H₀ fp, PE (X.blk scope C N' s₀ H₀ fp) elt te)
    (hs : ∀ x, foldedSetIterable iter X.env x = pure x := by intro _; rfl) :
    PE X (.ListComp elt [⟨.Name x px, iter, ifs, 0⟩] scope pos) (tComp wi cap g tt te) := by
  intro pins s σ H Q I h
  rw [eval_ListComp]
  refine wpAny_comprehension_free (use := none) rfl hs (closureFor_of fun y hy hf => I.ok.has y.1 (B.frees y hy hf)) B.kind B.names ?_
  refine thn (hi pins s σ H _ I h) fun v s1 h1 => thn h1 fun itv s2 h2 => ?_
  obtain ⟨it, fp, tn, J, H2, e, I2, T, st2, f2, hcont⟩ := h2
  subst e
  refine comp_core (RR := fun acc C => compPost (model X.prog X.w) X.A X.xe none (EP X pins σ Q) acc C) B hc hg ht he I2 T st2 f2 hcont fun D C o m H5 s5 I5 f5 ho hd hn q => ?_
  refine ⟨m, hn, fun h' hs' => ?_⟩
  exact ⟨.ref D, H5, I5.turned (t' := s5.toks) (it := C) (fun b o hb e => hs'.extBut b o hb e) f5.1 (fun e => f5.2.1 e) f5.2.2.2.1 f5.2.2.2.2.1 f5.2.2.2.2.2, rfl, q⟩
end
end L2
namespace L2
open PySem PySem.Spec PyProof.Rows
abbrev CompW (J : It) (g : TG) (tt : TT) (te : TE) (Q : VK) (l : Addr) (τ0 : St) (H0 : Hp) : Prop :=
  ∃ W : Nat → Nat → St → Hp → Prop, (∃ m, W 0 m τ0 H0) ∧ ∀ i m τ H2, W i m τ H2 →
    (J.stop i H2 ∧ Q (.ref l) H2) ∨ (J.go i H2 ∧ ∃ N : St → Hp → Prop, (∀ τ' H', N τ' H' → ∃ m', m' < m ∧ W (i + 1) m' τ' H') ∧
      ∀ x H', J.yld i H2 x H' → g x τ H' fun τ2 H3 => tt τ2 H3 fun b H4 => if b = true then te τ2 H4 fun y H5 => ∃ ys, H5 l = some (.lst ys) ∧ ys.length < sizeLine ∧ N τ2 (upd H5 l (.lst (ys ++ [y]))) else N τ2 H4)
end L2
namespace L2
open PySem PySem.Spec PyProof.Rows
end L2
namespace L2
open PySem PySem.Spec PyProof.Rows
mutual
inductive RdV (K : PySem.W.Frag) (H : Hp) : V → PyData → Prop
  | non : RdV K H .non .none
  | bl (b : Bool) : RdV K H (.bl b) (.bool b)
  | int (i : Int) : RdV K H (.int i) (.int i)
  | str (x : Str) : RdV K H (.str x) (.str x)
  | tup {p : Addr} {xs : List V} {ds : List PyData} : SqT K H p xs → RdA K H xs ds → RdV K H (.ref p) (.tuple ds)
  | lst {p : Addr} {xs : List V} {ds : List PyData} : SqL K H p xs → RdA K H xs ds → RdV K H (.ref p) (.list ds)
inductive RdA (K : PySem.W.Frag) (H : Hp) : List V → List PyData → Prop
  | nil : RdA K H [] []
  | cons {x : V} {xs : List V} {d : PyData} {ds : List PyData} : RdV K H x d → RdA K H xs ds → RdA K H (x :: xs) (d :: ds)
end
mutual
theorem RdV.same {K : PySem.W.Frag} {H H' : Hp} (e : Same H H') : ∀ {x : V} {d : PyData}, RdV K H x d → RdV K H' x d
  | _, _, .non => .non
  | _, _, .bl b => .bl b
  | _, _, .int i => .int i
  | _, _, .str x => .str x
  | _, _, .tup h a => .tup (e.seqT h) (RdA.same e a)
  | _, _, .lst h a => .lst (e.seq h) (RdA.same e a)
theorem RdA.same {K : PySem.W.Frag} {H H' : Hp} (e : Same H H') : ∀ {xs : List V} {ds : List PyData}, RdA K H xs ds → RdA K H' xs ds
  | _, _, .nil => .nil
  | _, _, .cons h a => .cons (RdV.same e h) (RdA.same e a)
end
section
variable {X : Cx} {pins : List (Addr × Obj)} {σ : St} {H : Hp} {s : Shared}
mutual
theorem RdV.reads (I : Inv X pins σ H s) : ∀ {x : V} {d : PyData}, RdV X.K H x d → ∀ {v : Value}, RelV x v → ∃ as, Reads s.heap v d as
  | _, _, .non, v, r => by cases (show v = Value.none from r); exact ⟨_, .none⟩
  | _, _, .bl b, v, r => by cases (show v = Value.bool b from r); exact ⟨_, .bool b⟩
  | _, _, .int i, v, r => by
    obtain ⟨t, e⟩ := (show ∃ t, v = Value.int i t from r)
    cases e
    exact ⟨_, .int i t⟩
  | _, _, .str x, v, r => by
    obtain ⟨t, e⟩ := (show ∃ t, v = Value.str x t from r)
    cases e
    exact ⟨_, .str x t⟩
  | _, _, .tup (p := p) h a, v, r => by
    cases (show v = Value.ref p from r)
    obtain ⟨its, hv, ⟨o, ho, hc, n, hd⟩, _⟩ := I.tuple h
    obtain ⟨as, ra⟩ := RdA.reads I a hv
    exact ⟨as, .tuple ho hc hd (by simpa using ra)⟩
  | _, _, .lst (p := p) h a, v, r => by
    cases (show v = Value.ref p from r)
    obtain ⟨its, hv, pl, _⟩ := I.list h
    obtain ⟨o, ho, hc, n, hd⟩ := pl.isList
    obtain ⟨as, ra⟩ := RdA.reads I a hv
    exact ⟨_, .list ho hc hd (by simpa using ra)⟩
theorem RdA.reads (I : Inv X pins σ H s) : ∀ {xs : List V} {ds : List PyData}, RdA X.K H xs ds → ∀ {us : List Value}, Vals xs us → ∃ as, ReadsAll s.heap us ds as
  | _, _, .nil, _, .nil => ⟨_, .nil⟩
  | _, _, .cons h a, _, .cons r t => by
    obtain ⟨as, ra⟩ := RdV.reads I h r
    obtain ⟨bs, rb⟩ := RdA.reads I a t
    exact ⟨_, .cons ra rb⟩
end
end
def rEqD (K : PySem.W.Frag) (neg : Bool) : R2 := fun x y H Q => ∃ d e, RdV K H x d ∧ RdV K H y e ∧ SeqAt.shaped d = true ∧ SeqAt.shaped e = true ∧ Q (.bl (if neg then !PyData.eqv d e else PyData.eqv d e)) H
section
variable {X : Cx}
theorem op_eqD (hu : X.A.units + 64 < cLine) : OpR X (compareOp .Eq) (rEqD X.K false) := by
  intro pins s σ H x y v u Q I rx ry h
  obtain ⟨d, e, h1, h2, s1, s2, q⟩ := h
  obtain ⟨as, ra⟩ := h1.reads I rx
  obtain ⟨bs, rb⟩ := h2.reads I ry
  exact eq_dataH ra rb s1 s2 hu ⟨.bl (PyData.eqv d e), H, I, rfl, q⟩
theorem op_neD (hu : X.A.units + 64 < cLine) : OpR X (compareOp .NotEq) (rEqD X.K true) := by
  intro pins s σ H x y v u Q I rx ry h
  obtain ⟨d, e, h1, h2, s1, s2, q⟩ := h
  obtain ⟨as, ra⟩ := h1.reads I rx
  obtain ⟨bs, rb⟩ := h2.reads I ry
  exact ne_dataH ra rb s1 s2 hu ⟨.bl (!PyData.eqv d e), H, I, rfl, q⟩
def tPar3 (i j k : Nat) (ta : TA) : TS := fun D σ H => ta σ H fun vs H1 => ∃ u v w, vs = [u, v, w] ∧ D.nx (((σ.set i (some u)).set j (some v)).set k (some w)) H1
theorem ps_par3 {i j k : Nat} {x y z : Str} {a b c : Expr} {ta : TA} {px py pz pt pos : Pos} {kt k2 pt2} (hc : X.calm = true) (hN : X.N.Nodup) (hi : X.N[i]? = some x) (hj : X.N[j]? = some y) (hk : X.N[k]? = some z) (hij : i ≠ j) (hik : i ≠ k) (hjk : j ≠ k)
    (hx : X.env.scope.names.lookup x = some .local) (hy : X.env.scope.names.lookup y = some .local) (hz : X.env.scope.names.lookup z = some .local) (ha : PA X [a, b, c] ta)
    (hw : swappedStores [.Tuple [.Name x px, .Name y py, .Name z pz] kt pt] (.Tuple [a, b, c] k2 pt2) X.env = pure (some [x, y, z]))
    (hs : swapsWithSole [.Tuple [.Name x px, .Name y py, .Name z pz] kt pt] (.Tuple [a, b, c] k2 pt2) pos.line X.env = pure false := by rfl) :
    PS X (.Assign [.Tuple [.Name x px, .Name y py, .Name z pz] kt pt] (.Tuple [a, b, c] k2 pt2) pos) (tPar3 i j k ta) := by
  intro pins s σ H D I h
  rw [exec_Assign_arm]
  refine wpAny_bind (wpAny_standAt ?_)
  rw [hs]
  refine wpAny_bind (wpAny_pure ?_)
  rw [if_neg (by decide)]
  refine wpAny_bind (Tuple_ (thn (ha _ pins s σ H _ I h) fun us s1 ⟨vs, H1, I1, r1, q1⟩ => ?_))
  obtain ⟨v1, v2, v3, e1, q1⟩ := q1
  subst e1
  obtain ⟨u1, u2, u3, rfl, ra, rb, rc⟩ : ∃ u1 u2 u3, us = [u1, u2, u3] ∧ RelV v1 u1 ∧ RelV v2 u2 ∧ RelV v3 u3 := by
    cases r1 with
    | cons p q =>
      cases q with
      | cons p' q' =>
        cases q' with
        | cons p'' q'' =>
          cases q''
          exact ⟨_, _, _, rfl, p, p', p''⟩
  refine wpAny_newObj_type ?_ (by show 3 ≤ sizeLine; decide)
  have I2 : Inv X pins σ H1 { s1 with heap := s1.heap.push { cls := .type "tuple", data := .seq [u1, u2, u3].toArray } } := I1.kept (t' := s1.toks) fun b o e => Heap.get?_push_of_some _ e
  rw [hw]
  refine wpAny_bind (wpAny_pure ?_)
  show wpAny (model X.prog X.w) X.A (do rule "assign.swapped-stores"; let items ← unpackItems (.ref s1.heap.objs.size) 3 none; assignInOrder [fun v => bindName X.env z v, fun v => bindName X.env y v, fun v => bindName X.env x v] items.reverse; pure Flow.next) _ _ _
  refine wpAny_bind (wpAny_rule (wpAny_bind (unpackItems_tuple (items := #[u1, u2, u3]) (I.ok.hd hc) (IsTup.new s1.heap _) fun h' hx' => ?_)))
  have I3 := I2.kept (h' := h') (t' := s1.toks) fun b o e => hx' b o (Nat.ne_of_lt (Heap.lt_size e)) e
  show wpAny _ _ (assignInOrder [fun v => bindName X.env z v, fun v => bindName X.env y v, fun v => bindName X.env x v] [u3, u2, u1] >>= fun _ => pure Flow.next) _ _ _
  refine wpAny_bind (assignInOrder_cons (wpAny_bindName (store_ok I3 hN hk (.inl hz) rc (fun s2 I4 => ?_) (.inr hz))))
  refine assignInOrder_cons (wpAny_bindName (store_ok I4 hN hj (.inl hy) rb (fun s3 I5 => ?_) (.inr hy)))
  refine assignInOrder_cons (wpAny_bindName (store_ok I5 hN hi (.inl hx) ra (fun s4 I6 => assignInOrder_nil (wpAny_pure ?_)) (.inr hx)))
  have es : ((σ.set k (some v3)).set j (some v2)).set i (some v1) = ((σ.set i (some v1)).set j (some v2)).set k (some v3) := by
    rw [List.set_comm (some v2) (some v1) (Ne.symm hij), List.set_comm (some v3) (some v1) (Ne.symm hik), List.set_comm (some v3) (some v2) (Ne.symm hjk)]
  rw [es] at I6
  exact ⟨_, H1, I6, q1⟩
end
mutual
def plainD : PyData → Bool
  | .none => true
  | .bool _ => true
  | .int _ => true
  | .str _ => true
  | .tuple ds => plainA ds
  | .list ds => plainA ds
  | _ => false
def plainA : List PyData → Bool
  | [] => true
  | d :: ds => plainD d && plainA ds
end
mutual
theorem eqv_self : ∀ d : PyData, plainD d = true → PyData.eqv d d = true
  | .none, _ => rfl
  | .bool b, _ => by simp [PyData.eqv]
  | .int i, _ => by simp [PyData.eqv]
  | .str x, _ => by simp [PyData.eqv]
  | .tuple ds, h => by simp only [plainD] at h; simp only [PyData.eqv]; exact eqvAll_self ds h
  | .list ds, h => by simp only [plainD] at h; simp only [PyData.eqv]; exact eqvAll_self ds h
  | .dict _, h => by simp [plainD] at h
theorem eqvAll_self : ∀ ds : List PyData, plainA ds = true → PyData.eqvAll ds ds = true
  | [], _ => by simp [PyData.eqvAll]
  | d :: ds, h => by
    simp only [plainA, Bool.and_eq_true] at h
    simp only [PyData.eqvAll, Bool.and_eq_true]
    exact ⟨eqv_self d h.1, eqvAll_self ds h.2⟩
end
section
variable {X : Cx}
theorem readsAll_any {h : Heap} {d : PyData} {e : Value → Bool} : ∀ {us : List Value} {ds : List PyData} {as : List Addr}, ReadsAll h us ds as → (∀ u d' as', u ∈ us → d' ∈ ds → Reads h u d' as' → e u = PyData.eqv d' d) → us.any e = ds.any fun d' => PyData.eqv d' d
  | _, _, _, .nil, _ => rfl
  | _, _, _, .cons r t, h => by
    rw [List.any_cons, List.any_cons, h _ _ _ List.mem_cons_self List.mem_cons_self r, readsAll_any t fun u d' as' hu hd r' => h u d' as' (List.mem_cons_of_mem _ hu) (List.mem_cons_of_mem _ hd) r']
theorem readsAll_mem {h : Heap} : ∀ {us : List Value} {ds : List PyData} {as : List Addr}, ReadsAll h us ds as → ∀ u ∈ us, ∃ d' ∈ ds, ∃ as', Reads h u d' as'
  | _, _, _, .nil, _, hu => nomatch hu
  | _, _, _, .cons r t, u, hu => by
    rcases List.mem_cons.mp hu with rfl | hu
    · exact ⟨_, List.mem_cons_self, _, r⟩
    · obtain ⟨d', hd, as', r'⟩ := readsAll_mem t u hu
      exact ⟨d', List.mem_cons_of_mem _ hd, as', r'⟩
open Classical in
noncomputable def eqTo (h : Heap) (d : PyData) (u : Value) : Bool := if e : ∃ d', PyData.canLay0 d' = true ∧ ∃ as, Reads h u d' as then PyData.eqv (Classical.choose e) d else false
theorem eqTo_of {h : Heap} {d d' : PyData} {u : Value} {as : List Addr} (c : PyData.canLay0 d' = true) (r : Reads h u d' as) : eqTo h d u = PyData.eqv d' d := by
  have e : ∃ d', PyData.canLay0 d' = true ∧ ∃ as, Reads h u d' as := ⟨d', c, as, r⟩
  unfold eqTo
  rw [dif_pos e]
  obtain ⟨c1, as1, r1⟩ := Classical.choose_spec e
  rw [SeqAt.Reads.unique _ _ _ _ _ c1 r1 r]
end
end L2
namespace Qm
open PySem
noncomputable section
inductive D where
  | non | bl (b : Bool) | int (i : Int) | str (x : Str) | tup (xs : List D) | ref (n : Nat) | ty (n : String)
inductive Cell where
  | lst (xs : List D)
  | ro (xs : List D)
abbrev Cells := List Cell
abbrev Env := List (Option D)
abbrev XE := Env → Cells → Option (D × Cells)
abbrev XA := Env → Cells → Option (List D × Cells)
abbrev XT := Env → Cells → Option (Bool × Cells)
abbrev XO := Env → Cells → Option (Option Int × Cells)
inductive Fl where
  | nx | rt (d : D) | bk | ct
abbrev XS := Env → Cells → Option (Fl × Env × Cells)
abbrev XG := D → Env → Cells → Option (Env × Cells)
abbrev XGs := List D → Env → Cells → Option (Env × Cells)
abbrev FN := List D → Cells → Option (D × Cells)
structure Itm where
  ds : List D
  ks : List (Nat × Cell)
abbrev XI := Env → Cells → Option (Itm × Cells)
abbrev G1 := D → Cells → Option (D × Cells)
abbrev G2 := D → D → Cells → Option (D × Cells)
def LINE : Nat := Classical.choose (⟨10000000, rfl⟩ : ∃ n : Nat, n = 10000000)
theorem LINE_eq : LINE = 10000000 := Classical.choose_spec (⟨10000000, rfl⟩ : ∃ n : Nat, n = 10000000)
def eC (d : D) : XE := fun _ c => some (d, c)
def eV (i : Nat) : XE := fun σ c => (σ[i]?.join).bind fun d => some (d, c)
def e1 (g : G1) (a : XE) : XE := fun σ c => (a σ c).bind fun p => g p.1 p.2
def e2 (g : G2) (a b : XE) : XE := fun σ c => (a σ c).bind fun p => (b σ p.2).bind fun q => g p.1 q.1 q.2
def asB (d : D) : Option Bool := match d with
  | .bl b => some b
  | _ => none
def eAnd (a b : XE) : XE := fun σ c => (a σ c).bind fun p => (asB p.1).bind fun k => if k = true then b σ p.2 else some (.bl false, p.2)
def eOr (a b : XE) : XE := fun σ c => (a σ c).bind fun p => (asB p.1).bind fun k => if k = true then some (.bl true, p.2) else b σ p.2
def eNot (a : XE) : XE := fun σ c => (a σ c).bind fun p => (asB p.1).bind fun k => some (.bl (!k), p.2)
def eIf (t : XT) (a b : XE) : XE := fun σ c => (t σ c).bind fun p => if p.1 = true then a σ p.2 else b σ p.2
def aNil : XA := fun _ c => some ([], c)
def aCons (a : XE) (r : XA) : XA := fun σ c => (a σ c).bind fun p => (r σ p.2).bind fun q => some (p.1 :: q.1, q.2)
def eTup (a : XA) : XE := fun σ c => (a σ c).bind fun p => if p.1.length ≤ LINE then some (.tup p.1, p.2) else none
def eLst (a : XA) : XE := fun σ c => (a σ c).bind fun p => if p.1.length ≤ LINE then some (.ref p.2.length, p.2 ++ [.lst p.1]) else none
def eCall (F : FN) (ds : List D) (a : XA) : XE := fun σ c => (a σ c).bind fun p => F (p.1 ++ ds) p.2
def eB (F : FN) (a : XA) : XE := fun σ c => (a σ c).bind fun p => F p.1 p.2
def oNone : XO := fun _ c => some (none, c)
def oSome (a : XE) : XO := fun σ c => (a σ c).bind fun p => match p.1 with
  | .int i => some (some i, p.2)
  | _ => none
def eSl (g : D → Option Int → Option Int → Cells → Option (D × Cells)) (a : XE) (lo hi : XO) : XE := fun σ c => (a σ c).bind fun p => (lo σ p.2).bind fun l => (hi σ l.2).bind fun h => g p.1 l.1 h.1 h.2
def eChain (g h : G2) (a b d : XE) : XE := fun σ c => (a σ c).bind fun p => (b σ p.2).bind fun q => (g p.1 q.1 q.2).bind fun z => (asB z.1).bind fun k =>
  if k = true then (d σ z.2).bind fun u => h q.1 u.1 u.2 else some (.bl false, z.2)
def tV (a : XE) : XT := fun σ c => (a σ c).bind fun p => (asB p.1).bind fun k => some (k, p.2)
def tAnd (a b : XT) : XT := fun σ c => (a σ c).bind fun p => if p.1 = true then b σ p.2 else some (false, p.2)
def tOr (a b : XT) : XT := fun σ c => (a σ c).bind fun p => if p.1 = true then some (true, p.2) else b σ p.2
def tNot (a : XT) : XT := fun σ c => (a σ c).bind fun p => some (!p.1, p.2)
def sNil : XS := fun σ c => some (.nx, σ, c)
def sSeq (a b : XS) : XS := fun σ c => (a σ c).bind fun p => match p.1 with
  | .nx => b p.2.1 p.2.2
  | _ => some p
def sSet (i : Nat) (e : XE) : XS := fun σ c => (e σ c).bind fun p => some (.nx, σ.set i (some p.1), p.2)
def sAsg (e : XE) (g : XG) : XS := fun σ c => (e σ c).bind fun p => (g p.1 σ p.2).bind fun q => some (.nx, q.1, q.2)
def sPar (is : List Nat) (a : XA) : XS := fun σ c => (a σ c).bind fun p => if p.1.length = is.length then some (.nx, (is.zip p.1).foldl (fun σ q => σ.set q.1 (some q.2)) σ, p.2) else none
def sIf (t : XT) (a b : XS) : XS := fun σ c => (t σ c).bind fun p => if p.1 = true then a σ p.2 else b σ p.2
def sRet (e : XE) : XS := fun σ c => (e σ c).bind fun p => some (.rt p.1, σ, p.2)
def sExpr (e : XE) : XS := fun σ c => (e σ c).bind fun p => some (.nx, σ, p.2)
def sBreak : XS := fun σ c => some (.bk, σ, c)
def sCont : XS := fun σ c => some (.ct, σ, c)
def gName (i : Nat) : XG := fun d σ c => some (σ.set i (some d), c)
def gNil : XGs := fun ds σ c => match ds with
  | [] => some (σ, c)
  | _ => none
def gCons (g : XG) (r : XGs) : XGs := fun ds σ c => match ds with
  | d :: t => (g d σ c).bind fun p => r t p.1 p.2
  | [] => none
def gTup (n : Nat) (g : XGs) : XG := fun d σ c => match d with
  | .tup xs => if xs.length = n then g xs σ c else none
  | _ => none
def stays (ks : List (Nat × Cell)) (c : Cells) : Prop := ∀ p ∈ ks, c[p.1]? = some p.2
open Classical in
def forGo (ks : List (Nat × Cell)) (g : XG) (body : XS) : List D → XS
  | [], σ, c => if stays ks c then some (.nx, σ, c) else none
  | d :: r, σ, c => if stays ks c then (g d σ c).bind fun p => (body p.1 p.2).bind fun q => (match q.1 with
      | .nx => forGo ks g body r q.2.1 q.2.2
      | .ct => forGo ks g body r q.2.1 q.2.2
      | .bk => some (.nx, q.2.1, q.2.2)
      | .rt d => some (.rt d, q.2.1, q.2.2)) else none
def sFor (it : XI) (g : XG) (body : XS) : XS := fun σ c => (it σ c).bind fun p => forGo p.1.ks g body p.1.ds σ p.2
def whGo (t : XT) (b : XS) : Nat → XS
  | 0, _, _ => none
  | n + 1, σ, c => (t σ c).bind fun p => if p.1 = true then (b σ p.2).bind fun q => (match q.1 with
      | .nx => whGo t b n q.2.1 q.2.2
      | .ct => whGo t b n q.2.1 q.2.2
      | .bk => some (.nx, q.2.1, q.2.2)
      | .rt d => some (.rt d, q.2.1, q.2.2)) else some (.nx, σ, p.2)
open Classical in
def sWhile (t : XT) (b : XS) : XS := fun σ c => if h : ∃ n r, whGo t b n σ c = some r then whGo t b (Classical.choose h) σ c else none
def capt (σ : Env) (cap : List (Option Nat)) : Env := cap.map fun o => match o with
  | some i => (match σ[i]? with | some v => v | none => none)
  | none => none
open Classical in
def compGo (L : Nat) (ks : List (Nat × Cell)) (g : XG) (tt : XT) (te : XE) : List D → Env → Cells → Option Cells
  | [], _, c => if stays ks c then some c else none
  | d :: r, τ, c => if stays ks c then (g d τ c).bind fun p => (tt p.1 p.2).bind fun b => if b.1 = true then (te p.1 b.2).bind fun y =>
      (match y.2[L]? with
        | some (.lst ys) => if ys.length < LINE then compGo L ks g tt te r p.1 (y.2.set L (.lst (ys ++ [y.1]))) else none
        | _ => none) else compGo L ks g tt te r p.1 b.2 else none
def eComp (it : XI) (cap : List (Option Nat)) (g : XG) (tt : XT) (te : XE) : XE := fun σ c => (it σ c).bind fun p =>
  (compGo p.2.length p.1.ks g tt te p.1.ds (capt σ cap) (p.2 ++ [.lst []])).bind fun c' => some (.ref p.2.length, c')
def tYes : XT := fun _ c => some (true, c)
def mkF (n N : Nat) (b : XS) : FN := fun ds c => if ds.length = n then (b (ds.map some ++ List.replicate (N - n) none) c).bind fun p => (match p.1 with
  | .rt d => some (d, p.2.2)
  | .nx => some (.non, p.2.2)
  | _ => none) else none
def seqOf (d : D) (c : Cells) : Option (List D) := match d with
  | .tup xs => some xs
  | .ref n => (match c[n]? with
    | some (.lst xs) => some xs
    | some (.ro xs) => some xs
    | none => none)
  | _ => none
def lstOf (d : D) (c : Cells) : Option (Nat × List D) := match d with
  | .ref n => (match c[n]? with
    | some (.lst xs) => some (n, xs)
    | _ => none)
  | _ => none
def asI (d : D) : Option Int := match d with
  | .int i => some i
  | _ => none
def ii (f : Int → Int → Option D) : G2 := fun x y c => (asI x).bind fun i => (asI y).bind fun j => (f i j).bind fun d => some (d, c)
def MulOk (i j : Int) : Prop := (My.Bd 90000 i ∧ My.Bd 90000 j) ∨ (My.Bd 64 i ∨ My.Bd 64 j)
open Classical in
def gMul : G2 := ii fun i j => if MulOk i j then some (.int (i * j)) else none
def gSub : G2 := ii fun i j => some (.int (i - j))
open Classical in
def gFdiv : G2 := ii fun i j => if j ≠ 0 ∧ My.Bd 8900 j then some (.int (i.fdiv j)) else none
def gMod : G2 := ii fun i j => if j ≠ 0 then some (.int (i.fmod j)) else none
def gPow : G2 := ii fun i j => if 0 ≤ j ∧ j ≤ 100 ∧ i.natAbs < 1000 then some (.int (i ^ j.toNat)) else none
def gLt : G2 := ii fun i j => some (.bl (decide (i < j)))
def gLe : G2 := ii fun i j => some (.bl (decide (i ≤ j)))
def gGt : G2 := ii fun i j => some (.bl (decide (j < i)))
def gGe : G2 := ii fun i j => some (.bl (decide (j ≤ i)))
def gAdd : G2 := fun x y c => match x, y with
  | .int i, .int j => some (.int (i + j), c)
  | .tup xs, .tup ys => if xs ≠ [] ∧ xs.length + ys.length ≤ LINE then some (.tup (xs ++ ys), c) else none
  | x, y => (lstOf x c).bind fun p => (lstOf y c).bind fun q => if p.2.length + q.2.length ≤ LINE then some (.ref c.length, c ++ [.lst (p.2 ++ q.2)]) else none
def gNeg : G1 := fun x c => (asI x).bind fun i => some (.int (-i), c)
def omap {α β : Type} (f : α → Option β) : List α → Option (List β)
  | [] => some []
  | x :: xs => (f x).bind fun d => (omap f xs).bind fun ds => some (d :: ds)
def data (c : Cells) : Nat → D → Option PyData
  | 0, _ => none
  | k + 1, d => match d with
    | .non => some .none
    | .int i => some (.int i)
    | .str x => if x.cps.all (· < 1114112) = true then some (.str x) else none
    | .tup xs => (omap (data c k) xs).bind fun ds => some (.tuple ds)
    | .ref n => (match c[n]? with
      | some (.lst xs) => (omap (data c k) xs).bind fun ds => some (.list ds)
      | some (.ro xs) => (omap (data c k) xs).bind fun ds => some (.list ds)
      | none => none)
    | _ => none
open Classical in
def eqM (x y : D) (c : Cells) : Option Bool := match x, y with
  | .bl a, .bl b => some (a == b)
  | x, y => (data c 6 x).bind fun d => (data c 6 y).bind fun e => some (decide (d = e))
def gEq : G2 := fun x y c => (eqM x y c).bind fun b => some (.bl b, c)
def gNe : G2 := fun x y c => (eqM x y c).bind fun b => some (.bl (!b), c)
def gIsN : G2 := fun x y c => match y with
  | .non => some (.bl (match x with | .non => true | _ => false), c)
  | _ => none
def gNotN : G2 := fun x y c => match y with
  | .non => some (.bl (match x with | .non => false | _ => true), c)
  | _ => none
open Classical in
def inM (x y : D) (c : Cells) : Option Bool := (seqOf y c).bind fun xs => (data c 5 x).bind fun d => (omap (data c 5) xs).bind fun ds => some (decide (d ∈ ds))
def gIn : G2 := fun x y c => (inM x y c).bind fun b => some (.bl b, c)
def gNotIn : G2 := fun x y c => (inM x y c).bind fun b => some (.bl (!b), c)
def ixD (n : Nat) (i : Int) : Option Nat := if 0 ≤ i then (if i < n then some i.toNat else none) else if -(n : Int) ≤ i then some (i + n).toNat else none
def atD {α : Type} (xs : List α) (i : Int) : Option α := (ixD xs.length i).bind fun j => xs[j]?
def gIx : G2 := fun x y c => (seqOf x c).bind fun xs => (asI y).bind fun i => (atD xs i).bind fun d => some (d, c)
def sxD (n d : Nat) : Option Int → Nat
  | none => d
  | some v => if v < 0 then (v + n).toNat else min v.toNat n
def cutD {α : Type} (xs : List α) (lo hi : Option Int) : List α := (xs.drop (sxD xs.length 0 lo)).take (sxD xs.length xs.length hi - sxD xs.length 0 lo)
def gCut (x : D) (lo hi : Option Int) (c : Cells) : Option (D × Cells) := match x with
  | .tup xs => some (.tup (cutD xs lo hi), c)
  | x => (seqOf x c).bind fun xs => some (.ref c.length, c ++ [.lst (cutD xs lo hi)])
def gPut (o i : XE) : XG := fun d σ c => (o σ c).bind fun p => (i σ p.2).bind fun q => (lstOf p.1 q.2).bind fun l => (asI q.1).bind fun k => (ixD l.2.length k).bind fun j => some (σ, q.2.set l.1 (.lst (l.2.set j d)))
def one (g : G1) : FN := fun ds c => match ds with
  | [x] => g x c
  | _ => none
def two (g : G2) : FN := fun ds c => match ds with
  | [x, y] => g x y c
  | _ => none
def bAbs : FN := one fun x c => (asI x).bind fun i => some (.int (if i < 0 then -i else i), c)
def bLen : FN := one fun x c => (seqOf x c).bind fun xs => some (.int xs.length, c)
def bInt : FN := one fun x c => match x with
  | .int i => some (.int i, c)
  | .bl k => some (.int (if k then 1 else 0), c)
  | _ => none
def bMax2 : FN := two (ii fun i j => some (.int (if j > i then j else i)))
def bMin2 : FN := two (ii fun i j => some (.int (if j < i then j else i)))
def bMax3 : FN := fun ds c => match ds with
  | [.int i, .int j, .int k] => some (.int (if j > i then (if k > j then k else j) else (if k > i then k else i)), c)
  | _ => none
def bList : FN := one fun x c => (seqOf x c).bind fun xs => some (.ref c.length, c ++ [.lst xs])
def bTuple : FN := one fun x c => (seqOf x c).bind fun xs => some (.tup xs, c)
def isKind (n : String) (d : D) (c : Cells) : Option Bool := match d with
  | .int _ => if n = "int" then some true else if n = "bool" then some false else none
  | .bl _ => if n = "bool" then some true else none
  | .tup _ => if n = "tuple" then some true else none
  | .ref m => (match c[m]? with
    | some (.lst _) => if n = "list" then some true else none
    | _ => none)
  | _ => none
def bIsinst : FN := two fun x y c => match y with
  | .ty n => (isKind n x c).bind fun k => some (.bl k, c)
  | _ => none
def bools (ds : List D) : Option (List Bool) := omap asB ds
def bAll : FN := one fun x c => (lstOf x c).bind fun l => (omap asB l.2).bind fun bs => some (.bl (bs.all id), c)
def bAny : FN := one fun x c => (lstOf x c).bind fun l => (omap asB l.2).bind fun bs => some (.bl (bs.any id), c)
def zipD (xs ys : List D) : List D := (xs.zip ys).map fun p => .tup [p.1, p.2]
def bListZip : FN := fun ds c => match ds with
  | [.tup xs, .tup ys] => some (.ref c.length, c ++ [.lst (zipD xs ys)])
  | _ => none
def eM (g : D → FN) (o : XE) (a : XA) : XE := fun σ c => (o σ c).bind fun p => (lstOf p.1 p.2).bind fun _ => (a σ p.2).bind fun q => g p.1 q.1 q.2
def mAppend (o : D) : FN := one fun y c => (lstOf o c).bind fun l => if l.2.length < LINE then some (.non, c.set l.1 (.lst (l.2 ++ [y]))) else none
def mExtend (o : D) : FN := one fun y c => (lstOf o c).bind fun l => (lstOf y c).bind fun z => if l.2.length + z.2.length ≤ LINE then some (.non, c.set l.1 (.lst (l.2 ++ z.2))) else none
def mClear (o : D) : FN := fun ds c => match ds with
  | [] => (lstOf o c).bind fun l => some (.non, c.set l.1 (.lst []))
  | _ => none
def iTup (a : XE) : XI := fun σ c => (a σ c).bind fun p => match p.1 with
  | .tup xs => some (⟨xs, []⟩, p.2)
  | _ => none
def iLst (a : XE) : XI := fun σ c => (a σ c).bind fun p => match p.1 with
  | .ref n => (p.2[n]?).bind fun z => (seqOf (.ref n) p.2).bind fun xs => some (⟨xs, [(n, z)]⟩, p.2)
  | _ => none
def iZip (a : XA) : XI := fun σ c => (a σ c).bind fun p => match p.1 with
  | [.tup xs, .tup ys] => some (⟨zipD xs ys, []⟩, p.2)
  | _ => none
def rng (lo : Int) (n : Nat) : List D := (List.range n).map fun (i : Nat) => .int (lo + i)
structure Rin (j : Int) : Prop where
  lo : -(2 ^ 62) ≤ j
  hi : j < 2 ^ 62
open Classical in
def iRng1 (a : XA) : XI := fun σ c => (a σ c).bind fun p => match p.1 with
  | [.int j] => if Rin j then some (⟨rng 0 j.toNat, []⟩, p.2) else none
  | _ => none
open Classical in
def iRng2 (a : XA) : XI := fun σ c => (a σ c).bind fun p => match p.1 with
  | [.int i, .int j] => if Rin i ∧ Rin j then some (⟨rng i (j - i).toNat, []⟩, p.2) else none
  | _ => none
theorem whGo_more {t : XT} {b : XS} : ∀ {n k : Nat} {σ : Env} {c : Cells} {r}, whGo t b n σ c = some r → whGo t b (n + k) σ c = some r
  | 0, _, _, _, _, h => by simp [whGo] at h
  | n + 1, k, σ, c, r, h => by
    rw [show n + 1 + k = (n + k) + 1 by omega]
    simp only [whGo] at h ⊢
    cases ht : t σ c with
    | none => rw [ht] at h; simp at h
    | some p =>
      rw [ht] at h
      simp only [Option.bind_some] at h ⊢
      split
      · rename_i hp
        rw [if_pos hp] at h
        cases hb : b σ p.2 with
        | none => rw [hb] at h; simp at h
        | some q =>
          rw [hb] at h
          simp only [Option.bind_some] at h ⊢
          obtain ⟨f, σ', c'⟩ := q
          cases f with
          | nx => exact whGo_more h
          | ct => exact whGo_more h
          | bk => exact h
          | rt d => exact h
      · rename_i hp
        rw [if_neg hp] at h
        exact h
theorem sWhile_of {t : XT} {b : XS} {n : Nat} {σ : Env} {c : Cells} {r} (h : whGo t b n σ c = some r) : sWhile t b σ c = some r := by
  have hx : ∃ n r, whGo t b n σ c = some r := ⟨n, r, h⟩
  unfold sWhile
  rw [dif_pos hx]
  obtain ⟨r', h'⟩ := Classical.choose_spec hx
  have h1 := whGo_more (k := n) h'
  have h2 := whGo_more (k := Classical.choose hx) h
  rw [Nat.add_comm] at h2
  rw [h']
  exact h1.symm.trans h2
theorem of_sWhile {t : XT} {b : XS} {σ : Env} {c : Cells} {r} (h : sWhile t b σ c = some r) : ∃ n, whGo t b n σ c = some r := by
  unfold sWhile at h
  split at h
  · exact ⟨_, h⟩
  · cases h
theorem sWhile_stop {t : XT} {b : XS} {σ : Env} {c c' : Cells} (h : t σ c = some (false, c')) : sWhile t b σ c = some (.nx, σ, c') :=
  sWhile_of (n := 1) (by simp [whGo, h])
theorem sWhile_go {t : XT} {b : XS} {σ σ' : Env} {c c' c2 : Cells} {r} (h : t σ c = some (true, c')) (hb : b σ c' = some (.nx, σ', c2)) (hr : sWhile t b σ' c2 = some r) : sWhile t b σ c = some r := by
  obtain ⟨n, hn⟩ := of_sWhile hr
  exact sWhile_of (n := n + 1) (by simp [whGo, h, hb, hn])
end
end Qm
namespace L2
open PySem PySem.Spec PyProof.Rows
theorem bnd {α β : Type} {x : Option α} {f : α → Option β} {z : β} (h : x.bind f = some z) : ∃ a, x = some a ∧ f a = some z := by
  cases x with
  | none => cases h
  | some a => exact ⟨a, rfl, h⟩
theorem line_le {n : Nat} (h : n ≤ Qm.LINE) : n ≤ sizeLine := Nat.le_trans h (by rw [Qm.LINE_eq, sizeLine_eq]; decide)
theorem line_lt {n : Nat} (h : n < Qm.LINE) : n < sizeLine := Nat.lt_of_lt_of_le h (by rw [Qm.LINE_eq, sizeLine_eq]; decide)
mutual
inductive RD (K : PySem.W.Frag) (ρ : Nat → Addr) (N : Nat) (H : Hp) : Qm.D → V → Prop
  | non : RD K ρ N H .non .non
  | bl (b : Bool) : RD K ρ N H (.bl b) (.bl b)
  | int (i : Int) : RD K ρ N H (.int i) (.int i)
  | str (x : Str) : RD K ρ N H (.str x) (.str x)
  | ty (n : String) : RD K ρ N H (.ty n) (.ty n)
  | tup {p : Addr} {xs : List V} {ds : List Qm.D} : H p = some (.tup xs) → RA K ρ N H ds xs → RD K ρ N H (.tup ds) (.ref p)
  | ref {n : Nat} : n < N → RD K ρ N H (.ref n) (.ref (ρ n))
inductive RA (K : PySem.W.Frag) (ρ : Nat → Addr) (N : Nat) (H : Hp) : List Qm.D → List V → Prop
  | nil : RA K ρ N H [] []
  | cons {d : Qm.D} {ds : List Qm.D} {x : V} {xs : List V} : RD K ρ N H d x → RA K ρ N H ds xs → RA K ρ N H (d :: ds) (x :: xs)
end
structure Up (K : PySem.W.Frag) (ρ : Nat → Addr) (N : Nat) (H : Hp) (ρ' : Nat → Addr) (N' : Nat) (H' : Hp) : Prop where
  agree : ∀ n, n < N → ρ' n = ρ n
  len : N ≤ N'
  ts : ∀ p xs, H p = some (.tup xs) → H' p = some (.tup xs)
section
variable {K : PySem.W.Frag} {ρ ρ' ρ'' : Nat → Addr} {N N' N'' : Nat} {H H' H'' : Hp}
theorem Up.refl : Up K ρ N H ρ N H := ⟨fun _ _ => rfl, Nat.le_refl _, fun _ _ h => h⟩
theorem Up.trans (a : Up K ρ N H ρ' N' H') (b : Up K ρ' N' H' ρ'' N'' H'') : Up K ρ N H ρ'' N'' H'' :=
  ⟨fun n h => (b.agree n (Nat.lt_of_lt_of_le h a.len)).trans (a.agree n h), Nat.le_trans a.len b.len, fun p xs h => b.ts p xs (a.ts p xs h)⟩
mutual
theorem RD.up (u : Up K ρ N H ρ' N' H') : ∀ {d : Qm.D} {v : V}, RD K ρ N H d v → RD K ρ' N' H' d v
  | _, _, .non => .non
  | _, _, .bl b => .bl b
  | _, _, .int i => .int i
  | _, _, .str x => .str x
  | _, _, .ty n => .ty n
  | _, _, .tup h a => .tup (u.ts _ _ h) (RA.up u a)
  | _, _, .ref (n := n) h => by rw [← u.agree n h]; exact .ref (Nat.lt_of_lt_of_le h u.len)
theorem RA.up (u : Up K ρ N H ρ' N' H') : ∀ {ds : List Qm.D} {vs : List V}, RA K ρ N H ds vs → RA K ρ' N' H' ds vs
  | _, _, .nil => .nil
  | _, _, .cons h a => .cons (RD.up u h) (RA.up u a)
end
theorem RA.length : ∀ {ds : List Qm.D} {vs : List V}, RA K ρ N H ds vs → ds.length = vs.length
  | _, _, .nil => rfl
  | _, _, .cons _ a => congrArg (· + 1) (RA.length a)
theorem RA.append : ∀ {ds es : List Qm.D} {vs us : List V}, RA K ρ N H ds vs → RA K ρ N H es us → RA K ρ N H (ds ++ es) (vs ++ us)
  | _, _, _, _, .nil, b => b
  | _, _, _, _, .cons h a, b => .cons h (RA.append a b)
theorem RA.get : ∀ {ds : List Qm.D} {vs : List V} {i : Nat} {d : Qm.D}, RA K ρ N H ds vs → ds[i]? = some d → ∃ v, vs[i]? = some v ∧ RD K ρ N H d v
  | _, _, _, _, .nil, e => by simp at e
  | _, _, 0, _, .cons h _, e => by simp at e; subst e; exact ⟨_, rfl, h⟩
  | _, _, i + 1, d, .cons _ a, e => by
    obtain ⟨v, h1, h2⟩ := RA.get (i := i) (d := d) a (by simpa using e)
    exact ⟨v, by simpa using h1, h2⟩
theorem RA.take : ∀ {ds : List Qm.D} {vs : List V} (n : Nat), RA K ρ N H ds vs → RA K ρ N H (ds.take n) (vs.take n)
  | _, _, 0, _ => .nil
  | _, _, _ + 1, .nil => .nil
  | _, _, n + 1, .cons h a => .cons h (RA.take n a)
theorem RA.drop : ∀ {ds : List Qm.D} {vs : List V} (n : Nat), RA K ρ N H ds vs → RA K ρ N H (ds.drop n) (vs.drop n)
  | _, _, 0, a => a
  | _, _, _ + 1, .nil => .nil
  | _, _, n + 1, .cons _ a => RA.drop n a
theorem RA.set {d : Qm.D} {v : V} (r : RD K ρ N H d v) : ∀ {ds : List Qm.D} {vs : List V} (n : Nat), RA K ρ N H ds vs → RA K ρ N H (ds.set n d) (vs.set n v)
  | _, _, _, .nil => .nil
  | _, _, 0, .cons _ a => .cons r a
  | _, _, n + 1, .cons h a => .cons h (RA.set r n a)
theorem RA.one {d : Qm.D} {v : V} (h : RD K ρ N H d v) : RA K ρ N H [d] [v] := .cons h .nil
theorem RA.one' {d : Qm.D} {vs : List V} (h : RA K ρ N H [d] vs) : ∃ v, vs = [v] ∧ RD K ρ N H d v := by
  cases h with
  | cons r t => cases t; exact ⟨_, rfl, r⟩
theorem RA.two' {d e : Qm.D} {vs : List V} (h : RA K ρ N H [d, e] vs) : ∃ v u, vs = [v, u] ∧ RD K ρ N H d v ∧ RD K ρ N H e u := by
  cases h with
  | cons r t => obtain ⟨u, rfl, q⟩ := RA.one' t; exact ⟨_, _, rfl, r, q⟩
theorem RA.nil' {vs : List V} (h : RA K ρ N H [] vs) : vs = [] := by cases h; rfl
theorem RD.int' {i : Int} {v : V} (h : RD K ρ N H (.int i) v) : v = .int i := by cases h; rfl
theorem RD.bl' {b : Bool} {v : V} (h : RD K ρ N H (.bl b) v) : v = .bl b := by cases h; rfl
theorem RD.non' {v : V} (h : RD K ρ N H .non v) : v = .non := by cases h; rfl
theorem RD.tup' {ds : List Qm.D} {v : V} (h : RD K ρ N H (.tup ds) v) : ∃ p xs, v = .ref p ∧ H p = some (.tup xs) ∧ RA K ρ N H ds xs := by cases h with | tup a b => exact ⟨_, _, rfl, a, b⟩
theorem RD.ref' {n : Nat} {v : V} (h : RD K ρ N H (.ref n) v) : v = .ref (ρ n) ∧ n < N := by cases h with | ref h => exact ⟨rfl, h⟩
end
def RoOk (K : PySem.W.Frag) (H : Hp) (a : Addr) (xs : List V) : Prop := (∃ o, H a = some (.frz o (.lst xs))) ∨ SqL K (fun _ => none) a xs
theorem RoOk.seq {K : PySem.W.Frag} {H : Hp} {a : Addr} {xs : List V} (h : RoOk K H a xs) : SqL K H a xs := by
  rcases h with ⟨o, h⟩ | h
  · exact .inl (.inr ⟨o, h⟩)
  · rcases h with (h | ⟨o, h⟩) | h
    · cases h
    · cases h
    · exact .inr h
theorem RoOk.of {K : PySem.W.Frag} {H : Hp} {a : Addr} {xs : List V} (hO : Only H) (h : SqL K H a xs) : RoOk K H a xs := by
  rcases h with (h | ⟨o, h⟩) | h
  · rcases hO a with z | ⟨o, ys, z⟩
    · rw [z] at h; cases h
    · rw [z] at h; cases h
  · exact .inl ⟨o, h⟩
  · exact .inr (.inr h)
def CO (K : PySem.W.Frag) (ρ : Nat → Addr) (N : Nat) (H : Hp) (a : Addr) : Qm.Cell → Prop
  | .lst ds => ∃ vs, H a = some (.lst vs) ∧ RA K ρ N H ds vs
  | .ro ds => ∃ vs, RoOk K H a vs ∧ RA K ρ N H ds vs
structure RS (K : PySem.W.Frag) (ρ : Nat → Addr) (c : Qm.Cells) (H : Hp) : Prop where
  inj : ∀ (i j : Nat) (xs ys : List Qm.D), c[i]? = some (.lst xs) → c[j]? = some (.lst ys) → ρ i = ρ j → i = j
  ok : ∀ (n : Nat) (z : Qm.Cell), c[n]? = some z → CO K ρ c.length H (ρ n) z
structure RE (K : PySem.W.Frag) (ρ : Nat → Addr) (N : Nat) (H : Hp) (env : Qm.Env) (σ : St) : Prop where
  len : env.length = σ.length
  at_ : ∀ (i : Nat) (d : Qm.D), env[i]? = some (some d) → ∃ v : V, σ[i]? = some (some v) ∧ RD K ρ N H d v
structure Nx (K : PySem.W.Frag) (ρ : Nat → Addr) (c : Qm.Cells) (H : Hp) (ρ' : Nat → Addr) (c' : Qm.Cells) (H' : Hp) : Prop where
  up : Up K ρ c.length H ρ' c'.length H'
  rs : RS K ρ' c' H'
section
variable {K : PySem.W.Frag} {ρ ρ' ρ'' : Nat → Addr} {N N' : Nat} {c c' c'' : Qm.Cells} {H H' H'' : Hp} {env : Qm.Env} {σ : St}
theorem RE.up (h : RE K ρ N H env σ) (u : Up K ρ N H ρ' N' H') : RE K ρ' N' H' env σ := ⟨h.len, fun i d e => let ⟨v, h1, h2⟩ := h.at_ i d e; ⟨v, h1, h2.up u⟩⟩
theorem Nx.refl (r : RS K ρ c H) : Nx K ρ c H ρ c H := ⟨Up.refl, r⟩
theorem Nx.trans (a : Nx K ρ c H ρ' c' H') (b : Nx K ρ' c' H' ρ'' c'' H'') : Nx K ρ c H ρ'' c'' H'' := ⟨a.up.trans b.up, b.rs⟩
theorem CO.up {a : Addr} {z : Qm.Cell} (h : CO K ρ N H a z) (u : Up K ρ N H ρ' N' H') (hl : ∀ xs, H a = some (.lst xs) → H' a = some (.lst xs)) (hf : ∀ o xs, H a = some (.frz o (.lst xs)) → H' a = some (.frz o (.lst xs))) : CO K ρ' N' H' a z := by
  cases z with
  | lst ds => obtain ⟨vs, h1, h2⟩ := h; exact ⟨vs, hl _ h1, h2.up u⟩
  | ro ds =>
    obtain ⟨vs, h1, h2⟩ := h
    refine ⟨vs, ?_, h2.up u⟩
    rcases h1 with ⟨o, h1⟩ | h1
    · exact .inl ⟨o, hf _ _ h1⟩
    · exact .inr h1
theorem RE.set {d : Qm.D} {v : V} {i : Nat} (h : RE K ρ N H env σ) (r : RD K ρ N H d v) : RE K ρ N H (env.set i (some d)) (σ.set i (some v)) := by
  refine ⟨by rw [List.length_set, List.length_set]; exact h.len, fun j e he => ?_⟩
  rw [List.getElem?_set] at he ⊢
  have hl := h.len
  by_cases hij : i = j
  · rw [if_pos hij] at he ⊢
    subst hij
    split at he
    · rename_i hlt
      rw [if_pos (by omega)]
      cases he
      exact ⟨v, rfl, r⟩
    · cases he
  · rw [if_neg hij] at he ⊢
    exact h.at_ j e he
theorem Nx.same (r : RS K ρ c H) (e : Same H H') : Nx K ρ c H ρ c H' := by
  have u : Up K ρ c.length H ρ c.length H' := ⟨fun _ _ => rfl, Nat.le_refl _, fun p xs h => e _ _ h⟩
  exact ⟨u, r.inj, fun n z hz => (r.ok n z hz).up u (fun xs h => e _ _ h) (fun o xs h => e _ _ h)⟩
theorem Nx.alloc (r : RS K ρ c H) {l : Addr} (hl : H l = none) {ds : List Qm.D} {vs : List V} (a : RA K ρ c.length H ds vs) : Nx K ρ c H (fun n => if n = c.length then l else ρ n) (c ++ [.lst ds]) (upd H l (.lst vs)) ∧ RD K (fun n => if n = c.length then l else ρ n) (c ++ [Qm.Cell.lst ds]).length (upd H l (.lst vs)) (.ref c.length) (.ref l) := by
  have hlen : (c ++ [Qm.Cell.lst ds]).length = c.length + 1 := by simp
  have u : Up K ρ c.length H (fun n => if n = c.length then l else ρ n) (c ++ [Qm.Cell.lst ds]).length (upd H l (.lst vs)) := by
    refine ⟨fun n h => if_neg (by omega), by omega, fun p xs h => get_new h hl⟩
  refine ⟨⟨u, fun i j xs ys h1 h2 e => ?_, fun n z hz => ?_⟩, ?_⟩
  · have lt1 : i < c.length + 1 := by rw [← hlen]; exact (List.getElem?_eq_some_iff.mp h1).1
    have lt2 : j < c.length + 1 := by rw [← hlen]; exact (List.getElem?_eq_some_iff.mp h2).1
    have fresh : ∀ k zs, k < c.length → (c ++ [Qm.Cell.lst ds])[k]? = some (.lst zs) → ρ k ≠ l := fun k zs hk hz e' => by
      rw [List.getElem?_append_left hk] at hz
      obtain ⟨vs', h', _⟩ := r.ok k _ hz
      rw [e', hl] at h'; cases h'
    by_cases hi : i = c.length <;> by_cases hj : j = c.length
    · omega
    · exfalso
      simp only [hi, if_true, if_neg hj] at e
      exact fresh j ys (by omega) h2 e.symm
    · exfalso
      simp only [hj, if_true, if_neg hi] at e
      exact fresh i xs (by omega) h1 e
    · simp only [if_neg hi, if_neg hj] at e
      rw [List.getElem?_append_left (by omega)] at h1 h2
      exact r.inj i j xs ys h1 h2 e
  · have lt : n < c.length + 1 := by rw [← hlen]; exact (List.getElem?_eq_some_iff.mp hz).1
    by_cases hn : n = c.length
    · subst hn
      have : z = .lst ds := by simpa using hz.symm
      subst this
      simp only [if_true]
      exact ⟨vs, upd_same, a.up u⟩
    · simp only [if_neg hn]
      rw [List.getElem?_append_left (by omega)] at hz
      exact (r.ok n z hz).up u (fun xs h => get_new h hl) (fun o xs h => get_new h hl)
  · have := RD.ref (K := K) (ρ := fun n => if n = c.length then l else ρ n) (N := (c ++ [Qm.Cell.lst ds]).length) (H := upd H l (.lst vs)) (n := c.length) (by omega)
    simpa using this
theorem Nx.put (r : RS K ρ c H) {n : Nat} {xs : List Qm.D} (hn : c[n]? = some (.lst xs)) {ds : List Qm.D} {vs : List V} (a : RA K ρ c.length H ds vs) : Nx K ρ c H ρ (c.set n (.lst ds)) (upd H (ρ n) (.lst vs)) := by
  obtain ⟨ws, hw, _⟩ := r.ok n _ hn
  have hlt : n < c.length := (List.getElem?_eq_some_iff.mp hn).1
  have tne : ∀ {p : Addr} {o : HO}, H p = some o → (∀ ys, o ≠ .lst ys) → p ≠ ρ n := fun {p o} h hne e => by
    rw [e, hw] at h; cases h; exact hne _ rfl
  have u : Up K ρ c.length H ρ (c.set n (.lst ds)).length (upd H (ρ n) (.lst vs)) := by
    refine ⟨fun _ _ => rfl, by rw [List.length_set]; exact Nat.le_refl _, fun p ys h => ?_⟩
    rw [upd_ne (tne h (by intro _ z; cases z))]; exact h
  have look : ∀ {j : Nat} {z : Qm.Cell}, j ≠ n → (c.set n (.lst ds))[j]? = some z → c[j]? = some z := fun {j z} hj hz => by
    rw [List.getElem?_set, if_neg (fun e => hj e.symm)] at hz; exact hz
  have back : ∀ {j : Nat} {zs : List Qm.D}, (c.set n (.lst ds))[j]? = some (.lst zs) → ∃ zs', c[j]? = some (.lst zs') := fun {j zs} hz => by
    by_cases hj : j = n
    · subst hj; exact ⟨xs, hn⟩
    · exact ⟨zs, look hj hz⟩
  refine ⟨u, fun i j ys zs h1 h2 e => ?_, fun j z hz => ?_⟩
  · obtain ⟨_, g1⟩ := back h1
    obtain ⟨_, g2⟩ := back h2
    exact r.inj i j _ _ g1 g2 e
  · by_cases hj : j = n
    · subst hj
      have : z = .lst ds := by
        rw [List.getElem?_set, if_pos rfl, if_pos hlt] at hz; cases hz; rfl
      subst this
      exact ⟨vs, upd_same, a.up u⟩
    · have hz' := look hj hz
      have hne : ∀ ys, H (ρ j) = some (.lst ys) → z ≠ .ro [] → ρ j ≠ ρ n ∨ True := fun _ _ _ => .inr trivial
      cases z with
      | lst zs =>
        have hp : ρ j ≠ ρ n := fun e => hj (r.inj j n _ _ hz' hn e)
        exact (r.ok j _ hz').up u (fun ys h => by rw [upd_ne hp]; exact h) (fun o ys h => by rw [upd_ne hp]; exact h)
      | ro zs =>
        obtain ⟨ws', h1, h2⟩ := r.ok j _ hz'
        refine ⟨ws', ?_, h2.up u⟩
        rcases h1 with ⟨o, h1⟩ | h1
        · exact .inl ⟨o, by rw [upd_ne (tne h1 (by intro _ z; cases z))]; exact h1⟩
        · exact .inr h1
theorem RS.lst (r : RS K ρ c H) {n : Nat} {ds : List Qm.D} (h : c[n]? = some (.lst ds)) : ∃ vs, H (ρ n) = some (.lst vs) ∧ RA K ρ c.length H ds vs := r.ok n _ h
theorem RS.seq (r : RS K ρ c H) {d : Qm.D} {ds : List Qm.D} {v : V} (h : RD K ρ c.length H d v) (e : Qm.seqOf d c = some ds) : ∃ p vs, v = .ref p ∧ (SqL K H p vs ∨ H p = some (.tup vs)) ∧ RA K ρ c.length H ds vs := by
  unfold Qm.seqOf at e
  split at e
  · cases e
    obtain ⟨p, xs, rfl, h1, h2⟩ := h.tup'
    exact ⟨p, xs, rfl, .inr h1, h2⟩
  · rename_i n
    obtain ⟨rfl, hn⟩ := h.ref'
    split at e
    · rename_i xs hx
      cases e
      obtain ⟨vs, h1, h2⟩ := r.lst hx
      exact ⟨_, vs, rfl, .inl (SqL.of h1), h2⟩
    · rename_i xs hx
      cases e
      obtain ⟨vs, h1, h2⟩ := r.ok n _ hx
      exact ⟨_, vs, rfl, .inl h1.seq, h2⟩
    · cases e
  · cases e
theorem seqOf_cases {d : Qm.D} {c : Qm.Cells} {ds : List Qm.D} (e : Qm.seqOf d c = some ds) : d = .tup ds ∨ ∃ n, d = .ref n := by
  unfold Qm.seqOf at e
  split at e
  · cases e; exact .inl rfl
  · exact .inr ⟨_, rfl⟩
  · cases e
theorem RS.seqR (r : RS K ρ c H) {n : Nat} {ds : List Qm.D} {v : V} (h : RD K ρ c.length H (.ref n) v) (e : Qm.seqOf (.ref n) c = some ds) : ∃ vs, v = .ref (ρ n) ∧ SqL K H (ρ n) vs ∧ RA K ρ c.length H ds vs := by
  obtain ⟨rfl, hn⟩ := h.ref'
  unfold Qm.seqOf at e
  dsimp only at e
  split at e
  · rename_i xs hx
    cases e
    obtain ⟨vs, h1, h2⟩ := r.lst hx
    exact ⟨vs, rfl, SqL.of h1, h2⟩
  · rename_i xs hx
    cases e
    obtain ⟨vs, h1, h2⟩ := r.ok n _ hx
    exact ⟨vs, rfl, h1.seq, h2⟩
  · cases e
theorem RS.lstOf (r : RS K ρ c H) {d : Qm.D} {n : Nat} {ds : List Qm.D} {v : V} (h : RD K ρ c.length H d v) (e : Qm.lstOf d c = some (n, ds)) : d = .ref n ∧ c[n]? = some (.lst ds) ∧ ∃ vs, v = .ref (ρ n) ∧ H (ρ n) = some (.lst vs) ∧ RA K ρ c.length H ds vs := by
  unfold Qm.lstOf at e
  split at e
  · obtain ⟨rfl, hn⟩ := h.ref'
    split at e
    · rename_i xs hx
      cases e
      obtain ⟨vs, h1, h2⟩ := r.lst hx
      exact ⟨rfl, hx, vs, rfl, h1, h2⟩
    · cases e
  · cases e
end
def TQ (K : PySem.W.Frag) (f : Qm.XE) : TE := fun σ H Q => ∃ ρ env c d c', RS K ρ c H ∧ RE K ρ c.length H env σ ∧ f env c = some (d, c') ∧ ∀ ρ' v H', Nx K ρ c H ρ' c' H' → RD K ρ' c'.length H' d v → Q v H'
def AQ (K : PySem.W.Frag) (f : Qm.XA) : TA := fun σ H Q => ∃ ρ env c ds c', RS K ρ c H ∧ RE K ρ c.length H env σ ∧ f env c = some (ds, c') ∧ ∀ ρ' vs H', Nx K ρ c H ρ' c' H' → RA K ρ' c'.length H' ds vs → Q vs H'
def BQ (K : PySem.W.Frag) (f : Qm.XT) : TT := fun σ H Q => ∃ ρ env c b c', RS K ρ c H ∧ RE K ρ c.length H env σ ∧ f env c = some (b, c') ∧ ∀ ρ' H', Nx K ρ c H ρ' c' H' → Q b H'
def OQ (K : PySem.W.Frag) (f : Qm.XO) : TO := fun σ H Q => ∃ ρ env c o c', RS K ρ c H ∧ RE K ρ c.length H env σ ∧ f env c = some (o, c') ∧ ∀ ρ' H', Nx K ρ c H ρ' c' H' → Q o H'
def EndQ (K : PySem.W.Frag) (ρ : Nat → Addr) (c : Qm.Cells) (H : Hp) (env : Qm.Env) (D : Ends) : Qm.Fl → Prop
  | .nx => ∀ σ, RE K ρ c.length H env σ → D.nx σ H
  | .bk => ∀ σ, RE K ρ c.length H env σ → D.bk σ H
  | .ct => ∀ σ, RE K ρ c.length H env σ → D.ct σ H
  | .rt d => ∀ v, RD K ρ c.length H d v → D.rt v H
def SQ (K : PySem.W.Frag) (f : Qm.XS) : TS := fun D σ H => ∃ ρ env c fl env' c', RS K ρ c H ∧ RE K ρ c.length H env σ ∧ f env c = some (fl, env', c') ∧ ∀ ρ' H', Nx K ρ c H ρ' c' H' → EndQ K ρ' c' H' env' D fl
def GQ (K : PySem.W.Frag) (g : Qm.XG) : TG := fun v σ H Q => ∃ ρ env c d env' c', RS K ρ c H ∧ RE K ρ c.length H env σ ∧ RD K ρ c.length H d v ∧ g d env c = some (env', c') ∧ ∀ ρ' H' σ', Nx K ρ c H ρ' c' H' → RE K ρ' c'.length H' env' σ' → Q σ' H'
def GsQ (K : PySem.W.Frag) (g : Qm.XGs) : TGs := fun vs σ H Q => ∃ ρ env c ds env' c', RS K ρ c H ∧ RE K ρ c.length H env σ ∧ RA K ρ c.length H ds vs ∧ g ds env c = some (env', c') ∧ ∀ ρ' H' σ', Nx K ρ c H ρ' c' H' → RE K ρ' c'.length H' env' σ' → Q σ' H'
def ItOk (K : PySem.W.Frag) (ρ0 : Nat → Addr) (N0 : Nat) (H0 : Hp) (m : Qm.Itm) (J : It) : Prop := ∀ ρ c H, Up K ρ0 N0 H0 ρ c.length H → RS K ρ c H → Qm.stays m.ks c →
  (∀ i, i < m.ds.length → J.go i H) ∧ J.stop m.ds.length H ∧ ∀ i d x H', m.ds[i]? = some d → J.yld i H x H' → Nx K ρ c H ρ c H' ∧ RD K ρ c.length H' d x
def IQ (K : PySem.W.Frag) (f : Qm.XI) : TI := fun σ H R => ∃ ρ env c m c', RS K ρ c H ∧ RE K ρ c.length H env σ ∧ f env c = some (m, c') ∧ ∀ ρ' J H', Nx K ρ c H ρ' c' H' → ItOk K ρ' c'.length H' m J → R J H'
abbrev QE (X : Cx) (e : Expr) (f : Qm.XE) : Prop := PE X e (TQ X.K f)
abbrev QA (X : Cx) (es : List Expr) (f : Qm.XA) : Prop := PA X es (AQ X.K f)
abbrev QT (X : Cx) (e : Expr) (f : Qm.XT) : Prop := PT X e (BQ X.K f)
abbrev QW (X : Cx) (e : Expr) (f : Qm.XT) : Prop := PW X e (BQ X.K f)
abbrev QO (X : Cx) (e : Option Expr) (f : Qm.XO) : Prop := PO X e (OQ X.K f)
abbrev QS (X : Cx) (e : Stmt) (f : Qm.XS) : Prop := PS X e (SQ X.K f)
abbrev QSs (X : Cx) (e : List Stmt) (f : Qm.XS) : Prop := PSs X e (SQ X.K f)
abbrev QG (X : Cx) (e : Expr) (f : Qm.XG) : Prop := PG X e (GQ X.K f)
abbrev QGs (X : Cx) (e : List Expr) (f : Qm.XGs) : Prop := PGs X e (GsQ X.K f)
abbrev QI (X : Cx) (tg e : Expr) (f : Qm.XI) : Prop := PI X tg e (IQ X.K f)
abbrev QIfs (X : Cx) (e : List Expr) (f : Qm.XT) : Prop := PIfs X e (BQ X.K f)
section
variable {X : Cx}
theorem PE.imp {e : Expr} {t t' : TE} (h : PE X e t) (k : ∀ σ H Q, t' σ H Q → t σ H Q) : PE X e t' := fun pins s σ H Q I q => h pins s σ H Q I (k σ H Q q)
theorem PT.imp {e : Expr} {t t' : TT} (h : PT X e t) (k : ∀ σ H Q, t' σ H Q → t σ H Q) : PT X e t' := fun pins s σ H Q I q => h pins s σ H Q I (k σ H Q q)
theorem PW.imp {e : Expr} {t t' : TT} (h : PW X e t) (k : ∀ σ H Q, t' σ H Q → t σ H Q) : PW X e t' := fun wh pins s σ H Q I q => h wh pins s σ H Q I (k σ H Q q)
theorem PA.imp {e : List Expr} {t t' : TA} (h : PA X e t) (k : ∀ σ H Q, t' σ H Q → t σ H Q) : PA X e t' := fun pos pins s σ H Q I q => h pos pins s σ H Q I (k σ H Q q)
theorem PS.imp {e : Stmt} {t t' : TS} (h : PS X e t) (k : ∀ D σ H, t' D σ H → t D σ H) : PS X e t' := fun pins s σ H D I q => h pins s σ H D I (k D σ H q)
theorem PSs.imp {e : List Stmt} {t t' : TS} (h : PSs X e t) (k : ∀ D σ H, t' D σ H → t D σ H) : PSs X e t' := fun pins s σ H D I q => h pins s σ H D I (k D σ H q)
theorem PO.imp {e : Option Expr} {t t' : TO} (h : PO X e t) (k : ∀ σ H Q, t' σ H Q → t σ H Q) : PO X e t' := fun pins s σ H Q I q => h pins s σ H Q I (k σ H Q q)
theorem PG.imp {e : Expr} {t t' : TG} (h : PG X e t) (k : ∀ v σ H Q, t' v σ H Q → t v σ H Q) : PG X e t' := fun pins s σ H x v Q I r q => h pins s σ H x v Q I r (k x σ H Q q)
theorem PGs.imp {e : List Expr} {t t' : TGs} (h : PGs X e t) (k : ∀ v σ H Q, t' v σ H Q → t v σ H Q) : PGs X e t' := fun pins s σ H x v Q I r q => h pins s σ H x v Q I r (k x σ H Q q)
theorem PI.imp {tg e : Expr} {t t' : TI} (h : PI X tg e t) (k : ∀ σ H Q, t' σ H Q → t σ H Q) : PI X tg e t' := fun pins s σ H R I q => h pins s σ H R I (k σ H R q)
theorem PIfs.imp {e : List Expr} {t t' : TT} (h : PIfs X e t) (k : ∀ σ H Q, t' σ H Q → t σ H Q) : PIfs X e t' := fun pins s σ H Q I q => h pins s σ H Q I (k σ H Q q)
end
end L2
namespace L2
open PySem PySem.Spec PyProof.Rows
section
variable {X : Cx} {a b e : Expr} {es : List Expr} {fa fb fc fe : Qm.XE} {ft fu : Qm.XT} {pos : Pos}
theorem qe_var (i : Nat) (h : PE X e (tVar i)) : QE X e (Qm.eV i) := h.imp fun σ H Q ⟨ρ, env, c, d, c', rs, re, e, k⟩ => by
  unfold Qm.eV at e
  obtain ⟨d', e1, e2⟩ := bnd e
  cases e2
  have e3 : env[i]? = some (some d) := by
    cases h : env[i]? with
    | none => rw [h] at e1; cases e1
    | some o => rw [h] at e1; rw [show o = some d from e1]
  obtain ⟨v, h1, h2⟩ := re.at_ i d e3
  exact ⟨v, h1, k ρ v H (Nx.refl rs) h2⟩
theorem qe_c {v : V} (d : Qm.D) (h : PE X e (tC v)) (r : ∀ ρ N H, RD X.K ρ N H d v) : QE X e (Qm.eC d) := h.imp fun σ H Q ⟨ρ, env, c, d', c', rs, re, e, k⟩ => by
  unfold Qm.eC at e
  cases e
  exact k ρ v H (Nx.refl rs) (r _ _ _)
theorem qe_int {i : Int} {j pos} : QE X (.Constant (.int i) j pos) (Qm.eC (.int i)) := qe_c _ pe_int fun _ _ _ => .int i
theorem qe_bl {i : Bool} {j pos} : QE X (.Constant (.bool i) j pos) (Qm.eC (.bl i)) := qe_c _ pe_bl fun _ _ _ => .bl i
theorem qe_non {j pos} : QE X (.Constant .none j pos) (Qm.eC .non) := qe_c _ pe_non fun _ _ _ => .non
theorem qe_str {x : Str} {j pos} : QE X (.Constant (.str x) j pos) (Qm.eC (.str x)) := qe_c _ pe_str fun _ _ _ => .str x
def Lk2 (K : PySem.W.Frag) (r : R2) (g : Qm.G2) : Prop := ∀ ρ c H x y d c' v u Q, RS K ρ c H → RD K ρ c.length H x v → RD K ρ c.length H y u → g x y c = some (d, c') → (∀ ρ' w H', Nx K ρ c H ρ' c' H' → RD K ρ' c'.length H' d w → Q w H') → r v u H Q
theorem tOp_q {K : PySem.W.Frag} {r : R2} {g : Qm.G2} (hl : Lk2 K r g) {σ : St} {H : Hp} {Q : VK} (h : TQ K (Qm.e2 g fa fb) σ H Q) : tOp r (TQ K fa) (TQ K fb) σ H Q := by
  obtain ⟨ρ, env, c, d, c', rs, re, e, k⟩ := h
  obtain ⟨p, e1, e⟩ := bnd e
  obtain ⟨q, e2, e3⟩ := bnd e
  exact ⟨ρ, env, c, p.1, p.2, rs, re, e1, fun ρ1 v H1 n1 r1 => ⟨ρ1, env, p.2, q.1, q.2, n1.rs, re.up n1.up, e2, fun ρ2 u H2 n2 r2 =>
    hl ρ2 q.2 H2 p.1 q.1 d c' v u Q n2.rs (r1.up n2.up) r2 e3 fun ρ' w H' n3 r3 => k ρ' w H' (n1.trans (n2.trans n3)) r3⟩⟩
theorem qe_op {op : Operator} {r : R2} {g : Qm.G2} (ho : OpR X (binaryOp op) r) (hl : Lk2 X.K r g) (ha : QE X a fa) (hb : QE X b fb) : QE X (.BinOp a op b pos) (Qm.e2 g fa fb) := (pe_op ho ha hb).imp fun _ _ _ h => tOp_q hl h
theorem qe_cmp {op : CmpOp} {r : R2} {g : Qm.G2} (ho : OpR X (compareOp op) r) (hl : Lk2 X.K r g) (ha : QE X a fa) (hb : QE X b fb) (hm : behindInMarks op b = false) : QE X (.Compare a [op] [b] pos) (Qm.e2 g fa fb) := (pe_cmpR ho ha hb hm).imp fun _ _ _ h => tOp_q hl h
theorem qe_ix {r : R2} {g : Qm.G2} (hr : IxR X r) (hl : Lk2 X.K r g) (ha : QE X a fa) (hb : QE X b fb) (hs : PlainIx b) : QE X (.Subscript a b pos) (Qm.e2 g fa fb) := (pe_ix hr ha hb hs).imp fun _ _ _ h => tOp_q hl h
theorem asI_of {d : Qm.D} {i : Int} (h : Qm.asI d = some i) : d = .int i := by
  unfold Qm.asI at h
  split at h
  · cases h; rfl
  · cases h
theorem asB_of {d : Qm.D} {i : Bool} (h : Qm.asB d = some i) : d = .bl i := by
  unfold Qm.asB at h
  split at h
  · cases h; rfl
  · cases h
theorem lk_int {K : PySem.W.Frag} {C : Int → Int → Prop} {g : Int → Int → V} {f : Int → Int → Option Qm.D} (h : ∀ i j d, f i j = some d → C i j ∧ ∀ ρ N H, RD K ρ N H d (g i j)) : Lk2 K (rI C g) (Qm.ii f) := by
  intro ρ c H x y d c' v u Q rs rx ry e k
  obtain ⟨i, e1, e⟩ := bnd e
  obtain ⟨j, e2, e⟩ := bnd e
  obtain ⟨d', e3, e⟩ := bnd e
  cases e
  cases asI_of e1; cases asI_of e2
  cases rx.int'; cases ry.int'
  obtain ⟨hc, hr⟩ := h i j d e3
  exact ⟨i, j, rfl, rfl, hc, k ρ _ H (Nx.refl rs) (hr _ _ _)⟩
theorem lk_int0 {K : PySem.W.Frag} {g : Int → Int → V} {f : Int → Int → Option Qm.D} (h : ∀ i j d, f i j = some d → ∀ ρ N H, RD K ρ N H d (g i j)) : Lk2 K (rI0 g) (Qm.ii f) := by
  intro ρ c H x y d c' v u Q rs rx ry e k
  obtain ⟨i, e1, e⟩ := bnd e
  obtain ⟨j, e2, e⟩ := bnd e
  obtain ⟨d', e3, e⟩ := bnd e
  cases e
  cases asI_of e1; cases asI_of e2
  cases rx.int'; cases ry.int'
  exact ⟨i, j, rfl, rfl, k ρ _ H (Nx.refl rs) (h i j d e3 _ _ _)⟩
theorem lk_sub {K : PySem.W.Frag} : Lk2 K (rI0 fun i j => .int (i - j)) Qm.gSub := lk_int0 fun i j d e ρ N H => by cases e; exact .int _
theorem lk_mul {K : PySem.W.Frag} : Lk2 K (rI IntMulOk fun i j => .int (i * j)) Qm.gMul := lk_int fun i j d e => by
  split at e
  · rename_i h
    cases e
    refine ⟨?_, fun _ _ _ => .int _⟩
    have e64 : (2 : Nat) ^ 64 = 18446744073709551616 := by decide
    rcases h with h | h | h
    · exact My.mulOk h.1 h.2 rfl
    · have := h.lt
      exact My.mulOkL (by omega) (by omega)
    · have := h.lt
      exact My.mulOkR (by omega) (by omega)
  · cases e
theorem lk_fdiv {K : PySem.W.Frag} : Lk2 K (rI CDivB fun i j => .int (i.fdiv j)) Qm.gFdiv := lk_int fun i j d e => by
  split at e
  · rename_i h
    cases e
    exact ⟨divB h.1 h.2 rfl, fun _ _ _ => .int _⟩
  · cases e
theorem lk_mod {K : PySem.W.Frag} : Lk2 K (rI (fun _ j => j ≠ 0) fun i j => .int (i.fmod j)) Qm.gMod := lk_int fun i j d e => by
  split at e
  · rename_i h
    cases e
    exact ⟨h, fun _ _ _ => .int _⟩
  · cases e
theorem lk_pow {K : PySem.W.Frag} : Lk2 K (rI CPow fun i j => .int (i ^ j.toNat)) Qm.gPow := lk_int fun i j d e => by
  split at e
  · rename_i h
    cases e
    exact ⟨⟨h.1, by omega, by have := h.2.2; have : (2 : Nat) ^ 64 = 18446744073709551616 := by decide
                              omega⟩, fun _ _ _ => .int _⟩
  · cases e
theorem lk_lt {K : PySem.W.Frag} : Lk2 K (rI0 fun i j => .bl (decide (i < j))) Qm.gLt := lk_int0 fun i j d e ρ N H => by cases e; exact .bl _
theorem lk_le {K : PySem.W.Frag} : Lk2 K (rI0 fun i j => .bl (decide (i ≤ j))) Qm.gLe := lk_int0 fun i j d e ρ N H => by cases e; exact .bl _
theorem lk_gt {K : PySem.W.Frag} : Lk2 K (rI0 fun i j => .bl (decide (j < i))) Qm.gGt := lk_int0 fun i j d e ρ N H => by cases e; exact .bl _
theorem lk_add {K : PySem.W.Frag} : Lk2 K (fun x y H Q => (rI0 fun i j => .int (i + j)) x y H Q ∨ (rCatT K x y H Q ∨ rCat x y H Q)) Qm.gAdd := by
  intro ρ c H x y d c' v u Q rs rx ry e k
  unfold Qm.gAdd at e
  split at e
  · cases e
    cases rx.int'; cases ry.int'
    exact .inl ⟨_, _, rfl, rfl, k ρ _ H (Nx.refl rs) (.int _)⟩
  · rename_i xs ys
    split at e
    · rename_i h
      cases e
      obtain ⟨p, vs, rfl, h1, a1⟩ := rx.tup'
      obtain ⟨q, us, rfl, h2, a2⟩ := ry.tup'
      have l1 := a1.length
      have l2 := a2.length
      refine .inr (.inl ⟨p, q, vs, us, rfl, rfl, SqT.of h1, SqT.of h2, ?_, line_le (by omega), fun z => ?_, fun _ l hl => ?_⟩)
      · intro z; subst z
        have : xs = [] := List.length_eq_zero_iff.mp (by simpa using l1)
        exact h.1 this
      · subst z
        have : ys = [] := List.length_eq_zero_iff.mp (by simpa using l2)
        subst this
        rw [List.append_nil] at k
        exact k ρ _ H (Nx.refl rs) (.tup h1 a1)
      · have n := Nx.same rs (same_new (z := .tup (vs ++ us)) hl)
        exact k ρ _ _ n (.tup upd_same ((a1.append a2).up n.up))
    · cases e
  · obtain ⟨p, e1, e⟩ := bnd e
    obtain ⟨q, e2, e⟩ := bnd e
    split at e
    · rename_i h
      cases e
      obtain ⟨_, hp, vs, rfl, h1, a1⟩ := rs.lstOf rx e1
      obtain ⟨_, hq, us, rfl, h2, a2⟩ := rs.lstOf ry e2
      have l1 := a1.length
      have l2 := a2.length
      refine .inr (.inr ⟨_, _, vs, us, rfl, rfl, h1, h2, line_le (by omega), fun l hl => ?_⟩)
      obtain ⟨n, r⟩ := Nx.alloc rs hl (a1.append a2)
      exact k _ _ _ n r
    · cases e
theorem op_addQ : OpR X (binaryOp .Add) (fun x y H Q => (rI0 fun i j => .int (i + j)) x y H Q ∨ (rCatT X.K x y H Q ∨ rCat x y H Q)) := op_add.or (op_catT.or op_cat)
theorem lk_ix {K : PySem.W.Frag} : Lk2 K (rIx K) Qm.gIx := by
  intro ρ c H x y d c' v u Q rs rx ry e k
  obtain ⟨xs, e1, e⟩ := bnd e
  obtain ⟨i, e2, e⟩ := bnd e
  obtain ⟨d', e3, e⟩ := bnd e
  cases e
  cases asI_of e2
  cases ry.int'
  obtain ⟨p, vs, rfl, h, a⟩ := rs.seq rx e1
  obtain ⟨j, hj, hx⟩ := bnd (show (Qm.ixD xs.length i).bind (fun j => xs[j]?) = some d from e3)
  obtain ⟨w, hw, rw'⟩ := a.get hx
  have hat : atI vs i = some w := by
    show (ixN vs.length i).bind (fun j => vs[j]?) = some w
    rw [← a.length, show ixN xs.length i = some j from hj]
    exact hw
  rcases h with h | h
  · exact .inl ⟨p, vs, i, w, rfl, rfl, h, hat, k ρ _ H (Nx.refl rs) rw'⟩
  · exact .inr (.inl ⟨p, vs, i, w, rfl, rfl, SqT.of h, hat, k ρ _ H (Nx.refl rs) rw'⟩)
theorem qe_item (ha : QE X a fa) (hb : QE X b fb) (hs : PlainIx b) : QE X (.Subscript a b pos) (Qm.e2 Qm.gIx fa fb) := qe_ix ix_seq lk_ix ha hb hs
theorem qe_neg (ha : QE X a fa) : QE X (.UnaryOp .USub a pos) (Qm.e1 Qm.gNeg fa) := (pe_un un_neg ha).imp fun σ H Q ⟨ρ, env, c, d, c', rs, re, e, k⟩ => by
  obtain ⟨p, e1, e⟩ := bnd e
  obtain ⟨i, e2, e⟩ := bnd e
  cases e
  refine ⟨ρ, env, c, p.1, p.2, rs, re, e1, fun ρ1 v H1 n1 r1 => ?_⟩
  rw [asI_of e2] at r1
  cases r1.int'
  exact ⟨i, rfl, k ρ1 _ H1 n1 (.int _)⟩
theorem qe_one {op} (h : QE X a fa) : QE X (.BoolOp op [a] pos) fa := pe_one h
theorem qe_and {rest : List Expr} (ha : QE X a fa) (hb : QE X (.BoolOp .And (b :: rest) pos) fb) : QE X (.BoolOp .And (a :: b :: rest) pos) (Qm.eAnd fa fb) := (pe_and ha hb).imp fun σ H Q ⟨ρ, env, c, d, c', rs, re, e, k⟩ => by
  obtain ⟨p, e1, e⟩ := bnd e
  obtain ⟨i, e2, e⟩ := bnd e
  refine ⟨ρ, env, c, p.1, p.2, rs, re, e1, fun ρ1 v H1 n1 r1 => ?_⟩
  rw [asB_of e2] at r1
  cases r1.bl'
  refine ⟨i, rfl, ?_⟩
  split at e
  · rename_i hi
    rw [if_pos hi]
    exact ⟨ρ1, env, p.2, d, c', n1.rs, re.up n1.up, e, fun ρ' w H' n r => k ρ' w H' (n1.trans n) r⟩
  · rename_i hi
    rw [if_neg hi]
    cases e
    exact k ρ1 _ H1 n1 (.bl _)
theorem qe_not (ha : QE X a fa) : QE X (.UnaryOp .Not a pos) (Qm.eNot fa) := (pe_not ha).imp fun σ H Q ⟨ρ, env, c, d, c', rs, re, e, k⟩ => by
  obtain ⟨p, e1, e⟩ := bnd e
  obtain ⟨i, e2, e⟩ := bnd e
  cases e
  refine ⟨ρ, env, c, p.1, p.2, rs, re, e1, fun ρ1 v H1 n1 r1 => ?_⟩
  rw [asB_of e2] at r1
  cases r1.bl'
  exact ⟨i, rfl, k ρ1 _ H1 n1 (.bl _)⟩
theorem qe_ifExp {c0 : Expr} (hc : QT X c0 ft) (ha : QE X a fa) (hb : QE X b fb) : QE X (.IfExp c0 a b pos) (Qm.eIf ft fa fb) := (pe_ifExp hc ha hb).imp fun σ H Q ⟨ρ, env, c, d, c', rs, re, e, k⟩ => by
  obtain ⟨p, e1, e⟩ := bnd e
  refine ⟨ρ, env, c, p.1, p.2, rs, re, e1, fun ρ1 H1 n1 => ?_⟩
  split at e
  · rename_i hi
    rw [if_pos hi]
    exact ⟨ρ1, env, p.2, d, c', n1.rs, re.up n1.up, e, fun ρ' w H' n r => k ρ' w H' (n1.trans n) r⟩
  · rename_i hi
    rw [if_neg hi]
    exact ⟨ρ1, env, p.2, d, c', n1.rs, re.up n1.up, e, fun ρ' w H' n r => k ρ' w H' (n1.trans n) r⟩
theorem tChain_q {K : PySem.W.Frag} {r r' : R2} {g g' : Qm.G2} (hl : Lk2 K r g) (hl' : Lk2 K r' g') {σ : St} {H : Hp} {Q : VK} (h : TQ K (Qm.eChain g g' fa fb fc) σ H Q) : tChain r r' (TQ K fa) (TQ K fb) (TQ K fc) σ H Q := by
  obtain ⟨ρ, env, c, d, c', rs, re, e, k⟩ := h
  obtain ⟨p, e1, e⟩ := bnd e
  obtain ⟨q, e2, e⟩ := bnd e
  obtain ⟨z, e3, e⟩ := bnd e
  obtain ⟨i, e4, e⟩ := bnd e
  refine ⟨ρ, env, c, p.1, p.2, rs, re, e1, fun ρ1 v H1 n1 r1 => ⟨ρ1, env, p.2, q.1, q.2, n1.rs, re.up n1.up, e2, fun ρ2 u H2 n2 r2 => ?_⟩⟩
  refine hl ρ2 q.2 H2 p.1 q.1 z.1 z.2 v u _ n2.rs (r1.up n2.up) r2 e3 fun ρ3 w H3 n3 r3 => ?_
  rw [asB_of e4] at r3
  cases r3.bl'
  refine ⟨i, rfl, ?_⟩
  split at e
  · rename_i hi
    rw [if_pos hi]
    obtain ⟨s, e5, e⟩ := bnd e
    refine ⟨ρ3, env, z.2, s.1, s.2, n3.rs, re.up (n1.trans (n2.trans n3)).up, e5, fun ρ4 w4 H4 n4 r4 => ?_⟩
    exact hl' ρ4 s.2 H4 q.1 s.1 d c' u w4 Q n4.rs ((r2.up n3.up).up n4.up) r4 e fun ρ5 w5 H5 n5 r5 => k ρ5 w5 H5 (n1.trans (n2.trans (n3.trans (n4.trans n5)))) r5
  · rename_i hi
    rw [if_neg hi]
    cases e
    exact k ρ3 _ H3 (n1.trans (n2.trans n3)) (.bl _)
theorem qa_nil : QA X [] Qm.aNil := pa_nil.imp fun σ H Q ⟨ρ, env, c, ds, c', rs, re, e, k⟩ => by
  cases e
  exact k ρ [] H (Nx.refl rs) .nil
theorem qa_cons {fr : Qm.XA} (ha : QE X e fa) (hr : QA X es fr) (hs : starEach (e :: es) X.env = (false, eval e X.env) :: starEach es X.env := by rfl) : QA X (e :: es) (Qm.aCons fa fr) := (pa_cons ha hr hs).imp fun σ H Q ⟨ρ, env, c, ds, c', rs, re, e, k⟩ => by
  obtain ⟨p, e1, e⟩ := bnd e
  obtain ⟨q, e2, e⟩ := bnd e
  cases e
  exact ⟨ρ, env, c, p.1, p.2, rs, re, e1, fun ρ1 v H1 n1 r1 => ⟨ρ1, env, p.2, q.1, q.2, n1.rs, re.up n1.up, e2, fun ρ2 vs H2 n2 r2 => k ρ2 (v :: vs) H2 (n1.trans n2) (.cons (r1.up n2.up) r2)⟩⟩
theorem qe_tup {x1} {f : Qm.XA} (h : QA X es f) : QE X (.Tuple es x1 pos) (Qm.eTup f) := (pe_tup h).imp fun σ H Q ⟨ρ, env, c, d, c', rs, re, e, k⟩ => by
  obtain ⟨p, e1, e⟩ := bnd e
  split at e
  · rename_i hz
    cases e
    refine ⟨ρ, env, c, p.1, p.2, rs, re, e1, fun ρ1 vs H1 n1 r1 => ⟨line_le (by rw [← r1.length]; exact hz), fun l hl => ?_⟩⟩
    have n := Nx.same n1.rs (same_new (z := .tup vs) hl)
    exact k ρ1 _ _ (n1.trans n) (.tup upd_same (r1.up n.up))
  · cases e
theorem qe_lst {f : Qm.XA} (h : QA X es f) : QE X (.List es pos) (Qm.eLst f) := (pe_lst h).imp fun σ H Q ⟨ρ, env, c, d, c', rs, re, e, k⟩ => by
  obtain ⟨p, e1, e⟩ := bnd e
  split at e
  · rename_i hz
    cases e
    refine ⟨ρ, env, c, p.1, p.2, rs, re, e1, fun ρ1 vs H1 n1 r1 => ⟨line_le (by rw [← r1.length]; exact hz), fun l hl => ?_⟩⟩
    obtain ⟨n, r⟩ := Nx.alloc n1.rs hl r1
    exact k _ _ _ (n1.trans n) r
  · cases e
def spD (K : PySem.W.Frag) (F : Qm.FN) : Sp := fun vs H Q _ => ∃ ρ c ds d c', RS K ρ c H ∧ RA K ρ c.length H ds vs ∧ F ds c = some (d, c') ∧ ∀ ρ' v H', Nx K ρ c H ρ' c' H' → RD K ρ' c'.length H' d v → Q v H'
theorem tCall_q {K : PySem.W.Frag} {F : Qm.FN} {f : Qm.XA} {ds : List Qm.D} {dvs : List V} {E : XK} (hd : ∀ ρ N H, RA K ρ N H ds dvs) {σ : St} {H : Hp} {Q : VK} (h : TQ K (Qm.eCall F ds f) σ H Q) : tCall (spD K F) dvs E (AQ K f) σ H Q := by
  obtain ⟨ρ, env, c, d, c', rs, re, e, k⟩ := h
  obtain ⟨p, e1, e⟩ := bnd e
  exact ⟨ρ, env, c, p.1, p.2, rs, re, e1, fun ρ1 vs H1 n1 r1 => ⟨ρ1, p.2, p.1 ++ ds, d, c', n1.rs, r1.append (hd _ _ _), e, fun ρ' v H' n r => k ρ' v H' (n1.trans n) r⟩⟩
theorem qe_call {k : Nat} {f : Addr} {fd : FuncData} {ps : List Str} {F : Qm.FN} {dvs : List V} {ds : List Value} {x : Str} {p : Pos} {fx : Qm.XA} (qs : List Qm.D) (G : FnOk X.prog X.w X.K X.mg X.base CX0 k f fd ps (spD X.K F)) (hr : Room k X.A) (hg : Gl X x) (hm : X.mg x = some (.ref f)) (hk : PySem.W.keepIn X.K (.ref f) = true) (hb : Binds X.K fd ps ds) (hd : Vals dvs ds) (hq : ∀ ρ N H, RA X.K ρ N H qs dvs)
    (ha : QA X (e :: es) fx) (hdb : (x == ("__debug__" : Str)) = false := by decide) (he : starEach (e :: es) X.env = (false, eval e X.env) :: starEach es X.env := by rfl) (hpl : (backTo pos (starEach es X.env)).any (·.1) = false := by rfl) :
    QE X (.Call (.Name x p) (e :: es) [] pos) (Qm.eCall F qs fx) := (pe_call (E := E0) G hr hg hm hk hb hd pass0 ha hdb he hpl).imp fun _ _ _ h => tCall_q hq h
def LkF (K : PySem.W.Frag) (r : List V → Hp → VK → Prop) (F : Qm.FN) : Prop := ∀ ρ c H ds d c' vs Q, RS K ρ c H → RA K ρ c.length H ds vs → F ds c = some (d, c') → (∀ ρ' w H', Nx K ρ c H ρ' c' H' → RD K ρ' c'.length H' d w → Q w H') → r vs H Q
theorem tCB_q {K : PySem.W.Frag} {r : List V → Hp → VK → Prop} {F : Qm.FN} (hl : LkF K r F) {f : Qm.XA} {σ : St} {H : Hp} {Q : VK} (h : TQ K (Qm.eB F f) σ H Q) : tCB r (AQ K f) σ H Q := by
  obtain ⟨ρ, env, c, d, c', rs, re, e, k⟩ := h
  obtain ⟨p, e1, e⟩ := bnd e
  exact ⟨ρ, env, c, p.1, p.2, rs, re, e1, fun ρ1 vs H1 n1 r1 => hl ρ1 p.2 H1 p.1 d c' vs Q n1.rs r1 e fun ρ' v H' n r => k ρ' v H' (n1.trans n) r⟩
theorem qe_callB {id : String} {r : List V → Hp → VK → Prop} {F : Qm.FN} {x : Str} {p : Pos} {f : Qm.XA} (hc : CallR X (.builtin id) r) (hl : LkF X.K r F) (hg : Gl X x) (hm : X.mg x = none) (hv : bootBuiltins x = some (.builtin id)) (ha : QA X (e :: es) f) (hn : x ≠ "__name__" := by decide) (hdb : (x == ("__debug__" : Str)) = false := by decide)
    (he : starEach (e :: es) X.env = (false, eval e X.env) :: starEach es X.env := by rfl) (hpl : (backTo pos (starEach es X.env)).any (·.1) = false := by rfl) : QE X (.Call (.Name x p) (e :: es) [] pos) (Qm.eB F f) := (pe_callB hc hg hm hv ha hn hdb he hpl).imp fun _ _ _ h => tCB_q hl h
theorem qe_callTy {id : String} {r : List V → Hp → VK → Prop} {F : Qm.FN} {x : Str} {p : Pos} {f : Qm.XA} (hc : CallR X (.type id) r) (hl : LkF X.K r F) (hg : Gl X x) (hm : X.mg x = none) (hv : bootBuiltins x = some (.type id)) (ha : QA X (e :: es) f) (hn : x ≠ "__name__" := by decide) (hdb : (x == ("__debug__" : Str)) = false := by decide)
    (he : starEach (e :: es) X.env = (false, eval e X.env) :: starEach es X.env := by rfl) (hpl : (backTo pos (starEach es X.env)).any (·.1) = false := by rfl) : QE X (.Call (.Name x p) (e :: es) [] pos) (Qm.eB F f) := (pe_callTy hc hg hm hv ha hn hdb he hpl).imp fun _ _ _ h => tCB_q hl h
end
end L2
namespace L2
open PySem PySem.Spec PyProof.Rows
section
variable {X : Cx} {a b e : Expr} {es : List Expr} {fa fb fc fe : Qm.XE} {ft fu : Qm.XT} {pos : Pos}
theorem tB_q {K : PySem.W.Frag} {t : TE} {f : Qm.XE} (ht : ∀ σ H Q, TQ K f σ H Q → t σ H Q) {σ : St} {H : Hp} {Q : Bool → Hp → Prop} (h : BQ K (Qm.tV f) σ H Q) : t σ H fun x H1 => ∃ k, x = .bl k ∧ Q k H1 := by
  obtain ⟨ρ, env, c, d, c', rs, re, e, k⟩ := h
  obtain ⟨p, e1, e⟩ := bnd e
  obtain ⟨i, e2, e⟩ := bnd e
  cases e
  refine ht σ H _ ⟨ρ, env, c, p.1, p.2, rs, re, e1, fun ρ1 v H1 n1 r1 => ?_⟩
  rw [asB_of e2] at r1
  cases r1.bl'
  exact ⟨_, rfl, k ρ1 H1 n1⟩
theorem qt_val (h : QE X e fe) (he : ∀ whole, isTrue e X.env whole = (do let v ← whole; standAt e.pos; holding [v] (truthy v)) := by intro _; rfl) : QT X e (Qm.tV fe) := (pt_val h he).imp fun _ _ _ q => tB_q (fun _ _ _ z => z) q
theorem qt_cmp {op : CmpOp} {r : R2} {g : Qm.G2} (ho : OpR X (compareOp op) r) (hl : Lk2 X.K r g) (ha : QE X a fa) (hb : QE X b fb) (hm : behindInMarks op b = false) : QT X (.Compare a [op] [b] pos) (Qm.tV (Qm.e2 g fa fb)) := (pt_cmpR ho ha hb hm).imp fun _ _ _ q => tB_q (fun _ _ _ z => tOp_q hl z) q
theorem qt_chain {op op' : CmpOp} {r r' : R2} {g g' : Qm.G2} {c0 : Expr} (ho : OpR X (compareOp op) r) (hl : Lk2 X.K r g) (ho' : OpR X (compareOp op') r') (hl' : Lk2 X.K r' g') (ha : QE X a fa) (hb : QE X b fb) (hc : QE X c0 fc)
    (hm : lastMarks [op, op'] [b, c0] = false := by with_unfolding_all rfl) : QT X (.Compare a [op, op'] [b, c0] pos) (Qm.tV (Qm.eChain g g' fa fb fc)) := (pt_chain ho ho' ha hb hc hm).imp fun _ _ _ q => tB_q (fun _ _ _ z => tChain_q hl hl' z) q
theorem qw_and1 (ha : QT X a ft) : QW X (.BoolOp .And [a] pos) ft := pw_and1 ha
theorem qw_or1 (ha : QT X a ft) : QW X (.BoolOp .Or [a] pos) ft := pw_or1 ha
theorem qw_and {rest : List Expr} (ha : QT X a ft) (hb : QW X (.BoolOp .And (b :: rest) pos) fu) : QW X (.BoolOp .And (a :: b :: rest) pos) (Qm.tAnd ft fu) := (pw_and ha hb).imp fun σ H Q ⟨ρ, env, c, d, c', rs, re, e, k⟩ => by
  obtain ⟨p, e1, e⟩ := bnd e
  refine ⟨ρ, env, c, p.1, p.2, rs, re, e1, fun ρ1 H1 n1 => ?_⟩
  split at e
  · rename_i hi
    rw [if_pos hi]
    exact ⟨ρ1, env, p.2, d, c', n1.rs, re.up n1.up, e, fun ρ' H' n => k ρ' H' (n1.trans n)⟩
  · rename_i hi
    rw [if_neg hi]
    cases e
    exact k ρ1 H1 n1
theorem qw_or {rest : List Expr} (ha : QT X a ft) (hb : QW X (.BoolOp .Or (b :: rest) pos) fu) : QW X (.BoolOp .Or (a :: b :: rest) pos) (Qm.tOr ft fu) := (pw_or ha hb).imp fun σ H Q ⟨ρ, env, c, d, c', rs, re, e, k⟩ => by
  obtain ⟨p, e1, e⟩ := bnd e
  refine ⟨ρ, env, c, p.1, p.2, rs, re, e1, fun ρ1 H1 n1 => ?_⟩
  split at e
  · rename_i hi
    rw [if_pos hi]
    cases e
    exact k ρ1 H1 n1
  · rename_i hi
    rw [if_neg hi]
    exact ⟨ρ1, env, p.2, d, c', n1.rs, re.up n1.up, e, fun ρ' H' n => k ρ' H' (n1.trans n)⟩
theorem qt_not (ha : QT X a ft) : QT X (.UnaryOp .Not a pos) (Qm.tNot ft) := (pt_not ha).imp fun σ H Q ⟨ρ, env, c, d, c', rs, re, e, k⟩ => by
  obtain ⟨p, e1, e⟩ := bnd e
  cases e
  exact ⟨ρ, env, c, p.1, p.2, rs, re, e1, fun ρ1 H1 n1 => k ρ1 H1 n1⟩
theorem qo_none : QO X none Qm.oNone := po_none.imp fun σ H Q ⟨ρ, env, c, d, c', rs, re, e, k⟩ => by
  cases e
  exact k ρ H (Nx.refl rs)
theorem qo_some (h : QE X e fe) : QO X (some e) (Qm.oSome fe) := (po_some h).imp fun σ H Q ⟨ρ, env, c, d, c', rs, re, e, k⟩ => by
  obtain ⟨p, e1, e⟩ := bnd e
  refine ⟨ρ, env, c, p.1, p.2, rs, re, e1, fun ρ1 v H1 n1 r1 => ?_⟩
  split at e
  · rename_i i hi
    cases e
    rw [hi] at r1
    cases r1.int'
    exact ⟨_, rfl, k ρ1 H1 n1⟩
  · cases e
theorem cut_link {K : PySem.W.Frag} {ρ : Nat → Addr} {N : Nat} {H : Hp} {ds : List Qm.D} {vs : List V} (a : RA K ρ N H ds vs) (lo hi : Option Int) : RA K ρ N H (Qm.cutD ds lo hi) (cutV vs lo hi) := by
  have e : ∀ n d o, Qm.sxD n d o = HT.sIx n d o := fun n d o => by cases o <;> rfl
  unfold Qm.cutD cutV
  rw [e, e, a.length]
  exact (a.drop _).take _
end
section
variable {prog : Program} {w : World} {A : Around} {E : Value → Shared → Prop} {s : Shared}
theorem getItem_tuple_whole {t sl : Addr} {items : Array Value} {vl vu : Value} {lo hi : Option Int} {Q : Value → Shared → Prop} (ht : IsTup s.heap t items) (hs : s.heap.IsSliceOf sl vl vu .none) (pl : IsPart vl lo) (pu : IsPart vu hi)
    (hw : HT.sIx items.size 0 lo = 0 ∧ HT.sIx items.size items.size hi = items.size) (h : Q (.ref t) s) : wpAny (model prog w) A (getItem (.ref t) (.ref sl)) Q E s := by
  obtain ⟨os, hos, hcs, hds⟩ := id hs
  have hTs : s.TypeIs (.ref sl) "slice" := ⟨os, hos, hcs⟩
  unfold getItem
  try with_reducible refine wpAny_holding ?_
  first | refine wpAny_bind (wpAny_pure ?_) | skip
  refine wpAny_bind (wpAny_sequenceKey ht.typeIs (by decide) ?_)
  refine wpAny_bind (wpAny_callSpecial?_slot (name := Str.ofString "__getitem__") ht.typeIs PyProof.Rows.slot_tuple_getitem
    (wpAny_call_entry PyProof.Rows.slot_tuple_getitem ht.typeIs entry_tuple_getitem ?_ (args_tuple_getitem _ _)))
  show wpAny _ _ (Builtin.Tuple.tupleItemsOf (.ref t) >>= _) _ _ s
  refine wpAny_bind (tupleItemsOf_ ht ?_)
  refine wpAny_bind (wpAny_typeOf hTs ?_)
  rw [if_pos (by decide)]
  refine wpAny_bind (HT.sliceApplied_gen hs pl pu ?_)
  have hyes : (((HT.sIx items.size 0 lo : Nat) : Int) == 0 && (1 : Int) == 1 && (HT.sIx items.size items.size hi - HT.sIx items.size 0 lo) == items.size) = true := by
    rw [hw.1, hw.2]; simp
  show wpAny _ _ (if (((HT.sIx items.size 0 lo : Nat) : Int) == 0 && (1 : Int) == 1 && (HT.sIx items.size items.size hi - HT.sIx items.size 0 lo) == items.size) = true then _ else _) _ _ s
  rw [if_pos hyes]
  unfold Builtin.Tuple.tupleIsExact
  refine wpAny_bind (wpAny_bind (wpAny_typeOf ht.typeIs (wpAny_pure ?_)))
  rw [if_pos (by decide)]
  refine wpAny_bind (wpAny_rule ?_)
  exact wpAny_pure ⟨_, rfl, wpAny_pure h⟩
end
section
variable {X : Cx} {a b e : Expr} {es : List Expr} {fa fb fc fe : Qm.XE} {ft fu : Qm.XT} {pos p2 : Pos} {lo hi : Option Expr} {fl fh : Qm.XO}
def rSlTW (K : PySem.W.Frag) : V → Option Int → Option Int → Hp → VK → Prop := fun x lo hi H Q => ∃ a xs, x = .ref a ∧ SqT K H a xs ∧ (HT.sIx xs.length 0 lo = 0 ∧ HT.sIx xs.length xs.length hi = xs.length) ∧ Q (.ref a) H
theorem sl_tupW : SlR X (rSlTW X.K) := by
  intro pins s σ H x v vl vu lo hi sl Q I rx hs pl pu h
  obtain ⟨a, xs, rfl, hx, hw, q⟩ := h
  cases rx
  obtain ⟨its, r, ht, hz⟩ := I.tuple hx
  have hlen : its.toArray.size = xs.length := by rw [List.size_toArray]; exact r.length.symm
  refine ⟨"tuple", _, PyProof.Rows.slot_tuple_getitem.lookup, ht.typeIs, ?_⟩
  exact getItem_tuple_whole ht hs pl pu (by rw [hlen]; exact hw) ⟨.ref a, H, I, rfl, q⟩
def rCut (K : PySem.W.Frag) : V → Option Int → Option Int → Hp → VK → Prop := fun x lo hi H Q => rSlT K x lo hi H Q ∨ (rSlTW K x lo hi H Q ∨ rSlL K x lo hi H Q)
theorem sl_cut : SlR X (rCut X.K) := sl_tup.or (sl_tupW.or sl_list)
theorem lk_cut {K : PySem.W.Frag} {ρ : Nat → Addr} {c c' : Qm.Cells} {H : Hp} {x d : Qm.D} {v : V} {lo hi : Option Int} {Q : VK} (rs : RS K ρ c H) (rx : RD K ρ c.length H x v) (e : Qm.gCut x lo hi c = some (d, c')) (k : ∀ ρ' w H', Nx K ρ c H ρ' c' H' → RD K ρ' c'.length H' d w → Q w H') : rCut K v lo hi H Q := by
  unfold Qm.gCut at e
  split at e
  · rename_i xs
    cases e
    obtain ⟨p, vs, rfl, h1, a1⟩ := rx.tup'
    by_cases hw : HT.sIx vs.length 0 lo = 0 ∧ HT.sIx vs.length vs.length hi = vs.length
    · refine .inr (.inl ⟨p, vs, rfl, SqT.of h1, hw, ?_⟩)
      have : cutV vs lo hi = vs := by
        unfold cutV
        rw [hw.1, hw.2]; simp
      have a2 := cut_link a1 lo hi
      rw [this] at a2
      exact k ρ _ H (Nx.refl rs) (.tup h1 a2)
    · refine .inl ⟨p, vs, rfl, SqT.of h1, hw, fun l hl => ?_⟩
      have n := Nx.same rs (same_new (z := .tup (cutV vs lo hi)) hl)
      exact k ρ _ _ n (.tup upd_same ((cut_link a1 lo hi).up n.up))
  · rename_i x' hne
    obtain ⟨xs, e1, e⟩ := bnd e
    cases e
    rcases seqOf_cases e1 with z | ⟨n, z⟩
    · exact absurd z (hne xs)
    · subst z
      obtain ⟨vs, rfl, h, a⟩ := rs.seqR rx e1
      refine .inr (.inr ⟨_, vs, rfl, h, fun l hl => ?_⟩)
      obtain ⟨n, r⟩ := Nx.alloc rs hl (cut_link a lo hi)
      exact k _ _ _ n r
theorem qe_slice (he : QE X e fe) (hl : QO X lo fl) (hu : QO X hi fh) : QE X (.Subscript e (.Slice lo hi none p2) pos) (Qm.eSl Qm.gCut fe fl fh) := (pe_slice sl_cut he hl hu).imp fun σ H Q ⟨ρ, env, c, d, c', rs, re, e, k⟩ => by
  obtain ⟨p, e1, e⟩ := bnd e
  obtain ⟨l, e2, e⟩ := bnd e
  obtain ⟨h, e3, e⟩ := bnd e
  exact ⟨ρ, env, c, p.1, p.2, rs, re, e1, fun ρ1 v H1 n1 r1 => ⟨ρ1, env, p.2, l.1, l.2, n1.rs, re.up n1.up, e2, fun ρ2 H2 n2 => ⟨ρ2, env, l.2, h.1, h.2, n2.rs, re.up (n1.trans n2).up, e3, fun ρ3 H3 n3 =>
    lk_cut n3.rs ((r1.up n2.up).up n3.up) e fun ρ' w H' n r => k ρ' w H' (n1.trans (n2.trans (n3.trans n))) r⟩⟩⟩
def LkM (K : PySem.W.Frag) (r : V → List V → Hp → VK → Prop) (g : Qm.D → Qm.FN) : Prop := ∀ ρ c H x ds d c' v vs Q, RS K ρ c H → RD K ρ c.length H x v → RA K ρ c.length H ds vs → g x ds c = some (d, c') → (∀ ρ' w H', Nx K ρ c H ρ' c' H' → RD K ρ' c'.length H' d w → Q w H') → r v vs H Q
theorem one_of {g : Qm.G1} {ds : List Qm.D} {c : Qm.Cells} {z} (h : Qm.one g ds c = some z) : ∃ x, ds = [x] ∧ g x c = some z := by
  unfold Qm.one at h
  split at h
  · exact ⟨_, rfl, h⟩
  · cases h
theorem two_of {g : Qm.G2} {ds : List Qm.D} {c : Qm.Cells} {z} (h : Qm.two g ds c = some z) : ∃ x y, ds = [x, y] ∧ g x y c = some z := by
  unfold Qm.two at h
  split at h
  · exact ⟨_, _, rfl, h⟩
  · cases h
theorem lk_abs {K : PySem.W.Frag} : LkF K (fun xs H Q => ∃ i, xs = [.int i] ∧ Q (.int (if i < 0 then -i else i)) H) Qm.bAbs := by
  intro ρ c H ds d c' vs Q rs ra e k
  obtain ⟨x, rfl, e⟩ := one_of e
  obtain ⟨v, rfl, rx⟩ := ra.one'
  obtain ⟨i, e1, e⟩ := bnd e
  cases e
  cases asI_of e1
  cases rx.int'
  exact ⟨i, rfl, k ρ _ H (Nx.refl rs) (.int _)⟩
theorem lk_len {K : PySem.W.Frag} : LkF K (fun xs H Q => ∃ p ys, xs = [.ref p] ∧ (SqL K H p ys ∨ SqT K H p ys) ∧ Q (.int ys.length) H) Qm.bLen := by
  intro ρ c H ds d c' vs Q rs ra e k
  obtain ⟨x, rfl, e⟩ := one_of e
  obtain ⟨v, rfl, rx⟩ := ra.one'
  obtain ⟨xs, e1, e⟩ := bnd e
  cases e
  obtain ⟨p, ws, rfl, h, a⟩ := rs.seq rx e1
  exact ⟨p, ws, rfl, h.imp id SqT.of, k ρ _ H (Nx.refl rs) (by rw [a.length]; exact .int _)⟩
theorem lk_intB {K : PySem.W.Frag} : LkF K (fun xs H Q => (∃ i, xs = [.int i] ∧ Q (.int i) H) ∨ ∃ k, xs = [.bl k] ∧ Q (.int (if k then 1 else 0)) H) Qm.bInt := by
  intro ρ c H ds d c' vs Q rs ra e k
  obtain ⟨x, rfl, e'⟩ := one_of e
  obtain ⟨v, rfl, rx⟩ := ra.one'
  split at e'
  · cases e'
    cases rx.int'
    exact .inl ⟨_, rfl, k ρ _ H (Nx.refl rs) (.int _)⟩
  · cases e'
    cases rx.bl'
    exact .inr ⟨_, rfl, k ρ _ H (Nx.refl rs) (.int _)⟩
  · cases e'
theorem ii_of {f : Int → Int → Option Qm.D} {x y d : Qm.D} {c c' : Qm.Cells} (h : Qm.ii f x y c = some (d, c')) : ∃ i j, x = .int i ∧ y = .int j ∧ f i j = some d ∧ c' = c := by
  obtain ⟨i, e1, e⟩ := bnd h
  obtain ⟨j, e2, e⟩ := bnd e
  obtain ⟨z, e3, e⟩ := bnd e
  cases e
  exact ⟨i, j, asI_of e1, asI_of e2, e3, rfl⟩
theorem lk_max2 {K : PySem.W.Frag} : LkF K (fun xs H Q => ∃ i j, xs = [.int i, .int j] ∧ Q (.int (if j > i then j else i)) H) Qm.bMax2 := by
  intro ρ c H ds d c' vs Q rs ra e k
  obtain ⟨x, y, rfl, e⟩ := two_of e
  obtain ⟨v, u, rfl, rx, ry⟩ := ra.two'
  obtain ⟨i, j, rfl, rfl, e, rfl⟩ := ii_of e
  cases e
  cases rx.int'; cases ry.int'
  exact ⟨i, j, rfl, k ρ _ H (Nx.refl rs) (.int _)⟩
end
end L2
namespace L2
open PySem PySem.Spec PyProof.Rows
section
variable {X : Cx} {a b e tg : Expr} {es : List Expr} {fa fb fc fe : Qm.XE} {ft fu : Qm.XT} {pos : Pos} {st : Stmt} {rest : List Stmt} {fs fr : Qm.XS} {fg : Qm.XG}
theorem qss_nil : QSs X [] Qm.sNil := pss_nil.imp fun D σ H ⟨ρ, env, c, fl, env', c', rs, re, e, k⟩ => by
  cases e
  exact k ρ H (Nx.refl rs) σ re
theorem qss_cons (h1 : QS X st fs) (h2 : QSs X rest fr) : QSs X (st :: rest) (Qm.sSeq fs fr) := (pss_cons h1 h2).imp fun D σ H ⟨ρ, env, c, fl, env', c', rs, re, e, k⟩ => by
  obtain ⟨p, e1, e⟩ := bnd e
  obtain ⟨f, e2, c2⟩ := p
  cases f with
  | nx => exact ⟨ρ, env, c, .nx, e2, c2, rs, re, e1, fun ρ1 H1 n1 σ1 re1 => ⟨ρ1, e2, c2, fl, env', c', n1.rs, re1, e, fun ρ' H' n => k ρ' H' (n1.trans n)⟩⟩
  | rt d => cases e; exact ⟨ρ, env, c, .rt d, env', c', rs, re, e1, fun ρ1 H1 n1 => k ρ1 H1 n1⟩
  | bk => cases e; exact ⟨ρ, env, c, .bk, env', c', rs, re, e1, fun ρ1 H1 n1 => k ρ1 H1 n1⟩
  | ct => cases e; exact ⟨ρ, env, c, .ct, env', c', rs, re, e1, fun ρ1 H1 n1 => k ρ1 H1 n1⟩
theorem qss_one (h1 : QS X st fs) : QSs X [st] fs := pss_one h1
theorem qs_ret (he : QE X e fe) : QS X (.Return (some e) pos) (Qm.sRet fe) := (ps_ret he).imp fun D σ H ⟨ρ, env, c, fl, env', c', rs, re, e, k⟩ => by
  obtain ⟨p, e1, e⟩ := bnd e
  cases e
  exact ⟨ρ, env, c, p.1, p.2, rs, re, e1, fun ρ1 v H1 n1 r1 => k ρ1 H1 n1 v r1⟩
theorem qs_if {c0 : Expr} {x y : List Stmt} (hc : QT X c0 ft) (ha : QSs X x fs) (hb : QSs X y fr) : QS X (.If c0 x y pos) (Qm.sIf ft fs fr) := (ps_if hc ha hb).imp fun D σ H ⟨ρ, env, c, fl, env', c', rs, re, e, k⟩ => by
  obtain ⟨p, e1, e⟩ := bnd e
  refine ⟨ρ, env, c, p.1, p.2, rs, re, e1, fun ρ1 H1 n1 => ?_⟩
  split at e
  · rename_i hi
    rw [if_pos hi]
    exact ⟨ρ1, env, p.2, fl, env', c', n1.rs, re.up n1.up, e, fun ρ' H' n => k ρ' H' (n1.trans n)⟩
  · rename_i hi
    rw [if_neg hi]
    exact ⟨ρ1, env, p.2, fl, env', c', n1.rs, re.up n1.up, e, fun ρ' H' n => k ρ' H' (n1.trans n)⟩
theorem qs_set {i : Nat} {x : Str} {pos' : Pos} (hN : X.N.Nodup) (hi : X.N[i]? = some x) (hx : Loc X.env.scope x) (he : QE X e fe) (hs : swapsWith e (some (.Name x pos')) pos.line X.env = pure false := by rfl) (hf : X.fn x = true ∨ X.env.scope.names.lookup x = some .local := by first | exact .inl rfl | exact .inr rfl | assumption) :
    QS X (.Assign [.Name x pos'] e pos) (Qm.sSet i fe) := (ps_set hN hi hx he hs hf).imp fun D σ H ⟨ρ, env, c, fl, env', c', rs, re, e, k⟩ => by
  obtain ⟨p, e1, e⟩ := bnd e
  cases e
  exact ⟨ρ, env, c, p.1, p.2, rs, re, e1, fun ρ1 v H1 n1 r1 => k ρ1 H1 n1 _ ((re.up n1.up).set r1)⟩
theorem qs_asg (he : QE X e fe) (hg : QG X tg fg) (hs : swapsWithSole [tg] e pos.line X.env = pure false := by rfl) (hw : swappedStores [tg] e X.env = pure none := by rfl)
    (h1 : (assignEach [tg] X.env).map (·.2) = [assign tg X.env] := by rfl) : QS X (.Assign [tg] e pos) (Qm.sAsg fe fg) := (ps_asg he hg hs hw h1).imp fun D σ H ⟨ρ, env, c, fl, env', c', rs, re, e, k⟩ => by
  obtain ⟨p, e1, e⟩ := bnd e
  obtain ⟨q, e2, e⟩ := bnd e
  cases e
  exact ⟨ρ, env, c, p.1, p.2, rs, re, e1, fun ρ1 v H1 n1 r1 => ⟨ρ1, env, p.2, p.1, q.1, q.2, n1.rs, re.up n1.up, r1, e2, fun ρ' H' σ' n re' => k ρ' H' (n1.trans n) σ' re'⟩⟩
theorem qs_par2 {i j : Nat} {x y : Str} {f : Qm.XA} {px py pt : Pos} {kt k2 pt2} (hc : X.calm = true) (hN : X.N.Nodup) (hi : X.N[i]? = some x) (hj : X.N[j]? = some y) (hij : i ≠ j)
    (hx : X.env.scope.names.lookup x = some .local) (hy : X.env.scope.names.lookup y = some .local) (ha : QA X [a, b] f)
    (hw : swappedStores [.Tuple [.Name x px, .Name y py] kt pt] (.Tuple [a, b] k2 pt2) X.env = pure (some [x, y]))
    (hs : swapsWithSole [.Tuple [.Name x px, .Name y py] kt pt] (.Tuple [a, b] k2 pt2) pos.line X.env = pure false := by rfl) :
    QS X (.Assign [.Tuple [.Name x px, .Name y py] kt pt] (.Tuple [a, b] k2 pt2) pos) (Qm.sPar [i, j] f) := (ps_par hc hN hi hj hij hx hy ha hw hs).imp fun D σ H ⟨ρ, env, c, fl, env', c', rs, re, e, k⟩ => by
  obtain ⟨p, e1, e⟩ := bnd e
  split at e
  · rename_i hl
    cases e
    refine ⟨ρ, env, c, p.1, p.2, rs, re, e1, fun ρ1 vs H1 n1 r1 => ?_⟩
    obtain ⟨ds, c2⟩ := p
    match ds, hl, r1 with
    | [d1, d2], _, r1 =>
      obtain ⟨v, u, rfl, ra, rb⟩ := r1.two'
      exact ⟨v, u, rfl, k ρ1 H1 n1 _ (((re.up n1.up).set ra).set rb)⟩
  · cases e
theorem qs_par3 {i j l : Nat} {x y z : Str} {d0 : Expr} {f : Qm.XA} {px py pz pt : Pos} {kt k2 pt2} (hc : X.calm = true) (hN : X.N.Nodup) (hi : X.N[i]? = some x) (hj : X.N[j]? = some y) (hk : X.N[l]? = some z) (hij : i ≠ j) (hik : i ≠ l) (hjk : j ≠ l)
    (hx : X.env.scope.names.lookup x = some .local) (hy : X.env.scope.names.lookup y = some .local) (hz : X.env.scope.names.lookup z = some .local) (ha : QA X [a, b, d0] f)
    (hw : swappedStores [.Tuple [.Name x px, .Name y py, .Name z pz] kt pt] (.Tuple [a, b, d0] k2 pt2) X.env = pure (some [x, y, z]))
    (hs : swapsWithSole [.Tuple [.Name x px, .Name y py, .Name z pz] kt pt] (.Tuple [a, b, d0] k2 pt2) pos.line X.env = pure false := by rfl) :
    QS X (.Assign [.Tuple [.Name x px, .Name y py, .Name z pz] kt pt] (.Tuple [a, b, d0] k2 pt2) pos) (Qm.sPar [i, j, l] f) := (ps_par3 hc hN hi hj hk hij hik hjk hx hy hz ha hw hs).imp fun D σ H ⟨ρ, env, c, fl, env', c', rs, re, e, k⟩ => by
  obtain ⟨p, e1, e⟩ := bnd e
  split at e
  · rename_i hl
    cases e
    refine ⟨ρ, env, c, p.1, p.2, rs, re, e1, fun ρ1 vs H1 n1 r1 => ?_⟩
    obtain ⟨ds, c2⟩ := p
    match ds, hl, r1 with
    | [d1, d2, d3], _, .cons ra r2 =>
      obtain ⟨v, u, rfl, rb, rc⟩ := r2.two'
      exact ⟨_, v, u, rfl, k ρ1 H1 n1 _ ((((re.up n1.up).set ra).set rb).set rc)⟩
  · cases e
theorem qg_name {i : Nat} {x : Str} (hN : X.N.Nodup) (hi : X.N[i]? = some x) (hx : Loc X.env.scope x) (hf : X.fn x = true ∨ X.env.scope.names.lookup x = some .local := by first | exact .inl rfl | exact .inr rfl | assumption) : QG X (.Name x pos) (Qm.gName i) := (pg_name hN hi hx hf).imp fun v σ H Q ⟨ρ, env, c, d, env', c', rs, re, rd, e, k⟩ => by
  cases e
  exact k ρ H _ (Nx.refl rs) (re.set rd)
theorem qgs_nil : QGs X [] Qm.gNil := pgs_nil.imp fun vs σ H Q ⟨ρ, env, c, ds, env', c', rs, re, ra, e, k⟩ => by
  unfold Qm.gNil at e
  split at e
  · cases e
    exact ⟨ra.nil', k ρ H σ (Nx.refl rs) re⟩
  · cases e
theorem qgs_cons {fgs : Qm.XGs} (h1 : QG X e fg) (h2 : QGs X es fgs) (hs : (assignEach (e :: es) X.env).map (·.2) = assign e X.env :: (assignEach es X.env).map (·.2) := by rfl) : QGs X (e :: es) (Qm.gCons fg fgs) := (pgs_cons h1 h2 hs).imp fun vs σ H Q ⟨ρ, env, c, ds, env', c', rs, re, ra, e, k⟩ => by
  unfold Qm.gCons at e
  split at e
  · rename_i d t
    obtain ⟨p, e1, e⟩ := bnd e
    cases ra with
    | cons r1 r2 =>
      exact ⟨_, _, rfl, ρ, env, c, d, p.1, p.2, rs, re, r1, e1, fun ρ1 H1 σ1 n1 re1 => ⟨ρ1, p.1, p.2, t, env', c', n1.rs, re1, r2.up n1.up, e, fun ρ' H' σ' n re' => k ρ' H' σ' (n1.trans n) re'⟩⟩
  · cases e
theorem qg_tup {k0 : Nat} {fgs : Qm.XGs} {n : Nat} (hc : X.calm = true) (h : QGs X es fgs) (hn : (assignEach es X.env).length = n := by rfl) (hst : (assignEach es X.env).findIdx? (·.1) = none := by rfl) : QG X (.Tuple es k0 pos) (Qm.gTup n fgs) := (pg_tup hc h hn hst).imp fun v σ H Q ⟨ρ, env, c, d, env', c', rs, re, rd, e, k⟩ => by
  unfold Qm.gTup at e
  split at e
  · rename_i xs
    split at e
    · rename_i hl
      obtain ⟨p, vs, rfl, h1, a1⟩ := rd.tup'
      exact ⟨p, vs, rfl, SqT.of h1, by rw [← a1.length]; exact hl, ρ, env, c, xs, env', c', rs, re, a1, e, k⟩
    · cases e
  · cases e
theorem qg_put {o i : Expr} {fo fi : Qm.XE} (ho : QE X o fo) (hi : QE X i fi)
    (ha : ∀ v, assign (.Subscript o i pos) X.env v = (do
      let ov ← holding [v] (eval o X.env)
      let iv ← holding [v, ov] (eval i X.env)
      standAt pos
      holding [v, ov, iv] (setItem ov iv v)
      release [v, ov, iv] []) := by intro _; rfl) : QG X (.Subscript o i pos) (Qm.gPut fo fi) := (pg_sub ho hi set_list ha).imp fun v σ H Q ⟨ρ, env, c, d, env', c', rs, re, rd, e, k⟩ => by
  obtain ⟨p, e1, e⟩ := bnd e
  obtain ⟨q, e2, e⟩ := bnd e
  obtain ⟨l, e3, e⟩ := bnd e
  obtain ⟨m, e4, e⟩ := bnd e
  obtain ⟨j, e5, e⟩ := bnd e
  cases e
  refine ⟨ρ, env, c, p.1, p.2, rs, re, e1, fun ρ1 v1 H1 n1 r1 => ⟨ρ1, env, p.2, q.1, q.2, n1.rs, re.up n1.up, e2, fun ρ2 v2 H2 n2 r2 => ?_⟩⟩
  rw [asI_of e4] at r2
  cases r2.int'
  obtain ⟨_, hn, ws, rfl, h, a⟩ := n2.rs.lstOf (r1.up n2.up) e3
  have n := Nx.put n2.rs hn (RA.set (rd.up (n1.trans n2).up) j a)
  refine ⟨_, ws, m, j, rfl, rfl, h, by rw [← a.length]; exact e5, ?_⟩
  exact k ρ2 _ σ (n1.trans (n2.trans n)) (re.up (n1.trans (n2.trans n)).up)
theorem qi_tup (h : QE X e fe) : QI X tg e (Qm.iTup fe) := (pi_tup h).imp fun σ H R ⟨ρ, env, c, m, c', rs, re, e, k⟩ => by
  obtain ⟨p, e1, e⟩ := bnd e
  refine ⟨ρ, env, c, p.1, p.2, rs, re, e1, fun ρ1 v H1 n1 r1 => ?_⟩
  split at e
  · rename_i xs hx
    cases e
    rw [hx] at r1
    obtain ⟨q, vs, rfl, h1, a1⟩ := r1.tup'
    refine ⟨q, rfl, ⟨vs, SqT.of h1⟩, k ρ1 _ H1 n1 fun ρ2 c2 H2 u2 rs2 _ => ?_⟩
    have h2 := u2.ts _ _ h1
    have a2 := a1.up u2
    refine ⟨fun i hi => ⟨vs, vs[i]'(by rw [← a1.length]; exact hi), SqT.of h2, List.getElem?_eq_getElem _⟩, ⟨vs, SqT.of h2, by rw [a1.length]; exact Nat.le_refl _⟩, fun i d x H' hd hy => ?_⟩
    obtain ⟨rfl, hy⟩ := hy
    obtain ⟨v, hv, rv⟩ := a2.get hd
    have := hy vs (SqT.of h2)
    rw [hv] at this; cases this
    exact ⟨Nx.refl rs2, rv⟩
  · cases e
theorem rng_get {lo : Int} {n i : Nat} {d : Qm.D} (h : (Qm.rng lo n)[i]? = some d) : i < n ∧ d = .int (lo + i) := by
  unfold Qm.rng at h
  rw [List.getElem?_map] at h
  by_cases hi : i < n
  · rw [List.getElem?_range hi] at h
    cases h
    exact ⟨hi, rfl⟩
  · rw [List.getElem?_eq_none_iff.mpr (by simpa using Nat.le_of_not_lt hi)] at h
    cases h
theorem it_rng {K : PySem.W.Frag} {ρ : Nat → Addr} {N : Nat} {H : Hp} {lo : Int} {n : Nat} : ItOk K ρ N H ⟨Qm.rng lo n, []⟩ (Itr lo n) := fun ρ c H u rs _ => by
  have hl : (Qm.rng lo n).length = n := by simp [Qm.rng]
  refine ⟨fun i hi => by show i < n; rw [← hl]; exact hi, by show n ≤ (Qm.rng lo n).length; omega, fun i d x H' hd hy => ?_⟩
  obtain ⟨rfl, rfl⟩ := hy
  obtain ⟨_, rfl⟩ := rng_get hd
  exact ⟨Nx.refl rs, .int _⟩
theorem qi_range1 {f : Qm.XA} {p : Pos} (hg : Gl X "range") (hm : X.mg "range" = none) (ha : QA X [a] f) (hs : starEach [a] X.env = [(false, eval a X.env)] := by rfl) : QI X tg (.Call (.Name "range" p) [a] [] pos) (Qm.iRng1 f) := (pi_range1 hg hm ha hs).imp fun σ H R ⟨ρ, env, c, m, c', rs, re, e, k⟩ => by
  obtain ⟨p, e1, e⟩ := bnd e
  refine ⟨ρ, env, c, p.1, p.2, rs, re, e1, fun ρ1 vs H1 n1 r1 => ?_⟩
  split at e
  · rename_i j hj
    split at e
    · rename_i hb
      cases e
      rw [hj] at r1
      obtain ⟨v, rfl, rv⟩ := r1.one'
      cases rv.int'
      exact ⟨j, rfl, hb.1, hb.2, k ρ1 _ H1 n1 it_rng⟩
    · cases e
  · cases e
theorem qs_for {body : List Stmt} {fi : Qm.XI} (hp : PassesOwn (model X.prog X.w) X.A X.env X.xe) (hc : X.calm = true) (hi : QI X tg e fi) (hg : QG X tg fg) (hb : QSs X body fs)
    (hs : ∀ x, foldedSetIterable e X.env x = pure x := by intro _; rfl) : QS X (.For tg e body [] pos) (Qm.sFor fi fg fs) := (ps_for hp hc hi hg hb hs).imp fun D σ H ⟨ρ, env, c, fl, env', c', rs, re, e, k⟩ => by
  obtain ⟨m, e1, e⟩ := bnd e
  refine ⟨ρ, env, c, m.1, m.2, rs, re, e1, fun ρ0 J H0 n0 it => ?_⟩
  refine ⟨fun i q σ' H' => q = m.1.ds.length - i ∧ i ≤ m.1.ds.length ∧ ∃ ρ1 env1 c1, Nx X.K ρ0 m.2 H0 ρ1 c1 H' ∧ RE X.K ρ1 c1.length H' env1 σ' ∧ Qm.forGo m.1.ks fg fs (m.1.ds.drop i) env1 c1 = some (fl, env', c'), ⟨_, rfl, Nat.zero_le _, ρ0, env, m.2, Nx.refl n0.rs, re.up n0.up, e⟩, ?_⟩
  rintro i q σ1 H1 ⟨rfl, hi, ρ1, env1, c1, n1, re1, e1⟩
  by_cases hlt : i < m.1.ds.length
  · rw [List.drop_eq_getElem_cons hlt] at e1
    unfold Qm.forGo at e1
    split at e1
    · rename_i hst
      obtain ⟨go, _, yl⟩ := it ρ1 c1 H1 n1.up n1.rs hst
      obtain ⟨p, e2, e1⟩ := bnd e1
      obtain ⟨q, e3, e1⟩ := bnd e1
      refine .inr ⟨go i hlt, fun σ' H' => i + 1 ≤ m.1.ds.length ∧ ∃ ρ1 env1 c1, Nx X.K ρ0 m.2 H0 ρ1 c1 H' ∧ RE X.K ρ1 c1.length H' env1 σ' ∧ Qm.forGo m.1.ks fg fs (m.1.ds.drop (i + 1)) env1 c1 = some (fl, env', c'), fun σ' H' h => ⟨m.1.ds.length - (i + 1), by omega, rfl, h⟩, fun x H2 hy => ?_⟩
      obtain ⟨n2, r2⟩ := yl i _ x H2 (List.getElem?_eq_getElem hlt) hy
      refine ⟨ρ1, env1, c1, _, p.1, p.2, n2.rs, re1.up n2.up, r2, e2, fun ρ3 H3 σ3 n3 re3 => ?_⟩
      obtain ⟨f, env4, c4⟩ := q
      refine ⟨ρ3, p.1, p.2, f, env4, c4, n3.rs, re3, e3, fun ρ4 H4 n4 => ?_⟩
      have nn := n1.trans (n2.trans (n3.trans n4))
      cases f with
      | nx => exact fun σ4 re4 => ⟨hlt, ρ4, env4, c4, nn, re4, e1⟩
      | ct => exact fun σ4 re4 => ⟨hlt, ρ4, env4, c4, nn, re4, e1⟩
      | bk => cases e1; exact fun σ4 re4 => k ρ4 H4 (n0.trans nn) σ4 re4
      | rt d => cases e1; exact fun v rv => k ρ4 H4 (n0.trans nn) v rv
    · cases e1
  · have hi' : i = m.1.ds.length := by omega
    subst hi'
    rw [List.drop_length] at e1
    unfold Qm.forGo at e1
    split at e1
    · rename_i hst
      obtain ⟨_, stop, _⟩ := it ρ1 c1 H1 n1.up n1.rs hst
      cases e1
      exact .inl ⟨stop, k ρ1 H1 (n0.trans n1) σ1 re1⟩
    · cases e1
theorem qs_while {c0 : Expr} {body : List Stmt} (hp : PassesOwn (model X.prog X.w) X.A X.env X.xe) (hc : QT X c0 ft) (hb : QSs X body fs) : QS X (.While c0 body [] pos) (Qm.sWhile ft fs) := (ps_while hp hc hb).imp fun D σ H ⟨ρ, env, c, fl, env', c', rs, re, e, k⟩ => by
  obtain ⟨n, e⟩ := Qm.of_sWhile e
  refine ⟨fun q σ' H' => ∃ ρ1 env1 c1, Nx X.K ρ c H ρ1 c1 H' ∧ RE X.K ρ1 c1.length H' env1 σ' ∧ Qm.whGo ft fs q env1 c1 = some (fl, env', c'), ⟨n, ρ, env, c, Nx.refl rs, re, e⟩, ?_⟩
  rintro q σ1 H1 ⟨ρ1, env1, c1, n1, re1, e1⟩
  cases q with
  | zero => simp [Qm.whGo] at e1
  | succ q =>
    simp only [Qm.whGo] at e1
    obtain ⟨p, e2, e1⟩ := bnd e1
    refine ⟨ρ1, env1, c1, p.1, p.2, n1.rs, re1, e2, fun ρ2 H2 n2 => ?_⟩
    split at e1
    · rename_i hi
      rw [if_pos hi]
      obtain ⟨r, e3, e1⟩ := bnd e1
      refine ⟨fun σ' H' => ∃ ρ1 env1 c1, Nx X.K ρ c H ρ1 c1 H' ∧ RE X.K ρ1 c1.length H' env1 σ' ∧ Qm.whGo ft fs q env1 c1 = some (fl, env', c'), fun σ' H' h => ⟨q, Nat.lt_succ_self _, h⟩, ?_⟩
      obtain ⟨f, env4, c4⟩ := r
      refine ⟨ρ2, env1, p.2, f, env4, c4, n2.rs, re1.up n2.up, e3, fun ρ4 H4 n4 => ?_⟩
      have nn := n1.trans (n2.trans n4)
      cases f with
      | nx => exact fun σ4 re4 => ⟨ρ4, env4, c4, nn, re4, e1⟩
      | ct => exact fun σ4 re4 => ⟨ρ4, env4, c4, nn, re4, e1⟩
      | bk => cases e1; exact fun σ4 re4 => k ρ4 H4 nn σ4 re4
      | rt d => cases e1; exact fun v rv => k ρ4 H4 nn v rv
    · rename_i hi
      rw [if_neg hi]
      cases e1
      exact k ρ2 H2 (n1.trans n2) σ1 (re1.up n2.up)
theorem qifs_none : QIfs X [] Qm.tYes := ifs_none.imp fun σ H Q ⟨ρ, env, c, b, c', rs, re, e, k⟩ => by
  cases e
  exact k ρ H (Nx.refl rs)
theorem RE.tau {K : PySem.W.Frag} {ρ : Nat → Addr} {N : Nat} {H : Hp} {env : Qm.Env} {σ : St} (re : RE K ρ N H env σ) (cap : List (Option Nat)) : RE K ρ N H (Qm.capt env cap) (tau σ cap) := by
  refine ⟨by simp [Qm.capt, L2.tau], fun j d h => ?_⟩
  unfold Qm.capt at h
  unfold L2.tau
  rw [List.getElem?_map] at h ⊢
  cases e : cap[j]? with
  | none => rw [e] at h; cases h
  | some o =>
    rw [e] at h
    cases o with
    | none => simp at h
    | some i =>
      simp only [Option.map_some, Option.some.injEq] at h
      cases e2 : env[i]? with
      | none => rw [e2] at h; cases h
      | some w =>
        rw [e2] at h
        have h' : w = some d := h
        subst h'
        obtain ⟨v, h1, h2⟩ := re.at_ i d e2
        refine ⟨v, ?_, h2⟩
        simp [h1]
theorem tComp_q {K : PySem.W.Frag} {fi : Qm.XI} {cap : List (Option Nat)} {σ : St} {H : Hp} {Q : VK} (h : TQ K (Qm.eComp fi cap fg ft fe) σ H Q) : tComp (IQ K fi) cap (GQ K fg) (BQ K ft) (TQ K fe) σ H Q := by
  obtain ⟨ρ, env, c, d, c', rs, re, e, k⟩ := h
  obtain ⟨m, e1, e⟩ := bnd e
  obtain ⟨cz, e2, e⟩ := bnd e
  cases e
  refine ⟨ρ, env, c, m.1, m.2, rs, re, e1, fun ρ0 J H0 n0 it l hl => ?_⟩
  obtain ⟨na, ra⟩ := Nx.alloc n0.rs hl (ds := []) (vs := []) .nil
  generalize hρ : (fun n => if n = m.2.length then l else ρ0 n) = ρa at na ra
  have hL : ρa m.2.length = l := by rw [← hρ]; simp
  have hlen : (m.2 ++ [Qm.Cell.lst []]).length = m.2.length + 1 := by simp
  have fin : ∀ {ρ1 : Nat → Addr} {c1 : Qm.Cells} {H1 : Hp}, Nx K ρa (m.2 ++ [.lst []]) (upd H0 l (.lst [])) ρ1 c1 H1 → ρ1 m.2.length = l := fun n => by rw [n.up.agree _ (by rw [hlen]; omega), hL]
  refine ⟨fun i q τ H' => q = m.1.ds.length - i ∧ i ≤ m.1.ds.length ∧ ∃ ρ1 env1 c1, Nx K ρa (m.2 ++ [.lst []]) (upd H0 l (.lst [])) ρ1 c1 H' ∧ RE K ρ1 c1.length H' env1 τ ∧ Qm.compGo m.2.length m.1.ks fg ft fe (m.1.ds.drop i) env1 c1 = some c',
    ⟨_, rfl, Nat.zero_le _, ρa, _, _, Nx.refl na.rs, ((re.up n0.up).up na.up).tau cap, e2⟩, ?_⟩
  rintro i q τ H1 ⟨rfl, hi, ρ1, env1, c1, n1, re1, e1⟩
  have it1 := it ρ1 c1 H1 (na.up.trans n1.up) n1.rs
  by_cases hlt : i < m.1.ds.length
  · rw [List.drop_eq_getElem_cons hlt] at e1
    unfold Qm.compGo at e1
    split at e1
    · rename_i hst
      obtain ⟨go, _, yl⟩ := it1 hst
      obtain ⟨p, e2, e1⟩ := bnd e1
      obtain ⟨b, e3, e1⟩ := bnd e1
      refine .inr ⟨go i hlt, fun τ H' => i + 1 ≤ m.1.ds.length ∧ ∃ ρ1 env1 c1, Nx K ρa (m.2 ++ [.lst []]) (upd H0 l (.lst [])) ρ1 c1 H' ∧ RE K ρ1 c1.length H' env1 τ ∧ Qm.compGo m.2.length m.1.ks fg ft fe (m.1.ds.drop (i + 1)) env1 c1 = some c', fun σ' H' h => ⟨m.1.ds.length - (i + 1), by omega, rfl, h⟩, fun x H2 hy => ?_⟩
      obtain ⟨n2, r2⟩ := yl i _ x H2 (List.getElem?_eq_getElem hlt) hy
      refine ⟨ρ1, env1, c1, _, p.1, p.2, n2.rs, re1.up n2.up, r2, e2, fun ρ3 H3 σ3 n3 re3 => ?_⟩
      refine ⟨ρ3, p.1, p.2, b.1, b.2, n3.rs, re3, e3, fun ρ4 H4 n4 => ?_⟩
      have nn := n1.trans (n2.trans (n3.trans n4))
      split at e1
      · rename_i hb
        dsimp only
        rw [if_pos hb]
        obtain ⟨y, e4, e1⟩ := bnd e1
        refine ⟨ρ4, p.1, b.2, y.1, y.2, n4.rs, re3.up n4.up, e4, fun ρ5 yv H5 n5 r5 => ?_⟩
        have n15 := nn.trans n5
        split at e1
        · rename_i ys hys
          split at e1
          · rename_i hz
            obtain ⟨vs, h5, a5⟩ := n15.rs.lst hys
            rw [fin n15] at h5
            have n6 := Nx.put n15.rs hys (a5.append (RA.one r5))
            rw [fin n15] at n6
            refine ⟨vs, h5, line_lt (by rw [← a5.length]; exact hz), hlt, ρ5, p.1, _, n15.trans n6, (re3.up (n4.trans (n5.trans n6)).up), e1⟩
          · cases e1
        · cases e1
      · rename_i hb
        dsimp only
        rw [if_neg hb]
        exact ⟨hlt, ρ4, p.1, b.2, nn, re3.up n4.up, e1⟩
    · cases e1
  · have hi' : i = m.1.ds.length := by omega
    subst hi'
    rw [List.drop_length] at e1
    unfold Qm.compGo at e1
    split at e1
    · rename_i hst
      obtain ⟨_, stop, _⟩ := it1 hst
      cases e1
      refine .inl ⟨stop, k ρ1 _ H1 (n0.trans (na.trans n1)) ?_⟩
      rw [← fin n1]
      exact .ref (Nat.lt_of_lt_of_le (by rw [hlen]; omega) n1.up.len)
    · cases e1
theorem qe_comp {x : Str} {px : Pos} {scope : Scope} {N' : List Str} {cap : List (Option Nat)} {ifs : List Expr} {fi : Qm.XI} (B : BlkOk X scope N' cap) (hc : X.calm = true)
    (hi : QI X (.Name x px) b fi) (hg : ∀ C s₀ H₀ fp, QG (X.blk scope C N' s₀ H₀ fp) (.Name x px) fg) (ht : ∀ C s₀ H₀ fp, QIfs (X.blk scope C N' s₀ H₀ fp) ifs ft) (he : ∀ C s₀ H₀ fp, QE (X.blk scope C N' s₀ H₀ fp) e fe)
    (hs : ∀ x, foldedSetIterable b X.env x = pure x := by intro _; rfl) :
    QE X (.ListComp e [⟨.Name x px, b, ifs, 0⟩] scope pos) (Qm.eComp fi cap fg ft fe) := (pe_comp B hc hi hg ht he hs).imp fun _ _ _ h => tComp_q h
theorem fnq_body {K : PySem.W.Frag} {n : Nat} {N : List Str} {B : Qm.XS} {vs : List V} {H : Hp} {Q : VK} {E : XK} (hn : n ≤ N.length) (h : spD K (Qm.mkF n N.length B) vs H Q E) : vs.length = n ∧ SQ K B { nx := fun _ H' => Q .non H', rt := Q } (start N vs) H := by
  obtain ⟨ρ, c, ds, d, c', rs, ra, e, k⟩ := h
  unfold Qm.mkF at e
  split at e
  · rename_i hl
    obtain ⟨p, e1, e⟩ := bnd e
    obtain ⟨f, env', c2⟩ := p
    have hv : vs.length = n := by rw [← ra.length]; exact hl
    refine ⟨hv, ρ, _, c, f, env', c2, rs, ⟨?_, fun i d hd => ?_⟩, e1, fun ρ' H' nx => ?_⟩
    · simp [start, hl, hv]
    · have hi : i < ds.length := by
        by_cases hi : i < ds.length
        · exact hi
        · exfalso
          rw [List.getElem?_append_right (by simp; omega)] at hd
          have := List.mem_of_getElem? hd
          have := List.eq_of_mem_replicate this
          cases this
      rw [List.getElem?_append_left (by simpa using hi), List.getElem?_map] at hd
      cases e : ds[i]? with
      | none => rw [e] at hd; cases hd
      | some d' =>
        rw [e] at hd
        cases hd
        obtain ⟨v, h1, h2⟩ := ra.get e
        refine ⟨v, ?_, h2⟩
        unfold start
        rw [List.getElem?_append_left (by have := ra.length; simp; omega), List.getElem?_map, h1]
        rfl
    · cases f with
      | nx => cases e; exact fun σ' _ => k ρ' .non H' nx .non
      | rt d => cases e; exact fun v rv => k ρ' v H' nx rv
      | bk => cases e
      | ct => cases e
  · cases e
end
section
variable {P : Program} {w : World} {K : PySem.W.Frag} {mg : Str → Option Value} {base : Heap}
theorem Fun.okQ {x qual : Str} {st : Stmt} {f : Addr} {fd : FuncData} {N ps : List Str} {k n m : Nat} {B : Qm.XS} {FF : Qm.FN} (F : Fun K x qual st f fd) (S : FnScope N ps (defScope st)) (hn : ps.length = n) (hm : N.length = m) (hN : n ≤ m) (hF : FF = Qm.mkF n m B)
    (hbody : ∀ (cdv : Value) (A : Around) (outer : List Env) (s : Shared) (H : Hp) (E : XK), Room k (A.deeper (envOfC qual (defScope st) s.heap.objs.size f cdv)) →
      QSs (cxOf CX0 P w K mg base N qual (defScope st) f cdv A outer s H E).nox (defBody st) B) : FnOk P w K mg base CX0 (k + 1) f fd ps (spD K FF) := by
  subst hm hF
  exact F.ok S (fun vs H Q E h => by rw [(fnq_body hN h).1, hn]) fun cdv A outer s H vs Q E hr h => ⟨_, hbody cdv A outer s H E hr, (fnq_body hN h).2⟩
theorem FunD.okQ {x qual : Str} {st : Stmt} {f : Addr} {fd : FuncData} {N ps : List Str} {k n m : Nat} {B : Qm.XS} {FF : Qm.FN} (F : FunD K x qual st f fd) (S : FnScope N ps (defScope st)) (hn : ps.length = n) (hm : N.length = m) (hN : n ≤ m) (hF : FF = Qm.mkF n m B)
    (hbody : ∀ (cdv : Value) (A : Around) (outer : List Env) (s : Shared) (H : Hp) (E : XK), Room k (A.deeper (envOfC qual (defScope st) s.heap.objs.size f cdv)) →
      QSs (cxOf CX0 P w K mg base N qual (defScope st) f cdv A outer s H E).nox (defBody st) B) : FnOk P w K mg base CX0 (k + 1) f fd ps (spD K FF) := by
  subst hm hF
  exact F.ok S (fun vs H Q E h => by rw [(fnq_body hN h).1, hn]) fun cdv A outer s H vs Q E hr h => ⟨_, hbody cdv A outer s H E hr, (fnq_body hN h).2⟩
theorem law_sp {F : Qm.FN} {H : Hp} {a : Addr} {ns : List Int} (hO : Only H) (hS : SqL K H a (ns.map V.int)) {c' : Qm.Cells} (h : F [.ref 0] [.ro (ns.map Qm.D.int)] = some (.bl true, c')) : spD K F [.ref a] H (fun v _ => v = .bl true) fun _ _ _ => False := by
  have zs : ∀ ms : List Int, RA K (fun _ => a) 1 H (ms.map Qm.D.int) (ms.map V.int) := fun ms => by
    induction ms with
    | nil => exact .nil
    | cons m ms ih => exact .cons (.int m) ih
  refine ⟨fun _ => a, [.ro (ns.map Qm.D.int)], [.ref 0], .bl true, c', ⟨fun i j xs ys h1 h2 _ => ?_, fun n z hz => ?_⟩, .cons (.ref (by simp)) .nil, h, fun ρ' v H' n r => r.bl'⟩
  · match i, h1 with
    | 0, h1 => simp at h1
    | i + 1, h1 => simp at h1
  · match n, hz with
    | 0, hz =>
      have : z = .ro (ns.map Qm.D.int) := by simpa using hz.symm
      subst this
      exact ⟨ns.map V.int, RoOk.of hO hS, zs ns⟩
    | n + 1, hz => simp at hz
end
end L2
namespace L2
open PySem PySem.Spec PyProof.Rows
mutual
def nb : PyData → Bool
  | .none => true
  | .int _ => true
  | .str _ => true
  | .tuple ds => nbA ds
  | .list ds => nbA ds
  | _ => false
def nbA : List PyData → Bool
  | [] => true
  | d :: ds => nb d && nbA ds
end
section
variable {K : PySem.W.Frag} {ρ : Nat → Addr} {c : Qm.Cells} {H : Hp}
theorem rdA_of {k : Nat} (rs : RS K ρ c H) (ih : ∀ {x : Qm.D} {v : V} {d : PyData}, RD K ρ c.length H x v → Qm.data c k x = some d → RdV K H v d ∧ PyData.canLay0 d = true ∧ d.depth ≤ k ∧ nb d = true) :
    ∀ {xs : List Qm.D} {vs : List V} {ds : List PyData}, RA K ρ c.length H xs vs → Qm.omap (Qm.data c k) xs = some ds → RdA K H vs ds ∧ PyData.canLayAll0 ds = true ∧ PyData.depthAll ds ≤ k ∧ nbA ds = true
  | [], _, ds, a, h => by
    cases a
    cases h
    exact ⟨.nil, rfl, Nat.zero_le _, rfl⟩
  | x :: xs, _, ds, a, h => by
    cases a with
    | cons r a =>
      obtain ⟨d, h1, h⟩ := bnd h
      obtain ⟨es, h2, h⟩ := bnd h
      cases h
      obtain ⟨a1, a2, a3, a4⟩ := ih r h1
      obtain ⟨b1, b2, b3, b4⟩ := rdA_of rs ih a h2
      exact ⟨.cons a1 b1, by simp [PyData.canLayAll0, a2, b2], by simp only [PyData.depthAll]; omega, by simp [nbA, a4, b4]⟩
theorem rdV_of (rs : RS K ρ c H) : ∀ (k : Nat) {x : Qm.D} {v : V} {d : PyData}, RD K ρ c.length H x v → Qm.data c k x = some d → RdV K H v d ∧ PyData.canLay0 d = true ∧ d.depth ≤ k ∧ nb d = true
  | 0, _, _, _, _, h => by simp [Qm.data] at h
  | k + 1, x, v, d, r, h => by
    have A : ∀ {xs : List Qm.D} {vs : List V} {ds : List PyData}, RA K ρ c.length H xs vs → Qm.omap (Qm.data c k) xs = some ds → RdA K H vs ds ∧ PyData.canLayAll0 ds = true ∧ PyData.depthAll ds ≤ k ∧ nbA ds = true := fun {xs vs ds} => rdA_of (k := k) rs (fun r h => rdV_of rs k r h)
    cases x with
    | non => simp [Qm.data] at h; subst h; cases r.non'; exact ⟨.non, rfl, Nat.zero_le _, rfl⟩
    | int i => simp [Qm.data] at h; subst h; cases r.int'; exact ⟨.int i, rfl, Nat.zero_le _, rfl⟩
    | bl b => simp [Qm.data] at h
    | str b =>
      simp only [Qm.data] at h
      split at h
      · rename_i hb
        cases h
        cases r
        exact ⟨.str b, hb, Nat.zero_le _, rfl⟩
      · cases h
    | ty b => simp [Qm.data] at h
    | tup xs =>
      simp only [Qm.data] at h
      obtain ⟨ds, h1, h⟩ := bnd h
      cases h
      obtain ⟨p, vs, rfl, g, a⟩ := r.tup'
      obtain ⟨a1, a2, a3, a4⟩ := A a h1
      exact ⟨.tup (SqT.of g) a1, by simpa [PyData.canLay0] using a2, by simp only [PyData.depth]; omega, by simpa [nb] using a4⟩
    | ref n =>
      simp only [Qm.data] at h
      have hs : ∀ {xs : List Qm.D}, Qm.seqOf (.ref n) c = some xs → (Qm.omap (Qm.data c k) xs).bind (fun ds => some (PyData.list ds)) = some d → RdV K H v d ∧ PyData.canLay0 d = true ∧ d.depth ≤ k + 1 ∧ nb d = true := fun {xs} e h => by
        obtain ⟨ds, h1, h⟩ := bnd h
        cases h
        obtain ⟨vs, rfl, g, a⟩ := rs.seqR r e
        obtain ⟨a1, a2, a3, a4⟩ := A a h1
        exact ⟨.lst g a1, by simpa [PyData.canLay0] using a2, by simp only [PyData.depth]; omega, by simpa [nb] using a4⟩
      cases e : c[n]? with
      | none => rw [e] at h; cases h
      | some z =>
        rw [e] at h
        cases z with
        | lst xs => exact hs (by simp [Qm.seqOf, e]) h
        | ro xs => exact hs (by simp [Qm.seqOf, e]) h
end
mutual
theorem eqv_iff : ∀ (d e : PyData), nb d = true → nb e = true → (PyData.eqv d e = true ↔ d = e)
  | .none, e, _, he => by cases e <;> simp_all [PyData.eqv, nb]
  | .int i, e, _, he => by cases e <;> simp_all [PyData.eqv, nb]
  | .tuple ds, e, hd, he => by
    cases e <;> simp_all [PyData.eqv, nb]
    exact eqvA_iff _ _ hd he
  | .list ds, e, hd, he => by
    cases e <;> simp_all [PyData.eqv, nb]
    exact eqvA_iff _ _ hd he
  | .bool _, _, h, _ => by simp [nb] at h
  | .str a, e, _, he => by cases e <;> simp_all [PyData.eqv, nb]
  | .dict _, _, h, _ => by simp [nb] at h
theorem eqvA_iff : ∀ (ds es : List PyData), nbA ds = true → nbA es = true → (PyData.eqvAll ds es = true ↔ ds = es)
  | [], [], _, _ => by simp [PyData.eqvAll]
  | [], _ :: _, _, _ => by simp [PyData.eqvAll]
  | _ :: _, [], _, _ => by simp [PyData.eqvAll]
  | d :: ds, e :: es, hd, he => by
    simp only [nbA, Bool.and_eq_true] at hd he
    simp only [PyData.eqvAll, Bool.and_eq_true, List.cons.injEq]
    rw [eqv_iff d e hd.1 he.1, eqvA_iff ds es hd.2 he.2]
end
section
variable {X : Cx}
theorem eqM_of {x y : Qm.D} {c : Qm.Cells} {b : Bool} (h : Qm.eqM x y c = some b) : (∃ p q, x = .bl p ∧ y = .bl q ∧ b = (p == q)) ∨ ∃ d e, Qm.data c 6 x = some d ∧ Qm.data c 6 y = some e ∧ (b = true ↔ d = e) := by
  unfold Qm.eqM at h
  split at h
  · cases h; exact .inl ⟨_, _, rfl, rfl, rfl⟩
  · obtain ⟨d, h1, h⟩ := bnd h
    obtain ⟨e, h2, h⟩ := bnd h
    cases h
    exact .inr ⟨d, e, h1, h2, by simp⟩
theorem eqM_eqv {K : PySem.W.Frag} {ρ : Nat → Addr} {c : Qm.Cells} {H : Hp} {x y : Qm.D} {v u : V} {d e : PyData} {b : Bool} (rs : RS K ρ c H) (rx : RD K ρ c.length H x v) (ry : RD K ρ c.length H y u) (h1 : Qm.data c 6 x = some d) (h2 : Qm.data c 6 y = some e) (hb : b = true ↔ d = e) :
    RdV K H v d ∧ RdV K H u e ∧ SeqAt.shaped d = true ∧ SeqAt.shaped e = true ∧ PyData.eqv d e = b := by
  obtain ⟨a1, a2, a3, a4⟩ := rdV_of rs 6 rx h1
  obtain ⟨b1, b2, b3, b4⟩ := rdV_of rs 6 ry h2
  refine ⟨a1, b1, by simp [SeqAt.shaped, a2]; omega, by simp [SeqAt.shaped, b2]; omega, ?_⟩
  have := eqv_iff d e a4 b4
  cases b with
  | true => exact this.mpr (hb.mp rfl)
  | false =>
    cases q : PyData.eqv d e with
    | false => rfl
    | true => exact absurd (hb.mpr (this.mp q)) (by decide)
theorem op_eqQ (hu : X.A.units + 64 < cLine) : OpR X (compareOp .Eq) (fun x y H Q => rEq x y H Q ∨ rEqD X.K false x y H Q) := op_eq.or (op_eqD hu)
theorem op_neQ (hu : X.A.units + 64 < cLine) : OpR X (compareOp .NotEq) (fun x y H Q => rNe x y H Q ∨ rEqD X.K true x y H Q) := op_ne.or (op_neD hu)
theorem lk_eq {K : PySem.W.Frag} : Lk2 K (fun x y H Q => rEq x y H Q ∨ rEqD K false x y H Q) Qm.gEq := by
  intro ρ c H x y d c' v u Q rs rx ry e k
  obtain ⟨b, e1, e⟩ := bnd e
  cases e
  rcases eqM_of e1 with ⟨p, q, rfl, rfl, rfl⟩ | ⟨dd, ee, h1, h2, hb⟩
  · cases rx.bl'; cases ry.bl'
    exact .inl ⟨rfl, by rw [dec_bl]; exact k ρ _ H (Nx.refl rs) (.bl _)⟩
  · obtain ⟨a1, a2, a3, a4, a5⟩ := eqM_eqv rs rx ry h1 h2 hb
    refine .inr ⟨dd, ee, a1, a2, a3, a4, ?_⟩
    rw [if_neg (by decide), a5]
    exact k ρ _ H (Nx.refl rs) (.bl _)
theorem lk_ne {K : PySem.W.Frag} : Lk2 K (fun x y H Q => rNe x y H Q ∨ rEqD K true x y H Q) Qm.gNe := by
  intro ρ c H x y d c' v u Q rs rx ry e k
  obtain ⟨b, e1, e⟩ := bnd e
  cases e
  rcases eqM_of e1 with ⟨p, q, rfl, rfl, rfl⟩ | ⟨dd, ee, h1, h2, hb⟩
  · cases rx.bl'; cases ry.bl'
    exact .inl ⟨rfl, by rw [dec_bl]; exact k ρ _ H (Nx.refl rs) (.bl _)⟩
  · obtain ⟨a1, a2, a3, a4, a5⟩ := eqM_eqv rs rx ry h1 h2 hb
    refine .inr ⟨dd, ee, a1, a2, a3, a4, ?_⟩
    rw [if_pos rfl, a5]
    exact k ρ _ H (Nx.refl rs) (.bl _)
def isNon (x : Qm.D) : Bool := match x with | .non => true | _ => false
theorem RD.non_iff {K : PySem.W.Frag} {ρ : Nat → Addr} {N : Nat} {H : Hp} {x : Qm.D} {v : V} (r : RD K ρ N H x v) : decide (v = .non) = isNon x := by
  cases r <;> simp [isNon]
theorem lk_isN {K : PySem.W.Frag} : Lk2 K (fun x y H Q => y = .non ∧ Q (.bl (decide (x = .non))) H) Qm.gIsN := by
  intro ρ c H x y d c' v u Q rs rx ry e k
  unfold Qm.gIsN at e
  split at e
  · cases e
    cases ry.non'
    refine ⟨rfl, ?_⟩
    rw [rx.non_iff]
    exact k ρ _ H (Nx.refl rs) (.bl (isNon x))
  · cases e
theorem lk_notN {K : PySem.W.Frag} : Lk2 K (fun x y H Q => y = .non ∧ Q (.bl (!decide (x = .non))) H) Qm.gNotN := by
  intro ρ c H x y d c' v u Q rs rx ry e k
  unfold Qm.gNotN at e
  split at e
  · cases e
    cases ry.non'
    refine ⟨rfl, ?_⟩
    rw [rx.non_iff]
    refine k ρ _ H (Nx.refl rs) ?_
    cases x <;> exact .bl _
  · cases e
theorem kit_is (K : PySem.W.Frag) : PySem.W.kitOne K (.type "int") (.type "int") = some true ∧ PySem.W.kitOne K (.type "int") (.type "bool") = some false ∧ PySem.W.kitOne K (.type "bool") (.type "bool") = some true ∧ PySem.W.kitOne K (.type "bool") (.type "int") = some true ∧ PySem.W.kitOne K (.type "tuple") (.type "tuple") = some true ∧ PySem.W.kitOne K (.type "list") (.type "list") = some true :=
  ⟨by with_unfolding_all rfl, by with_unfolding_all rfl, by with_unfolding_all rfl, by with_unfolding_all rfl, by with_unfolding_all rfl, by with_unfolding_all rfl⟩
theorem lk_isinst {K : PySem.W.Frag} : LkF K (fun xs H Q => ∃ x n t k, xs = [x, .ty n] ∧ TyOf K H x t ∧ PySem.W.kitOne K t (.type n) = some k ∧ Q (.bl k) H) Qm.bIsinst := by
  intro ρ c H ds d c' vs Q rs ra e k
  obtain ⟨x, y, rfl, e'⟩ := two_of e
  obtain ⟨v, u, rfl, rx, ry⟩ := ra.two'
  obtain ⟨k1, k2, k3, k4, k5, k6⟩ := kit_is K
  split at e'
  · rename_i n
    obtain ⟨b, e1, e2⟩ := bnd e'
    cases e2
    have hu : u = .ty n := by cases ry; rfl
    subst hu
    unfold Qm.isKind at e1
    split at e1
    · cases rx.int'
      split at e1
      · rename_i hn; cases e1; subst hn; exact ⟨_, _, _, _, rfl, .int _, k1, k ρ _ H (Nx.refl rs) (.bl _)⟩
      · split at e1
        · rename_i hn; cases e1; subst hn; exact ⟨_, _, _, _, rfl, .int _, k2, k ρ _ H (Nx.refl rs) (.bl _)⟩
        · cases e1
    · cases rx.bl'
      split at e1
      · rename_i hn; cases e1; subst hn; exact ⟨_, _, _, _, rfl, .bl _, k3, k ρ _ H (Nx.refl rs) (.bl _)⟩
      · cases e1
    · obtain ⟨p, ws, rfl, g, _⟩ := rx.tup'
      split at e1
      · rename_i hn; cases e1; subst hn; exact ⟨_, _, _, _, rfl, .tup g, k5, k ρ _ H (Nx.refl rs) (.bl _)⟩
      · cases e1
    · rename_i m
      obtain ⟨rfl, _⟩ := rx.ref'
      split at e1
      · rename_i ws hw
        obtain ⟨us, g, _⟩ := rs.lst hw
        split at e1
        · rename_i hn; cases e1; subst hn; exact ⟨_, _, _, _, rfl, .lst g, k6, k ρ _ H (Nx.refl rs) (.bl _)⟩
        · cases e1
      · cases e1
    · cases e1
  · cases e'
end
end L2
namespace L2
open PySem PySem.Spec PyProof.Rows
section
variable {X : Cx}
def rInQ (K : PySem.W.Frag) (neg : Bool) : R2 := fun x y H Q => ∃ (p : Addr) (xs : List V) (d : PyData) (ds : List PyData), y = .ref p ∧ (SqL K H p xs ∨ SqT K H p xs) ∧ RdV K H x d ∧ RdA K H xs ds ∧ SeqAt.shaped d = true ∧ d.depth ≤ 8 ∧ (∀ e ∈ ds, PyData.canLay0 e = true) ∧ Q (.bl (if neg then !(ds.any fun e => PyData.eqv e d) else ds.any fun e => PyData.eqv e d)) H
theorem in_any {pins : List (Addr × Obj)} {σ : St} {H : Hp} {s : Shared} {x : V} {xs : List V} {v : Value} {its : List Value} {d : PyData} {ds : List PyData} (hu : X.A.units + 64 < cLine) (I : Inv X pins σ H s) (rx : RelV x v) (hv : Vals xs its) (hx : RdV X.K H x d) (hxs : RdA X.K H xs ds) (sd : SeqAt.shaped d = true) (dd : d.depth ≤ 8) (sds : ∀ e ∈ ds, PyData.canLay0 e = true) :
    (∀ y ∈ its.toArray, SeqAt.EqAt X.A.in1 s y v (eqTo s.heap d y)) ∧ its.toArray.any (eqTo s.heap d) = ds.any fun e => PyData.eqv e d := by
  obtain ⟨as, ra⟩ := hx.reads I rx
  obtain ⟨bs, rb⟩ := hxs.reads I hv
  have ea : its.any (eqTo s.heap d) = ds.any fun e => PyData.eqv e d := readsAll_any rb fun u' d' as' _ hd r' => eqTo_of (sds d' hd) r'
  refine ⟨fun y' hy' => ?_, by simpa using ea⟩
  have hm : y' ∈ its := by simpa using hy'
  obtain ⟨d', hd, as', r'⟩ := readsAll_mem rb y' hm
  rw [eqTo_of (sds d' hd) r']
  refine SeqAt.eqAt_reads d' d _ _ _ _ _ _ r' ra (sds d' hd) (SeqAt.canLay_of_shaped sd) ?_
  have h1 : min d'.depth d.depth ≤ d.depth := Nat.min_le_right _ _
  have h2 : X.A.in1.units ≤ X.A.units + 1 := by simp [Around.in1, Around.units]
  show X.A.in1.units + _ < cLine
  omega
theorem op_inQ (hu : X.A.units + 64 < cLine) : OpR X (compareOp .In) (rInQ X.K false) := by
  intro pins s σ H x y v u Q I rx ry h
  obtain ⟨p, xs, d, ds, rfl, hp, hx, hxs, sd, dd, sds, q⟩ := h
  cases (show u = Value.ref p from ry)
  rcases hp with hp | hp
  · obtain ⟨its, hv, pl, _⟩ := I.list hp
    obtain ⟨h1, h2⟩ := in_any hu I rx hv hx hxs sd dd sds
    refine SeqAt.in_listAt (eqTo s.heap d) pl.isList h1 ⟨.bl _, H, I, rfl, ?_⟩
    rw [h2]; exact q
  · obtain ⟨its, hv, pl, _⟩ := I.tuple hp
    obtain ⟨h1, h2⟩ := in_any hu I rx hv hx hxs sd dd sds
    refine SeqAt.in_tupleAt (eqTo s.heap d) pl h1 ⟨.bl _, H, I, rfl, ?_⟩
    rw [h2]; exact q
theorem canLay_mem : ∀ {ds : List PyData}, PyData.canLayAll0 ds = true → ∀ e ∈ ds, PyData.canLay0 e = true
  | [], _, e, he => nomatch he
  | d :: ds, h, e, he => by
    simp only [PyData.canLayAll0, Bool.and_eq_true] at h
    rcases List.mem_cons.mp he with rfl | he
    · exact h.1
    · exact canLay_mem h.2 e he
theorem nbA_mem : ∀ {ds : List PyData}, nbA ds = true → ∀ e ∈ ds, nb e = true
  | [], _, e, he => nomatch he
  | d :: ds, h, e, he => by
    simp only [nbA, Bool.and_eq_true] at h
    rcases List.mem_cons.mp he with rfl | he
    · exact h.1
    · exact nbA_mem h.2 e he
theorem inM_of {K : PySem.W.Frag} {ρ : Nat → Addr} {c : Qm.Cells} {H : Hp} {x y : Qm.D} {v u : V} {b : Bool} (rs : RS K ρ c H) (rx : RD K ρ c.length H x v) (ry : RD K ρ c.length H y u) (h : Qm.inM x y c = some b) :
    ∃ (p : Addr) (xs : List V) (d : PyData) (ds : List PyData), u = .ref p ∧ (SqL K H p xs ∨ SqT K H p xs) ∧ RdV K H v d ∧ RdA K H xs ds ∧ SeqAt.shaped d = true ∧ d.depth ≤ 8 ∧ (∀ e ∈ ds, PyData.canLay0 e = true) ∧ (ds.any fun e => PyData.eqv e d) = b := by
  obtain ⟨xs, h1, h⟩ := bnd h
  obtain ⟨d, h2, h⟩ := bnd h
  obtain ⟨ds, h3, h⟩ := bnd h
  cases h
  obtain ⟨p, vs, rfl, hp, a⟩ := rs.seq ry h1
  obtain ⟨a1, a2, a3, a4⟩ := rdV_of rs 5 rx h2
  obtain ⟨b1, b2, b3, b4⟩ := rdA_of (k := 5) rs (fun r h => rdV_of rs 5 r h) a h3
  refine ⟨p, vs, d, ds, rfl, hp.imp id SqT.of, a1, b1, by simp [SeqAt.shaped, a2]; omega, by omega, canLay_mem b2, ?_⟩
  rw [Bool.eq_iff_iff]
  simp only [List.any_eq_true, decide_eq_true_eq]
  constructor
  · rintro ⟨e, he, q⟩
    rw [eqv_iff e d (nbA_mem b4 e he) a4] at q
    exact q ▸ he
  · intro hd
    exact ⟨d, hd, (eqv_iff d d a4 a4).mpr rfl⟩
theorem lk_in {K : PySem.W.Frag} : Lk2 K (rInQ K false) Qm.gIn := by
  intro ρ c H x y d c' v u Q rs rx ry e k
  obtain ⟨b, e1, e⟩ := bnd e
  cases e
  obtain ⟨p, xs, dd, ds, rfl, a1, a2, a3, a4, a5, a6, a7⟩ := inM_of rs rx ry e1
  refine ⟨p, xs, dd, ds, rfl, a1, a2, a3, a4, a5, a6, ?_⟩
  rw [if_neg (by decide), a7]
  exact k ρ _ H (Nx.refl rs) (.bl _)
theorem bls_get : ∀ {bs : List Bool} {us : List Value}, Vals (bs.map V.bl) us → ∀ (i : Nat) (v : Value), us[i]? = some v → v = .bool (bs.getD i false)
  | [], _, .nil, i, v, h => by simp at h
  | b :: bs, _, .cons r t, 0, v, h => by
    simp at h
    subst h
    simpa using (show _ = Value.bool b from r)
  | b :: bs, _, .cons r t, i + 1, v, h => by
    have := bls_get t i v (by simpa using h)
    simpa using this
theorem truth_bls {prog : Program} {w : World} {A : Around} {bs : List Bool} {us : List Value} (hv : Vals (bs.map V.bl) us) : TruthOf prog w A (fun i v => us.toArray[i]? = some v) fun i => bs.getD i false := fun i v s Q E h q => by
  rw [bls_get hv i v (by simpa using h)]
  exact wpAny_truthy_bool q
theorem range_all (bs : List Bool) : (List.range bs.length).all (fun i => bs.getD i false) = bs.all id := by
  rw [Bool.eq_iff_iff]
  simp only [List.all_eq_true, List.mem_range]
  constructor
  · intro h b hb
    obtain ⟨i, hi⟩ := List.getElem?_of_mem hb
    have hl := (List.getElem?_eq_some_iff.mp hi).1
    have := h i hl
    simpa [List.getD, hi] using this
  · intro h i hi
    have : bs[i]? = some bs[i] := List.getElem?_eq_getElem hi
    simp only [List.getD, this, Option.getD_some]
    exact h _ (List.getElem_mem hi)
theorem call_allQ (hc : X.calm = true) : CallR X (.builtin "all") (fun xs H Q => ∃ (p : Addr) (bs : List Bool), xs = [.ref p] ∧ SqL X.K H p (bs.map V.bl) ∧ Q (.bl (bs.all id)) H) := by
  intro pins s σ H xs us Q I r h
  obtain ⟨p, bs, rfl, hp, q⟩ := h
  obtain ⟨u, rfl, ru⟩ := vals1 r
  cases (show u = Value.ref p from ru)
  obtain ⟨its, hv, pl, _⟩ := I.list hp
  have hl := pl.isList
  have hlt : p < s.heap.objs.size := by obtain ⟨o, e, _⟩ := hl; exact Heap.lt_size e
  refine call_all_walk (wpAny_pyIter_list hl ?_)
  refine ⟨s.heap.objs.size, _, _, _, _, _, _, rfl, Walks.list (A := X.A.in1) (I.ok.hd hc) s.heap.objs.size p (Nat.ne_of_lt hlt) its.toArray, ⟨⟨_, Heap.get?_push_size _ rfl, rfl, rfl⟩, hl.at fun o e => Heap.get?_push_of_some _ e⟩, truth_bls hv, fun h' tk kk => ?_⟩
  have e : its.toArray.size = bs.length := by rw [List.size_toArray, ← hv.length, List.length_map]
  rw [e, range_all]
  exact ⟨.bl _, H, I.kept (t' := tk) fun b o g => kk b o (by simpa using Nat.ne_of_lt (Heap.lt_size g)) (Heap.get?_push_of_some _ g), rfl, q⟩
theorem bools_of {K : PySem.W.Frag} {ρ : Nat → Addr} {N : Nat} {H : Hp} : ∀ {ds : List Qm.D} {vs : List V} {bs : List Bool}, RA K ρ N H ds vs → Qm.omap Qm.asB ds = some bs → vs = bs.map V.bl
  | [], _, bs, a, h => by cases a; cases h; rfl
  | d :: ds, _, bs, a, h => by
    cases a with
    | cons r a =>
      obtain ⟨b, h1, h⟩ := bnd h
      obtain ⟨cs, h2, h⟩ := bnd h
      cases h
      rw [asB_of h1] at r
      cases r.bl'
      rw [bools_of a h2]; rfl
theorem lk_all {K : PySem.W.Frag} : LkF K (fun xs H Q => ∃ (p : Addr) (bs : List Bool), xs = [.ref p] ∧ SqL K H p (bs.map V.bl) ∧ Q (.bl (bs.all id)) H) Qm.bAll := by
  intro ρ c H ds d c' vs Q rs ra e k
  obtain ⟨x, rfl, e'⟩ := one_of e
  obtain ⟨v, rfl, rx⟩ := ra.one'
  obtain ⟨n, e0, e'⟩ := bnd e'
  obtain ⟨bs, e2, e'⟩ := bnd e'
  cases e'
  obtain ⟨rfl, hn, ws, rfl, g, a⟩ := rs.lstOf rx e0
  exact ⟨_, bs, rfl, bools_of a e2 ▸ SqL.of g, k ρ _ H (Nx.refl rs) (.bl _)⟩
theorem bt_all : bootBuiltins "all" = some (.builtin "all") := by decide +kernel
end
end L2
namespace L2
open PySem PySem.Spec PyProof.Rows
def gtL : List Int → List Int → Bool
  | [], _ => false
  | _ :: _, [] => true
  | a :: r, b :: t => if a = b then gtL r t else decide (a > b)
theorem gtL_nil {y : List Int} : gtL [] y = false := by cases y <;> rfl
section
variable {prog : Program} {w : World} {A : Around} {E : Value → Shared → Prop} {s : Shared}
theorem tuple_gt_tree {xs ys : Array Value} {x y : List Int} {a b : Addr} {oa ob : Obj} {na nb : Nat} {P : PySem.Fin → Shared → Prop} (hoa : s.heap.get? a = some oa) (hda : oa.data = .seq xs na) (hob : s.heap.get? b = some ob) (hcb : ob.cls = .type "tuple") (hdb : ob.data = .seq ys nb)
    (hx : IntsAre xs.toList x) (hy : IntsAre ys.toList y) (h : P (.done (.ret (.bool (gtL x y)))) s) :
    wpAny (model prog w) A (Builtin.«tuple.__gt__» ⟨[.ref a, .ref b], []⟩) P E s := by
  have hTb : s.TypeIs (.ref b) "tuple" := ⟨_, hob, hcb⟩
  show wpAny _ _ (isInstance (.ref b) (.type "tuple") >>= _) _ _ s
  refine wpAny_bind (wpAny_isInstance hTb isSubtype_tuple_tuple ?_)
  simp only [Bool.not_true, Bool.false_eq_true, if_false]
  refine wpAny_bind (wpAny_tupleItemsOf hoa hda ?_)
  refine wpAny_bind (wpAny_tupleItemsOf hob hdb ?_)
  refine wpAny_bind ?_
  refine wpAny_forIn_list _
    (fun rest r s' => r.1 = none ∧ s' = s ∧ ∃ x' y' xs' ys', rest = List.zip xs' ys' ∧ IntsAre xs' x' ∧ IntsAre ys' y' ∧ gtL x' y' = gtL x y ∧ (decide (xs'.length > ys'.length)) = (decide (xs.size > ys.size)))
    _ ?_ ?_ _ _ ⟨rfl, rfl, x, y, xs.toList, ys.toList, rfl, hx, hy, rfl, by simp⟩
  · rintro ⟨u, v⟩ rest r s' ⟨hr, rfl, x', y', xs', ys', hz, hx', hy', hdec, hlen⟩
    cases hx' with
    | nil => simp at hz
    | @cons i t xs'' x'' hx'' =>
      cases hy' with
      | nil => simp at hz
      | @cons j t' ys'' y'' hy'' =>
        simp only [List.zip_cons_cons, List.cons.injEq, Prod.mk.injEq] at hz
        obtain ⟨⟨rfl, rfl⟩, rfl⟩ := hz
        refine wpAny_bind (wpAny_eqBool_int ?_)
        by_cases hk : i = j
        · subst hk
          rw [beq_self_eq_true]
          simp only [Bool.not_true, Bool.false_eq_true, if_false]
          refine wpAny_pure ⟨rfl, rfl, x'', y'', xs'', ys'', rfl, hx'', hy'', ?_, by simpa using hlen⟩
          rw [← hdec]
          simp [gtL]
        · rw [beq_eq_false_iff_ne.mpr hk]
          simp only [Bool.not_false, if_true]
          have hf : gtL x y = decide (i > j) := by rw [← hdec]; simp [gtL, hk]
          rw [hf] at h
          refine wpAny_bind (wpAny_rule (wpAny_bind ?_))
          refine richCompare_gives (op := .Gt) (typeIs_int _ _ t) (typeIs_int _ _ t') PySem.F.slot_int_gt PySem.F.entry_int_gt (PySem.F.args_int_gt_2 _ _) (gives_int_gt _ _ t t') (fun x => nomatch x) ?_
          exact wpAny_bind (wpAny_pure (wpAny_pure (wpAny_pure h)))
  · rintro ⟨r1, r2⟩ s' ⟨hr, rfl, x', y', xs', ys', hz, hx', hy', hdec, hlen⟩
    simp only at hr
    subst hr
    refine wpAny_pure ?_
    have hfin : (decide (xs.size > ys.size)) = gtL x y := by
      rw [← hdec, ← hlen]
      cases hx' with
      | nil => simp [gtL_nil]
      | cons _ _ _ =>
        cases hy' with
        | nil => simp [gtL]
        | cons _ _ _ => simp at hz
    show P (.done (.ret (.bool (decide (xs.size > ys.size))))) s'
    rw [hfin]; exact h
theorem tuple_lt_tree {xs ys : Array Value} {x y : List Int} {a b : Addr} {oa ob : Obj} {na nb : Nat} {P : PySem.Fin → Shared → Prop} (hoa : s.heap.get? a = some oa) (hda : oa.data = .seq xs na) (hob : s.heap.get? b = some ob) (hcb : ob.cls = .type "tuple") (hdb : ob.data = .seq ys nb)
    (hx : IntsAre xs.toList x) (hy : IntsAre ys.toList y) (h : P (.done (.ret (.bool (gtL y x)))) s) :
    wpAny (model prog w) A (Builtin.«tuple.__lt__» ⟨[.ref a, .ref b], []⟩) P E s := by
  have hTb : s.TypeIs (.ref b) "tuple" := ⟨_, hob, hcb⟩
  show wpAny _ _ (isInstance (.ref b) (.type "tuple") >>= _) _ _ s
  refine wpAny_bind (wpAny_isInstance hTb isSubtype_tuple_tuple ?_)
  simp only [Bool.not_true, Bool.false_eq_true, if_false]
  refine wpAny_bind (wpAny_tupleItemsOf hoa hda ?_)
  refine wpAny_bind (wpAny_tupleItemsOf hob hdb ?_)
  refine wpAny_bind ?_
  refine wpAny_forIn_list _
    (fun rest r s' => r.1 = none ∧ s' = s ∧ ∃ x' y' xs' ys', rest = List.zip xs' ys' ∧ IntsAre xs' x' ∧ IntsAre ys' y' ∧ gtL y' x' = gtL y x ∧ (decide (xs'.length < ys'.length)) = (decide (xs.size < ys.size)))
    _ ?_ ?_ _ _ ⟨rfl, rfl, x, y, xs.toList, ys.toList, rfl, hx, hy, rfl, by simp⟩
  · rintro ⟨u, v⟩ rest r s' ⟨hr, rfl, x', y', xs', ys', hz, hx', hy', hdec, hlen⟩
    cases hx' with
    | nil => simp at hz
    | @cons i t xs'' x'' hx'' =>
      cases hy' with
      | nil => simp at hz
      | @cons j t' ys'' y'' hy'' =>
        simp only [List.zip_cons_cons, List.cons.injEq, Prod.mk.injEq] at hz
        obtain ⟨⟨rfl, rfl⟩, rfl⟩ := hz
        refine wpAny_bind (wpAny_eqBool_int ?_)
        by_cases hk : i = j
        · subst hk
          rw [beq_self_eq_true]
          simp only [Bool.not_true, Bool.false_eq_true, if_false]
          refine wpAny_pure ⟨rfl, rfl, x'', y'', xs'', ys'', rfl, hx'', hy'', ?_, by simpa using hlen⟩
          rw [← hdec]
          simp [gtL]
        · rw [beq_eq_false_iff_ne.mpr hk]
          simp only [Bool.not_false, if_true]
          have hf : gtL y x = decide (i < j) := by rw [← hdec]; simp [gtL, Ne.symm hk]
          rw [hf] at h
          refine wpAny_bind (wpAny_rule (wpAny_bind ?_))
          refine richCompare_gives (op := .Lt) (typeIs_int _ _ t) (typeIs_int _ _ t') PySem.F.slot_int_lt PySem.F.entry_int_lt (PySem.F.args_int_lt_2 _ _) (gives_int_lt _ _ t t') (fun x => nomatch x) ?_
          exact wpAny_bind (wpAny_pure (wpAny_pure (wpAny_pure h)))
  · rintro ⟨r1, r2⟩ s' ⟨hr, rfl, x', y', xs', ys', hz, hx', hy', hdec, hlen⟩
    simp only at hr
    subst hr
    refine wpAny_pure ?_
    have hfin : (decide (xs.size < ys.size)) = gtL y x := by
      rw [← hdec, ← hlen]
      cases hy' with
      | nil => simp [gtL_nil]
      | cons _ _ _ =>
        cases hx' with
        | nil => simp [gtL]
        | cons _ _ _ => simp at hz
    show P (.done (.ret (.bool (decide (xs.size < ys.size))))) s'
    rw [hfin]; exact h
theorem typeIs_tup {p : Addr} {its : Array Value} (h : IsTup s.heap p its) : s.TypeIs (.ref p) "tuple" := by
  obtain ⟨o, ho, hc, _⟩ := h
  exact ⟨_, ho, hc⟩
theorem rich_gtT {p q : Addr} {xs ys : Array Value} {x y : List Int} {Q : Value → Shared → Prop} (hp : IsTup s.heap p xs) (hq : IsTup s.heap q ys) (hx : IntsAre xs.toList x) (hy : IntsAre ys.toList y) (hu : A.units < cLine) (h : Q (.bool (gtL x y)) s) : wpAny (model prog w) A (richCompare .Gt (.ref p) (.ref q)) Q E s := by
  have t1 := typeIs_tup hp
  have t2 := typeIs_tup hq
  obtain ⟨oa, ha, ca, na, da⟩ := hp
  obtain ⟨ob, hb, cb, nb, db⟩ := hq
  refine wpAny_richCompare_same_room (op := .Gt) t1 t2 PySem.F.slot_tuple_gt (wpAny_call_entry PySem.F.slot_tuple_gt t1 PySem.F.entry_tuple_gt ?_ (PySem.F.args_tuple_gt_2 _ _)) hu
  exact tuple_gt_tree ha da hb cb db hx hy ⟨_, rfl, nofun, h⟩
theorem rich_ltT {p q : Addr} {xs ys : Array Value} {x y : List Int} {Q : Value → Shared → Prop} (hp : IsTup s.heap p xs) (hq : IsTup s.heap q ys) (hx : IntsAre xs.toList x) (hy : IntsAre ys.toList y) (hu : A.units < cLine) (h : Q (.bool (gtL y x)) s) : wpAny (model prog w) A (richCompare .Lt (.ref p) (.ref q)) Q E s := by
  have t1 := typeIs_tup hp
  have t2 := typeIs_tup hq
  obtain ⟨oa, ha, ca, na, da⟩ := hp
  obtain ⟨ob, hb, cb, nb, db⟩ := hq
  refine wpAny_richCompare_same_room (op := .Lt) t1 t2 PySem.F.slot_tuple_lt (wpAny_call_entry PySem.F.slot_tuple_lt t1 PySem.F.entry_tuple_lt ?_ (PySem.F.args_tuple_lt_2 _ _)) hu
  exact tuple_lt_tree ha da hb cb db hx hy ⟨_, rfl, nofun, h⟩
end
theorem ints_of : ∀ {ns : List Int} {us : List Value}, Vals (ns.map V.int) us → IntsAre us ns
  | [], _, h => by cases h; exact .nil
  | n :: ns, _, h => by
    cases h with
    | cons r t =>
      obtain ⟨k, rfl⟩ := r
      exact .cons n k (ints_of t)
section
variable {X : Cx}
def rGtT (K : PySem.W.Frag) : R2 := fun x y H Q => ∃ p q ns ms, x = .ref p ∧ y = .ref q ∧ SqT K H p (ns.map V.int) ∧ SqT K H q (ms.map V.int) ∧ Q (.bl (gtL ns ms)) H
theorem op_gtT (hu : X.A.units + 64 < cLine) : OpR X (compareOp .Gt) (rGtT X.K) := by
  intro pins s σ H x y v u Q I rx ry h
  obtain ⟨p, q, ns, ms, rfl, rfl, h1, h2, k⟩ := h
  cases rx
  cases ry
  obtain ⟨xs, r1, t1, _⟩ := I.tuple h1
  obtain ⟨ys, r2, t2, _⟩ := I.tuple h2
  exact rich_gtT t1 t2 (by simpa using ints_of r1) (by simpa using ints_of r2) (by omega) ⟨.bl _, H, I, rfl, k⟩
end
end L2
namespace L2
open PySem PySem.Spec PyProof.Rows
section
variable {prog : Program} {w : World} {A : Around}
theorem max_endT {I S : Addr} {vb : Value} {c : Nat} {fp wr : List Addr} {P : Nat → Value → Prop} {St : Nat → Heap → Prop} {R : Result → Shared → Prop} {s : Shared} (W : Walks prog w A.in1 I fp wr 2 P St) (hSw : S ∉ wr) (st : St 2 s.heap)
    (hS : s.heap.get? S = some { cls := .type "list", dict := none, data := .seq #[vb, vb] c, slots := #[] })
    (k : ∀ h' tk, (∀ b o, b ∉ wr → b ≠ S → s.heap.get? b = some o → h'.get? b = some o) → R (.ok (.ret vb)) { s with heap := h', toks := tk }) :
    codeAny (model prog w) A (.builtin "max.loop" ⟨[.ref I, .none, .ref S], []⟩) R s := by
  refine codeAny_builtin F.entry_max_loop ?_
  rw [Around.under_plainId F.plain_max_loop _]
  refine (show wpAny _ A.in1 (seqItems? (.ref S) >>= _) _ _ s from ?_)
  refine wpAny_bind (wpAny_seqItems hS rfl ?_)
  refine (show wpAny _ A.in1 (tryCatch (pyNext (.ref I)) _ >>= _) _ _ s from ?_)
  refine wpAny_bind (wpAny_tryCatch (W.done s _ _ st fun h1 tk hk => ?_))
  have hS1 := hk S _ hSw hS
  refine (show wpAny _ A.in1 (updateSeq S (fun _ => #[]) >>= _) _ _ _ from wpAny_bind ?_)
  refine wpAny_updateSeq hS1 rfl (wpAny_bind (wpAny_letGo (wpAny_pure (k _ tk ?_))))
  exact fun b o n1 n2 e => (Heap.get?_update_other _ _ (Ne.symm n2)).trans (hk b o n1 e)
theorem max_nextT {I S : Addr} {va vb : Value} {t : Bool} {c : Nat} {fp wr : List Addr} {P : Nat → Value → Prop} {St : Nat → Heap → Prop} {R : Result → Shared → Prop} {s : Shared} (W : Walks prog w A.in1 I fp wr 2 P St) (hSf : S ∉ fp) (st : St 1 s.heap) (hP : ∀ v, P 1 v → v = vb)
    (hS : s.heap.get? S = some { cls := .type "list", dict := none, data := .seq #[va, va] c, slots := #[] })
    (hc : ∀ h' tk (Q : Value → Shared → Prop) (E : Value → Shared → Prop), (∀ b o, b ∉ wr → s.heap.get? b = some o → h'.get? b = some o) → Q (.bool t) { s with heap := h', toks := tk } → wpAny (model prog w) A.in1 (richCompare .Gt vb va) Q E { s with heap := h', toks := tk })
    (k : ∀ h' tk, (∀ b o, b ∉ wr → b ≠ S → s.heap.get? b = some o → h'.get? b = some o) → R (.ok (.ret (if t then vb else va))) { s with heap := h', toks := tk }) :
    codeAny (model prog w) A (.builtin "max.loop" ⟨[.ref I, .none, .ref S], []⟩) R s := by
  have hSw : S ∉ wr := fun h => hSf (W.sub _ h)
  have nm : (toString "max" ++ toString ".loop" : String) = "max.loop" := by decide
  refine codeAny_builtin F.entry_max_loop ?_
  rw [Around.under_plainId F.plain_max_loop _]
  refine (show wpAny _ A.in1 (seqItems? (.ref S) >>= _) _ _ s from ?_)
  refine wpAny_bind (wpAny_seqItems hS rfl ?_)
  refine (show wpAny _ A.in1 (tryCatch (pyNext (.ref I)) _ >>= _) _ _ s from ?_)
  refine wpAny_bind (wpAny_tryCatch (W.item 1 s _ _ (by decide) st fun v h1 tk pv st1 hk => ?_))
  have hS1 := hk S _ hSw hS
  obtain rfl := hP v pv
  refine (show wpAny _ A.in1 (tryCatch (holding [v, v] (richCompare .Gt v va >>= _)) _ >>= _) _ _ _ from ?_)
  refine wpAny_bind (wpAny_tryCatch (wpAny_holding (wpAny_bind (hc h1 tk _ _ hk ?_))))
  refine wpAny_bind (wpAny_holding (wpAny_truthy_bool (wpAny_bind (wpAny_letGo (wpAny_pure ?_)))))
  cases t with
  | true =>
    simp only [if_true] at k ⊢
    refine wpAny_bind (wpAny_updateSeq hS1 rfl (wpAny_bind (wpAny_letGo ?_)))
    rw [nm]
    refine wpAny_pure ⟨plainId_quiet F.plain_max_loop _, max_endT W hSw (W.frame _ _ _ st1 fun b bf o e => ?_) (Heap.get?_update_self _ hS1 rfl) fun h2 tk2 k2 => k h2 tk2 fun b o n1 n2 e => k2 b o n1 n2 ((Heap.get?_update_other _ _ (Ne.symm n2)).trans (hk b o n1 e))⟩
    exact (Heap.get?_update_other _ _ (fun z : S = b => hSf (by rw [z]; exact bf))).trans e
  | false =>
    simp only [Bool.false_eq_true, if_false] at k ⊢
    refine wpAny_bind (wpAny_letGo ?_)
    rw [nm]
    exact wpAny_pure ⟨plainId_quiet F.plain_max_loop _, max_endT W hSw st1 hS1 fun h2 tk2 k2 => k h2 tk2 fun b o n1 n2 e => k2 b o n1 n2 (hk b o n1 e)⟩
theorem max_firstT {I S : Addr} {va vb : Value} {t : Bool} {c : Nat} {fp wr : List Addr} {P : Nat → Value → Prop} {St : Nat → Heap → Prop} {R : Result → Shared → Prop} {s : Shared} (W : Walks prog w A.in1 I fp wr 2 P St) (hSf : S ∉ fp) (st : St 0 s.heap) (hP0 : ∀ v, P 0 v → v = va) (hP : ∀ v, P 1 v → v = vb)
    (hS : s.heap.get? S = some { cls := .type "list", dict := none, data := .seq #[] c, slots := #[] })
    (hc : ∀ h' tk (Q : Value → Shared → Prop) (E : Value → Shared → Prop), (∀ b o, b ∉ wr → b ≠ S → s.heap.get? b = some o → h'.get? b = some o) → Q (.bool t) { s with heap := h', toks := tk } → wpAny (model prog w) A.in1 (richCompare .Gt vb va) Q E { s with heap := h', toks := tk })
    (k : ∀ h' tk, (∀ b o, b ∉ wr → b ≠ S → s.heap.get? b = some o → h'.get? b = some o) → R (.ok (.ret (if t then vb else va))) { s with heap := h', toks := tk }) :
    codeAny (model prog w) A (.builtin "max.loop" ⟨[.ref I, .none, .ref S], []⟩) R s := by
  have hSw : S ∉ wr := fun h => hSf (W.sub _ h)
  have nm : (toString "max" ++ toString ".loop" : String) = "max.loop" := by decide
  refine codeAny_builtin F.entry_max_loop ?_
  rw [Around.under_plainId F.plain_max_loop _]
  refine (show wpAny _ A.in1 (seqItems? (.ref S) >>= _) _ _ s from ?_)
  refine wpAny_bind (wpAny_seqItems hS rfl ?_)
  refine (show wpAny _ A.in1 (tryCatch (pyNext (.ref I)) _ >>= _) _ _ s from ?_)
  refine wpAny_bind (wpAny_tryCatch (W.item 0 s _ _ (by decide) st fun v h1 tk pv st1 hk => ?_))
  have hS1 := hk S _ hSw hS
  obtain rfl := hP0 v pv
  refine (show wpAny _ A.in1 (updateSeq S (fun _ => #[v, v]) >>= _) _ _ _ from wpAny_bind ?_)
  refine wpAny_updateSeq hS1 rfl ?_
  rw [nm]
  have kk : ∀ b o, b ∉ wr → b ≠ S → s.heap.get? b = some o → (h1.update S (Obj.mapSeq fun _ => #[v, v])).get? b = some o := fun b o n1 n2 e => (Heap.get?_update_other _ _ (Ne.symm n2)).trans (hk b o n1 e)
  refine wpAny_pure ⟨plainId_quiet F.plain_max_loop _, max_nextT (t := t) W hSf (W.frame _ _ _ st1 fun b bf o e => ?_) hP (Heap.get?_update_self _ hS1 rfl) (fun h2 tk2 Q E k2 q => hc h2 tk2 Q E (fun b o n1 n2 e => k2 b o n1 (kk b o n1 n2 e)) q) fun h2 tk2 k2 => k h2 tk2 fun b o n1 n2 e => k2 b o n1 n2 (kk b o n1 n2 e)⟩
  exact (Heap.get?_update_other _ _ (fun z : S = b => hSf (by rw [z]; exact bf))).trans e
theorem max_twoT {a b : Value} {t : Bool} {E : Value → Shared → Prop} {s : Shared} {Q : Value → Shared → Prop} (hh : A.handled = none)
    (hc : ∀ h' tk (Q : Value → Shared → Prop) (E : Value → Shared → Prop), (∀ c o, s.heap.get? c = some o → h'.get? c = some o) → Q (.bool t) { s with heap := h', toks := tk } → wpAny (model prog w) A.in1 (richCompare .Gt b a) Q E { s with heap := h', toks := tk })
    (k : ∀ h' tk, (∀ c o, s.heap.get? c = some o → h'.get? c = some o) → Q (if t then b else a) { s with heap := h', toks := tk }) :
    wpAny (model prog w) A (call (.builtin "max") [a, b]) Q E s := by
  have nm : (toString "max" ++ toString ".loop" : String) = "max.loop" := by decide
  have hT : (s.heap.push { cls := .type "tuple", data := .seq #[a, b] }).IsTuple s.heap.objs.size #[a, b] := ⟨_, Heap.get?_push_size _ rfl, rfl, 0, rfl⟩
  have sz : (s.heap.push { cls := .type "tuple", data := .seq #[a, b] }).objs.size = s.heap.objs.size + 1 := Heap.size_push ..
  refine call_function_tree F.kind_max F.plain_max F.entry_max (F.args_max2 _ _) ?_
  refine (show wpAny _ A.in1 (Builtin.Builtins.bindParams "max" ["key", "default"] 0 ⟨[], []⟩ >>= _) _ _ s from ?_)
  refine wpAny_bind (wpAny_of_eq (show Builtin.Builtins.bindParams "max" ["key", "default"] 0 ⟨[], []⟩ = pure [none, none] from rfl) ?_)
  refine (show wpAny _ A.in1 (newTuple [a, b] >>= _) _ _ s from wpAny_bind (wpAny_newObj_type ?_))
  refine wpAny_bind (wpAny_pyIter_tuple hT ?_)
  refine wpAny_bind (wpAny_newObj_type ?_)
  rw [nm]
  have W := Walks.tuple (prog := prog) (w := w) (A := A.in1) hh (s.heap.push { cls := .type "tuple", data := .seq #[a, b] }).objs.size s.heap.objs.size (by rw [sz]; exact Nat.ne_of_lt (Nat.lt_succ_self _)) #[a, b]
  have sz2 : ((s.heap.push { cls := .type "tuple", data := .seq #[a, b] }).push { cls := .type "tuple_iterator", data := .fields #[.ref s.heap.objs.size, .int 0 0] }).objs.size = s.heap.objs.size + 1 + 1 := by rw [Heap.size_push, sz]
  refine wpAny_pure ⟨plainId_quiet F.plain_max_loop _, max_firstT (va := a) (vb := b) (t := t) W ?_ ⟨⟨_, Heap.get?_push_of_some _ (Heap.get?_push_size _ rfl), rfl, rfl⟩, (hT.push _).push _⟩ (fun v h => by simpa using h.symm) (fun v h => by simpa using h.symm) (Heap.get?_push_size _ rfl) ?_ ?_⟩
  · intro hm
    rcases List.mem_cons.mp hm with e | hm
    · rw [sz, sz2] at e; exact absurd e (Nat.ne_of_gt (Nat.lt_succ_self _))
    · rcases List.mem_cons.mp hm with e | hm
      · rw [sz2] at e; exact absurd e (Nat.ne_of_gt (Nat.lt_succ_of_lt (Nat.lt_succ_self _)))
      · cases hm
  · intro h' tk Q' E' hk q
    refine hc h' tk Q' E' (fun c o e => hk c o ?_ ?_ (Heap.get?_push_of_some _ (Heap.get?_push_of_some _ (Heap.get?_push_of_some _ e)))) q
    · have := Heap.lt_size e
      intro hm
      rw [List.mem_singleton.mp hm, sz] at this
      exact Nat.lt_irrefl _ (Nat.lt_of_succ_lt this)
    · have := Heap.lt_size e
      intro z
      rw [z, sz2] at this
      exact Nat.lt_irrefl _ (Nat.lt_of_succ_lt (Nat.lt_of_succ_lt this))
  · intro h' tk hk
    refine k h' tk (fun c o e => hk c o ?_ ?_ (Heap.get?_push_of_some _ (Heap.get?_push_of_some _ (Heap.get?_push_of_some _ e))))
    · have := Heap.lt_size e
      intro hm
      rw [List.mem_singleton.mp hm, sz] at this
      exact Nat.lt_irrefl _ (Nat.lt_of_succ_lt this)
    · have := Heap.lt_size e
      intro z
      rw [z, sz2] at this
      exact Nat.lt_irrefl _ (Nat.lt_of_succ_lt (Nat.lt_of_succ_lt this))
theorem min_endT {I S : Addr} {vb : Value} {c : Nat} {fp wr : List Addr} {P : Nat → Value → Prop} {St : Nat → Heap → Prop} {R : Result → Shared → Prop} {s : Shared} (W : Walks prog w A.in1 I fp wr 2 P St) (hSw : S ∉ wr) (st : St 2 s.heap)
    (hS : s.heap.get? S = some { cls := .type "list", dict := none, data := .seq #[vb, vb] c, slots := #[] })
    (k : ∀ h' tk, (∀ b o, b ∉ wr → b ≠ S → s.heap.get? b = some o → h'.get? b = some o) → R (.ok (.ret vb)) { s with heap := h', toks := tk }) :
    codeAny (model prog w) A (.builtin "min.loop" ⟨[.ref I, .none, .ref S], []⟩) R s := by
  refine codeAny_builtin F.entry_min_loop ?_
  rw [Around.under_plainId F.plain_min_loop _]
  refine (show wpAny _ A.in1 (seqItems? (.ref S) >>= _) _ _ s from ?_)
  refine wpAny_bind (wpAny_seqItems hS rfl ?_)
  refine (show wpAny _ A.in1 (tryCatch (pyNext (.ref I)) _ >>= _) _ _ s from ?_)
  refine wpAny_bind (wpAny_tryCatch (W.done s _ _ st fun h1 tk hk => ?_))
  have hS1 := hk S _ hSw hS
  refine (show wpAny _ A.in1 (updateSeq S (fun _ => #[]) >>= _) _ _ _ from wpAny_bind ?_)
  refine wpAny_updateSeq hS1 rfl (wpAny_bind (wpAny_letGo (wpAny_pure (k _ tk ?_))))
  exact fun b o n1 n2 e => (Heap.get?_update_other _ _ (Ne.symm n2)).trans (hk b o n1 e)
theorem min_nextT {I S : Addr} {va vb : Value} {t : Bool} {c : Nat} {fp wr : List Addr} {P : Nat → Value → Prop} {St : Nat → Heap → Prop} {R : Result → Shared → Prop} {s : Shared} (W : Walks prog w A.in1 I fp wr 2 P St) (hSf : S ∉ fp) (st : St 1 s.heap) (hP : ∀ v, P 1 v → v = vb)
    (hS : s.heap.get? S = some { cls := .type "list", dict := none, data := .seq #[va, va] c, slots := #[] })
    (hc : ∀ h' tk (Q : Value → Shared → Prop) (E : Value → Shared → Prop), (∀ b o, b ∉ wr → s.heap.get? b = some o → h'.get? b = some o) → Q (.bool t) { s with heap := h', toks := tk } → wpAny (model prog w) A.in1 (richCompare .Lt vb va) Q E { s with heap := h', toks := tk })
    (k : ∀ h' tk, (∀ b o, b ∉ wr → b ≠ S → s.heap.get? b = some o → h'.get? b = some o) → R (.ok (.ret (if t then vb else va))) { s with heap := h', toks := tk }) :
    codeAny (model prog w) A (.builtin "min.loop" ⟨[.ref I, .none, .ref S], []⟩) R s := by
  have hSw : S ∉ wr := fun h => hSf (W.sub _ h)
  have nm : (toString "min" ++ toString ".loop" : String) = "min.loop" := by decide
  refine codeAny_builtin F.entry_min_loop ?_
  rw [Around.under_plainId F.plain_min_loop _]
  refine (show wpAny _ A.in1 (seqItems? (.ref S) >>= _) _ _ s from ?_)
  refine wpAny_bind (wpAny_seqItems hS rfl ?_)
  refine (show wpAny _ A.in1 (tryCatch (pyNext (.ref I)) _ >>= _) _ _ s from ?_)
  refine wpAny_bind (wpAny_tryCatch (W.item 1 s _ _ (by decide) st fun v h1 tk pv st1 hk => ?_))
  have hS1 := hk S _ hSw hS
  obtain rfl := hP v pv
  refine (show wpAny _ A.in1 (tryCatch (holding [v, v] (richCompare .Lt v va >>= _)) _ >>= _) _ _ _ from ?_)
  refine wpAny_bind (wpAny_tryCatch (wpAny_holding (wpAny_bind (hc h1 tk _ _ hk ?_))))
  refine wpAny_bind (wpAny_holding (wpAny_truthy_bool (wpAny_bind (wpAny_letGo (wpAny_pure ?_)))))
  cases t with
  | true =>
    simp only [if_true] at k ⊢
    refine wpAny_bind (wpAny_updateSeq hS1 rfl (wpAny_bind (wpAny_letGo ?_)))
    rw [nm]
    refine wpAny_pure ⟨plainId_quiet F.plain_min_loop _, min_endT W hSw (W.frame _ _ _ st1 fun b bf o e => ?_) (Heap.get?_update_self _ hS1 rfl) fun h2 tk2 k2 => k h2 tk2 fun b o n1 n2 e => k2 b o n1 n2 ((Heap.get?_update_other _ _ (Ne.symm n2)).trans (hk b o n1 e))⟩
    exact (Heap.get?_update_other _ _ (fun z : S = b => hSf (by rw [z]; exact bf))).trans e
  | false =>
    simp only [Bool.false_eq_true, if_false] at k ⊢
    refine wpAny_bind (wpAny_letGo ?_)
    rw [nm]
    exact wpAny_pure ⟨plainId_quiet F.plain_min_loop _, min_endT W hSw st1 hS1 fun h2 tk2 k2 => k h2 tk2 fun b o n1 n2 e => k2 b o n1 n2 (hk b o n1 e)⟩
theorem min_firstT {I S : Addr} {va vb : Value} {t : Bool} {c : Nat} {fp wr : List Addr} {P : Nat → Value → Prop} {St : Nat → Heap → Prop} {R : Result → Shared → Prop} {s : Shared} (W : Walks prog w A.in1 I fp wr 2 P St) (hSf : S ∉ fp) (st : St 0 s.heap) (hP0 : ∀ v, P 0 v → v = va) (hP : ∀ v, P 1 v → v = vb)
    (hS : s.heap.get? S = some { cls := .type "list", dict := none, data := .seq #[] c, slots := #[] })
    (hc : ∀ h' tk (Q : Value → Shared → Prop) (E : Value → Shared → Prop), (∀ b o, b ∉ wr → b ≠ S → s.heap.get? b = some o → h'.get? b = some o) → Q (.bool t) { s with heap := h', toks := tk } → wpAny (model prog w) A.in1 (richCompare .Lt vb va) Q E { s with heap := h', toks := tk })
    (k : ∀ h' tk, (∀ b o, b ∉ wr → b ≠ S → s.heap.get? b = some o → h'.get? b = some o) → R (.ok (.ret (if t then vb else va))) { s with heap := h', toks := tk }) :
    codeAny (model prog w) A (.builtin "min.loop" ⟨[.ref I, .none, .ref S], []⟩) R s := by
  have hSw : S ∉ wr := fun h => hSf (W.sub _ h)
  have nm : (toString "min" ++ toString ".loop" : String) = "min.loop" := by decide
  refine codeAny_builtin F.entry_min_loop ?_
  rw [Around.under_plainId F.plain_min_loop _]
  refine (show wpAny _ A.in1 (seqItems? (.ref S) >>= _) _ _ s from ?_)
  refine wpAny_bind (wpAny_seqItems hS rfl ?_)
  refine (show wpAny _ A.in1 (tryCatch (pyNext (.ref I)) _ >>= _) _ _ s from ?_)
  refine wpAny_bind (wpAny_tryCatch (W.item 0 s _ _ (by decide) st fun v h1 tk pv st1 hk => ?_))
  have hS1 := hk S _ hSw hS
  obtain rfl := hP0 v pv
  refine (show wpAny _ A.in1 (updateSeq S (fun _ => #[v, v]) >>= _) _ _ _ from wpAny_bind ?_)
  refine wpAny_updateSeq hS1 rfl ?_
  rw [nm]
  have kk : ∀ b o, b ∉ wr → b ≠ S → s.heap.get? b = some o → (h1.update S (Obj.mapSeq fun _ => #[v, v])).get? b = some o := fun b o n1 n2 e => (Heap.get?_update_other _ _ (Ne.symm n2)).trans (hk b o n1 e)
  refine wpAny_pure ⟨plainId_quiet F.plain_min_loop _, min_nextT (t := t) W hSf (W.frame _ _ _ st1 fun b bf o e => ?_) hP (Heap.get?_update_self _ hS1 rfl) (fun h2 tk2 Q E k2 q => hc h2 tk2 Q E (fun b o n1 n2 e => k2 b o n1 (kk b o n1 n2 e)) q) fun h2 tk2 k2 => k h2 tk2 fun b o n1 n2 e => k2 b o n1 n2 (kk b o n1 n2 e)⟩
  exact (Heap.get?_update_other _ _ (fun z : S = b => hSf (by rw [z]; exact bf))).trans e
theorem min_twoT {a b : Value} {t : Bool} {E : Value → Shared → Prop} {s : Shared} {Q : Value → Shared → Prop} (hh : A.handled = none)
    (hc : ∀ h' tk (Q : Value → Shared → Prop) (E : Value → Shared → Prop), (∀ c o, s.heap.get? c = some o → h'.get? c = some o) → Q (.bool t) { s with heap := h', toks := tk } → wpAny (model prog w) A.in1 (richCompare .Lt b a) Q E { s with heap := h', toks := tk })
    (k : ∀ h' tk, (∀ c o, s.heap.get? c = some o → h'.get? c = some o) → Q (if t then b else a) { s with heap := h', toks := tk }) :
    wpAny (model prog w) A (call (.builtin "min") [a, b]) Q E s := by
  have nm : (toString "min" ++ toString ".loop" : String) = "min.loop" := by decide
  have hT : (s.heap.push { cls := .type "tuple", data := .seq #[a, b] }).IsTuple s.heap.objs.size #[a, b] := ⟨_, Heap.get?_push_size _ rfl, rfl, 0, rfl⟩
  have sz : (s.heap.push { cls := .type "tuple", data := .seq #[a, b] }).objs.size = s.heap.objs.size + 1 := Heap.size_push ..
  refine call_function_tree F.kind_min F.plain_min F.entry_min (F.args_min2 _ _) ?_
  refine (show wpAny _ A.in1 (Builtin.Builtins.bindParams "min" ["key", "default"] 0 ⟨[], []⟩ >>= _) _ _ s from ?_)
  refine wpAny_bind (wpAny_of_eq (show Builtin.Builtins.bindParams "min" ["key", "default"] 0 ⟨[], []⟩ = pure [none, none] from rfl) ?_)
  refine (show wpAny _ A.in1 (newTuple [a, b] >>= _) _ _ s from wpAny_bind (wpAny_newObj_type ?_))
  refine wpAny_bind (wpAny_pyIter_tuple hT ?_)
  refine wpAny_bind (wpAny_newObj_type ?_)
  rw [nm]
  have W := Walks.tuple (prog := prog) (w := w) (A := A.in1) hh (s.heap.push { cls := .type "tuple", data := .seq #[a, b] }).objs.size s.heap.objs.size (by rw [sz]; exact Nat.ne_of_lt (Nat.lt_succ_self _)) #[a, b]
  have sz2 : ((s.heap.push { cls := .type "tuple", data := .seq #[a, b] }).push { cls := .type "tuple_iterator", data := .fields #[.ref s.heap.objs.size, .int 0 0] }).objs.size = s.heap.objs.size + 1 + 1 := by rw [Heap.size_push, sz]
  refine wpAny_pure ⟨plainId_quiet F.plain_min_loop _, min_firstT (va := a) (vb := b) (t := t) W ?_ ⟨⟨_, Heap.get?_push_of_some _ (Heap.get?_push_size _ rfl), rfl, rfl⟩, (hT.push _).push _⟩ (fun v h => by simpa using h.symm) (fun v h => by simpa using h.symm) (Heap.get?_push_size _ rfl) ?_ ?_⟩
  · intro hm
    rcases List.mem_cons.mp hm with e | hm
    · rw [sz, sz2] at e; exact absurd e (Nat.ne_of_gt (Nat.lt_succ_self _))
    · rcases List.mem_cons.mp hm with e | hm
      · rw [sz2] at e; exact absurd e (Nat.ne_of_gt (Nat.lt_succ_of_lt (Nat.lt_succ_self _)))
      · cases hm
  · intro h' tk Q' E' hk q
    refine hc h' tk Q' E' (fun c o e => hk c o ?_ ?_ (Heap.get?_push_of_some _ (Heap.get?_push_of_some _ (Heap.get?_push_of_some _ e)))) q
    · have := Heap.lt_size e
      intro hm
      rw [List.mem_singleton.mp hm, sz] at this
      exact Nat.lt_irrefl _ (Nat.lt_of_succ_lt this)
    · have := Heap.lt_size e
      intro z
      rw [z, sz2] at this
      exact Nat.lt_irrefl _ (Nat.lt_of_succ_lt (Nat.lt_of_succ_lt this))
  · intro h' tk hk
    refine k h' tk (fun c o e => hk c o ?_ ?_ (Heap.get?_push_of_some _ (Heap.get?_push_of_some _ (Heap.get?_push_of_some _ e))))
    · have := Heap.lt_size e
      intro hm
      rw [List.mem_singleton.mp hm, sz] at this
      exact Nat.lt_irrefl _ (Nat.lt_of_succ_lt this)
    · have := Heap.lt_size e
      intro z
      rw [z, sz2] at this
      exact Nat.lt_irrefl _ (Nat.lt_of_succ_lt (Nat.lt_of_succ_lt this))
end
section
variable {X : Cx}
theorem call_max2T (hc : X.calm = true) (hu : X.A.units + 64 < cLine) : CallR X (.builtin "max") (fun xs H Q => ∃ p q ns ms, xs = [.ref p, .ref q] ∧ SqT X.K H p (ns.map V.int) ∧ SqT X.K H q (ms.map V.int) ∧ Q (if gtL ms ns then .ref q else .ref p) H) := by
  intro pins s σ H xs us Q I r h
  obtain ⟨p, q, ns, ms, rfl, h1, h2, k⟩ := h
  obtain ⟨u, w', rfl, e1, e2⟩ := vals2 r
  cases e1
  cases e2
  refine max_twoT (t := gtL ms ns) (I.ok.hd hc) (fun h' tk Q' E' kp z => ?_) fun h' tk kp => ⟨_, H, I.kept kp, ?_, k⟩
  · have I1 := I.kept (t' := tk) kp
    obtain ⟨its1, r1, t1, _⟩ := I1.tuple h1
    obtain ⟨its2, r2, t2, _⟩ := I1.tuple h2
    exact rich_gtT t2 t1 (by simpa using ints_of r2) (by simpa using ints_of r1) (show X.A.units + 1 < cLine by omega) z
  · split <;> rfl
theorem call_min2T (hc : X.calm = true) (hu : X.A.units + 64 < cLine) : CallR X (.builtin "min") (fun xs H Q => ∃ p q ns ms, xs = [.ref p, .ref q] ∧ SqT X.K H p (ns.map V.int) ∧ SqT X.K H q (ms.map V.int) ∧ Q (if gtL ns ms then .ref q else .ref p) H) := by
  intro pins s σ H xs us Q I r h
  obtain ⟨p, q, ns, ms, rfl, h1, h2, k⟩ := h
  obtain ⟨u, w', rfl, e1, e2⟩ := vals2 r
  cases e1
  cases e2
  refine min_twoT (t := gtL ns ms) (I.ok.hd hc) (fun h' tk Q' E' kp z => ?_) fun h' tk kp => ⟨_, H, I.kept kp, ?_, k⟩
  · have I1 := I.kept (t' := tk) kp
    obtain ⟨its1, r1, t1, _⟩ := I1.tuple h1
    obtain ⟨its2, r2, t2, _⟩ := I1.tuple h2
    exact rich_ltT t2 t1 (by simpa using ints_of r2) (by simpa using ints_of r1) (show X.A.units + 1 < cLine by omega) z
  · split <;> rfl
end
end L2
namespace L2
open PySem PySem.Spec PyProof.Rows PySem.W
theorem objThere {P : Program} {w : World} {H : Hp} {h : Heap} {a : Addr} {o : HO} (x : ObjOk P w H h a o) : ∃ u, h.get? a = some u := by
  cases o with
  | lst xs => obtain ⟨_, _, _, _, e⟩ := x; exact ⟨_, e⟩
  | tup xs => obtain ⟨_, _, _, ob, e, _⟩ := x; exact ⟨_, e⟩
  | dK kvs => obtain ⟨_, _, _, _, o, _, _, e, _⟩ := x; exact ⟨_, e⟩
  | dT kvs => obtain ⟨_, _, _, _, o, _, _, e, _⟩ := x; exact ⟨_, e⟩
  | set S n => obtain ⟨o, _, _, _, e, _⟩ := x; exact ⟨_, e⟩
  | ins C dx fs => obtain ⟨_, _, _, e, _⟩ := x; exact ⟨_, e⟩
  | own y => exact x
  | xd fs => obtain ⟨_, ⟨_, _, _, e, _⟩, _⟩ := x; exact ⟨_, e⟩
  | rng lo hi => obtain ⟨_, _, _, e⟩ := x; exact ⟨_, e⟩
  | frz ob u => obtain ⟨e, _⟩ := x; exact ⟨_, e⟩
  | tbl ps => exact ⟨_, show h.get? a = some _ from x⟩
  | met f y => exact ⟨_, show h.get? a = some _ from x⟩
  | ext φ => obtain ⟨_, e, _⟩ := x; exact e
section
variable {X : Cx} {pins : List (Addr × Obj)} {σ : St} {H : Hp} {s : Shared}
theorem Inv.newsL {h' : Heap} {m : Str → Option Value} {D : Addr} {out : List Value} {xs : List V} {c : Nat} (I : Inv X pins σ H s) (hm : s.heap.Ns X.env.locals m) (F : Fr X.base X.env.locals h' m)
    (N : News X.base X.env.locals h' ((D, listOf out.toArray c) :: allNews X.base s.heap X.env.locals)) (hD : ∀ q ∈ allNews X.base s.heap X.env.locals, q.1 < D) (r : Vals xs out) (hz : xs.length ≤ sizeLine) :
    Inv X pins σ (upd H D (.lst xs)) { s with heap := h' } ∧ H D = none := by
  have d1 := N _ List.mem_cons_self
  have kp : ∀ b o, b ≠ X.env.locals → s.heap.get? b = some o → h'.get? b = some o := fun b o hb e => by
    cases q : X.base.get? b with
    | some u =>
      have := I.bk b u q
      rw [e] at this; cases this
      exact F.keep b _ q
    | none => exact (N (b, o) (List.mem_cons_of_mem _ (mem_allNews hb q e))).1
  have sD : s.heap.get? D = none := by
    cases q : s.heap.get? D with
    | none => rfl
    | some o => exact absurd (hD (D, o) (mem_allNews d1.2.1 d1.2.2 q)) (Nat.lt_irrefl _)
  have hDn : H D = none := by
    cases q : H D with
    | none => rfl
    | some u =>
      obtain ⟨o, e⟩ := objThere (I.hok D u q)
      rw [sD] at e; cases e
  refine ⟨?_, hDn⟩
  have ne : ∀ {b : Addr} {u : HO}, H b = some u → b ≠ D := fun q => ne_of_none q hDn
  refine I.step (ch := []) (fun b hb => by cases hb) (fun b o h1 _ _ e _ => kp b o h1 e) (fun b o h1 _ _ e _ => ⟨o.slots, kp b o h1 e⟩) (fun b o _ e q => ?_) (fun b o _ e => ?_) (fun b xs q => by rw [upd_ne (ne q)]; exact q) (fun b o u q => by rw [upd_ne (ne q)]; exact q) (fun b ps q => ⟨#[], by rw [upd_ne (ne q), Array.append_empty]; exact q⟩) (fun m' hn => ?_) ?_ I.bare
  · rw [upd_ne (fun z => by rw [z, sD] at e; cases e)]; exact q
  · by_cases hb : b = X.env.locals
    · obtain ⟨o', _, _, ho, _⟩ := F.ns
      exact ⟨o', by rw [hb]; exact ho⟩
    · exact ⟨o, kp b o hb e⟩
  · have : m' = m := funext fun x => hn.agree hm x
    rw [this]; exact F.ns
  · intro b u e
    by_cases hb : b = D
    · subst hb; rw [upd_same] at e; cases e
      exact ⟨hz, out, c, r, d1.1⟩
    · rw [upd_ne hb] at e
      have nL : ∀ {b : Addr} {u : HO}, H b = some u → b ≠ X.env.locals := fun q => ne_of_none q I.free
      refine (I.hok b u e).stay (fun d v hd q => kp d v ?_ q) (fun d q => by rw [upd_ne (ne q)]; exact q) fun d xs q => by rw [upd_ne (ne q)]; exact q
      rcases hd with rfl | hd
      · exact nL e
      · exact nL hd
end
section
variable {prog : Program} {w : World} {A : Around} {s : Shared} {Q : Bool → Shared → Prop}
theorem katLex_ints {fin : Bool} : ∀ {xs ys : List Value} {x y : List Int} (i : Nat), IntsAre xs x → IntsAre ys y → (xs.length ≠ ys.length ∨ xs.length = ys.length → fin = decide (xs.length < ys.length)) → Q (gtL y x) s → KatLex prog w A true fin Q (xs.zip ys) i s
  | [], ys, _, y, i, .nil, hy, hf, h => by
    refine (show Q fin s from ?_)
    rw [hf (by omega)]
    cases hy with
    | nil => simpa [gtL] using h
    | cons _ _ _ => simpa [gtL] using h
  | _, _, _, _, i, .cons n t (vs := vs) (ns := ns) hx, .nil, hf, h => by
    refine (show Q fin s from ?_)
    rw [hf (by omega)]
    simpa [gtL] using h
  | _, _, _, _, i, .cons n t (vs := vs) (ns := ns) hx, .cons k u (vs := ws) (ns := ms) hy, hf, h => by
    refine (show wpAny (model prog w) A (eqBool (.int n t) (.int k u)) _ _ s from wpAny_eqBool_int ?_)
    by_cases hk : n = k
    · subst hk
      rw [beq_self_eq_true, if_pos rfl]
      refine katLex_ints (i + 1) hx hy (fun _ => ?_) (by simpa [gtL] using h)
      have := hf (by omega)
      simpa using this
    · rw [beq_eq_false_iff_ne.mpr hk, if_neg (by decide)]
      have e : gtL (k :: ms) (n :: ns) = decide (n < k) := by simp [gtL, Ne.symm hk]
      rw [e] at h
      cases hi : (i == 0) with
      | true => exact oneLt_int h
      | false => exact kat_one _ _ (lt_int h)
theorem ks2 {cmp : Nat → Nat → (Bool → Shared → Prop) → Shared → Prop} {Q : Array Nat → Shared → Prop} : (kas_sort 2).kasWp cmp Q s = cmp 1 0 (fun b s' => Q (if b = true then #[1, 0] else #[0, 1]) s') s := by
  have e : kas_sort 2 = KasT.ask 1 0 fun b => .ret (if b = true then #[1, 0] else #[0, 1]) := by
    unfold kas_sort kas_count
    simp only [kas_asc, KasT.bind]
    refine congr (congr (congrArg KasT.ask rfl) rfl) (funext fun b => ?_)
    cases b
    · rfl
    · with_unfolding_all rfl
  rw [e]; rfl
end
section
variable {X : Cx}
theorem first_of {its : List Value} {n : Int} {ns : List Int} (h : IntsAre its (n :: ns)) : ∃ t, its.toArray[0]? = some (.int n t) := by
  cases h with
  | cons n t r => exact ⟨t, by simp⟩
theorem looks_int {M : Model} {h : Heap} {n : Int} {t : Tok} : Looks M h (typeOf (.int n t)) (.type "int") := fun _ _ _ s _ q => wpAny_pure q
theorem call_sorted2 (hu : X.A.units + 64 < cLine) : CallR X (.builtin "sorted") (fun xs H Q => ∃ l p q n ns k ms, xs = [.ref l] ∧ SqL X.K H l [.ref p, .ref q] ∧ SqT X.K H p ((n :: ns).map V.int) ∧ SqT X.K H q ((k :: ms).map V.int) ∧ ∀ D, H D = none → Q (.ref D) (upd H D (.lst (if gtL (n :: ns) (k :: ms) then [.ref q, .ref p] else [.ref p, .ref q])))) := by
  intro pins s σ H xs us Q I r h
  obtain ⟨l, p, q, n, ns, k, ms, rfl, hl, hp, hq, kk⟩ := h
  obtain ⟨u, rfl, e1⟩ := vals1 r
  cases e1
  obtain ⟨its, rv, pl, _⟩ := I.list hl
  obtain ⟨u1, u2, rfl, e1, e2⟩ := vals2 rv
  cases e1
  cases e2
  obtain ⟨m, F⟩ := I.fr
  refine kat_sorted (vs := [.ref p, .ref q]) F news_all pl.isList (Nat.le_refl 2) (Nat.le_of_ble_eq_true rfl) fun D e1 h' F' N' hD => ?_
  obtain ⟨I1, hDn⟩ := I.newsL (out := []) (c := e1) F.ns F' N' hD .nil (Nat.zero_le _)
  obtain ⟨its1, r1, t1, _⟩ := I1.tuple ((same_new hDn).seqT hp)
  obtain ⟨its2, r2, t2, _⟩ := I1.tuple ((same_new hDn).seqT hq)
  have i1 := ints_of r1
  have i2 := ints_of r2
  obtain ⟨o1, g1, c1, m1, d1⟩ := t1
  obtain ⟨o2, g2, c2, m2, d2⟩ := t2
  obtain ⟨a1, z1⟩ := first_of i1
  obtain ⟨a2, z2⟩ := first_of i2
  refine kat_kind (T := .type "int") (fs := [.int n a1, .int k a2]) (.cons g1 c1 d1 z1 (.cons g2 c2 d2 z2 .nil)) (Nat.le_of_ble_eq_true rfl) (fun v hv => ?_) (by decide) ?_
  · rcases List.mem_cons.mp hv with rfl | hv
    · exact looks_int
    · rw [List.mem_singleton.mp hv]; exact looks_int
  rw [show ([Value.ref p, Value.ref q] : List Value).length = 2 from rfl, ks2]
  unfold kas_ask
  refine kat_lt g2 d2 g1 d1 ?_
  refine katLex_ints 0 (by simpa using i2) (by simpa using i1) (fun _ => by simp) ?_
  refine KasFin.intro F' N' (.head fun z hz => Nat.ne_of_lt (hD z hz)) fun h2 c2 F2 N2 => ?_
  have rv2 : Vals (if gtL (n :: ns) (k :: ms) = true then [V.ref q, V.ref p] else [V.ref p, V.ref q]) (List.map (fun i => [Value.ref p, Value.ref q].getD i Value.none) (if gtL (n :: ns) (k :: ms) = true then #[1, 0] else #[0, 1]).toList) := by
    split
    · exact .cons rfl (.cons rfl .nil)
    · exact .cons rfl (.cons rfl .nil)
  obtain ⟨I2, _⟩ := I.newsL F.ns F2 N2 hD rv2 (by rw [sizeLine_eq]; split <;> exact Nat.le_of_ble_eq_true rfl)
  exact ⟨.ref D, _, I2, rfl, kk D hDn⟩
end
end L2
namespace L2
open PySem PySem.Spec PyProof.Rows
section
variable {prog : Program} {w : World} {A : Around} {E : Value → Shared → Prop}
theorem drawL {it l : Addr} {xs : Array Value} (ne : l ≠ it) : ∀ (k i : Nat) (s : Shared) (Q : List Value → Shared → Prop), s.heap.IsListIter it l i → s.heap.IsList l xs → i + k ≤ xs.size →
    (∀ h1, h1.IsListIter it l (i + k) → Heap.SameBut it s.heap h1 → Q ((xs.toList.drop i).take k) { s with heap := h1 }) → wpAny (model prog w) A (draw (.ref it) k) Q E s
  | 0, i, s, Q, w1, _, _, q => wpAny_pure (by simpa using q s.heap w1 (Heap.SameBut.refl ..))
  | k + 1, i, s, Q, w1, w2, le, q => by
    have lt : i < xs.size := by omega
    refine (show wpAny _ _ (pyNext (.ref it) >>= _) Q E s from wpAny_bind ?_)
    refine wpAny_pyNext_list_item w1 w2 (x := xs[i]) (by simp [lt]) fun h1 w3 sb => ?_
    refine wpAny_bind (wpAny_holding (drawL ne k (i + 1) _ _ w3 (w2.extBut sb.extBut ne) (by omega) fun h2 w4 sb2 => wpAny_pure ?_))
    have z := q h2 (by rw [show i + (k + 1) = i + 1 + k by omega]; exact w4) (sb.trans sb2)
    rw [show xs.toList.drop i = xs[i] :: xs.toList.drop (i + 1) by simp [List.drop_eq_getElem_cons, lt], List.take_succ_cons] at z
    exact z
theorem unpackL {l : Addr} {xs : Array Value} {s : Shared} {Q : List Value → Shared → Prop} (hh : A.handled = none) (w2 : s.heap.IsList l xs)
    (q : ∀ h1, Heap.ExtBut s.heap.objs.size s.heap h1 → Q xs.toList { s with heap := h1 }) : wpAny (model prog w) A (unpackItems (.ref l) xs.size none) Q E s := by
  have ne : l ≠ s.heap.objs.size := by obtain ⟨o, e, _⟩ := w2; exact Nat.ne_of_lt (Heap.lt_size e)
  unfold unpackItems
  refine wpAny_bind ?_
  unfold notIterableAtAll
  refine wpAny_bind (wpAny_specialOf w2.typeIs slot_list_iter.lookup (wpAny_pure ?_))
  simp only [Bool.false_eq_true, if_false]
  refine wpAny_bind (wpAny_holding (wpAny_pyIter_list w2 ?_))
  refine wpAny_bind (wpAny_holding (drawL ne xs.size 0 _ _ ⟨_, Heap.get?_push_size _ rfl, rfl, rfl⟩ (w2.push _) (by omega) fun h1 w3 sb => ?_))
  rw [show List.take xs.size (List.drop 0 xs.toList) = xs.toList by rw [List.drop_zero]; exact List.take_of_length_le (by simp), if_neg (by simp)]
  have w4 : h1.IsList l xs := (w2.push _).extBut sb.extBut ne
  refine wpAny_bind (wpAny_holding (wpAny_pyNext_list_end hh w3 w4 (by simp) fun h2 eb => ?_))
  simp only [Option.isSome_none, Bool.false_eq_true, if_false]
  exact wpAny_pure (q h2 fun b o hb e => eb b o hb (sb.extBut b o hb (Heap.get?_push_of_some _ e)))
end
section
variable {X : Cx} {pos : Pos}
def gLst (K : PySem.W.Frag) (n : Nat) (t : TGs) : TG := fun v σ H Q => ∃ a xs, v = .ref a ∧ SqL K H a xs ∧ xs.length = n ∧ t xs σ H Q
theorem pg_lst {es : List Expr} {k : Nat} {t : TGs} {n : Nat} (hc : X.calm = true) (h : PGs X es t)
    (hn : (assignEach es X.env).length = n := by rfl) (hst : (assignEach es X.env).findIdx? (·.1) = none := by rfl) : PG X (.Tuple es k pos) (gLst X.K n t) := by
  intro pins s σ H v u Q I r hw
  obtain ⟨a, xs, e1, hq, hl, hw⟩ := hw
  subst e1
  cases r
  obtain ⟨its, rv, pl, _⟩ := I.list hq
  have el : (assignEach es X.env).length = its.toArray.size := by simp [hn, ← hl, rv.length]
  rw [assign_Tuple]
  refine wpAny_bind (wpAny_standAt ?_)
  unfold unpack
  rw [el, hst]
  refine wpAny_bind (wpAny_holding (unpackL (I.ok.hd hc) pl.isList fun h1 hx => ?_))
  have I1 : Inv X pins σ H { s with heap := h1 } := I.kept (t' := s.toks) fun b o e => hx b o (Nat.ne_of_lt (Heap.lt_size e)) e
  exact h pins _ σ H xs _ Q I1 (by simpa using rv) hw
theorem op_isT : OpR X (compareOp .Is) (fun x y H Q => ∃ b, x = .bl b ∧ y = .bl true ∧ Q (.bl b) H) := by
  intro pins s σ H x y v u Q I rx ry h
  obtain ⟨b, rfl, rfl, q⟩ := h
  cases rx
  cases ry
  refine wpAny_is_plain (by cases b <;> rfl) ⟨.bl b, H, I, ?_, q⟩
  cases b <;> rfl
end
end L2
namespace Qm
open PySem
noncomputable section
def gtL : List Int → List Int → Bool
  | [], _ => false
  | _ :: _, [] => true
  | a :: r, b :: t => if a = b then gtL r t else decide (a > b)
def nums (xs : List D) : Option (List Int) := omap asI xs
def gGtT : G2 := fun x y c => match x, y with
  | .tup xs, .tup ys => (nums xs).bind fun ns => (nums ys).bind fun ms => some (.bl (gtL ns ms), c)
  | _, _ => none
def bMax2T : FN := fun ds c => match ds with
  | [.tup xs, .tup ys] => (nums xs).bind fun ns => (nums ys).bind fun ms => some (if gtL ms ns = true then .tup ys else .tup xs, c)
  | _ => none
def bMin2T : FN := fun ds c => match ds with
  | [.tup xs, .tup ys] => (nums xs).bind fun ns => (nums ys).bind fun ms => some (if gtL ns ms = true then .tup ys else .tup xs, c)
  | _ => none
def two2T (xs : List D) : Option (List D × List D × List Int × List Int) := match xs with
  | [.tup xs, .tup ys] => (nums xs).bind fun ns => (nums ys).bind fun ms => if ns ≠ [] ∧ ms ≠ [] then some (xs, ys, ns, ms) else none
  | _ => none
def bSorted2 : FN := fun ds c => match ds with
  | [.ref l] => (seqOf (.ref l) c).bind fun zs => (two2T zs).bind fun q => some (.ref c.length, c ++ [.lst (if gtL q.2.2.1 q.2.2.2 = true then [.tup q.2.1, .tup q.1] else [.tup q.1, .tup q.2.1])])
  | _ => none
def gIsT : G2 := fun x y c => match x, y with
  | .bl b, .bl true => some (.bl b, c)
  | _, _ => none
def gUnL (n : Nat) (gs : XGs) : XG := fun d σ c => (lstOf d c).bind fun l => if l.2.length = n then gs l.2 σ c else none
end
end Qm
namespace L2
open PySem PySem.Spec PyProof.Rows
theorem bt_sorted : bootBuiltins "sorted" = some (.builtin "sorted") := by decide +kernel
theorem gtL_eq : ∀ x y : List Int, gtL x y = Qm.gtL x y
  | [], y => by cases y <;> rfl
  | _ :: _, [] => rfl
  | a :: r, b :: t => by simp only [gtL, Qm.gtL]; rw [gtL_eq r t]
section
variable {K : PySem.W.Frag}
theorem nums_ra {ρ : Nat → Addr} {N : Nat} {H : Hp} : ∀ {xs : List Qm.D} {vs : List V} {ns : List Int}, RA K ρ N H xs vs → Qm.nums xs = some ns → vs = ns.map V.int
  | [], _, ns, a, h => by cases a; cases h; rfl
  | x :: xs, _, ns, a, h => by
    cases a with
    | cons r a =>
      obtain ⟨i, h1, h⟩ := bnd h
      obtain ⟨ms, h2, h⟩ := bnd h
      cases h
      rw [asI_of h1] at r
      cases r.int'
      rw [nums_ra a h2]
      rfl
theorem lk_gtT : Lk2 K (rGtT K) Qm.gGtT := by
  intro ρ c H x y d c' v u Q rs rx ry e k
  unfold Qm.gGtT at e
  split at e
  · obtain ⟨ns, e1, e⟩ := bnd e
    obtain ⟨ms, e2, e⟩ := bnd e
    cases e
    obtain ⟨p, vs, rfl, h1, a1⟩ := rx.tup'
    obtain ⟨q, us, rfl, h2, a2⟩ := ry.tup'
    rw [nums_ra a1 e1] at h1
    rw [nums_ra a2 e2] at h2
    exact ⟨p, q, ns, ms, rfl, rfl, SqT.of h1, SqT.of h2, by rw [gtL_eq]; exact k ρ _ H (Nx.refl rs) (.bl _)⟩
  · cases e
theorem lk_max2T : LkF K (fun xs H Q => ∃ p q ns ms, xs = [.ref p, .ref q] ∧ SqT K H p (ns.map V.int) ∧ SqT K H q (ms.map V.int) ∧ Q (if gtL ms ns then .ref q else .ref p) H) Qm.bMax2T := by
  intro ρ c H ds d c' vs Q rs ra e k
  unfold Qm.bMax2T at e
  split at e
  · rename_i xs ys
    obtain ⟨ns, e1, e⟩ := bnd e
    obtain ⟨ms, e2, e⟩ := bnd e
    cases e
    obtain ⟨v, u, rfl, rx, ry⟩ := ra.two'
    obtain ⟨p, vs, rfl, h1, a1⟩ := rx.tup'
    obtain ⟨q, us, rfl, h2, a2⟩ := ry.tup'
    have z1 := nums_ra a1 e1
    have z2 := nums_ra a2 e2
    refine ⟨p, q, ns, ms, rfl, SqT.of (z1 ▸ h1), SqT.of (z2 ▸ h2), ?_⟩
    rw [gtL_eq]
    by_cases g : Qm.gtL ms ns = true
    · rw [if_pos g] at k ⊢; exact k ρ _ H (Nx.refl rs) (.tup h2 a2)
    · rw [if_neg g] at k ⊢; exact k ρ _ H (Nx.refl rs) (.tup h1 a1)
  · cases e
theorem lk_min2T : LkF K (fun xs H Q => ∃ p q ns ms, xs = [.ref p, .ref q] ∧ SqT K H p (ns.map V.int) ∧ SqT K H q (ms.map V.int) ∧ Q (if gtL ns ms then .ref q else .ref p) H) Qm.bMin2T := by
  intro ρ c H ds d c' vs Q rs ra e k
  unfold Qm.bMin2T at e
  split at e
  · rename_i xs ys
    obtain ⟨ns, e1, e⟩ := bnd e
    obtain ⟨ms, e2, e⟩ := bnd e
    cases e
    obtain ⟨v, u, rfl, rx, ry⟩ := ra.two'
    obtain ⟨p, vs, rfl, h1, a1⟩ := rx.tup'
    obtain ⟨q, us, rfl, h2, a2⟩ := ry.tup'
    have z1 := nums_ra a1 e1
    have z2 := nums_ra a2 e2
    refine ⟨p, q, ns, ms, rfl, SqT.of (z1 ▸ h1), SqT.of (z2 ▸ h2), ?_⟩
    rw [gtL_eq]
    by_cases g : Qm.gtL ns ms = true
    · rw [if_pos g] at k ⊢; exact k ρ _ H (Nx.refl rs) (.tup h2 a2)
    · rw [if_neg g] at k ⊢; exact k ρ _ H (Nx.refl rs) (.tup h1 a1)
  · cases e
theorem lk_sorted2 : LkF K (fun xs H Q => ∃ l p q n ns k ms, xs = [.ref l] ∧ SqL K H l [.ref p, .ref q] ∧ SqT K H p ((n :: ns).map V.int) ∧ SqT K H q ((k :: ms).map V.int) ∧ ∀ D, H D = none → Q (.ref D) (upd H D (.lst (if gtL (n :: ns) (k :: ms) then [.ref q, .ref p] else [.ref p, .ref q])))) Qm.bSorted2 := by
  intro ρ c H ds d c' vs Q rs ra e k
  unfold Qm.bSorted2 at e
  split at e
  · rename_i l
    obtain ⟨zs, e1, e⟩ := bnd e
    obtain ⟨⟨xs, ys, ns, ms⟩, e2, e⟩ := bnd e
    cases e
    obtain ⟨v, rfl, rx⟩ := ra.one'
    obtain ⟨ws, rfl, hl, a⟩ := rs.seqR rx e1
    unfold Qm.two2T at e2
    split at e2
    · obtain ⟨ns', f1, e2⟩ := bnd e2
      obtain ⟨ms', f2, e2⟩ := bnd e2
      split at e2
      · rename_i hne
        cases e2
        obtain ⟨v1, v2, rfl, r1, r2⟩ := a.two'
        obtain ⟨p, ps, rfl, h1, a1⟩ := r1.tup'
        obtain ⟨q, qs, rfl, h2, a2⟩ := r2.tup'
        have z1 := nums_ra a1 f1
        have z2 := nums_ra a2 f2
        obtain ⟨n, ns, rfl⟩ := List.exists_cons_of_ne_nil hne.1
        obtain ⟨m, ms, rfl⟩ := List.exists_cons_of_ne_nil hne.2
        refine ⟨_, p, q, n, ns, m, ms, rfl, hl, SqT.of (z1 ▸ h1), SqT.of (z2 ▸ h2), fun D hD => ?_⟩
        dsimp only at k ⊢
        rw [gtL_eq]
        by_cases g : Qm.gtL (n :: ns) (m :: ms) = true
        · rw [if_pos g] at k ⊢
          obtain ⟨nn, r⟩ := Nx.alloc rs hD (show RA K ρ c.length H [.tup ys, .tup xs] [.ref q, .ref p] from .cons (.tup h2 a2) (.cons (.tup h1 a1) .nil))
          exact k _ _ _ nn r
        · rw [if_neg g] at k ⊢
          obtain ⟨nn, r⟩ := Nx.alloc rs hD (show RA K ρ c.length H [.tup xs, .tup ys] [.ref p, .ref q] from .cons (.tup h1 a1) (.cons (.tup h2 a2) .nil))
          exact k _ _ _ nn r
      · cases e2
    · cases e2
  · cases e
theorem lk_isT : Lk2 K (fun x y H Q => ∃ b, x = .bl b ∧ y = .bl true ∧ Q (.bl b) H) Qm.gIsT := by
  intro ρ c H x y d c' v u Q rs rx ry e k
  unfold Qm.gIsT at e
  split at e
  · cases e
    cases rx.bl'; cases ry.bl'
    exact ⟨_, rfl, rfl, k ρ _ H (Nx.refl rs) (.bl _)⟩
  · cases e
end
section
variable {X : Cx} {pos : Pos} {es : List Expr}
theorem qg_unl {k0 : Nat} {fgs : Qm.XGs} {n : Nat} (hc : X.calm = true) (h : QGs X es fgs) (hn : (assignEach es X.env).length = n := by rfl) (hst : (assignEach es X.env).findIdx? (·.1) = none := by rfl) : QG X (.Tuple es k0 pos) (Qm.gUnL n fgs) := (pg_lst hc h hn hst).imp fun v σ H Q ⟨ρ, env, c, d, env', c', rs, re, rd, e, k⟩ => by
  obtain ⟨l, e1, e⟩ := bnd e
  split at e
  · rename_i hl
    obtain ⟨_, hp, vs, rfl, h1, a1⟩ := rs.lstOf rd e1
    exact ⟨_, vs, rfl, .inl (.inl h1), by rw [← a1.length]; exact hl, ρ, env, c, l.2, env', c', rs, re, a1, e, k⟩
  · cases e
end
end L2
namespace My
abbrev T3 := Int × Int × Int
def LowT (p : T3) : Prop := Low p.1 p.2.1 p.2.2
def ahT (p q : T3) : Bool := ahd p.1 p.2.1 p.2.2 q.1 q.2.1 q.2.2
theorem fr_lt {a b c d e f : Int} (hb : 0 < b) (hd : 0 < d) (hf : 0 < f) (h1 : a * d < c * b) (h2 : c * f < e * d) : a * f < e * b := by
  have a1 : a * d * f < c * b * f := Int.mul_lt_mul_of_pos_right h1 hf
  have a2 : c * f * b < e * d * b := Int.mul_lt_mul_of_pos_right h2 hb
  have e1 : a * d * f = (a * f) * d := by grind
  have e2 : c * b * f = c * f * b := by grind
  have e3 : e * d * b = (e * b) * d := by grind
  have : (a * f) * d < (e * b) * d := by omega
  exact Int.lt_of_mul_lt_mul_right this (Int.le_of_lt hd)
theorem fr_eq {a b c d e f : Int} (hd : 0 < d) (h1 : a * d = c * b) (h2 : c * f = e * d) : a * f = e * b := by
  have : (a * f) * d = (e * b) * d := by grind
  exact Int.eq_of_mul_eq_mul_right (by omega) this
theorem fr_lte {a b c d e f : Int} (hb : 0 < b) (hd : 0 < d) (hf : 0 < f) (h1 : a * d < c * b) (h2 : c * f = e * d) : a * f < e * b := by
  have a1 : a * d * f < c * b * f := Int.mul_lt_mul_of_pos_right h1 hf
  have e1 : a * d * f = (a * f) * d := by grind
  have e2 : c * b * f = (e * b) * d := by
    rw [show c * b * f = (c * f) * b by grind, h2]; grind
  have : (a * f) * d < (e * b) * d := by omega
  exact Int.lt_of_mul_lt_mul_right this (Int.le_of_lt hd)
theorem fr_elt {a b c d e f : Int} (hb : 0 < b) (hd : 0 < d) (h1 : a * d = c * b) (h2 : c * f < e * d) : a * f < e * b := by
  have a1 : c * f * b < e * d * b := Int.mul_lt_mul_of_pos_right h2 hb
  have e1 : c * f * b = (a * f) * d := by
    rw [show c * f * b = (c * b) * f by grind, ← h1]; grind
  have e2 : e * d * b = (e * b) * d := by grind
  have : (a * f) * d < (e * b) * d := by omega
  exact Int.lt_of_mul_lt_mul_right this (Int.le_of_lt hd)
theorem ahT_iff {p q : T3} : ahT p q = true ↔ p.1 * q.2.2 < q.1 * p.2.2 ∨ (p.1 * q.2.2 = q.1 * p.2.2 ∧ p.2.1 * q.2.2 < q.2.1 * p.2.2) := by
  unfold ahT ahd
  split
  · rename_i h
    simp only [decide_eq_true_eq]
    constructor
    · exact fun z => .inr ⟨h, z⟩
    · rintro (z | z)
      · omega
      · exact z.2
  · rename_i h
    simp only [decide_eq_true_eq]
    constructor
    · exact fun z => .inl z
    · rintro (z | z)
      · exact z
      · exact absurd z.1 h
theorem ahT_irr (p : T3) : ahT p p = false := by
  cases h : ahT p p with
  | false => rfl
  | true =>
    rcases ahT_iff.mp h with z | z
    · omega
    · omega
theorem ahT_trans {p q r : T3} (hp : LowT p) (hq : LowT q) (hr : LowT r) (h1 : ahT p q = true) (h2 : ahT q r = true) : ahT p r = true := by
  have p0 := hp.pos; have q0 := hq.pos; have r0 := hr.pos
  rw [ahT_iff] at h1 h2 ⊢
  rcases h1 with h1 | ⟨e1, h1⟩ <;> rcases h2 with h2 | ⟨e2, h2⟩
  · exact .inl (fr_lt p0 q0 r0 h1 h2)
  · exact .inl (fr_lte p0 q0 r0 h1 e2)
  · exact .inl (fr_elt p0 q0 e1 h2)
  · exact .inr ⟨fr_eq q0 e1 e2, fr_lt p0 q0 r0 h1 h2⟩
theorem ahT_asym {p q : T3} (h : ahT p q = true) : ahT q p = false := by
  cases h2 : ahT q p with
  | false => rfl
  | true =>
    rw [ahT_iff] at h h2
    rcases h with h | h <;> rcases h2 with h2 | h2 <;> omega
theorem ahT_tri {p q : T3} (hp : LowT p) (hq : LowT q) (h1 : ahT p q = false) (h2 : ahT q p = false) : p = q := by
  have n1 : ¬ (ahT p q = true) := by rw [h1]; decide
  have n2 : ¬ (ahT q p = true) := by rw [h2]; decide
  rw [ahT_iff] at n1 n2
  have e1 : p.1 * q.2.2 = q.1 * p.2.2 := by omega
  have e2 : p.2.1 * q.2.2 = q.2.1 * p.2.2 := by omega
  obtain ⟨a, b, c⟩ := low_unique hp hq e1 e2
  obtain ⟨x, y, w⟩ := p
  obtain ⟨x', y', w'⟩ := q
  dsimp only at a b c
  subst a b c
  rfl
def lhT : List T3 → List T3 → Bool
  | p :: l, q :: m => if p = q then lhT l m else ahT p q
  | _, _ => false
def mn : List T3 → List (List T3) → List T3
  | b, [] => b
  | b, r :: rs => mn (if lhT r b = true then r else b) rs
def rot (l : List T3) (k : Nat) : List T3 := l.drop k ++ l.take k
def rots (l : List T3) : List (List T3) := (List.range l.length).map (rot l)
def trn (l : List T3) : List T3 := mn l ((List.range (l.length - 1)).map fun i => rot l (1 + i))
theorem away {α : Type} [DecidableEq α] : ∀ (l : List α) (f : Nat → α), (∀ i j, f i = f j → i = j) → ∃ i, i ≤ l.length ∧ f i ∉ l
  | [], f, _ => ⟨0, Nat.le_refl _, by simp⟩
  | a :: l, f, hf => by
    by_cases h : ∃ j, j ≤ l.length + 1 ∧ f j = a
    · obtain ⟨j, hj, e⟩ := h
      obtain ⟨i, hi, hn⟩ := away l (fun i => if i < j then f i else f (i + 1)) (fun i k e => by
        split at e <;> split at e
        · exact hf _ _ e
        · have := hf _ _ e; omega
        · have := hf _ _ e; omega
        · have := hf _ _ e; omega)
      split at hn
      · rename_i hij
        refine ⟨i, by simp; omega, fun z => ?_⟩
        rcases List.mem_cons.mp z with z | z
        · have := hf _ _ (z.trans e.symm); omega
        · exact hn z
      · rename_i hij
        refine ⟨i + 1, by simp; omega, fun z => ?_⟩
        rcases List.mem_cons.mp z with z | z
        · have := hf _ _ (z.trans e.symm); omega
        · exact hn z
    · obtain ⟨i, hi, hn⟩ := away l f hf
      refine ⟨i, by simp; omega, fun z => ?_⟩
      rcases List.mem_cons.mp z with z | z
      · exact h ⟨i, by omega, z⟩
      · exact hn z
end My
namespace My
abbrev P2 := Int × Int
def cr (a b : P2) : Int := a.1 * b.2 - b.1 * a.2
def ch : List P2 → Int
  | a :: b :: l => cr a b + ch (b :: l)
  | _ => 0
def cy : List P2 → Int
  | [] => 0
  | a :: l => ch (a :: (l ++ [a]))
def mvP (u v : Int) (p : P2) : P2 := (p.1 + u, p.2 + v)
def cz : List (P2 × P2) → Int
  | [] => 0
  | z :: l => cr z.1 z.2 + cz l
end My
set_option maxHeartbeats 2000000
namespace My
def abt (p q : T3) : P2 := (q.1 * p.2.2 - p.1 * q.2.2, q.2.1 * p.2.2 - p.2.1 * q.2.2)
def crs (a b : P2) : Int := a.1 * b.2 - a.2 * b.1
def tch (a b : P2) : Bool := decide (crs a b = 0) && (decide (a.1 * b.1 ≤ 0) && decide (a.2 * b.2 ≤ 0))
def qI (x y : Int) : Int := if 0 ≤ y ∧ 0 < x then 0 else if x ≤ 0 ∧ 0 < y then 1 else if x < 0 then 2 else 3
def rI (y v k : Int) : Int := if decide (y < 0) = decide (v < 0) then 0 else if 0 < k then (if y < 0 then 1 else 0) else (if y < 0 then 0 else -1)
def s1I (d : Int) : Int := if d % 4 = 3 then -1 else d % 4
def sI (d k : Int) : Int := if s1I d = 2 ∧ k < 0 then -2 else s1I d
def qua (a : P2) : Int := qI a.1 a.2
def rby (a b : P2) : Int := rI a.2 b.2 (crs a b)
def stp (a b : P2) : Int := sI (qua b - qua a) (crs a b)
structure Sg (x y z : Int) : Prop where
  pp : 0 < x → 0 < y → 0 < z
  nn : x < 0 → y < 0 → 0 < z
  pn : 0 < x → y < 0 → z < 0
  np : x < 0 → 0 < y → z < 0
  z1 : x = 0 → z = 0
  z2 : y = 0 → z = 0
theorem sg_ (x y : Int) : Sg x y (x * y) := ⟨Int.mul_pos, Int.mul_pos_of_neg_of_neg, Int.mul_neg_of_pos_of_neg, Int.mul_neg_of_neg_of_pos, fun h => by rw [h, Int.zero_mul], fun h => by rw [h, Int.mul_zero]⟩
theorem tch_iff {a b : P2} : tch a b = true ↔ crs a b = 0 ∧ a.1 * b.1 ≤ 0 ∧ a.2 * b.2 ≤ 0 := by
  unfold tch
  simp only [Bool.and_eq_true, decide_eq_true_eq]
theorem tri3 (z : Int) : 0 < z ∨ z = 0 ∨ z < 0 := by omega
theorem crs_det (p a b : T3) : crs (abt p a) (abt p b) = p.2.2 * det a.1 a.2.1 a.2.2 b.1 b.2.1 b.2.2 p.1 p.2.1 p.2.2 := by
  obtain ⟨p0, p1, p2⟩ := p
  obtain ⟨a0, a1, a2⟩ := a
  obtain ⟨b0, b1, b2⟩ := b
  simp only [crs, abt, det]; grind
theorem ahd_iff {p0 p1 p2 q0 q1 q2 : Int} : ahd p0 p1 p2 q0 q1 q2 = true ↔ p0 * q2 < q0 * p2 ∨ (p0 * q2 = q0 * p2 ∧ p1 * q2 < q1 * p2) := ahT_iff (p := (p0, p1, p2)) (q := (q0, q1, q2))
theorem sg_pos {p s e : Int} (hp : 0 < p) (h : p * s = e) : (0 < s → 0 < e) ∧ (s = 0 → e = 0) ∧ (s < 0 → e < 0) := by
  subst h
  exact ⟨Int.mul_pos hp, fun h => by rw [h, Int.mul_zero], Int.mul_neg_of_pos_of_neg hp⟩
theorem onI {x y u v k1 k2 k3 k4 m1 m2 n1 n2 s t : Int} (s1 : Sg x u k1) (s2 : Sg y v k2) (s3 : Sg x v k3) (s4 : Sg y u k4) (c : k3 - k4 = 0) (e1 : (0 < x → 0 < m1) ∧ (x = 0 → m1 = 0) ∧ (x < 0 → m1 < 0)) (e2 : (0 < u → 0 < m2) ∧ (u = 0 → m2 = 0) ∧ (u < 0 → m2 < 0)) (e3 : (0 < y → 0 < n1) ∧ (y = 0 → n1 = 0) ∧ (y < 0 → n1 < 0)) (e4 : (0 < v → 0 < n2) ∧ (v = 0 → n2 = 0) ∧ (v < 0 → n2 < 0))
    (f1 : (0 < s → 0 < m1 - m2) ∧ (s = 0 → m1 - m2 = 0) ∧ (s < 0 → m1 - m2 < 0)) (f2 : (0 < t → 0 < n1 - n2) ∧ (t = 0 → n1 - n2 = 0) ∧ (t < 0 → n1 - n2 < 0)) :
    (if s < 0 ∨ (s = 0 ∧ t < 0) then ¬ (0 < x ∨ (x = 0 ∧ 0 < y)) ∧ ¬ (u < 0 ∨ (u = 0 ∧ v < 0)) else ¬ (0 < u ∨ (u = 0 ∧ 0 < v)) ∧ ¬ (x < 0 ∨ (x = 0 ∧ y < 0))) ↔ k1 ≤ 0 ∧ k2 ≤ 0 := by
  obtain ⟨e1, e1', e1''⟩ := e1
  obtain ⟨e2, e2', e2''⟩ := e2
  obtain ⟨e3, e3', e3''⟩ := e3
  obtain ⟨e4, e4', e4''⟩ := e4
  rcases tri3 x with hx | hx | hx <;> rcases tri3 y with hy | hy | hy <;> rcases tri3 u with hu | hu | hu <;> rcases tri3 v with hv | hv | hv <;> (first | replace s1 := Sg.pp s1 hx hu | replace s1 := Sg.nn s1 hx hu | replace s1 := Sg.pn s1 hx hu | replace s1 := Sg.np s1 hx hu | replace s1 := Sg.z1 s1 hx | replace s1 := Sg.z2 s1 hu) <;> (first | replace s2 := Sg.pp s2 hy hv | replace s2 := Sg.nn s2 hy hv | replace s2 := Sg.pn s2 hy hv | replace s2 := Sg.np s2 hy hv | replace s2 := Sg.z1 s2 hy | replace s2 := Sg.z2 s2 hv) <;> (first | replace s3 := Sg.pp s3 hx hv | replace s3 := Sg.nn s3 hx hv | replace s3 := Sg.pn s3 hx hv | replace s3 := Sg.np s3 hx hv | replace s3 := Sg.z1 s3 hx | replace s3 := Sg.z2 s3 hv) <;> (first | replace s4 := Sg.pp s4 hy hu | replace s4 := Sg.nn s4 hy hu | replace s4 := Sg.pn s4 hy hu | replace s4 := Sg.np s4 hy hu | replace s4 := Sg.z1 s4 hy | replace s4 := Sg.z2 s4 hu) <;> (first | (exfalso; clear e1 e1' e1'' e2 e2' e2'' e3 e3' e3'' e4 e4' e4'' f1 f2; omega) | ((first | replace e1 := e1 hx | replace e1 := e1' hx | replace e1 := e1'' hx) <;> (first | replace e2 := e2 hu | replace e2 := e2' hu | replace e2 := e2'' hu) <;> (first | replace e3 := e3 hy | replace e3 := e3' hy | replace e3 := e3'' hy) <;> (first | replace e4 := e4 hv | replace e4 := e4' hv | replace e4 := e4'' hv) <;> clear e1' e1'' e2' e2'' e3' e3'' e4' e4'' <;> split <;> omega))
theorem onS_tch {p a b : T3} (hp : 0 < p.2.2) (ha : 0 < a.2.2) (hb : 0 < b.2.2) : onS p.1 p.2.1 p.2.2 a.1 a.2.1 a.2.2 b.1 b.2.1 b.2.2 = tch (abt p a) (abt p b) := by
  have cd := crs_det p a b
  obtain ⟨p0, p1, p2⟩ := p
  obtain ⟨a0, a1, a2⟩ := a
  obtain ⟨b0, b1, b2⟩ := b
  dsimp only at *
  have hd : det a0 a1 a2 b0 b1 b2 p0 p1 p2 = 0 ↔ crs (abt (p0, p1, p2) (a0, a1, a2)) (abt (p0, p1, p2) (b0, b1, b2)) = 0 := by
    rw [cd]
    exact ⟨fun h => by rw [h, Int.mul_zero], fun h => (Int.mul_eq_zero.mp h).resolve_left (by omega)⟩
  have key : onS p0 p1 p2 a0 a1 a2 b0 b1 b2 = true ↔ tch (abt (p0, p1, p2) (a0, a1, a2)) (abt (p0, p1, p2) (b0, b1, b2)) = true := by
    rw [tch_iff]
    unfold onS
    by_cases h : det a0 a1 a2 b0 b1 b2 p0 p1 p2 = 0
    · rw [if_pos h, ← hd]
      simp only [h, true_and]
      have h' := hd.mp h
      have e : ∀ x y : Bool, (!x && !y) = true ↔ ¬ x = true ∧ ¬ y = true := by decide
      have k := onI (x := a0 * p2 - p0 * a2) (y := a1 * p2 - p1 * a2) (u := b0 * p2 - p0 * b2) (v := b1 * p2 - p1 * b2) (s := a0 * b2 - b0 * a2) (t := a1 * b2 - b1 * a2) (m1 := b2 * (a0 * p2 - p0 * a2)) (m2 := a2 * (b0 * p2 - p0 * b2)) (n1 := b2 * (a1 * p2 - p1 * a2)) (n2 := a2 * (b1 * p2 - p1 * b2)) (sg_ _ _) (sg_ _ _) (sg_ _ _) (sg_ _ _) h' (sg_pos hb rfl) (sg_pos ha rfl) (sg_pos hb rfl) (sg_pos ha rfl) (sg_pos hp (by grind)) (sg_pos hp (by grind))
      simp only [abt]
      rw [← k]
      have w1 : ahd a0 a1 a2 b0 b1 b2 = true ↔ a0 * b2 - b0 * a2 < 0 ∨ (a0 * b2 - b0 * a2 = 0 ∧ a1 * b2 - b1 * a2 < 0) := by rw [ahd_iff]; omega
      have w2 : ahd p0 p1 p2 a0 a1 a2 = true ↔ 0 < a0 * p2 - p0 * a2 ∨ (a0 * p2 - p0 * a2 = 0 ∧ 0 < a1 * p2 - p1 * a2) := by rw [ahd_iff]; omega
      have w3 : ahd b0 b1 b2 p0 p1 p2 = true ↔ b0 * p2 - p0 * b2 < 0 ∨ (b0 * p2 - p0 * b2 = 0 ∧ b1 * p2 - p1 * b2 < 0) := by rw [ahd_iff]; omega
      have w4 : ahd p0 p1 p2 b0 b1 b2 = true ↔ 0 < b0 * p2 - p0 * b2 ∨ (b0 * p2 - p0 * b2 = 0 ∧ 0 < b1 * p2 - p1 * b2) := by rw [ahd_iff]; omega
      have w5 : ahd a0 a1 a2 p0 p1 p2 = true ↔ a0 * p2 - p0 * a2 < 0 ∨ (a0 * p2 - p0 * a2 = 0 ∧ a1 * p2 - p1 * a2 < 0) := by rw [ahd_iff]; omega
      by_cases hw : ahd a0 a1 a2 b0 b1 b2 = true
      · rw [if_pos hw, if_pos (w1.mp hw), ← w2, ← w3]; exact e _ _
      · rw [if_neg hw, if_neg (fun g => hw (w1.mpr g)), ← w4, ← w5]; exact e _ _
    · rw [if_neg h]
      simp only [Bool.false_eq_true, false_iff, not_and]
      exact fun h2 => absurd (hd.mpr h2) h
  cases h1 : onS p0 p1 p2 a0 a1 a2 b0 b1 b2 <;> cases h2 : tch (abt (p0, p1, p2) (a0, a1, a2)) (abt (p0, p1, p2) (b0, b1, b2)) <;> simp_all
def sm (f : T3 → T3 → Int) : List (T3 × T3) → Int
  | [] => 0
  | z :: zs => f z.1 z.2 + sm f zs
def an (f : T3 → T3 → Bool) (zs : List (T3 × T3)) : Bool := zs.any fun z => f z.1 z.2
def tq (q : T3 → Int) : List T3 → Int
  | [] => 0
  | x :: xs => q x + tq q xs
def tchA (p a b : T3) : Bool := tch (abt p a) (abt p b)
def rbyA (p a b : T3) : Int := rby (abt p a) (abt p b)
def stpA (p a b : T3) : Int := stp (abt p a) (abt p b)
def wh (l : List T3) (p : T3) : Int := if an (tchA p) (l.zip (rot l 1)) = true then 0 else if sm (rbyA p) (l.zip (rot l 1)) = 0 then -1 else 1
def due (l : List T3) (p : T3) : Int := if an (tchA p) ((rot l (l.length - 1)).zip l) = true then 0 else if sm (stpA p) ((rot l (l.length - 1)).zip l) = 0 then -1 else 1
end My
set_option maxHeartbeats 2000000
namespace My
inductive Cmn where
  | none | spot (p : T3) | stretch (p q : T3)
  deriving DecidableEq
def dtT (a b c : T3) : Int := det a.1 a.2.1 a.2.2 b.1 b.2.1 b.2.2 c.1 c.2.1 c.2.2
def onA (p a b : T3) : Bool := onS p.1 p.2.1 p.2.2 a.1 a.2.1 a.2.2 b.1 b.2.1 b.2.2
def fw (a b : T3) : T3 × T3 := if ahT a b = true then (a, b) else (b, a)
def rowC (l r : T3 × T3) : Cmn :=
  let p := if ahT l.1 r.1 = true then r.1 else l.1
  let q := if ahT l.2 r.2 = true then l.2 else r.2
  if p = q then .spot p else if ahT p q = true then .stretch p q else .none
def mX (a b c d : T3) : Int := m0 a.1 a.2.1 a.2.2 b.1 b.2.1 b.2.2 c.1 c.2.1 c.2.2 d.1 d.2.1 d.2.2
def mY (a b c d : T3) : Int := m1 a.1 a.2.1 a.2.2 b.1 b.2.1 b.2.2 c.1 c.2.1 c.2.2 d.1 d.2.1 d.2.2
def mW (a b c d : T3) : Int := m2 a.1 a.2.1 a.2.2 b.1 b.2.1 b.2.2 c.1 c.2.1 c.2.2 d.1 d.2.1 d.2.2
def spT (x y w : Int) : T3 := (sx x y w, sy x y w, sw x y w)
def cm (a b c d : T3) : Cmn :=
  if sgn (dtT a b c) = 0 ∧ sgn (dtT a b d) = 0 then rowC (fw a b) (fw c d)
  else if 0 < sgn (dtT a b c) * sgn (dtT a b d) ∨ 0 < sgn (dtT c d a) * sgn (dtT c d b) then .none
  else .spot (spT (mX a b c d) (mY a b c d) (mW a b c d))
theorem ah_or {p q : T3} (hp : LowT p) (hq : LowT q) : ahT p q = true ∨ p = q ∨ ahT q p = true := by
  cases h1 : ahT p q
  · cases h2 : ahT q p
    · exact .inr (.inl (ahT_tri hp hq h1 h2))
    · exact .inr (.inr rfl)
  · exact .inl rfl
theorem fw_back {a b : T3} (ha : LowT a) (hb : LowT b) (h : a ≠ b) : fw b a = fw a b := by
  unfold fw
  rcases ah_or ha hb with h1 | h1 | h1
  · rw [if_pos h1, if_neg (by rw [ahT_asym h1]; decide)]
  · exact absurd h1 h
  · rw [if_pos h1, if_neg (by rw [ahT_asym h1]; decide)]
theorem fw_low {a b : T3} (ha : LowT a) (hb : LowT b) : LowT (fw a b).1 ∧ LowT (fw a b).2 := by
  unfold fw; split
  · exact ⟨ha, hb⟩
  · exact ⟨hb, ha⟩
theorem rowC_swap {l r : T3 × T3} (l1 : LowT l.1) (l2 : LowT l.2) (r1 : LowT r.1) (r2 : LowT r.2) : rowC r l = rowC l r := by
  have e1 : (if ahT r.1 l.1 = true then l.1 else r.1) = (if ahT l.1 r.1 = true then r.1 else l.1) := by
    rcases ah_or l1 r1 with h | h | h
    · rw [if_pos h, if_neg (by rw [ahT_asym h]; decide)]
    · rw [h]
    · rw [if_pos h, if_neg (by rw [ahT_asym h]; decide)]
  have e2 : (if ahT r.2 l.2 = true then r.2 else l.2) = (if ahT l.2 r.2 = true then l.2 else r.2) := by
    rcases ah_or l2 r2 with h | h | h
    · rw [if_pos h, if_neg (by rw [ahT_asym h]; decide)]
    · rw [h]
    · rw [if_pos h, if_neg (by rw [ahT_asym h]; decide)]
  unfold rowC
  dsimp only
  rw [e1, e2]
theorem sgn_eq0 {n : Int} : sgn n = 0 ↔ n = 0 := ⟨sgn_zero, fun h => by rw [h]; rfl⟩
theorem sgn3 (n : Int) : (0 < n ∧ sgn n = 1) ∨ (n = 0 ∧ sgn n = 0) ∨ (n < 0 ∧ sgn n = -1) := by
  unfold sgn
  split
  · omega
  · split <;> omega
theorem sgn_mul_pos (x y : Int) : 0 < sgn x * sgn y ↔ (0 < x ∧ 0 < y) ∨ (x < 0 ∧ y < 0) := by
  rcases sgn3 x with ⟨h1, e1⟩ | ⟨h1, e1⟩ | ⟨h1, e1⟩ <;> rcases sgn3 y with ⟨h2, e2⟩ | ⟨h2, e2⟩ | ⟨h2, e2⟩ <;> rw [e1, e2] <;> omega
theorem tQ (a b c d : T3) : c.2.2 * dtT a b d - d.2.2 * dtT a b c = mW a b c d := t2_eq ..
theorem bQ (a b c d : T3) : b.2.2 * dtT c d a - a.2.2 * dtT c d b = mW a b c d := b2_eq ..
theorem dt_back (a b c : T3) : dtT b a c = - dtT a b c := det_swap ..
theorem mW_swap (a b c d : T3) : mX c d a b = - mX a b c d ∧ mY c d a b = - mY a b c d ∧ mW c d a b = - mW a b c d := m_swap ..
theorem mW_back (a b c d : T3) : mX b a c d = - mX a b c d ∧ mY b a c d = - mY a b c d ∧ mW b a c d = - mW a b c d := m_back ..
theorem row_swap {a b c d : T3} (ha : 0 < a.2.2) (hb : 0 < b.2.2) (hne : (abt a b).1 ≠ 0 ∨ (abt a b).2 ≠ 0) (h1 : dtT a b c = 0) (h2 : dtT a b d = 0) : dtT c d a = 0 ∧ dtT c d b = 0 := by
  have e : mW a b c d = 0 := by rw [← tQ, h1, h2]; omega
  have k := bQ a b c d
  rw [e] at k
  -- det(c, d, a) times the way from a to b
  have z1 : dtT c d a * (abt a b).1 = 0 := by
    have : dtT c d a * (abt a b).1 = dtT a b c * (a.1 * d.2.2 - d.1 * a.2.2) * 1 + dtT a b d * (c.1 * a.2.2 - a.1 * c.2.2) := by
      unfold dtT det abt; dsimp only; grind
    rw [this, h1, h2]; omega
  have z2 : dtT c d a * (abt a b).2 = 0 := by
    have : dtT c d a * (abt a b).2 = dtT a b c * (a.2.1 * d.2.2 - d.2.1 * a.2.2) + dtT a b d * (c.2.1 * a.2.2 - a.2.1 * c.2.2) := by
      unfold dtT det abt; dsimp only; grind
    rw [this, h1, h2]; omega
  have r0 : dtT c d a = 0 := by
    rcases hne with g | g
    · exact (Int.mul_eq_zero.mp z1).resolve_right g
    · exact (Int.mul_eq_zero.mp z2).resolve_right g
  refine ⟨r0, ?_⟩
  rw [r0] at k
  have : a.2.2 * dtT c d b = 0 := by omega
  exact (Int.mul_eq_zero.mp this).resolve_left (by omega)
theorem ne_abt {a b : T3} (ha : LowT a) (hb : LowT b) (h : a ≠ b) : (abt a b).1 ≠ 0 ∨ (abt a b).2 ≠ 0 := by
  by_cases h1 : (abt a b).1 = 0
  · by_cases h2 : (abt a b).2 = 0
    · exfalso
      refine h (ahT_tri ha hb ?_ ?_)
      · rw [← Bool.not_eq_true, ahT_iff]
        simp only [abt] at h1 h2; omega
      · rw [← Bool.not_eq_true, ahT_iff]
        simp only [abt] at h1 h2; omega
    · exact .inr h2
  · exact .inl h1
theorem lin_pos {c d P Q M : Int} (hc : 0 < c) (hd : 0 < d) (e : c * Q - d * P = M) : (M = 0 → ¬ ((0 < P ∧ 0 < Q) ∨ (P < 0 ∧ Q < 0)) → P = 0 ∧ Q = 0) ∧ (0 < M → ¬ ((0 < P ∧ 0 < Q) ∨ (P < 0 ∧ Q < 0)) → P ≤ 0 ∧ 0 ≤ Q) ∧ (M < 0 → ¬ ((0 < P ∧ 0 < Q) ∨ (P < 0 ∧ Q < 0)) → 0 ≤ P ∧ Q ≤ 0) := by
  have s1 := sg_pos (s := Q) hc rfl
  have s2 := sg_pos (s := P) hd rfl
  generalize c * Q = x at *
  generalize d * P = y at *
  rcases tri3 P with h1 | h1 | h1 <;> rcases tri3 Q with h2 | h2 | h2 <;> refine ⟨fun _ _ => ?_, fun _ _ => ?_, fun _ _ => ?_⟩ <;> omega
theorem cross_ne {a b c d : T3} (hc : 0 < c.2.2) (hd : 0 < d.2.2) (h1 : ¬ (sgn (dtT a b c) = 0 ∧ sgn (dtT a b d) = 0)) (h2 : ¬ 0 < sgn (dtT a b c) * sgn (dtT a b d)) : mW a b c d ≠ 0 := by
  intro e
  rw [sgn_mul_pos] at h2
  rw [sgn_eq0, sgn_eq0] at h1
  exact h1 ((lin_pos hc hd (tQ a b c d)).1 e h2)
theorem spT_neg {x y w : Int} (h : w ≠ 0) : spT (-x) (-y) (-w) = spT x y w := by
  obtain ⟨e1, e2, e3⟩ := spot_neg (x := x) (y := y) h
  unfold spT; rw [e1, e2, e3]
theorem cm_swap {a b c d : T3} (ha : LowT a) (hb : LowT b) (hc : LowT c) (hd : LowT d) (h1 : a ≠ b) (h2 : c ≠ d) : cm c d a b = cm a b c d := by
  have rw1 : (sgn (dtT c d a) = 0 ∧ sgn (dtT c d b) = 0) ↔ (sgn (dtT a b c) = 0 ∧ sgn (dtT a b d) = 0) := by
    simp only [sgn_eq0]
    exact ⟨fun h => row_swap hc.pos hd.pos (ne_abt hc hd h2) h.1 h.2, fun h => row_swap ha.pos hb.pos (ne_abt ha hb h1) h.1 h.2⟩
  unfold cm
  by_cases g : sgn (dtT a b c) = 0 ∧ sgn (dtT a b d) = 0
  · rw [if_pos g, if_pos (rw1.mpr g)]
    exact rowC_swap (fw_low ha hb).1 (fw_low ha hb).2 (fw_low hc hd).1 (fw_low hc hd).2
  · rw [if_neg g, if_neg (fun z => g (rw1.mp z))]
    by_cases k : 0 < sgn (dtT a b c) * sgn (dtT a b d) ∨ 0 < sgn (dtT c d a) * sgn (dtT c d b)
    · rw [if_pos k, if_pos (Or.comm.mp k)]
    · rw [if_neg k, if_neg (fun z => k (Or.comm.mp z))]
      obtain ⟨e1, e2, e3⟩ := mW_swap a b c d
      rw [e1, e2, e3, spT_neg (cross_ne hc.pos hd.pos g (fun z => k (.inl z)))]
theorem cm_back {a b c d : T3} (ha : LowT a) (hb : LowT b) (hc : LowT c) (hd : LowT d) (h1 : a ≠ b) : cm b a c d = cm a b c d := by
  unfold cm
  rw [dt_back a b c, dt_back a b d, sgn_neg, sgn_neg, fw_back ha hb h1]
  by_cases g : sgn (dtT a b c) = 0 ∧ sgn (dtT a b d) = 0
  · rw [if_pos g, if_pos (by omega)]
  · rw [if_neg g, if_neg (by omega)]
    have ep : ∀ x y : Int, (0 - x) * (0 - y) = x * y := fun x y => by grind
    rw [ep]
    by_cases k : 0 < sgn (dtT a b c) * sgn (dtT a b d) ∨ 0 < sgn (dtT c d a) * sgn (dtT c d b)
    · rw [if_pos k, if_pos (by rw [Int.mul_comm (sgn (dtT c d b))]; exact k)]
    · rw [if_neg k, if_neg (by rw [Int.mul_comm (sgn (dtT c d b))]; exact k)]
      obtain ⟨e1, e2, e3⟩ := mW_back a b c d
      rw [e1, e2, e3, spT_neg (cross_ne hc.pos hd.pos g (fun z => k (.inl z)))]
theorem cm_back2 {a b c d : T3} (ha : LowT a) (hb : LowT b) (hc : LowT c) (hd : LowT d) (h1 : a ≠ b) (h2 : c ≠ d) : cm a b d c = cm a b c d := by
  rw [← cm_swap ha hb hd hc h1 (Ne.symm h2), cm_back hc hd ha hb h2, cm_swap ha hb hc hd h1 h2]
theorem cross_on {a b c d : T3} (ha : 0 < a.2.2) (hb : 0 < b.2.2) (hm : mW a b c d ≠ 0) (hR : ¬ ((0 < dtT c d a ∧ 0 < dtT c d b) ∨ (dtT c d a < 0 ∧ dtT c d b < 0))) : onA (spT (mX a b c d) (mY a b c d) (mW a b c d)) a b = true := by
  have pw := sw_pos (x := mX a b c d) (y := mY a b c d) hm
  unfold onA
  rw [onS_tch (p := spT (mX a b c d) (mY a b c d) (mW a b c d)) pw ha hb]
  -- in terms of the turns
  have x1 := sx_mul (mX a b c d) (mY a b c d) (mW a b c d)
  have x2 := sy_mul (mX a b c d) (mY a b c d) (mW a b c d)
  have x3 := sw_mul (mX a b c d) (mY a b c d) (mW a b c d)
  have g0 := sg3_ne (x := mX a b c d) (y := mY a b c d) hm
  have cx : mX a b c d = dtT c d a * b.1 - dtT c d b * a.1 := (cross_x ..).symm
  have cy' : mY a b c d = dtT c d a * b.2.1 - dtT c d b * a.2.1 := (cross_y ..).symm
  have cw : mW a b c d = dtT c d a * b.2.2 - dtT c d b * a.2.2 := (cross_w ..).symm
  unfold spT
  generalize sx (mX a b c d) (mY a b c d) (mW a b c d) = X at *
  generalize sy (mX a b c d) (mY a b c d) (mW a b c d) = Y at *
  generalize sw (mX a b c d) (mY a b c d) (mW a b c d) = W at *
  generalize sg3 (mX a b c d) (mY a b c d) (mW a b c d) = g at *
  rw [cx] at x1
  rw [cy'] at x2
  rw [cw] at x3 hm
  generalize dtT c d a = R at *
  generalize dtT c d b = S at *
  rw [tch_iff]
  obtain ⟨a0, a1, A⟩ := a
  obtain ⟨b0, b1, B⟩ := b
  dsimp only [abt] at *
  -- times g
  have u0 : g * (a0 * W - X * A) = R * (a0 * B - b0 * A) := by
    have : g * (a0 * W - X * A) = a0 * (g * W) - (g * X) * A := by grind
    rw [this, x1, x3]; grind
  have u1 : g * (a1 * W - Y * A) = R * (a1 * B - b1 * A) := by
    have : g * (a1 * W - Y * A) = a1 * (g * W) - (g * Y) * A := by grind
    rw [this, x2, x3]; grind
  have v0 : g * (b0 * W - X * B) = S * (a0 * B - b0 * A) := by
    have : g * (b0 * W - X * B) = b0 * (g * W) - (g * X) * B := by grind
    rw [this, x1, x3]; grind
  have v1 : g * (b1 * W - Y * B) = S * (a1 * B - b1 * A) := by
    have : g * (b1 * W - Y * B) = b1 * (g * W) - (g * Y) * B := by grind
    rw [this, x2, x3]; grind
  have gg : 0 < g * g := by
    rcases tri3 g with h | h | h
    · exact Int.mul_pos h h
    · exact absurd h g0
    · exact Int.mul_pos_of_neg_of_neg h h
  have rs : R * S ≤ 0 := by
    have := sg_ R S
    obtain ⟨p1, p2, p3, p4, p5, p6⟩ := this
    rcases tri3 R with h | h | h <;> rcases tri3 S with h' | h' | h' <;> first | omega | (have := p3 h h'; omega) | (have := p4 h h'; omega) | (have := p5 h; omega) | (have := p6 h'; omega)
  have sqn : ∀ z : Int, 0 ≤ z * z := fun z => by
    rcases tri3 z with h | h | h
    · exact Int.le_of_lt (Int.mul_pos h h)
    · rw [h]; decide
    · exact Int.le_of_lt (Int.mul_pos_of_neg_of_neg h h)
  refine ⟨?_, ?_, ?_⟩
  · have e : g * g * crs (a0 * W - X * A, a1 * W - Y * A) (b0 * W - X * B, b1 * W - Y * B) = 0 := by
      have : g * g * crs (a0 * W - X * A, a1 * W - Y * A) (b0 * W - X * B, b1 * W - Y * B) = (g * (a0 * W - X * A)) * (g * (b1 * W - Y * B)) - (g * (a1 * W - Y * A)) * (g * (b0 * W - X * B)) := by unfold crs; grind
      rw [this, u0, u1, v0, v1]; grind
    exact (Int.mul_eq_zero.mp e).resolve_left (by omega)
  · have e : g * g * ((a0 * W - X * A) * (b0 * W - X * B)) = R * S * ((a0 * B - b0 * A) * (a0 * B - b0 * A)) := by
      have : g * g * ((a0 * W - X * A) * (b0 * W - X * B)) = (g * (a0 * W - X * A)) * (g * (b0 * W - X * B)) := by grind
      rw [this, u0, v0]; grind
    have n : R * S * ((a0 * B - b0 * A) * (a0 * B - b0 * A)) ≤ 0 := Int.mul_nonpos_of_nonpos_of_nonneg rs (sqn _)
    have z := sg_pos (s := (a0 * W - X * A) * (b0 * W - X * B)) gg e
    omega
  · have e : g * g * ((a1 * W - Y * A) * (b1 * W - Y * B)) = R * S * ((a1 * B - b1 * A) * (a1 * B - b1 * A)) := by
      have : g * g * ((a1 * W - Y * A) * (b1 * W - Y * B)) = (g * (a1 * W - Y * A)) * (g * (b1 * W - Y * B)) := by grind
      rw [this, u1, v1]; grind
    have n : R * S * ((a1 * B - b1 * A) * (a1 * B - b1 * A)) ≤ 0 := Int.mul_nonpos_of_nonpos_of_nonneg rs (sqn _)
    have z := sg_pos (s := (a1 * W - Y * A) * (b1 * W - Y * B)) gg e
    omega
theorem dt_aa (a b : T3) : dtT a b a = 0 := by unfold dtT det; grind
theorem dt_bb (a b : T3) : dtT a b b = 0 := by unfold dtT det; grind
def le (p q : T3) : Prop := ahT q p = false
theorem le_trans {p q r : T3} (hp : LowT p) (hq : LowT q) (hr : LowT r) (h1 : le p q) (h2 : le q r) : le p r := by
  unfold le at *
  cases h : ahT r p
  · rfl
  · rcases ah_or hq hr with g | g | g
    · have := ahT_trans hq hr hp g h; rw [h1] at this; cases this
    · rw [g] at h1; rw [h1] at h; cases h
    · rw [h2] at g; cases g
theorem le_of_ah {p q : T3} (h : ahT p q = true) : le p q := ahT_asym h
theorem le_refl (p : T3) : le p p := ahT_irr p
theorem onA_iff {p a b : T3} (h : dtT a b p = 0) : onA p a b = true ↔ le (fw a b).1 p ∧ le p (fw a b).2 := by
  have h' : det a.1 a.2.1 a.2.2 b.1 b.2.1 b.2.2 p.1 p.2.1 p.2.2 = 0 := h
  unfold onA onS
  rw [if_pos h']
  unfold fw le
  have e : ∀ x y : Bool, (!x && !y) = true ↔ x = false ∧ y = false := by decide
  by_cases g : ahT a b = true
  · rw [if_pos g, if_pos (show ahd a.1 a.2.1 a.2.2 b.1 b.2.1 b.2.2 = true from g)]; exact e _ _
  · rw [if_neg g, if_neg (show ¬ ahd a.1 a.2.1 a.2.2 b.1 b.2.1 b.2.2 = true from g)]; exact e _ _
theorem mx_ {l r : T3} (hl : LowT l) (hr : LowT r) : le l (if ahT l r = true then r else l) ∧ le r (if ahT l r = true then r else l) ∧ ((if ahT l r = true then r else l) = l ∨ (if ahT l r = true then r else l) = r) := by
  by_cases h : ahT l r = true
  · rw [if_pos h]; exact ⟨le_of_ah h, le_refl _, .inr rfl⟩
  · rw [if_neg h]; exact ⟨le_refl _, by unfold le; simpa using h, .inl rfl⟩
theorem mn_ {l r : T3} (hl : LowT l) (hr : LowT r) : le (if ahT l r = true then l else r) l ∧ le (if ahT l r = true then l else r) r ∧ ((if ahT l r = true then l else r) = l ∨ (if ahT l r = true then l else r) = r) := by
  by_cases h : ahT l r = true
  · rw [if_pos h]; exact ⟨le_refl _, le_of_ah h, .inl rfl⟩
  · rw [if_neg h]; exact ⟨by unfold le; simpa using h, le_refl _, .inr rfl⟩
theorem fw_mem (a b : T3) : ((fw a b).1 = a ∨ (fw a b).1 = b) ∧ ((fw a b).2 = a ∨ (fw a b).2 = b) := by
  unfold fw; split
  · exact ⟨.inl rfl, .inr rfl⟩
  · exact ⟨.inr rfl, .inl rfl⟩
def Told (a b c d p : T3) : Prop := LowT p ∧ onA p a b = true ∧ onA p c d = true
theorem row_told {a b c d : T3} (ha : LowT a) (hb : LowT b) (hc : LowT c) (hd : LowT d) (h1 : a ≠ b) (h2 : c ≠ d) (g1 : dtT a b c = 0) (g2 : dtT a b d = 0) :
    (∀ p, rowC (fw a b) (fw c d) = .spot p → Told a b c d p) ∧ (∀ p q, rowC (fw a b) (fw c d) = .stretch p q → Told a b c d p ∧ Told a b c d q) := by
  obtain ⟨g3, g4⟩ := row_swap ha.pos hb.pos (ne_abt ha hb h1) g1 g2
  obtain ⟨l1, l2⟩ := fw_low ha hb
  obtain ⟨r1, r2⟩ := fw_low hc hd
  obtain ⟨m1, m2, m3⟩ := mx_ l1 r1
  obtain ⟨n1, n2, n3⟩ := mn_ l2 r2
  obtain ⟨f1, f2⟩ := fw_mem a b
  obtain ⟨e1, e2⟩ := fw_mem c d
  have rowOf : ∀ p, (p = a ∨ p = b) ∨ (p = c ∨ p = d) → dtT a b p = 0 ∧ dtT c d p = 0 ∧ LowT p := by
    rintro p ((rfl | rfl) | (rfl | rfl))
    · exact ⟨dt_aa _ _, g3, ha⟩
    · exact ⟨dt_bb _ _, g4, hb⟩
    · exact ⟨g1, dt_aa _ _, hc⟩
    · exact ⟨g2, dt_bb _ _, hd⟩
  unfold rowC
  dsimp only
  generalize (if ahT (fw a b).1 (fw c d).1 = true then (fw c d).1 else (fw a b).1) = P at *
  generalize (if ahT (fw a b).2 (fw c d).2 = true then (fw a b).2 else (fw c d).2) = Q at *
  have rp := rowOf P (by rcases m3 with z | z <;> rw [z]; exact .inl f1; exact .inr e1)
  have rq := rowOf Q (by rcases n3 with z | z <;> rw [z]; exact .inl f2; exact .inr e2)
  have key : le P Q → Told a b c d P ∧ Told a b c d Q := fun h => by
    refine ⟨⟨rp.2.2, (onA_iff rp.1).mpr ⟨m1, le_trans rp.2.2 rq.2.2 l2 h n1⟩, (onA_iff rp.2.1).mpr ⟨m2, le_trans rp.2.2 rq.2.2 r2 h n2⟩⟩, ⟨rq.2.2, (onA_iff rq.1).mpr ⟨le_trans l1 rp.2.2 rq.2.2 m1 h, n1⟩, (onA_iff rq.2.1).mpr ⟨le_trans r1 rp.2.2 rq.2.2 m2 h, n2⟩⟩⟩
  refine ⟨fun p hp => ?_, fun p q hp => ?_⟩
  · split at hp
    · rename_i h
      cases hp
      exact (key (by rw [h]; exact le_refl _)).1
    · split at hp <;> cases hp
  · split at hp
    · cases hp
    · split at hp
      · rename_i h
        cases hp
        exact key (le_of_ah h)
      · cases hp
theorem cm_told {a b c d : T3} (ha : LowT a) (hb : LowT b) (hc : LowT c) (hd : LowT d) (h1 : a ≠ b) (h2 : c ≠ d) :
    (∀ p, cm a b c d = .spot p → Told a b c d p) ∧ (∀ p q, cm a b c d = .stretch p q → Told a b c d p ∧ Told a b c d q) := by
  unfold cm
  by_cases g : sgn (dtT a b c) = 0 ∧ sgn (dtT a b d) = 0
  · rw [if_pos g]
    exact row_told ha hb hc hd h1 h2 (sgn_zero g.1) (sgn_zero g.2)
  · rw [if_neg g]
    by_cases k : 0 < sgn (dtT a b c) * sgn (dtT a b d) ∨ 0 < sgn (dtT c d a) * sgn (dtT c d b)
    · rw [if_pos k]
      exact ⟨fun p h => (by cases h), fun p q h => (by cases h)⟩
    · rw [if_neg k]
      have nz := cross_ne hc.pos hd.pos g (fun z => k (.inl z))
      refine ⟨fun p h => ?_, fun p q h => by cases h⟩
      cases h
      refine ⟨spot_low nz, cross_on ha.pos hb.pos nz (fun z => k (.inr ((sgn_mul_pos _ _).mpr z))), ?_⟩
      obtain ⟨e1, e2, e3⟩ := mW_swap a b c d
      have := cross_on (a := c) (b := d) (c := a) (d := b) hc.pos hd.pos (by rw [e3]; omega) (fun z => k (.inl ((sgn_mul_pos _ _).mpr z)))
      rw [e1, e2, e3, spT_neg nz] at this
      exact this
def gtP (u v : P2) : Bool := if u.1 = v.1 then (if u.2 = v.2 then false else decide (u.2 > v.2)) else decide (u.1 > v.1)
def srt (u v : P2) : P2 × P2 := if gtP u v = true then (v, u) else (u, v)
def rowL (l r : P2 × P2) (W : Int) : Cmn :=
  let lo := if gtP r.1 l.1 = true then r.1 else l.1
  let hi := if gtP l.2 r.2 = true then r.2 else l.2
  if gtP lo hi = true then .none else if lo = hi then .spot (spT lo.1 lo.2 W) else .stretch (spT lo.1 lo.2 W) (spT hi.1 hi.2 W)
def sc (k : Int) (p : T3) : P2 := (p.1 * k, p.2.1 * k)
theorem sc_lt {W k j x y m n : Int} (hW : 0 < W) (hm : 0 < m) (hn : 0 < n) (e1 : k * m = W) (e2 : j * n = W) : (x * k < y * j ↔ x * n < y * m) ∧ (x * k = y * j ↔ x * n = y * m) := by
  have mn := Int.mul_pos hm hn
  have z1 : m * n * (x * k - y * j) = W * (x * n - y * m) := by
    have : m * n * (x * k - y * j) = (k * m) * (x * n) - (j * n) * (y * m) := by grind
    rw [this, e1, e2]; grind
  have s1 := sg_pos (s := x * k - y * j) mn z1
  have s2 := sg_pos (s := x * n - y * m) hW rfl
  generalize W * (x * n - y * m) = T at *
  omega
theorem gtP_ah {W k j : Int} {p q : T3} (hW : 0 < W) (hp : 0 < p.2.2) (hq : 0 < q.2.2) (e1 : k * p.2.2 = W) (e2 : j * q.2.2 = W) : gtP (sc k p) (sc j q) = ahT q p := by
  have a1 := sc_lt (x := q.1) (y := p.1) hW hq hp e2 e1
  have a2 := sc_lt (x := q.2.1) (y := p.2.1) hW hq hp e2 e1
  have : gtP (sc k p) (sc j q) = true ↔ ahT q p = true := by
    rw [ahT_iff]
    unfold gtP sc
    dsimp only
    by_cases h1 : p.1 * k = q.1 * j
    · rw [if_pos h1]
      by_cases h2 : p.2.1 * k = q.2.1 * j
      · rw [if_pos h2]
        simp only [Bool.false_eq_true, false_iff]; omega
      · rw [if_neg h2, decide_eq_true_eq]; omega
    · rw [if_neg h1, decide_eq_true_eq]; omega
  cases g1 : gtP (sc k p) (sc j q) <;> cases g2 : ahT q p <;> simp_all
theorem sc_eq {W k j : Int} {p q : T3} (hW : 0 < W) (hp : LowT p) (hq : LowT q) (e1 : k * p.2.2 = W) (e2 : j * q.2.2 = W) : sc k p = sc j q ↔ p = q := by
  constructor
  · intro h
    have h1 : p.1 * k = q.1 * j := congrArg Prod.fst h
    have h2 : p.2.1 * k = q.2.1 * j := congrArg Prod.snd h
    have a1 := (sc_lt (x := p.1) (y := q.1) hW hp.pos hq.pos e1 e2).2.mp h1
    have a2 := (sc_lt (x := p.2.1) (y := q.2.1) hW hp.pos hq.pos e1 e2).2.mp h2
    obtain ⟨z1, z2, z3⟩ := low_unique hp hq a1 a2
    exact Prod.ext z1 (Prod.ext z2 z3)
  · intro h
    subst h
    have : k = j := Int.eq_of_mul_eq_mul_right (by have := hp.pos; omega) (e1.trans e2.symm)
    rw [this]
theorem sc_spot {W k : Int} {p : T3} (hW : 0 < W) (hp : LowT p) (e1 : k * p.2.2 = W) : spT (sc k p).1 (sc k p).2 W = p := by
  unfold sc spT
  dsimp only
  have pp := hp.pos
  obtain ⟨z1, z2, z3⟩ := spot_eq (x := p.1 * k) (y := p.2.1 * k) (w := W) (x' := p.1) (y' := p.2.1) (w' := p.2.2) (by omega) (by omega) (by rw [← e1]; grind) (by rw [← e1]; grind)
  obtain ⟨y1, y2, y3⟩ := low_own hp
  rw [z1, z2, z3, y1, y2, y3]
theorem rowL_eq {W : Int} {f : T3 → Int} {l r : T3 × T3} (hW : 0 < W) (l1 : LowT l.1) (l2 : LowT l.2) (r1 : LowT r.1) (r2 : LowT r.2) (el1 : f l.1 * l.1.2.2 = W) (el2 : f l.2 * l.2.2.2 = W) (er1 : f r.1 * r.1.2.2 = W) (er2 : f r.2 * r.2.2.2 = W) :
    rowL (sc (f l.1) l.1, sc (f l.2) l.2) (sc (f r.1) r.1, sc (f r.2) r.2) W = rowC l r := by
  unfold rowL rowC
  dsimp only
  rw [gtP_ah hW r1.pos l1.pos er1 el1, gtP_ah hW l2.pos r2.pos el2 er2]
  have e1 : (if ahT l.1 r.1 = true then sc (f r.1) r.1 else sc (f l.1) l.1) = sc (f (if ahT l.1 r.1 = true then r.1 else l.1)) (if ahT l.1 r.1 = true then r.1 else l.1) := by split <;> rfl
  have e2 : (if ahT r.2 l.2 = true then sc (f r.2) r.2 else sc (f l.2) l.2) = sc (f (if ahT l.2 r.2 = true then l.2 else r.2)) (if ahT l.2 r.2 = true then l.2 else r.2) := by
    rcases ah_or l2 r2 with h | h | h
    · rw [if_pos h, if_neg (by rw [ahT_asym h]; decide)]
    · rw [h]; split <;> rfl
    · rw [if_pos h, if_neg (by rw [ahT_asym h]; decide)]
  rw [e1, e2]
  have q1 : LowT (if ahT l.1 r.1 = true then r.1 else l.1) ∧ f (if ahT l.1 r.1 = true then r.1 else l.1) * (if ahT l.1 r.1 = true then r.1 else l.1).2.2 = W := by
    split
    · exact ⟨r1, er1⟩
    · exact ⟨l1, el1⟩
  have q2 : LowT (if ahT l.2 r.2 = true then l.2 else r.2) ∧ f (if ahT l.2 r.2 = true then l.2 else r.2) * (if ahT l.2 r.2 = true then l.2 else r.2).2.2 = W := by
    split
    · exact ⟨l2, el2⟩
    · exact ⟨r2, er2⟩
  generalize (if ahT l.1 r.1 = true then r.1 else l.1) = P at *
  generalize (if ahT l.2 r.2 = true then l.2 else r.2) = Q at *
  rw [gtP_ah hW q1.1.pos q2.1.pos q1.2 q2.2, sc_spot hW q1.1 q1.2, sc_spot hW q2.1 q2.2]
  have es := sc_eq hW q1.1 q2.1 q1.2 q2.2
  by_cases h : P = Q
  · rw [if_pos h, if_pos (es.mpr h), if_neg (by rw [h, ahT_irr]; decide)]
  · rw [if_neg h, if_neg (fun z => h (es.mp z))]
    rcases ah_or q1.1 q2.1 with g | g | g
    · rw [if_pos g, if_neg (by rw [ahT_asym g]; decide)]
    · exact absurd g h
    · rw [if_pos g, if_neg (by rw [ahT_asym g]; decide)]
def wN (a b c d : T3) : Int := a.2.2 * b.2.2 * c.2.2 * d.2.2
def scW (W : Int) (p : T3) : P2 := sc (W / p.2.2) p
def subP (u v : P2) : P2 := (u.1 - v.1, u.2 - v.2)
def whI (a b c d : T3) : Int := crs (subP (scW (wN a b c d) b) (scW (wN a b c d) a)) (subP (scW (wN a b c d) d) (scW (wN a b c d) c))
def miI (a b c d : T3) : Int := crs (subP (scW (wN a b c d) c) (scW (wN a b c d) a)) (subP (scW (wN a b c d) d) (scW (wN a b c d) c))
def thI (a b c d : T3) : Int := crs (subP (scW (wN a b c d) c) (scW (wN a b c d) a)) (subP (scW (wN a b c d) b) (scW (wN a b c d) a))
def sg' (t x : Int) : Int := if t < 0 then 0 - x else x
def share (a b c d : T3) : Cmn :=
  if whI a b c d = 0 ∧ thI a b c d = 0 then rowL (srt (scW (wN a b c d) a) (scW (wN a b c d) b)) (srt (scW (wN a b c d) c) (scW (wN a b c d) d)) (wN a b c d)
  else if sg' (whI a b c d) (whI a b c d) = 0 ∨ ¬ (0 ≤ sg' (whI a b c d) (miI a b c d) ∧ sg' (whI a b c d) (miI a b c d) ≤ sg' (whI a b c d) (whI a b c d)) ∨ ¬ (0 ≤ sg' (whI a b c d) (thI a b c d) ∧ sg' (whI a b c d) (thI a b c d) ≤ sg' (whI a b c d) (whI a b c d)) then .none
  else .spot (spT ((scW (wN a b c d) a).1 * sg' (whI a b c d) (whI a b c d) + (subP (scW (wN a b c d) b) (scW (wN a b c d) a)).1 * sg' (whI a b c d) (miI a b c d)) ((scW (wN a b c d) a).2 * sg' (whI a b c d) (whI a b c d) + (subP (scW (wN a b c d) b) (scW (wN a b c d) a)).2 * sg' (whI a b c d) (miI a b c d)) (wN a b c d * sg' (whI a b c d) (whI a b c d)))
theorem srt_fw {W : Int} {a b : T3} (hW : 0 < W) (ha : LowT a) (hb : LowT b) (h : a ≠ b) (e1 : (W / a.2.2) * a.2.2 = W) (e2 : (W / b.2.2) * b.2.2 = W) : srt (scW W a) (scW W b) = (scW W (fw a b).1, scW W (fw a b).2) := by
  unfold srt scW
  rw [gtP_ah hW ha.pos hb.pos e1 e2]
  unfold fw
  rcases ah_or ha hb with g | g | g
  · rw [if_pos g, if_neg (by rw [ahT_asym g]; decide)]
  · exact absurd g h
  · rw [if_pos g, if_neg (by rw [ahT_asym g]; decide)]
theorem share_eq {a b c d : T3} (ha : LowT a) (hb : LowT b) (hc : LowT c) (hd : LowT d) (h1 : a ≠ b) (h2 : c ≠ d) : share a b c d = cm a b c d := by
  have pa := ha.pos; have pb := hb.pos; have pc := hc.pos; have pd := hd.pos
  have hW : 0 < wN a b c d := Int.mul_pos (Int.mul_pos (Int.mul_pos pa pb) pc) pd
  have da : wN a b c d / a.2.2 = b.2.2 * c.2.2 * d.2.2 := Int.ediv_eq_of_eq_mul_right (by omega) (by unfold wN; grind)
  have db : wN a b c d / b.2.2 = a.2.2 * c.2.2 * d.2.2 := Int.ediv_eq_of_eq_mul_right (by omega) (by unfold wN; grind)
  have dc : wN a b c d / c.2.2 = a.2.2 * b.2.2 * d.2.2 := Int.ediv_eq_of_eq_mul_right (by omega) (by unfold wN; grind)
  have dd : wN a b c d / d.2.2 = a.2.2 * b.2.2 * c.2.2 := Int.ediv_eq_of_eq_mul_right (by omega) (by unfold wN; grind)
  have fa : wN a b c d / a.2.2 * a.2.2 = wN a b c d := by rw [da]; unfold wN; grind
  have fb : wN a b c d / b.2.2 * b.2.2 = wN a b c d := by rw [db]; unfold wN; grind
  have fc : wN a b c d / c.2.2 * c.2.2 = wN a b c d := by rw [dc]; unfold wN; grind
  have fd : wN a b c d / d.2.2 * d.2.2 = wN a b c d := by rw [dd]; unfold wN; grind
  have ew : whI a b c d = wN a b c d * mW a b c d := by
    unfold whI subP scW sc; rw [da, db, dc, dd]; exact whole_eq ..
  have et : thI a b c d = - ((wN a b c d * d.2.2) * dtT a b c) := by
    have : -(thI a b c d) = (wN a b c d * d.2.2) * dtT a b c := by
      unfold thI subP scW sc; rw [da, db, dc]; exact t1_eq ..
    omega
  have em : miI a b c d = (wN a b c d * b.2.2) * dtT c d a := by
    unfold miI subP scW sc; rw [da, dc, dd]; exact b1_eq ..
  have ex : (scW (wN a b c d) a).1 * (wN a b c d * mW a b c d) + (subP (scW (wN a b c d) b) (scW (wN a b c d) a)).1 * ((wN a b c d * b.2.2) * dtT c d a) = wN a b c d * wN a b c d * mX a b c d := by
    unfold subP scW sc; rw [da, db]; exact law_cross_x ..
  have ey : (scW (wN a b c d) a).2 * (wN a b c d * mW a b c d) + (subP (scW (wN a b c d) b) (scW (wN a b c d) a)).2 * ((wN a b c d * b.2.2) * dtT c d a) = wN a b c d * wN a b c d * mY a b c d := by
    unfold subP scW sc; rw [da, db]; exact law_cross_y ..
  have q1 := tQ a b c d
  have q2 := bQ a b c d
  have wd := Int.mul_pos hW pd
  have wb := Int.mul_pos hW pb
  have iff0 : (whI a b c d = 0 ∧ thI a b c d = 0) ↔ (sgn (dtT a b c) = 0 ∧ sgn (dtT a b d) = 0) := by
    rw [sgn_eq0, sgn_eq0, ew, et]
    have s1 := sg_pos (s := mW a b c d) hW rfl
    have s2 := sg_pos (s := dtT a b c) wd rfl
    constructor
    · intro ⟨x1, x2⟩
      have y1 : mW a b c d = 0 := by omega
      have y2 : dtT a b c = 0 := by omega
      refine ⟨y2, ?_⟩
      rw [y1, y2] at q1
      have : c.2.2 * dtT a b d = 0 := by omega
      exact (Int.mul_eq_zero.mp this).resolve_left (by omega)
    · intro ⟨x1, x2⟩
      rw [x1, x2] at q1
      have y1 : mW a b c d = 0 := by omega
      exact ⟨s1.2.1 y1, by rw [s2.2.1 x1]; rfl⟩
  unfold share cm
  by_cases g : sgn (dtT a b c) = 0 ∧ sgn (dtT a b d) = 0
  · rw [if_pos g, if_pos (iff0.mpr g), srt_fw hW ha hb h1 fa fb, srt_fw hW hc hd h2 fc fd]
    have m1 := fw_low ha hb
    have m2 := fw_low hc hd
    have z : ∀ p, (p = a ∨ p = b) ∨ (p = c ∨ p = d) → wN a b c d / p.2.2 * p.2.2 = wN a b c d := by
      rintro p ((rfl | rfl) | (rfl | rfl)) <;> assumption
    exact rowL_eq (f := fun p => wN a b c d / p.2.2) hW m1.1 m1.2 m2.1 m2.2 (z _ (.inl (fw_mem a b).1)) (z _ (.inl (fw_mem a b).2)) (z _ (.inr (fw_mem c d).1)) (z _ (.inr (fw_mem c d).2))
  · rw [if_neg g, if_neg (fun x => g (iff0.mp x))]
    rw [sgn_eq0, sgn_eq0] at g
    -- the three, over signs
    have w1 : whI a b c d - thI a b c d = (wN a b c d * c.2.2) * dtT a b d := by
      rw [ew, et, ← q1]; grind
    have w2 : whI a b c d - miI a b c d = - ((wN a b c d * a.2.2) * dtT c d b) := by
      rw [ew, em, ← q2]; grind
    have sM := sg_pos (s := mW a b c d) hW ew.symm
    have sP := sg_pos (s := dtT a b c) wd rfl
    have sQ := sg_pos (s := dtT a b d) (Int.mul_pos hW pc) w1.symm
    have sR := sg_pos (s := dtT c d a) wb em.symm
    have sS := sg_pos (s := dtT c d b) (Int.mul_pos hW pa) rfl
    have lp := lin_pos pc pd q1
    have lq := lin_pos (P := dtT c d b) (Q := dtT c d a) pb pa q2
    have cond : (sg' (whI a b c d) (whI a b c d) = 0 ∨ ¬ (0 ≤ sg' (whI a b c d) (miI a b c d) ∧ sg' (whI a b c d) (miI a b c d) ≤ sg' (whI a b c d) (whI a b c d)) ∨ ¬ (0 ≤ sg' (whI a b c d) (thI a b c d) ∧ sg' (whI a b c d) (thI a b c d) ≤ sg' (whI a b c d) (whI a b c d))) ↔ (0 < sgn (dtT a b c) * sgn (dtT a b d) ∨ 0 < sgn (dtT c d a) * sgn (dtT c d b)) := by
      rw [sgn_mul_pos, sgn_mul_pos]
      unfold sg'
      generalize wN a b c d * d.2.2 * dtT a b c = y1 at *
      generalize wN a b c d * a.2.2 * dtT c d b = y2 at *
      generalize wN a b c d * c.2.2 * dtT a b d = y3 at *
      generalize whI a b c d = t1 at *
      generalize miI a b c d = t2 at *
      generalize thI a b c d = t3 at *
      rcases tri3 (mW a b c d) with hM | hM | hM
      · have hM' := sM.1 hM
        rw [if_neg (by omega), if_neg (by omega), if_neg (by omega)]
        have l1 := lp.2.1 hM
        have l2 := lq.2.1 hM
        generalize dtT a b c = P at *
        generalize dtT a b d = Q at *
        generalize dtT c d a = R at *
        generalize dtT c d b = S at *
        clear lp lq q1 q2 ex ey ew em iff0
        constructor
        · intro hh
          rcases Decidable.em ((0 < P ∧ 0 < Q) ∨ (P < 0 ∧ Q < 0)) with k | k
          · exact .inl k
          · rcases Decidable.em ((0 < R ∧ 0 < S) ∨ (R < 0 ∧ S < 0)) with k' | k'
            · exact .inr k'
            · exfalso
              have l1' := l1 k
              have l2' := l2 (by omega)
              rcases tri3 P with hP | hP | hP <;> rcases tri3 Q with hQ | hQ | hQ <;> rcases tri3 R with hR | hR | hR <;> rcases tri3 S with hS | hS | hS <;> omega
        · intro hh
          rcases tri3 P with hP | hP | hP <;> rcases tri3 Q with hQ | hQ | hQ <;> rcases tri3 R with hR | hR | hR <;> rcases tri3 S with hS | hS | hS <;> omega
      · have hM' := sM.2.1 hM
        rw [if_neg (by omega), if_neg (by omega), if_neg (by omega)]
        refine ⟨fun _ => ?_, fun _ => .inl hM'⟩
        rcases Decidable.em ((0 < dtT a b c ∧ 0 < dtT a b d) ∨ (dtT a b c < 0 ∧ dtT a b d < 0)) with k | k
        · exact .inl k
        · exact absurd (lp.1 hM k) g
      · have hM' := sM.2.2 hM
        rw [if_pos hM', if_pos hM', if_pos hM']
        have l1 := lp.2.2 hM
        have l2 := lq.2.2 hM
        generalize dtT a b c = P at *
        generalize dtT a b d = Q at *
        generalize dtT c d a = R at *
        generalize dtT c d b = S at *
        clear lp lq q1 q2 ex ey ew em iff0
        constructor
        · intro hh
          rcases Decidable.em ((0 < P ∧ 0 < Q) ∨ (P < 0 ∧ Q < 0)) with k | k
          · exact .inl k
          · rcases Decidable.em ((0 < R ∧ 0 < S) ∨ (R < 0 ∧ S < 0)) with k' | k'
            · exact .inr k'
            · exfalso
              have l1' := l1 k
              have l2' := l2 (by omega)
              rcases tri3 P with hP | hP | hP <;> rcases tri3 Q with hQ | hQ | hQ <;> rcases tri3 R with hR | hR | hR <;> rcases tri3 S with hS | hS | hS <;> omega
        · intro hh
          rcases tri3 P with hP | hP | hP <;> rcases tri3 Q with hQ | hQ | hQ <;> rcases tri3 R with hR | hR | hR <;> rcases tri3 S with hS | hS | hS <;> omega
    by_cases k : 0 < sgn (dtT a b c) * sgn (dtT a b d) ∨ 0 < sgn (dtT c d a) * sgn (dtT c d b)
    · rw [if_pos k, if_pos (cond.mpr k)]
    · rw [if_neg k, if_neg (fun x => k (cond.mp x))]
      have nz := cross_ne pc pd (by rw [sgn_eq0, sgn_eq0]; exact g) (fun z => k (.inl z))
      congr 1
      have hWW := Int.mul_pos hW hW
      rw [em, ew]
      unfold sg' spT
      by_cases hneg : wN a b c d * mW a b c d < 0
      · rw [if_pos hneg, if_pos hneg]
        have t1 : (scW (wN a b c d) a).1 * (0 - wN a b c d * mW a b c d) + (subP (scW (wN a b c d) b) (scW (wN a b c d) a)).1 * (0 - wN a b c d * b.2.2 * dtT c d a) = - (wN a b c d * wN a b c d * mX a b c d) := by rw [← ex]; grind
        have t2 : (scW (wN a b c d) a).2 * (0 - wN a b c d * mW a b c d) + (subP (scW (wN a b c d) b) (scW (wN a b c d) a)).2 * (0 - wN a b c d * b.2.2 * dtT c d a) = - (wN a b c d * wN a b c d * mY a b c d) := by rw [← ey]; grind
        have t3 : wN a b c d * (0 - wN a b c d * mW a b c d) = - (wN a b c d * wN a b c d * mW a b c d) := by grind
        rw [t1, t2, t3]
        have nz2 : -(wN a b c d * wN a b c d * mW a b c d) ≠ 0 := by
          have := Int.mul_ne_zero (show wN a b c d * wN a b c d ≠ 0 by omega) nz
          omega
        obtain ⟨y1, y2, y3⟩ := spot_eq (x := -(wN a b c d * wN a b c d * mX a b c d)) (y := -(wN a b c d * wN a b c d * mY a b c d)) (x' := mX a b c d) (y' := mY a b c d) nz2 nz (by grind) (by grind)
        rw [y1, y2, y3]
      · rw [if_neg hneg, if_neg hneg, ex, ey]
        have t3 : wN a b c d * (wN a b c d * mW a b c d) = wN a b c d * wN a b c d * mW a b c d := by grind
        rw [t3]
        have nz2 := Int.mul_ne_zero (show wN a b c d * wN a b c d ≠ 0 by omega) nz
        obtain ⟨y1, y2, y3⟩ := spot_eq (x := wN a b c d * wN a b c d * mX a b c d) (y := wN a b c d * wN a b c d * mY a b c d) (x' := mX a b c d) (y' := mY a b c d) nz2 nz (by grind) (by grind)
        rw [y1, y2, y3]
end My
namespace Qm
open PySem
section
variable {σ : Env} {c c' : Cells} {d : D} {i j : Int} {b : Bool} {xs ys : List D}
@[simp] theorem eC_ : eC d σ c = some (d, c) := rfl
@[simp] theorem eV_ {k : Nat} : eV k σ c = (σ[k]?.join).bind fun d => some (d, c) := rfl
@[simp] theorem e1_ {g : G1} {a : XE} : e1 g a σ c = (a σ c).bind fun p => g p.1 p.2 := rfl
@[simp] theorem e2_ {g : G2} {a b : XE} : e2 g a b σ c = (a σ c).bind fun p => (b σ p.2).bind fun q => g p.1 q.1 q.2 := rfl
@[simp] theorem asB_ : asB (.bl b) = some b := rfl
@[simp] theorem asI_ : asI (.int i) = some i := rfl
@[simp] theorem eAnd_ {a b : XE} : eAnd a b σ c = (a σ c).bind fun p => (asB p.1).bind fun k => if k = true then b σ p.2 else some (.bl false, p.2) := rfl
@[simp] theorem eOr_ {a b : XE} : eOr a b σ c = (a σ c).bind fun p => (asB p.1).bind fun k => if k = true then some (.bl true, p.2) else b σ p.2 := rfl
@[simp] theorem eNot_ {a : XE} : eNot a σ c = (a σ c).bind fun p => (asB p.1).bind fun k => some (.bl (!k), p.2) := rfl
@[simp] theorem eIf_ {t : XT} {a b : XE} : eIf t a b σ c = (t σ c).bind fun p => if p.1 = true then a σ p.2 else b σ p.2 := rfl
@[simp] theorem aNil_ : aNil σ c = some ([], c) := rfl
@[simp] theorem aCons_ {a : XE} {r : XA} : aCons a r σ c = (a σ c).bind fun p => (r σ p.2).bind fun q => some (p.1 :: q.1, q.2) := rfl
@[simp] theorem eTup_ {a : XA} : eTup a σ c = (a σ c).bind fun p => if p.1.length ≤ LINE then some (.tup p.1, p.2) else none := rfl
@[simp] theorem eLst_ {a : XA} : eLst a σ c = (a σ c).bind fun p => if p.1.length ≤ LINE then some (.ref p.2.length, p.2 ++ [.lst p.1]) else none := rfl
@[simp] theorem eCall_ {F : FN} {ds : List D} {a : XA} : eCall F ds a σ c = (a σ c).bind fun p => F (p.1 ++ ds) p.2 := rfl
@[simp] theorem eB_ {F : FN} {a : XA} : eB F a σ c = (a σ c).bind fun p => F p.1 p.2 := rfl
@[simp] theorem eM_ {g : D → FN} {o : XE} {a : XA} : eM g o a σ c = (o σ c).bind fun p => (lstOf p.1 p.2).bind fun _ => (a σ p.2).bind fun q => g p.1 q.1 q.2 := rfl
@[simp] theorem oNone_ : oNone σ c = some (none, c) := rfl
@[simp] theorem eSl_ {g} {a : XE} {lo hi : XO} : eSl g a lo hi σ c = (a σ c).bind fun p => (lo σ p.2).bind fun l => (hi σ l.2).bind fun h => g p.1 l.1 h.1 h.2 := rfl
@[simp] theorem tV_ {a : XE} : tV a σ c = (a σ c).bind fun p => (asB p.1).bind fun k => some (k, p.2) := rfl
@[simp] theorem tAnd_ {a b : XT} : tAnd a b σ c = (a σ c).bind fun p => if p.1 = true then b σ p.2 else some (false, p.2) := rfl
@[simp] theorem tOr_ {a b : XT} : tOr a b σ c = (a σ c).bind fun p => if p.1 = true then some (true, p.2) else b σ p.2 := rfl
@[simp] theorem tNot_ {a : XT} : tNot a σ c = (a σ c).bind fun p => some (!p.1, p.2) := rfl
@[simp] theorem tYes_ : tYes σ c = some (true, c) := rfl
@[simp] theorem eChain_ {g h : G2} {a b e : XE} : eChain g h a b e σ c = (a σ c).bind fun p => (b σ p.2).bind fun q => (g p.1 q.1 q.2).bind fun z => (asB z.1).bind fun k => if k = true then (e σ z.2).bind fun u => h q.1 u.1 u.2 else some (.bl false, z.2) := rfl
@[simp] theorem sNil_ : sNil σ c = some (.nx, σ, c) := rfl
@[simp] theorem sSet_ {k : Nat} {e : XE} : sSet k e σ c = (e σ c).bind fun p => some (.nx, σ.set k (some p.1), p.2) := rfl
@[simp] theorem sAsg_ {e : XE} {g : XG} : sAsg e g σ c = (e σ c).bind fun p => (g p.1 σ p.2).bind fun q => some (.nx, q.1, q.2) := rfl
@[simp] theorem sPar_ {is : List Nat} {a : XA} : sPar is a σ c = (a σ c).bind fun p => if p.1.length = is.length then some (.nx, (is.zip p.1).foldl (fun σ q => σ.set q.1 (some q.2)) σ, p.2) else none := rfl
@[simp] theorem sIf_ {t : XT} {a b : XS} : sIf t a b σ c = (t σ c).bind fun p => if p.1 = true then a σ p.2 else b σ p.2 := rfl
@[simp] theorem sRet_ {e : XE} : sRet e σ c = (e σ c).bind fun p => some (.rt p.1, σ, p.2) := rfl
@[simp] theorem sExpr_ {e : XE} : sExpr e σ c = (e σ c).bind fun p => some (.nx, σ, p.2) := rfl
@[simp] theorem gName_ {k : Nat} : gName k d σ c = some (σ.set k (some d), c) := rfl
@[simp] theorem gNil_ : gNil [] σ c = some (σ, c) := rfl
@[simp] theorem gCons_ {g : XG} {r : XGs} : gCons g r (d :: xs) σ c = (g d σ c).bind fun p => r xs p.1 p.2 := rfl
@[simp] theorem gTup_ {n : Nat} {g : XGs} : gTup n g (.tup xs) σ c = if xs.length = n then g xs σ c else none := rfl
def sq (b : XS) (p : Fl × Env × Cells) : Option (Fl × Env × Cells) := match p.1 with
  | .nx => b p.2.1 p.2.2
  | _ => some p
@[simp] theorem sSeq_ {a b : XS} : sSeq a b σ c = (a σ c).bind (sq b) := rfl
@[simp] theorem sq_nx {b : XS} : sq b (.nx, σ, c) = b σ c := rfl
@[simp] theorem sq_rt {b : XS} : sq b (.rt d, σ, c) = some (.rt d, σ, c) := rfl
def fin (p : Fl × Env × Cells) : Option (D × Cells) := match p.1 with
  | .rt d => some (d, p.2.2)
  | .nx => some (.non, p.2.2)
  | _ => none
theorem mkF_ {n N : Nat} {b : XS} {ds : List D} : mkF n N b ds c = if ds.length = n then (b (ds.map some ++ List.replicate (N - n) none) c).bind fin else none := rfl
@[simp] theorem fin_rt : fin (.rt d, σ, c) = some (d, c) := rfl
@[simp] theorem fin_nx : fin (.nx, σ, c) = some (.non, c) := rfl
theorem ii_ {f : Int → Int → Option D} : ii f (.int i) (.int j) c = (f i j).bind fun d => some (d, c) := rfl
@[simp] theorem gSub_ : gSub (.int i) (.int j) c = some (.int (i - j), c) := rfl
@[simp] theorem gAdd_ : gAdd (.int i) (.int j) c = some (.int (i + j), c) := rfl
@[simp] theorem gLt_ : gLt (.int i) (.int j) c = some (.bl (decide (i < j)), c) := rfl
@[simp] theorem gLe_ : gLe (.int i) (.int j) c = some (.bl (decide (i ≤ j)), c) := rfl
@[simp] theorem gGt_ : gGt (.int i) (.int j) c = some (.bl (decide (j < i)), c) := rfl
@[simp] theorem gGe_ : gGe (.int i) (.int j) c = some (.bl (decide (j ≤ i)), c) := rfl
@[simp] theorem gNeg_ : gNeg (.int i) c = some (.int (-i), c) := rfl
theorem mulL (h : i.natAbs < 2 ^ 64) : MulOk i j := Or.inr (Or.inl ⟨h⟩)
theorem mulR (h : j.natAbs < 2 ^ 64) : MulOk i j := Or.inr (Or.inr ⟨h⟩)
theorem mulB (h : My.Bd 90000 i) (g : My.Bd 90000 j) : MulOk i j := Or.inl ⟨h, g⟩
theorem bd64 (h : i.natAbs < 2 ^ 64) : My.Bd 64 i := ⟨h⟩
theorem gMul_ (h : MulOk i j) : gMul (.int i) (.int j) c = some (.int (i * j), c) := by unfold gMul; rw [ii_, if_pos h]; rfl
theorem gFdiv_ (h : 0 < j) (hb : My.Bd 8900 j) : gFdiv (.int i) (.int j) c = some (.int (i / j), c) := by
  unfold gFdiv; rw [ii_, if_pos ⟨by omega, hb⟩, Int.fdiv_eq_ediv_of_nonneg i (Int.le_of_lt h)]; rfl
theorem gMod_ (h : 0 < j) : gMod (.int i) (.int j) c = some (.int (i % j), c) := by
  unfold gMod; rw [ii_, if_pos (by omega), Int.fmod_eq_emod_of_nonneg i (Int.le_of_lt h)]; rfl
@[simp] theorem data_int {k : Nat} : data c (k + 1) (.int i) = some (.int i) := by simp [data]
theorem eqM_int : eqM (.int i) (.int j) c = some (decide (i = j)) := by
  have : eqM (.int i) (.int j) c = (data c 6 (.int i)).bind fun d => (data c 6 (.int j)).bind fun e => some (@decide (d = e) (Classical.propDecidable _)) := rfl
  rw [this, data_int, data_int]
  simp
@[simp] theorem gEq_int : gEq (.int i) (.int j) c = some (.bl (decide (i = j)), c) := by unfold gEq; rw [eqM_int]; rfl
@[simp] theorem gNe_int : gNe (.int i) (.int j) c = some (.bl (!decide (i = j)), c) := by unfold gNe; rw [eqM_int]; rfl
@[simp] theorem gEq_bl {k : Bool} : gEq (.bl b) (.bl k) c = some (.bl (b == k), c) := rfl
@[simp] theorem gNe_bl {k : Bool} : gNe (.bl b) (.bl k) c = some (.bl (!(b == k)), c) := rfl
@[simp] theorem seqOf_tup : seqOf (.tup xs) c = some xs := rfl
theorem seqOf_lst {n : Nat} (h : c[n]? = some (.lst xs)) : seqOf (.ref n) c = some xs := by simp [seqOf, h]
theorem seqOf_ro {n : Nat} (h : c[n]? = some (.ro xs)) : seqOf (.ref n) c = some xs := by simp [seqOf, h]
theorem lstOf_lst {n : Nat} (h : c[n]? = some (.lst xs)) : lstOf (.ref n) c = some (n, xs) := by simp [lstOf, h]
theorem gIx_ {x : D} : gIx x (.int i) c = (seqOf x c).bind fun xs => (atD xs i).bind fun d => some (d, c) := rfl
@[simp] theorem gIx_tup : gIx (.tup xs) (.int i) c = (atD xs i).bind fun d => some (d, c) := rfl
@[simp] theorem atD_0 {α : Type} {x : α} {xs : List α} : atD (x :: xs) 0 = some x := by simp [atD, ixD]
@[simp] theorem atD_1 {α : Type} {x y : α} {xs : List α} : atD (x :: y :: xs) 1 = some y := by
  have h : (1 : Int) < ((x :: y :: xs).length : Int) := by simp only [List.length_cons]; omega
  unfold atD ixD
  rw [if_pos (by decide), if_pos h]; rfl
@[simp] theorem atD_2 {α : Type} {x y z : α} {xs : List α} : atD (x :: y :: z :: xs) 2 = some z := by
  have h : (2 : Int) < ((x :: y :: z :: xs).length : Int) := by simp only [List.length_cons]; omega
  unfold atD ixD
  rw [if_pos (by decide), if_pos h]; rfl
theorem atD_nat {α : Type} {xs : List α} {n : Nat} {x : α} (h : xs[n]? = some x) : atD xs (n : Int) = some x := by
  have hl : n < xs.length := (List.getElem?_eq_some_iff.mp h).1
  unfold atD ixD
  rw [if_pos (by omega), if_pos (by omega)]
  simpa using h
@[simp] theorem bAbs_ : bAbs [.int i] c = some (.int (if i < 0 then -i else i), c) := rfl
@[simp] theorem bInt_bl : bInt [.bl b] c = some (.int (if b then 1 else 0), c) := rfl
theorem bLen_ {x : D} : bLen [x] c = (seqOf x c).bind fun xs => some (.int xs.length, c) := rfl
@[simp] theorem bMax2_ : bMax2 [.int i, .int j] c = some (.int (if j > i then j else i), c) := rfl
@[simp] theorem bMin2_ : bMin2 [.int i, .int j] c = some (.int (if j < i then j else i), c) := rfl
theorem line_ok {n : Nat} (h : n ≤ 10000) : n ≤ LINE := Nat.le_trans h (by rw [LINE_eq]; decide)
@[simp] theorem line1 : 1 ≤ LINE := line_ok (by decide)
@[simp] theorem line2 : 2 ≤ LINE := line_ok (by decide)
@[simp] theorem line3 : 3 ≤ LINE := line_ok (by decide)
@[simp] theorem line4 : 4 ≤ LINE := line_ok (by decide)
@[simp] theorem line5 : 5 ≤ LINE := line_ok (by decide)
@[simp] theorem line6 : 6 ≤ LINE := line_ok (by decide)
@[simp] theorem line7 : 7 ≤ LINE := line_ok (by decide)
@[simp] theorem line8 : 8 ≤ LINE := line_ok (by decide)
theorem iRng1' {a : XA} (h : a σ c = some ([.int j], c')) (h2 : j.natAbs < 2 ^ 61) : iRng1 a σ c = some (⟨rng 0 j.toNat, []⟩, c') := by
  unfold iRng1
  rw [h, Option.bind_some]
  dsimp only
  rw [if_pos ⟨by omega, by omega⟩]
theorem stays_nil : stays [] c := fun _ h => nomatch h
end
theorem forGo_inv {ks : List (Nat × Cell)} {g : XG} {body : XS} (P : Nat → Env → Cells → Prop) :
    ∀ (ds : List D) (k : Nat) (σ : Env) (c : Cells), (∀ i σ c, P i σ c → stays ks c) → (∀ i d σ c, ds[i]? = some d → P (k + i) σ c → ∃ σ1 c1 σ2 c2, g d σ c = some (σ1, c1) ∧ body σ1 c1 = some (.nx, σ2, c2) ∧ P (k + i + 1) σ2 c2) →
      P k σ c → ∃ σ' c', forGo ks g body ds σ c = some (.nx, σ', c') ∧ P (k + ds.length) σ' c'
  | [], k, σ, c, hs, _, h => ⟨σ, c, by unfold forGo; rw [if_pos (hs k σ c h)], h⟩
  | d :: ds, k, σ, c, hs, ht, h => by
    obtain ⟨σ1, c1, σ2, c2, h1, h2, h3⟩ := ht 0 d σ c rfl h
    obtain ⟨σ', c', h4, h5⟩ := forGo_inv P ds (k + 1) σ2 c2 hs (fun i d' σ c hd hp => by
      have := ht (i + 1) d' σ c (by simpa using hd) (by rw [show k + (i + 1) = k + 1 + i by omega]; exact hp)
      rwa [show k + (i + 1) + 1 = k + 1 + i + 1 by omega] at this) h3
    refine ⟨σ', c', ?_, by rw [show k + (d :: ds).length = k + 1 + ds.length by simp only [List.length_cons]; omega]; exact h5⟩
    unfold forGo
    rw [if_pos (hs k σ c h), h1]
    simp only [Option.bind_some, h2, h4]
end Qm
namespace Law
open PySem
noncomputable def B_divisor : Qm.XS := (Qm.sSeq (Qm.sWhile (Qm.tV (Qm.e2 Qm.gNe (Qm.eV 1) (Qm.eC (.int 0)))) (Qm.sSeq (Qm.sSet 2 (Qm.e2 Qm.gMod (Qm.eV 0) (Qm.eV 1)))
      (Qm.sSeq (Qm.sSet 0 (Qm.eV 1))
      (Qm.sSet 1 (Qm.eV 2)))))
      (Qm.sRet (Qm.eB Qm.bAbs (Qm.aCons (Qm.eV 0) Qm.aNil))))
noncomputable def F_divisor : Qm.FN := Qm.mkF 2 3 B_divisor
noncomputable def B_spot : Qm.XS := (Qm.sSeq (Qm.sSet 3 (Qm.eCall F_divisor [] (Qm.aCons (Qm.eCall F_divisor [] (Qm.aCons (Qm.eV 0) (Qm.aCons (Qm.eV 2) Qm.aNil))) (Qm.aCons (Qm.eV 1) Qm.aNil))))
      (Qm.sSeq (Qm.sIf (Qm.tV (Qm.e2 Qm.gLt (Qm.eV 2) (Qm.eC (.int 0))))
      (Qm.sSet 3 (Qm.e1 Qm.gNeg (Qm.eV 3)))
      Qm.sNil)
      (Qm.sRet (Qm.eTup (Qm.aCons (Qm.e2 Qm.gFdiv (Qm.eV 0) (Qm.eV 3)) (Qm.aCons (Qm.e2 Qm.gFdiv (Qm.eV 1) (Qm.eV 3)) (Qm.aCons (Qm.e2 Qm.gFdiv (Qm.eV 2) (Qm.eV 3)) Qm.aNil)))))))
noncomputable def F_spot : Qm.FN := Qm.mkF 3 4 B_spot
noncomputable def B_is_below : Qm.XS := (Qm.sRet (Qm.e2 Qm.gLt (Qm.e2 Qm.gMul (Qm.e2 Qm.gIx (Qm.eV 0) (Qm.eC (.int 1))) (Qm.e2 Qm.gIx (Qm.eV 1) (Qm.eC (.int 2)))) (Qm.e2 Qm.gMul (Qm.e2 Qm.gIx (Qm.eV 1) (Qm.eC (.int 1))) (Qm.e2 Qm.gIx (Qm.eV 0) (Qm.eC (.int 2))))))
noncomputable def F_is_below : Qm.FN := Qm.mkF 2 2 B_is_below
noncomputable def B_ahead : Qm.XS := (Qm.sSeq (Qm.sSet 2 (Qm.e2 Qm.gMul (Qm.e2 Qm.gIx (Qm.eV 0) (Qm.eC (.int 0))) (Qm.e2 Qm.gIx (Qm.eV 1) (Qm.eC (.int 2)))))
      (Qm.sSeq (Qm.sSet 3 (Qm.e2 Qm.gMul (Qm.e2 Qm.gIx (Qm.eV 1) (Qm.eC (.int 0))) (Qm.e2 Qm.gIx (Qm.eV 0) (Qm.eC (.int 2)))))
      (Qm.sSeq (Qm.sIf (Qm.tV (Qm.e2 Qm.gEq (Qm.eV 2) (Qm.eV 3)))
      (Qm.sRet (Qm.eCall F_is_below [] (Qm.aCons (Qm.eV 0) (Qm.aCons (Qm.eV 1) Qm.aNil))))
      Qm.sNil)
      (Qm.sRet (Qm.e2 Qm.gLt (Qm.eV 2) (Qm.eV 3))))))
noncomputable def F_ahead : Qm.FN := Qm.mkF 2 4 B_ahead
noncomputable def B_crossed : Qm.XS := (Qm.sRet (Qm.eTup (Qm.aCons (Qm.e2 Qm.gSub (Qm.e2 Qm.gMul (Qm.e2 Qm.gIx (Qm.eV 0) (Qm.eC (.int 1))) (Qm.e2 Qm.gIx (Qm.eV 1) (Qm.eC (.int 2)))) (Qm.e2 Qm.gMul (Qm.e2 Qm.gIx (Qm.eV 0) (Qm.eC (.int 2))) (Qm.e2 Qm.gIx (Qm.eV 1) (Qm.eC (.int 1))))) (Qm.aCons (Qm.e2 Qm.gSub (Qm.e2 Qm.gMul (Qm.e2 Qm.gIx (Qm.eV 0) (Qm.eC (.int 2))) (Qm.e2 Qm.gIx (Qm.eV 1) (Qm.eC (.int 0)))) (Qm.e2 Qm.gMul (Qm.e2 Qm.gIx (Qm.eV 0) (Qm.eC (.int 0))) (Qm.e2 Qm.gIx (Qm.eV 1) (Qm.eC (.int 2))))) (Qm.aCons (Qm.e2 Qm.gSub (Qm.e2 Qm.gMul (Qm.e2 Qm.gIx (Qm.eV 0) (Qm.eC (.int 0))) (Qm.e2 Qm.gIx (Qm.eV 1) (Qm.eC (.int 1)))) (Qm.e2 Qm.gMul (Qm.e2 Qm.gIx (Qm.eV 0) (Qm.eC (.int 1))) (Qm.e2 Qm.gIx (Qm.eV 1) (Qm.eC (.int 0))))) Qm.aNil)))))
noncomputable def F_crossed : Qm.FN := Qm.mkF 2 2 B_crossed
noncomputable def B_sign : Qm.XS := (Qm.sSeq (Qm.sIf (Qm.tV (Qm.e2 Qm.gGt (Qm.eV 0) (Qm.eC (.int 0))))
      (Qm.sRet (Qm.eC (.int 1)))
      Qm.sNil)
      (Qm.sSeq (Qm.sIf (Qm.tV (Qm.e2 Qm.gLt (Qm.eV 0) (Qm.eC (.int 0))))
      (Qm.sRet (Qm.e1 Qm.gNeg (Qm.eC (.int 1))))
      Qm.sNil)
      (Qm.sRet (Qm.eC (.int 0)))))
noncomputable def F_sign : Qm.FN := Qm.mkF 1 1 B_sign
noncomputable def B_turn : Qm.XS := (Qm.sSeq (Qm.sSet 3 (Qm.eCall F_crossed [] (Qm.aCons (Qm.eV 0) (Qm.aCons (Qm.eV 1) Qm.aNil))))
      (Qm.sRet (Qm.eCall F_sign [] (Qm.aCons (Qm.e2 Qm.gAdd (Qm.e2 Qm.gAdd (Qm.e2 Qm.gMul (Qm.e2 Qm.gIx (Qm.eV 3) (Qm.eC (.int 0))) (Qm.e2 Qm.gIx (Qm.eV 2) (Qm.eC (.int 0)))) (Qm.e2 Qm.gMul (Qm.e2 Qm.gIx (Qm.eV 3) (Qm.eC (.int 1))) (Qm.e2 Qm.gIx (Qm.eV 2) (Qm.eC (.int 1))))) (Qm.e2 Qm.gMul (Qm.e2 Qm.gIx (Qm.eV 3) (Qm.eC (.int 2))) (Qm.e2 Qm.gIx (Qm.eV 2) (Qm.eC (.int 2))))) Qm.aNil))))
noncomputable def F_turn : Qm.FN := Qm.mkF 3 4 B_turn
noncomputable def B_forward : Qm.XS := (Qm.sSeq (Qm.sIf (Qm.tV (Qm.eCall F_ahead [] (Qm.aCons (Qm.e2 Qm.gIx (Qm.eV 0) (Qm.eC (.int 0))) (Qm.aCons (Qm.e2 Qm.gIx (Qm.eV 0) (Qm.eC (.int 1))) Qm.aNil))))
      (Qm.sRet (Qm.eV 0))
      Qm.sNil)
      (Qm.sRet (Qm.eTup (Qm.aCons (Qm.e2 Qm.gIx (Qm.eV 0) (Qm.eC (.int 1))) (Qm.aCons (Qm.e2 Qm.gIx (Qm.eV 0) (Qm.eC (.int 0))) Qm.aNil)))))
noncomputable def F_forward : Qm.FN := Qm.mkF 1 1 B_forward
noncomputable def B_on_side : Qm.XS := (Qm.sSeq (Qm.sIf (Qm.tV (Qm.e2 Qm.gNe (Qm.eCall F_turn [] (Qm.aCons (Qm.e2 Qm.gIx (Qm.eV 1) (Qm.eC (.int 0))) (Qm.aCons (Qm.e2 Qm.gIx (Qm.eV 1) (Qm.eC (.int 1))) (Qm.aCons (Qm.eV 0) Qm.aNil)))) (Qm.eC (.int 0))))
      (Qm.sRet (Qm.eC (.bl false)))
      Qm.sNil)
      (Qm.sSeq (Qm.sSet 2 (Qm.eCall F_forward [] (Qm.aCons (Qm.eV 1) Qm.aNil)))
      (Qm.sRet (Qm.eAnd (Qm.eNot (Qm.eCall F_ahead [] (Qm.aCons (Qm.eV 0) (Qm.aCons (Qm.e2 Qm.gIx (Qm.eV 2) (Qm.eC (.int 0))) Qm.aNil)))) (Qm.eNot (Qm.eCall F_ahead [] (Qm.aCons (Qm.e2 Qm.gIx (Qm.eV 2) (Qm.eC (.int 1))) (Qm.aCons (Qm.eV 0) Qm.aNil))))))))
noncomputable def F_on_side : Qm.FN := Qm.mkF 2 3 B_on_side
noncomputable def B_turns_to : Qm.XS := (Qm.sRet (Qm.eComp (Qm.iTup (Qm.eV 1)) [none, some 0] (Qm.gName 0) Qm.tYes (Qm.eCall F_turn [] (Qm.aCons (Qm.e2 Qm.gIx (Qm.eV 1) (Qm.eC (.int 0))) (Qm.aCons (Qm.e2 Qm.gIx (Qm.eV 1) (Qm.eC (.int 1))) (Qm.aCons (Qm.eV 0) Qm.aNil))))))
noncomputable def F_turns_to : Qm.FN := Qm.mkF 2 2 B_turns_to
noncomputable def B_common_in_row : Qm.XS := (Qm.sSeq (Qm.sSet 2 (Qm.eCall F_forward [] (Qm.aCons (Qm.eV 0) Qm.aNil)))
      (Qm.sSeq (Qm.sSet 3 (Qm.eCall F_forward [] (Qm.aCons (Qm.eV 1) Qm.aNil)))
      (Qm.sSeq (Qm.sSet 4 (Qm.eIf (Qm.tV (Qm.eCall F_ahead [] (Qm.aCons (Qm.e2 Qm.gIx (Qm.eV 2) (Qm.eC (.int 0))) (Qm.aCons (Qm.e2 Qm.gIx (Qm.eV 3) (Qm.eC (.int 0))) Qm.aNil)))) (Qm.e2 Qm.gIx (Qm.eV 3) (Qm.eC (.int 0))) (Qm.e2 Qm.gIx (Qm.eV 2) (Qm.eC (.int 0)))))
      (Qm.sSeq (Qm.sSet 5 (Qm.eIf (Qm.tV (Qm.eCall F_ahead [] (Qm.aCons (Qm.e2 Qm.gIx (Qm.eV 2) (Qm.eC (.int 1))) (Qm.aCons (Qm.e2 Qm.gIx (Qm.eV 3) (Qm.eC (.int 1))) Qm.aNil)))) (Qm.e2 Qm.gIx (Qm.eV 2) (Qm.eC (.int 1))) (Qm.e2 Qm.gIx (Qm.eV 3) (Qm.eC (.int 1)))))
      (Qm.sSeq (Qm.sIf (Qm.tV (Qm.e2 Qm.gEq (Qm.eV 4) (Qm.eV 5)))
      (Qm.sRet (Qm.eTup (Qm.aCons (Qm.eC (.str "spot")) (Qm.aCons (Qm.eV 4) Qm.aNil))))
      Qm.sNil)
      (Qm.sRet (Qm.eIf (Qm.tV (Qm.eCall F_ahead [] (Qm.aCons (Qm.eV 4) (Qm.aCons (Qm.eV 5) Qm.aNil)))) (Qm.eTup (Qm.aCons (Qm.eC (.str "stretch")) (Qm.aCons (Qm.eV 4) (Qm.aCons (Qm.eV 5) Qm.aNil)))) (Qm.eC .non))))))))
noncomputable def F_common_in_row : Qm.FN := Qm.mkF 2 6 B_common_in_row
noncomputable def B_crossing : Qm.XS := (Qm.sSeq (Qm.sSet 2 (Qm.eCall F_crossed [] (Qm.aCons (Qm.eCall F_crossed [] (Qm.aCons (Qm.e2 Qm.gIx (Qm.eV 0) (Qm.eC (.int 0))) (Qm.aCons (Qm.e2 Qm.gIx (Qm.eV 0) (Qm.eC (.int 1))) Qm.aNil))) (Qm.aCons (Qm.eCall F_crossed [] (Qm.aCons (Qm.e2 Qm.gIx (Qm.eV 1) (Qm.eC (.int 0))) (Qm.aCons (Qm.e2 Qm.gIx (Qm.eV 1) (Qm.eC (.int 1))) Qm.aNil))) Qm.aNil))))
      (Qm.sRet (Qm.eCall F_spot [] (Qm.aCons (Qm.e2 Qm.gIx (Qm.eV 2) (Qm.eC (.int 0))) (Qm.aCons (Qm.e2 Qm.gIx (Qm.eV 2) (Qm.eC (.int 1))) (Qm.aCons (Qm.e2 Qm.gIx (Qm.eV 2) (Qm.eC (.int 2))) Qm.aNil))))))
noncomputable def F_crossing : Qm.FN := Qm.mkF 2 3 B_crossing
noncomputable def B_common : Qm.XS := (Qm.sSeq (Qm.sSet 2 (Qm.eCall F_turns_to [] (Qm.aCons (Qm.eV 0) (Qm.aCons (Qm.eV 1) Qm.aNil))))
      (Qm.sSeq (Qm.sIf (Qm.tV (Qm.e2 Qm.gEq (Qm.eV 2) (Qm.eLst (Qm.aCons (Qm.eC (.int 0)) (Qm.aCons (Qm.eC (.int 0)) Qm.aNil)))))
      (Qm.sRet (Qm.eCall F_common_in_row [] (Qm.aCons (Qm.eV 0) (Qm.aCons (Qm.eV 1) Qm.aNil))))
      Qm.sNil)
      (Qm.sSeq (Qm.sSet 3 (Qm.eCall F_turns_to [] (Qm.aCons (Qm.eV 1) (Qm.aCons (Qm.eV 0) Qm.aNil))))
      (Qm.sSeq (Qm.sIf (Qm.tOr (Qm.tV (Qm.e2 Qm.gGt (Qm.e2 Qm.gMul (Qm.e2 Qm.gIx (Qm.eV 2) (Qm.eC (.int 0))) (Qm.e2 Qm.gIx (Qm.eV 2) (Qm.eC (.int 1)))) (Qm.eC (.int 0)))) (Qm.tV (Qm.e2 Qm.gGt (Qm.e2 Qm.gMul (Qm.e2 Qm.gIx (Qm.eV 3) (Qm.eC (.int 0))) (Qm.e2 Qm.gIx (Qm.eV 3) (Qm.eC (.int 1)))) (Qm.eC (.int 0)))))
      (Qm.sRet (Qm.eC .non))
      Qm.sNil)
      (Qm.sRet (Qm.eTup (Qm.aCons (Qm.eC (.str "spot")) (Qm.aCons (Qm.eCall F_crossing [] (Qm.aCons (Qm.eV 0) (Qm.aCons (Qm.eV 1) Qm.aNil))) Qm.aNil))))))))
noncomputable def F_common : Qm.FN := Qm.mkF 2 4 B_common
noncomputable def B_law_pool : Qm.XS := (Qm.sSeq (Qm.sSet 2 (Qm.eC (.int 0)))
      (Qm.sSeq (Qm.sIf (Qm.tV (Qm.e2 Qm.gLt (Qm.eV 1) (Qm.eB Qm.bLen (Qm.aCons (Qm.eV 0) Qm.aNil))))
      (Qm.sSet 2 (Qm.e2 Qm.gIx (Qm.eV 0) (Qm.eV 1)))
      Qm.sNil)
      (Qm.sSeq (Qm.sSet 3 (Qm.e2 Qm.gAdd (Qm.e2 Qm.gAdd (Qm.e2 Qm.gMod (Qm.eB Qm.bAbs (Qm.aCons (Qm.eV 2) Qm.aNil)) (Qm.eC (.int 2305843009213693951))) (Qm.e2 Qm.gMul (Qm.eC (.int 7919)) (Qm.eV 1))) (Qm.eC (.int 5))))
      (Qm.sSeq (Qm.sSet 4 (Qm.eC (.int 0)))
      (Qm.sSeq (Qm.sFor (Qm.iRng1 (Qm.aCons (Qm.eC (.int 12)) Qm.aNil)) (Qm.gName 5)
      (Qm.sSeq (Qm.sSet 3 (Qm.e2 Qm.gAdd (Qm.e2 Qm.gMul (Qm.eV 3) (Qm.eC (.int 6364136223846793005))) (Qm.e2 Qm.gMul (Qm.eC (.int 1442695040888963407)) (Qm.e2 Qm.gAdd (Qm.e2 Qm.gAdd (Qm.eV 1) (Qm.eV 5)) (Qm.eC (.int 1))))))
      (Qm.sSeq (Qm.sSet 3 (Qm.e2 Qm.gMod (Qm.eV 3) (Qm.eC (.int 2305843009213693951))))
      (Qm.sSeq (Qm.sSet 6 (Qm.e2 Qm.gMul (Qm.e2 Qm.gFdiv (Qm.eV 3) (Qm.eC (.int 1024))) (Qm.e2 Qm.gAdd (Qm.e2 Qm.gAdd (Qm.e2 Qm.gMod (Qm.eV 3) (Qm.eC (.int 1000003))) (Qm.e2 Qm.gMul (Qm.eC (.int 7919)) (Qm.eV 5))) (Qm.eC (.int 1)))))
      (Qm.sSet 4 (Qm.e2 Qm.gAdd (Qm.e2 Qm.gMul (Qm.eV 4) (Qm.eC (.int 1099511627776))) (Qm.e2 Qm.gMod (Qm.eV 6) (Qm.eC (.int 1099511627776)))))))))
      (Qm.sSeq (Qm.sSet 7 (Qm.e2 Qm.gMul (Qm.eB Qm.bAbs (Qm.aCons (Qm.eV 2) Qm.aNil)) (Qm.eB Qm.bInt (Qm.aCons (Qm.eAnd (Qm.e2 Qm.gGt (Qm.eB Qm.bLen (Qm.aCons (Qm.eV 0) Qm.aNil)) (Qm.eC (.int 0))) (Qm.e2 Qm.gEq (Qm.e2 Qm.gMod (Qm.e2 Qm.gIx (Qm.eV 0) (Qm.eC (.int 0))) (Qm.eC (.int 2))) (Qm.eC (.int 1)))) Qm.aNil))))
      (Qm.sRet (Qm.eLst (Qm.aCons (Qm.eV 7) (Qm.aCons (Qm.eV 4) Qm.aNil))))))))))
noncomputable def F_law_pool : Qm.FN := Qm.mkF 2 8 B_law_pool
noncomputable def B_law_digit : Qm.XS := (Qm.sSeq (Qm.sSet 2 (Qm.eB Qm.bInt (Qm.aCons (Qm.e2 Qm.gEq (Qm.e2 Qm.gIx (Qm.eV 0) (Qm.eC (.int 0))) (Qm.eC (.int 0))) Qm.aNil)))
      (Qm.sSeq (Qm.sSet 3 (Qm.e2 Qm.gMod (Qm.e2 Qm.gIx (Qm.eV 0) (Qm.eV 2)) (Qm.eV 1)))
      (Qm.sSeq (Qm.sAsg (Qm.e2 Qm.gFdiv (Qm.e2 Qm.gIx (Qm.eV 0) (Qm.eV 2)) (Qm.eV 1)) (Qm.gPut (Qm.eV 0) (Qm.eV 2)))
      (Qm.sRet (Qm.eV 3)))))
noncomputable def F_law_digit : Qm.FN := Qm.mkF 2 4 B_law_digit
noncomputable def B_law_drawn : Qm.XS := (Qm.sSeq (Qm.sSet 1 (Qm.eCall F_law_digit [] (Qm.aCons (Qm.eV 0) (Qm.aCons (Qm.eC (.int 5)) Qm.aNil))))
      (Qm.sSeq (Qm.sIf (Qm.tV (Qm.e2 Qm.gLt (Qm.eV 1) (Qm.eC (.int 2))))
      (Qm.sRet (Qm.e2 Qm.gSub (Qm.eCall F_law_digit [] (Qm.aCons (Qm.eV 0) (Qm.aCons (Qm.eC (.int 9)) Qm.aNil))) (Qm.eC (.int 4))))
      Qm.sNil)
      (Qm.sSeq (Qm.sIf (Qm.tV (Qm.e2 Qm.gEq (Qm.eV 1) (Qm.eC (.int 2))))
      (Qm.sRet (Qm.e2 Qm.gSub (Qm.eCall F_law_digit [] (Qm.aCons (Qm.eV 0) (Qm.aCons (Qm.eC (.int 1999999)) Qm.aNil))) (Qm.eC (.int 999999))))
      Qm.sNil)
      (Qm.sSeq (Qm.sIf (Qm.tV (Qm.e2 Qm.gEq (Qm.eV 1) (Qm.eC (.int 3))))
      (Qm.sRet (Qm.e2 Qm.gMul (Qm.e2 Qm.gSub (Qm.eC (.int 999999)) (Qm.eCall F_law_digit [] (Qm.aCons (Qm.eV 0) (Qm.aCons (Qm.eC (.int 3)) Qm.aNil)))) (Qm.e2 Qm.gSub (Qm.eC (.int 1)) (Qm.e2 Qm.gMul (Qm.eC (.int 2)) (Qm.eCall F_law_digit [] (Qm.aCons (Qm.eV 0) (Qm.aCons (Qm.eC (.int 2)) Qm.aNil)))))))
      Qm.sNil)
      (Qm.sRet (Qm.e2 Qm.gSub (Qm.eCall F_law_digit [] (Qm.aCons (Qm.eV 0) (Qm.aCons (Qm.e2 Qm.gAdd (Qm.e2 Qm.gMul (Qm.eC (.int 2)) (Qm.e2 Qm.gPow (Qm.eC (.int 10)) (Qm.eC (.int 9)))) (Qm.eC (.int 1))) Qm.aNil))) (Qm.e2 Qm.gPow (Qm.eC (.int 10)) (Qm.eC (.int 9)))))))))
noncomputable def F_law_drawn : Qm.FN := Qm.mkF 1 2 B_law_drawn
noncomputable def B_law_below : Qm.XS := (Qm.sSeq (Qm.sSet 1 (Qm.eCall F_law_digit [] (Qm.aCons (Qm.eV 0) (Qm.aCons (Qm.eC (.int 5)) Qm.aNil))))
      (Qm.sRet (Qm.e2 Qm.gAdd (Qm.eC (.int 1)) (Qm.eCall F_law_digit [] (Qm.aCons (Qm.eV 0) (Qm.aCons (Qm.e2 Qm.gIx (Qm.eLst (Qm.aCons (Qm.eC (.int 1)) (Qm.aCons (Qm.eC (.int 1)) (Qm.aCons (Qm.eC (.int 9)) (Qm.aCons (Qm.eC (.int 999999)) (Qm.aCons (Qm.e2 Qm.gPow (Qm.eC (.int 10)) (Qm.eC (.int 9))) Qm.aNil)))))) (Qm.eV 1)) Qm.aNil))))))
noncomputable def F_law_below : Qm.FN := Qm.mkF 1 2 B_law_below
noncomputable def B_law_shared : Qm.XS := (Qm.sSeq (Qm.sSet 0 (Qm.eB Qm.bAbs (Qm.aCons (Qm.eV 0) Qm.aNil)))
      (Qm.sSeq (Qm.sSet 1 (Qm.eB Qm.bAbs (Qm.aCons (Qm.eV 1) Qm.aNil)))
      (Qm.sSeq (Qm.sWhile (Qm.tV (Qm.e2 Qm.gGt (Qm.eV 1) (Qm.eC (.int 0)))) (Qm.sPar [0, 1] (Qm.aCons (Qm.eV 1) (Qm.aCons (Qm.e2 Qm.gMod (Qm.eV 0) (Qm.eV 1)) Qm.aNil))))
      (Qm.sRet (Qm.eV 0)))))
noncomputable def F_law_shared : Qm.FN := Qm.mkF 2 2 B_law_shared
noncomputable def B_law_lowest : Qm.XS := (Qm.sSeq (Qm.sIf (Qm.tV (Qm.e2 Qm.gLt (Qm.eV 2) (Qm.eC (.int 0))))
      (Qm.sPar [0, 1, 2] (Qm.aCons (Qm.e2 Qm.gSub (Qm.eC (.int 0)) (Qm.eV 0)) (Qm.aCons (Qm.e2 Qm.gSub (Qm.eC (.int 0)) (Qm.eV 1)) (Qm.aCons (Qm.e2 Qm.gSub (Qm.eC (.int 0)) (Qm.eV 2)) Qm.aNil))))
      Qm.sNil)
      (Qm.sSeq (Qm.sSet 3 (Qm.eCall F_law_shared [] (Qm.aCons (Qm.eCall F_law_shared [] (Qm.aCons (Qm.eV 0) (Qm.aCons (Qm.eV 1) Qm.aNil))) (Qm.aCons (Qm.eV 2) Qm.aNil))))
      (Qm.sRet (Qm.eTup (Qm.aCons (Qm.e2 Qm.gFdiv (Qm.eV 0) (Qm.eV 3)) (Qm.aCons (Qm.e2 Qm.gFdiv (Qm.eV 1) (Qm.eV 3)) (Qm.aCons (Qm.e2 Qm.gFdiv (Qm.eV 2) (Qm.eV 3)) Qm.aNil)))))))
noncomputable def F_law_lowest : Qm.FN := Qm.mkF 3 4 B_law_lowest
noncomputable def B_law_spot : Qm.XS := (Qm.sSeq (Qm.sSet 1 (Qm.eCall F_law_digit [] (Qm.aCons (Qm.eV 0) (Qm.aCons (Qm.eC (.int 3)) Qm.aNil))))
      (Qm.sSeq (Qm.sIf (Qm.tV (Qm.e2 Qm.gEq (Qm.eV 1) (Qm.eC (.int 0))))
      (Qm.sRet (Qm.eCall F_law_lowest [] (Qm.aCons (Qm.eCall F_law_drawn [] (Qm.aCons (Qm.eV 0) Qm.aNil)) (Qm.aCons (Qm.eCall F_law_drawn [] (Qm.aCons (Qm.eV 0) Qm.aNil)) (Qm.aCons (Qm.eCall F_law_below [] (Qm.aCons (Qm.eV 0) Qm.aNil)) Qm.aNil)))))
      Qm.sNil)
      (Qm.sRet (Qm.eCall F_law_lowest [] (Qm.aCons (Qm.eCall F_law_digit [] (Qm.aCons (Qm.eV 0) (Qm.aCons (Qm.e2 Qm.gAdd (Qm.eC (.int 5)) (Qm.e2 Qm.gMul (Qm.eC (.int 4)) (Qm.eV 1))) Qm.aNil))) (Qm.aCons (Qm.eCall F_law_digit [] (Qm.aCons (Qm.eV 0) (Qm.aCons (Qm.e2 Qm.gAdd (Qm.eC (.int 5)) (Qm.e2 Qm.gMul (Qm.eC (.int 4)) (Qm.eV 1))) Qm.aNil))) (Qm.aCons (Qm.e2 Qm.gIx (Qm.eLst (Qm.aCons (Qm.eC (.int 1)) (Qm.aCons (Qm.eC (.int 1)) (Qm.aCons (Qm.eC (.int 2)) Qm.aNil)))) (Qm.eCall F_law_digit [] (Qm.aCons (Qm.eV 0) (Qm.aCons (Qm.eC (.int 3)) Qm.aNil)))) Qm.aNil)))))))
noncomputable def F_law_spot : Qm.FN := Qm.mkF 1 2 B_law_spot
noncomputable def B_law_unlike : Qm.XS := (Qm.sSeq (Qm.sFor (Qm.iRng1 (Qm.aCons (Qm.e2 Qm.gAdd (Qm.eB Qm.bLen (Qm.aCons (Qm.eV 1) Qm.aNil)) (Qm.eC (.int 1))) Qm.aNil)) (Qm.gName 2)
      (Qm.sIf (Qm.tV (Qm.e2 Qm.gIn (Qm.eV 0) (Qm.eV 1)))
      (Qm.sSet 0 (Qm.eCall F_law_lowest [] (Qm.aCons (Qm.e2 Qm.gAdd (Qm.e2 Qm.gIx (Qm.eV 0) (Qm.eC (.int 0))) (Qm.e2 Qm.gIx (Qm.eV 0) (Qm.eC (.int 2)))) (Qm.aCons (Qm.e2 Qm.gIx (Qm.eV 0) (Qm.eC (.int 1))) (Qm.aCons (Qm.e2 Qm.gIx (Qm.eV 0) (Qm.eC (.int 2))) Qm.aNil)))))
      Qm.sNil))
      (Qm.sRet (Qm.eV 0)))
noncomputable def F_law_unlike : Qm.FN := Qm.mkF 2 3 B_law_unlike
noncomputable def B_law_between : Qm.XS := (Qm.sSeq (Qm.sSet 3 (Qm.e2 Qm.gSub (Qm.eCall F_law_digit [] (Qm.aCons (Qm.eV 0) (Qm.aCons (Qm.eC (.int 7)) Qm.aNil))) (Qm.eC (.int 1))))
      (Qm.sSeq (Qm.sSet 4 (Qm.e2 Qm.gAdd (Qm.eC (.int 1)) (Qm.eCall F_law_digit [] (Qm.aCons (Qm.eV 0) (Qm.aCons (Qm.eC (.int 5)) Qm.aNil)))))
      (Qm.sSeq (Qm.sSet 5 (Qm.e2 Qm.gAdd (Qm.e2 Qm.gMul (Qm.e2 Qm.gMul (Qm.e2 Qm.gIx (Qm.eV 1) (Qm.eC (.int 0))) (Qm.e2 Qm.gIx (Qm.eV 2) (Qm.eC (.int 2)))) (Qm.e2 Qm.gSub (Qm.eV 4) (Qm.eV 3))) (Qm.e2 Qm.gMul (Qm.e2 Qm.gMul (Qm.e2 Qm.gIx (Qm.eV 2) (Qm.eC (.int 0))) (Qm.e2 Qm.gIx (Qm.eV 1) (Qm.eC (.int 2)))) (Qm.eV 3))))
      (Qm.sSeq (Qm.sSet 6 (Qm.e2 Qm.gAdd (Qm.e2 Qm.gMul (Qm.e2 Qm.gMul (Qm.e2 Qm.gIx (Qm.eV 1) (Qm.eC (.int 1))) (Qm.e2 Qm.gIx (Qm.eV 2) (Qm.eC (.int 2)))) (Qm.e2 Qm.gSub (Qm.eV 4) (Qm.eV 3))) (Qm.e2 Qm.gMul (Qm.e2 Qm.gMul (Qm.e2 Qm.gIx (Qm.eV 2) (Qm.eC (.int 1))) (Qm.e2 Qm.gIx (Qm.eV 1) (Qm.eC (.int 2)))) (Qm.eV 3))))
      (Qm.sRet (Qm.eCall F_law_lowest [] (Qm.aCons (Qm.eV 5) (Qm.aCons (Qm.eV 6) (Qm.aCons (Qm.e2 Qm.gMul (Qm.e2 Qm.gMul (Qm.e2 Qm.gIx (Qm.eV 1) (Qm.eC (.int 2))) (Qm.e2 Qm.gIx (Qm.eV 2) (Qm.eC (.int 2)))) (Qm.eV 4)) Qm.aNil)))))))))
noncomputable def F_law_between : Qm.FN := Qm.mkF 3 7 B_law_between
noncomputable def B_law_lone : Qm.XS := (Qm.sRet (Qm.eTup (Qm.aCons (Qm.eC (.str "spot")) (Qm.aCons (Qm.eCall F_law_lowest [] (Qm.aCons (Qm.eV 0) (Qm.aCons (Qm.eV 1) (Qm.aCons (Qm.eV 2) Qm.aNil)))) Qm.aNil))))
noncomputable def F_law_lone : Qm.FN := Qm.mkF 3 3 B_law_lone
noncomputable def B_law_in_row : Qm.XS := (Qm.sSeq (Qm.sSet 3 (Qm.eB Qm.bMax2T (Qm.aCons (Qm.e2 Qm.gIx (Qm.eV 0) (Qm.eC (.int 0))) (Qm.aCons (Qm.e2 Qm.gIx (Qm.eV 1) (Qm.eC (.int 0))) Qm.aNil))))
      (Qm.sSeq (Qm.sSet 4 (Qm.eB Qm.bMin2T (Qm.aCons (Qm.e2 Qm.gIx (Qm.eV 0) (Qm.eC (.int 1))) (Qm.aCons (Qm.e2 Qm.gIx (Qm.eV 1) (Qm.eC (.int 1))) Qm.aNil))))
      (Qm.sSeq (Qm.sIf (Qm.tV (Qm.e2 Qm.gGtT (Qm.eV 3) (Qm.eV 4)))
      (Qm.sRet (Qm.eC .non))
      Qm.sNil)
      (Qm.sSeq (Qm.sIf (Qm.tV (Qm.e2 Qm.gEq (Qm.eV 3) (Qm.eV 4)))
      (Qm.sRet (Qm.eCall F_law_lone [] (Qm.aCons (Qm.e2 Qm.gIx (Qm.eV 3) (Qm.eC (.int 0))) (Qm.aCons (Qm.e2 Qm.gIx (Qm.eV 3) (Qm.eC (.int 1))) (Qm.aCons (Qm.eV 2) Qm.aNil)))))
      Qm.sNil)
      (Qm.sRet (Qm.eTup (Qm.aCons (Qm.eC (.str "stretch")) (Qm.aCons (Qm.eCall F_law_lowest [] (Qm.aCons (Qm.e2 Qm.gIx (Qm.eV 3) (Qm.eC (.int 0))) (Qm.aCons (Qm.e2 Qm.gIx (Qm.eV 3) (Qm.eC (.int 1))) (Qm.aCons (Qm.eV 2) Qm.aNil)))) (Qm.aCons (Qm.eCall F_law_lowest [] (Qm.aCons (Qm.e2 Qm.gIx (Qm.eV 4) (Qm.eC (.int 0))) (Qm.aCons (Qm.e2 Qm.gIx (Qm.eV 4) (Qm.eC (.int 1))) (Qm.aCons (Qm.eV 2) Qm.aNil)))) Qm.aNil)))))))))
noncomputable def F_law_in_row : Qm.FN := Qm.mkF 3 5 B_law_in_row
noncomputable def B_law_across : Qm.XS := (Qm.sRet (Qm.e2 Qm.gSub (Qm.e2 Qm.gMul (Qm.e2 Qm.gIx (Qm.eV 0) (Qm.eC (.int 0))) (Qm.e2 Qm.gIx (Qm.eV 1) (Qm.eC (.int 1)))) (Qm.e2 Qm.gMul (Qm.e2 Qm.gIx (Qm.eV 0) (Qm.eC (.int 1))) (Qm.e2 Qm.gIx (Qm.eV 1) (Qm.eC (.int 0))))))
noncomputable def F_law_across : Qm.FN := Qm.mkF 2 2 B_law_across
noncomputable def B_law_shares : Qm.XS := (Qm.sSeq (Qm.sSet 2 (Qm.e2 Qm.gMul (Qm.e2 Qm.gMul (Qm.e2 Qm.gMul (Qm.e2 Qm.gIx (Qm.e2 Qm.gIx (Qm.eV 0) (Qm.eC (.int 0))) (Qm.eC (.int 2))) (Qm.e2 Qm.gIx (Qm.e2 Qm.gIx (Qm.eV 0) (Qm.eC (.int 1))) (Qm.eC (.int 2)))) (Qm.e2 Qm.gIx (Qm.e2 Qm.gIx (Qm.eV 1) (Qm.eC (.int 0))) (Qm.eC (.int 2)))) (Qm.e2 Qm.gIx (Qm.e2 Qm.gIx (Qm.eV 1) (Qm.eC (.int 1))) (Qm.eC (.int 2)))))
      (Qm.sSeq (Qm.sAsg (Qm.eComp (Qm.iTup (Qm.e2 Qm.gAdd (Qm.eV 0) (Qm.eV 1))) [none, some 2] (Qm.gName 0) Qm.tYes (Qm.eTup (Qm.aCons (Qm.e2 Qm.gMul (Qm.e2 Qm.gIx (Qm.eV 0) (Qm.eC (.int 0))) (Qm.e2 Qm.gFdiv (Qm.eV 1) (Qm.e2 Qm.gIx (Qm.eV 0) (Qm.eC (.int 2))))) (Qm.aCons (Qm.e2 Qm.gMul (Qm.e2 Qm.gIx (Qm.eV 0) (Qm.eC (.int 1))) (Qm.e2 Qm.gFdiv (Qm.eV 1) (Qm.e2 Qm.gIx (Qm.eV 0) (Qm.eC (.int 2))))) Qm.aNil)))) (Qm.gUnL 4 (Qm.gCons (Qm.gName 3) (Qm.gCons (Qm.gName 4) (Qm.gCons (Qm.gName 5) (Qm.gCons (Qm.gName 6) Qm.gNil))))))
      (Qm.sSeq (Qm.sSet 7 (Qm.eTup (Qm.aCons (Qm.e2 Qm.gSub (Qm.e2 Qm.gIx (Qm.eV 4) (Qm.eC (.int 0))) (Qm.e2 Qm.gIx (Qm.eV 3) (Qm.eC (.int 0)))) (Qm.aCons (Qm.e2 Qm.gSub (Qm.e2 Qm.gIx (Qm.eV 4) (Qm.eC (.int 1))) (Qm.e2 Qm.gIx (Qm.eV 3) (Qm.eC (.int 1)))) Qm.aNil))))
      (Qm.sSeq (Qm.sSet 8 (Qm.eTup (Qm.aCons (Qm.e2 Qm.gSub (Qm.e2 Qm.gIx (Qm.eV 6) (Qm.eC (.int 0))) (Qm.e2 Qm.gIx (Qm.eV 5) (Qm.eC (.int 0)))) (Qm.aCons (Qm.e2 Qm.gSub (Qm.e2 Qm.gIx (Qm.eV 6) (Qm.eC (.int 1))) (Qm.e2 Qm.gIx (Qm.eV 5) (Qm.eC (.int 1)))) Qm.aNil))))
      (Qm.sSeq (Qm.sSet 9 (Qm.eTup (Qm.aCons (Qm.e2 Qm.gSub (Qm.e2 Qm.gIx (Qm.eV 5) (Qm.eC (.int 0))) (Qm.e2 Qm.gIx (Qm.eV 3) (Qm.eC (.int 0)))) (Qm.aCons (Qm.e2 Qm.gSub (Qm.e2 Qm.gIx (Qm.eV 5) (Qm.eC (.int 1))) (Qm.e2 Qm.gIx (Qm.eV 3) (Qm.eC (.int 1)))) Qm.aNil))))
      (Qm.sSeq (Qm.sSet 10 (Qm.eCall F_law_across [] (Qm.aCons (Qm.eV 7) (Qm.aCons (Qm.eV 8) Qm.aNil))))
      (Qm.sSeq (Qm.sSet 11 (Qm.eCall F_law_across [] (Qm.aCons (Qm.eV 9) (Qm.aCons (Qm.eV 8) Qm.aNil))))
      (Qm.sSeq (Qm.sSet 12 (Qm.eCall F_law_across [] (Qm.aCons (Qm.eV 9) (Qm.aCons (Qm.eV 7) Qm.aNil))))
      (Qm.sSeq (Qm.sIf (Qm.tAnd (Qm.tV (Qm.e2 Qm.gEq (Qm.eV 10) (Qm.eC (.int 0)))) (Qm.tV (Qm.e2 Qm.gEq (Qm.eV 12) (Qm.eC (.int 0)))))
      (Qm.sRet (Qm.eCall F_law_in_row [] (Qm.aCons (Qm.eB Qm.bSorted2 (Qm.aCons (Qm.eLst (Qm.aCons (Qm.eV 3) (Qm.aCons (Qm.eV 4) Qm.aNil))) Qm.aNil)) (Qm.aCons (Qm.eB Qm.bSorted2 (Qm.aCons (Qm.eLst (Qm.aCons (Qm.eV 5) (Qm.aCons (Qm.eV 6) Qm.aNil))) Qm.aNil)) (Qm.aCons (Qm.eV 2) Qm.aNil)))))
      Qm.sNil)
      (Qm.sSeq (Qm.sIf (Qm.tV (Qm.e2 Qm.gLt (Qm.eV 10) (Qm.eC (.int 0))))
      (Qm.sPar [10, 11, 12] (Qm.aCons (Qm.e2 Qm.gSub (Qm.eC (.int 0)) (Qm.eV 10)) (Qm.aCons (Qm.e2 Qm.gSub (Qm.eC (.int 0)) (Qm.eV 11)) (Qm.aCons (Qm.e2 Qm.gSub (Qm.eC (.int 0)) (Qm.eV 12)) Qm.aNil))))
      Qm.sNil)
      (Qm.sSeq (Qm.sIf (Qm.tOr (Qm.tV (Qm.e2 Qm.gEq (Qm.eV 10) (Qm.eC (.int 0)))) (Qm.tOr (Qm.tNot (Qm.tV (Qm.eChain Qm.gLe Qm.gLe (Qm.eC (.int 0)) (Qm.eV 11) (Qm.eV 10)))) (Qm.tNot (Qm.tV (Qm.eChain Qm.gLe Qm.gLe (Qm.eC (.int 0)) (Qm.eV 12) (Qm.eV 10))))))
      (Qm.sRet (Qm.eC .non))
      Qm.sNil)
      (Qm.sRet (Qm.eCall F_law_lone [] (Qm.aCons (Qm.e2 Qm.gAdd (Qm.e2 Qm.gMul (Qm.e2 Qm.gIx (Qm.eV 3) (Qm.eC (.int 0))) (Qm.eV 10)) (Qm.e2 Qm.gMul (Qm.e2 Qm.gIx (Qm.eV 7) (Qm.eC (.int 0))) (Qm.eV 11))) (Qm.aCons (Qm.e2 Qm.gAdd (Qm.e2 Qm.gMul (Qm.e2 Qm.gIx (Qm.eV 3) (Qm.eC (.int 1))) (Qm.eV 10)) (Qm.e2 Qm.gMul (Qm.e2 Qm.gIx (Qm.eV 7) (Qm.eC (.int 1))) (Qm.eV 11))) (Qm.aCons (Qm.e2 Qm.gMul (Qm.eV 2) (Qm.eV 10)) Qm.aNil))))))))))))))))
noncomputable def F_law_shares : Qm.FN := Qm.mkF 2 13 B_law_shares
noncomputable def B_law_second : Qm.XS := (Qm.sSeq (Qm.sSet 3 (Qm.eCall F_law_digit [] (Qm.aCons (Qm.eV 0) (Qm.aCons (Qm.eC (.int 7)) Qm.aNil))))
      (Qm.sSeq (Qm.sSet 4 (Qm.eCall F_law_spot [] (Qm.aCons (Qm.eV 0) Qm.aNil)))
      (Qm.sSeq (Qm.sSet 5 (Qm.eCall F_law_spot [] (Qm.aCons (Qm.eV 0) Qm.aNil)))
      (Qm.sSeq (Qm.sIf (Qm.tV (Qm.e2 Qm.gEq (Qm.eV 3) (Qm.eC (.int 1))))
      (Qm.sSet 4 (Qm.eCall F_law_between [] (Qm.aCons (Qm.eV 0) (Qm.aCons (Qm.eV 1) (Qm.aCons (Qm.eV 2) Qm.aNil)))))
      Qm.sNil)
      (Qm.sSeq (Qm.sIf (Qm.tV (Qm.e2 Qm.gEq (Qm.eV 3) (Qm.eC (.int 2))))
      (Qm.sSeq (Qm.sSet 4 (Qm.eCall F_law_between [] (Qm.aCons (Qm.eV 0) (Qm.aCons (Qm.eV 1) (Qm.aCons (Qm.eV 2) Qm.aNil)))))
      (Qm.sSet 5 (Qm.eCall F_law_between [] (Qm.aCons (Qm.eV 0) (Qm.aCons (Qm.eV 1) (Qm.aCons (Qm.eV 2) Qm.aNil))))))
      Qm.sNil)
      (Qm.sSeq (Qm.sIf (Qm.tV (Qm.e2 Qm.gEq (Qm.eV 3) (Qm.eC (.int 3))))
      (Qm.sSet 4 (Qm.e2 Qm.gIx (Qm.eLst (Qm.aCons (Qm.eV 1) (Qm.aCons (Qm.eV 2) Qm.aNil))) (Qm.eCall F_law_digit [] (Qm.aCons (Qm.eV 0) (Qm.aCons (Qm.eC (.int 2)) Qm.aNil)))))
      Qm.sNil)
      (Qm.sSeq (Qm.sIf (Qm.tV (Qm.e2 Qm.gEq (Qm.eV 3) (Qm.eC (.int 4))))
      (Qm.sAsg (Qm.e2 Qm.gIx (Qm.eLst (Qm.aCons (Qm.eTup (Qm.aCons (Qm.eV 1) (Qm.aCons (Qm.eV 2) Qm.aNil))) (Qm.aCons (Qm.eTup (Qm.aCons (Qm.eV 2) (Qm.aCons (Qm.eV 1) Qm.aNil))) Qm.aNil))) (Qm.eCall F_law_digit [] (Qm.aCons (Qm.eV 0) (Qm.aCons (Qm.eC (.int 2)) Qm.aNil)))) (Qm.gTup 2 (Qm.gCons (Qm.gName 4) (Qm.gCons (Qm.gName 5) Qm.gNil))))
      Qm.sNil)
      (Qm.sSeq (Qm.sIf (Qm.tV (Qm.e2 Qm.gEq (Qm.eV 3) (Qm.eC (.int 5))))
      (Qm.sSeq (Qm.sSet 6 (Qm.eCall F_law_between [] (Qm.aCons (Qm.eV 0) (Qm.aCons (Qm.eV 1) (Qm.aCons (Qm.eV 2) Qm.aNil)))))
      (Qm.sSet 5 (Qm.eCall F_law_lowest [] (Qm.aCons (Qm.e2 Qm.gSub (Qm.e2 Qm.gMul (Qm.e2 Qm.gMul (Qm.eC (.int 2)) (Qm.e2 Qm.gIx (Qm.eV 6) (Qm.eC (.int 0)))) (Qm.e2 Qm.gIx (Qm.eV 4) (Qm.eC (.int 2)))) (Qm.e2 Qm.gMul (Qm.e2 Qm.gIx (Qm.eV 4) (Qm.eC (.int 0))) (Qm.e2 Qm.gIx (Qm.eV 6) (Qm.eC (.int 2))))) (Qm.aCons (Qm.e2 Qm.gSub (Qm.e2 Qm.gMul (Qm.e2 Qm.gMul (Qm.eC (.int 2)) (Qm.e2 Qm.gIx (Qm.eV 6) (Qm.eC (.int 1)))) (Qm.e2 Qm.gIx (Qm.eV 4) (Qm.eC (.int 2)))) (Qm.e2 Qm.gMul (Qm.e2 Qm.gIx (Qm.eV 4) (Qm.eC (.int 1))) (Qm.e2 Qm.gIx (Qm.eV 6) (Qm.eC (.int 2))))) (Qm.aCons (Qm.e2 Qm.gMul (Qm.e2 Qm.gIx (Qm.eV 6) (Qm.eC (.int 2))) (Qm.e2 Qm.gIx (Qm.eV 4) (Qm.eC (.int 2)))) Qm.aNil))))))
      Qm.sNil)
      (Qm.sRet (Qm.eTup (Qm.aCons (Qm.eV 4) (Qm.aCons (Qm.eCall F_law_unlike [] (Qm.aCons (Qm.eV 5) (Qm.aCons (Qm.eLst (Qm.aCons (Qm.eV 4) Qm.aNil)) Qm.aNil))) Qm.aNil))))))))))))
noncomputable def F_law_second : Qm.FN := Qm.mkF 3 7 B_law_second
noncomputable def B_law_right : Qm.XS := (Qm.sSeq (Qm.sSet 3 (Qm.eCall F_common [] (Qm.aCons (Qm.eV 0) (Qm.aCons (Qm.eV 1) Qm.aNil))))
      (Qm.sSeq (Qm.sIf (Qm.tOr (Qm.tV (Qm.e2 Qm.gNe (Qm.eV 3) (Qm.eV 2))) (Qm.tAnd (Qm.tV (Qm.e2 Qm.gNotN (Qm.eV 2) (Qm.eC .non))) (Qm.tNot (Qm.tV (Qm.eB Qm.bIsinst (Qm.aCons (Qm.eV 3) (Qm.aCons (Qm.eC (.ty "tuple")) Qm.aNil)))))))
      (Qm.sRet (Qm.eC (.bl false)))
      Qm.sNil)
      (Qm.sSeq (Qm.sIf (Qm.tV (Qm.e2 Qm.gIsN (Qm.eV 2) (Qm.eC .non)))
      (Qm.sRet (Qm.eC (.bl true)))
      Qm.sNil)
      (Qm.sRet (Qm.eB Qm.bAll (Qm.aCons (Qm.eComp (Qm.iTup (Qm.eSl Qm.gCut (Qm.eV 3) (Qm.oSome (Qm.eC (.int 1))) Qm.oNone)) [none, some 0, some 1] (Qm.gName 0) Qm.tYes (Qm.eAnd (Qm.e2 Qm.gIsT (Qm.eCall F_on_side [] (Qm.aCons (Qm.eV 0) (Qm.aCons (Qm.eV 1) Qm.aNil))) (Qm.eC (.bl true))) (Qm.e2 Qm.gIsT (Qm.eCall F_on_side [] (Qm.aCons (Qm.eV 0) (Qm.aCons (Qm.eV 2) Qm.aNil))) (Qm.eC (.bl true))))) Qm.aNil))))))
noncomputable def F_law_right : Qm.FN := Qm.mkF 3 4 B_law_right
noncomputable def B_law : Qm.XS := (Qm.sSeq (Qm.sFor (Qm.iRng1 (Qm.aCons (Qm.eB Qm.bMax2 (Qm.aCons (Qm.eC (.int 1)) (Qm.aCons (Qm.eB Qm.bLen (Qm.aCons (Qm.eSl Qm.gCut (Qm.eV 0) (Qm.oSome (Qm.eC (.int 1))) (Qm.oSome (Qm.eC (.int 21)))) Qm.aNil)) Qm.aNil))) Qm.aNil)) (Qm.gName 1)
      (Qm.sSeq (Qm.sSet 2 (Qm.eCall F_law_pool [] (Qm.aCons (Qm.eV 0) (Qm.aCons (Qm.e2 Qm.gAdd (Qm.eC (.int 1)) (Qm.eV 1)) Qm.aNil))))
      (Qm.sSeq (Qm.sSet 3 (Qm.eCall F_law_spot [] (Qm.aCons (Qm.eV 2) Qm.aNil)))
      (Qm.sSeq (Qm.sSet 4 (Qm.eCall F_law_unlike [] (Qm.aCons (Qm.eCall F_law_spot [] (Qm.aCons (Qm.eV 2) Qm.aNil)) (Qm.aCons (Qm.eLst (Qm.aCons (Qm.eV 3) Qm.aNil)) Qm.aNil))))
      (Qm.sSeq (Qm.sAsg (Qm.eCall F_law_second [] (Qm.aCons (Qm.eV 2) (Qm.aCons (Qm.eV 3) (Qm.aCons (Qm.eV 4) Qm.aNil)))) (Qm.gTup 2 (Qm.gCons (Qm.gName 5) (Qm.gCons (Qm.gName 6) Qm.gNil))))
      (Qm.sSeq (Qm.sSet 7 (Qm.eCall F_law_shares [] (Qm.aCons (Qm.eTup (Qm.aCons (Qm.eV 3) (Qm.aCons (Qm.eV 4) Qm.aNil))) (Qm.aCons (Qm.eTup (Qm.aCons (Qm.eV 5) (Qm.aCons (Qm.eV 6) Qm.aNil))) Qm.aNil))))
      (Qm.sSeq (Qm.sIf (Qm.tOr (Qm.tNot (Qm.tV (Qm.eCall F_law_right [] (Qm.aCons (Qm.eTup (Qm.aCons (Qm.eV 3) (Qm.aCons (Qm.eV 4) Qm.aNil))) (Qm.aCons (Qm.eTup (Qm.aCons (Qm.eV 5) (Qm.aCons (Qm.eV 6) Qm.aNil))) (Qm.aCons (Qm.eV 7) Qm.aNil)))))) (Qm.tNot (Qm.tV (Qm.eCall F_law_right [] (Qm.aCons (Qm.eTup (Qm.aCons (Qm.eV 5) (Qm.aCons (Qm.eV 6) Qm.aNil))) (Qm.aCons (Qm.eTup (Qm.aCons (Qm.eV 3) (Qm.aCons (Qm.eV 4) Qm.aNil))) (Qm.aCons (Qm.eV 7) Qm.aNil)))))))
      (Qm.sRet (Qm.eC (.bl false)))
      Qm.sNil)
      (Qm.sIf (Qm.tOr (Qm.tNot (Qm.tV (Qm.eCall F_law_right [] (Qm.aCons (Qm.eTup (Qm.aCons (Qm.eV 4) (Qm.aCons (Qm.eV 3) Qm.aNil))) (Qm.aCons (Qm.eTup (Qm.aCons (Qm.eV 5) (Qm.aCons (Qm.eV 6) Qm.aNil))) (Qm.aCons (Qm.eV 7) Qm.aNil)))))) (Qm.tNot (Qm.tV (Qm.eCall F_law_right [] (Qm.aCons (Qm.eTup (Qm.aCons (Qm.eV 6) (Qm.aCons (Qm.eV 5) Qm.aNil))) (Qm.aCons (Qm.eTup (Qm.aCons (Qm.eV 4) (Qm.aCons (Qm.eV 3) Qm.aNil))) (Qm.aCons (Qm.eV 7) Qm.aNil)))))))
      (Qm.sRet (Qm.eC (.bl false)))
      Qm.sNil))))))))
      (Qm.sRet (Qm.eC (.bl true))))
noncomputable def F_law : Qm.FN := Qm.mkF 1 8 B_law
end Law
namespace Law
open PySem Qm PyProof.Rows
local macro_rules | `(tactic| walk_at "bd") => `(tactic| first | assumption | ((with_reducible show My.Bd _ (_ * _)); refine' My.Bd.mul ?_ ?_ <;> walk_at "bd") | ((with_reducible show My.Bd _ (_ + _)); refine' My.Bd.add ?_ ?_ <;> walk_at "bd") | ((with_reducible show My.Bd _ (_ - _)); refine' My.Bd.sub ?_ ?_ <;> walk_at "bd") | ((with_reducible show My.Bd _ (- _)); refine' My.Bd.neg ?_ <;> walk_at "bd") | (refine' bd64 ?_; omega))
local macro_rules | `(tactic| walk_at "bdm") => `(tactic| first | assumption | (refine' My.Bd.mono ?b1 ?b2; (case b1 => walk_at "bd"); (case b2 => decide)))
local macro_rules | `(tactic| walk_at "mo") => `(tactic| first | (refine mulL ?_; omega) | (refine mulR ?_; omega) | (refine mulB ?_ ?_ <;> walk_at "bdm"))
local macro_rules | `(tactic| walk_at "dis") => `(tactic| first | assumption | omega | walk_at "mo" | walk_at "bdm")
def Pool (n : Nat) (c : Cells) : Prop := ∃ a b : Int, c[n]? = some (.lst [.int a, .int b]) ∧ 0 ≤ a ∧ 0 ≤ b
structure Kp (n : Nat) (c c' : Cells) : Prop where
  len : c.length ≤ c'.length
  at_ : ∀ i, i < c.length → i ≠ n → c'[i]? = c[i]?
theorem Kp.refl (n : Nat) (c : Cells) : Kp n c c := ⟨Nat.le_refl _, fun _ _ _ => rfl⟩
theorem Kp.trans {n : Nat} {c c' c'' : Cells} (a : Kp n c c') (b : Kp n c' c'') : Kp n c c'' := ⟨Nat.le_trans a.len b.len, fun i h h' => (b.at_ i (Nat.lt_of_lt_of_le h a.len) h').trans (a.at_ i h h')⟩
theorem Kp.set {n : Nat} {c : Cells} {z : Cell} : Kp n c (c.set n z) := ⟨by rw [List.length_set]; exact Nat.le_refl _, fun i _ h => by rw [List.getElem?_set, if_neg (fun e => h e.symm)]⟩
theorem Kp.more {n : Nat} {c : Cells} {zs : List Cell} : Kp n c (c ++ zs) := ⟨by rw [List.length_append]; omega, fun i h _ => List.getElem?_append_left h⟩
theorem Kp.get {n i : Nat} {c c' : Cells} {z : Cell} (k : Kp n c c') (h : c[i]? = some z) (hi : i ≠ n) : c'[i]? = some z := by
  rw [k.at_ i (List.getElem?_eq_some_iff.mp h).1 hi]; exact h
theorem Pool.lt {n : Nat} {c : Cells} (h : Pool n c) : n < c.length := by
  obtain ⟨a, b, h, _⟩ := h
  exact (List.getElem?_eq_some_iff.mp h).1
theorem Pool.more {n : Nat} {c : Cells} {zs : List Cell} (h : Pool n c) : Pool n (c ++ zs) := by
  have hl := h.lt
  obtain ⟨a, b, h, r⟩ := h
  exact ⟨a, b, by rw [List.getElem?_append_left hl]; exact h, r⟩
theorem Pool.ne {n i : Nat} {c : Cells} (h : Pool n c) (hi : c.length ≤ i) : i ≠ n := by have := h.lt; omega
theorem digit_ {n : Nat} {c : Cells} {m : Int} (h : Pool n c) (h0 : 0 < m) (hm : My.Bd 8900 m) : ∃ d c', F_law_digit [.ref n, .int m] c = some (.int d, c') ∧ 0 ≤ d ∧ d < m ∧ Pool n c' ∧ Kp n c c' := by
  have hlt := h.lt
  obtain ⟨a, b, hc, a0, b0⟩ := h
  have s1 := seqOf_lst hc
  have l1 := lstOf_lst hc
  by_cases ha : a = 0
  · refine ⟨b % m, c.set n (.lst [.int a, .int (b / m)]), ?_, Int.emod_nonneg _ (by omega), Int.emod_lt_of_pos _ h0, ⟨a, b / m, ?_, a0, Int.ediv_nonneg b0 (by omega)⟩, Kp.set⟩
    · subst ha
      simp [F_law_digit, mkF_, B_law_digit, gIx_, s1, gMod_ h0, gFdiv_ h0 hm, gPut, l1, ixD]
    · simp [hlt]
  · refine ⟨a % m, c.set n (.lst [.int (a / m), .int b]), ?_, Int.emod_nonneg _ (by omega), Int.emod_lt_of_pos _ h0, ⟨a / m, b, ?_, Int.ediv_nonneg a0 (by omega), b0⟩, Kp.set⟩
    · simp [F_law_digit, mkF_, B_law_digit, gIx_, s1, gMod_ h0, gFdiv_ h0 hm, gPut, l1, ixD, ha]
    · simp [hlt]
theorem pool_ {s : Nat} {c : Cells} {ns : List Int} {k : Int} (hs : c[s]? = some (.ro (ns.map D.int))) (k0 : 0 ≤ k) (k1 : k < 1000) : ∃ a b, F_law_pool [.ref s, .int k] c = some (.ref c.length, c ++ [.lst [.int a, .int b]]) ∧ 0 ≤ a ∧ 0 ≤ b := by
  have s1 := seqOf_ro hs
  -- the loop
  have loop : ∀ (z mx : Int), ∃ mx' tt' j' mo', 0 ≤ tt' ∧ sFor (iRng1 (aCons (eC (.int 12)) aNil)) (gName 5)
      (sSeq (sSet 3 (e2 gAdd (e2 gMul (eV 3) (eC (.int 6364136223846793005))) (e2 gMul (eC (.int 1442695040888963407)) (e2 gAdd (e2 gAdd (eV 1) (eV 5)) (eC (.int 1))))))
      (sSeq (sSet 3 (e2 gMod (eV 3) (eC (.int 2305843009213693951))))
      (sSeq (sSet 6 (e2 gMul (e2 gFdiv (eV 3) (eC (.int 1024))) (e2 gAdd (e2 gAdd (e2 gMod (eV 3) (eC (.int 1000003))) (e2 gMul (eC (.int 7919)) (eV 5))) (eC (.int 1)))))
      (sSet 4 (e2 gAdd (e2 gMul (eV 4) (eC (.int 1099511627776))) (e2 gMod (eV 6) (eC (.int 1099511627776))))))))
      [some (.ref s), some (.int k), some (.int z), some (.int mx), some (.int 0), none, none, none] c = some (.nx, [some (.ref s), some (.int k), some (.int z), some (.int mx'), some (.int tt'), j', mo', none], c) := by
    intro z mx
    have hr : iRng1 (aCons (eC (.int 12)) aNil) [some (.ref s), some (.int k), some (.int z), some (.int mx), some (.int 0), none, none, none] c = some (⟨rng 0 12, []⟩, c) := iRng1' (j := 12) rfl (by decide)
    have key := forGo_inv (ks := []) (g := gName 5) (body := (sSeq (sSet 3 (e2 gAdd (e2 gMul (eV 3) (eC (.int 6364136223846793005))) (e2 gMul (eC (.int 1442695040888963407)) (e2 gAdd (e2 gAdd (eV 1) (eV 5)) (eC (.int 1))))))
      (sSeq (sSet 3 (e2 gMod (eV 3) (eC (.int 2305843009213693951))))
      (sSeq (sSet 6 (e2 gMul (e2 gFdiv (eV 3) (eC (.int 1024))) (e2 gAdd (e2 gAdd (e2 gMod (eV 3) (eC (.int 1000003))) (e2 gMul (eC (.int 7919)) (eV 5))) (eC (.int 1)))))
      (sSet 4 (e2 gAdd (e2 gMul (eV 4) (eC (.int 1099511627776))) (e2 gMod (eV 6) (eC (.int 1099511627776)))))))))
      (fun _ σ c' => ∃ mx' tt' j' mo', 0 ≤ tt' ∧ σ = [some (.ref s), some (.int k), some (.int z), some (.int mx'), some (.int tt'), j', mo', none] ∧ c' = c) (rng 0 12) 0 [some (.ref s), some (.int k), some (.int z), some (.int mx), some (.int 0), none, none, none] c (fun _ _ _ _ => stays_nil)
    have key2 := key (by
        rintro i d σ c' hd ⟨mx', tt', j', mo', h1, rfl, rfl⟩
        obtain ⟨hi, rfl⟩ : i < 12 ∧ d = .int (0 + (i : Int)) := by
          unfold rng at hd
          rw [List.getElem?_map] at hd
          by_cases hi : i < 12
          · rw [List.getElem?_range hi] at hd; cases hd; exact ⟨hi, rfl⟩
          · rw [List.getElem?_eq_none_iff.mpr (by simpa using Nat.le_of_not_lt hi)] at hd; cases hd
        have hM0 := Int.emod_nonneg (mx' * 6364136223846793005 + 1442695040888963407 * (k + (0 + (i : Int)) + 1)) (show (2305843009213693951 : Int) ≠ 0 by decide)
        have hM1 := Int.emod_lt_of_pos (mx' * 6364136223846793005 + 1442695040888963407 * (k + (0 + (i : Int)) + 1)) (show (0 : Int) < 2305843009213693951 by decide)
        refine ⟨_, c', [some (.ref s), some (.int k), some (.int z), some (.int ((mx' * 6364136223846793005 + 1442695040888963407 * (k + (0 + (i : Int)) + 1)) % 2305843009213693951)), some (.int (tt' * 1099511627776 + ((mx' * 6364136223846793005 + 1442695040888963407 * (k + (0 + (i : Int)) + 1)) % 2305843009213693951) / 1024 * (((mx' * 6364136223846793005 + 1442695040888963407 * (k + (0 + (i : Int)) + 1)) % 2305843009213693951) % 1000003 + 7919 * (0 + (i : Int)) + 1) % 1099511627776)), some (.int (0 + (i : Int))), some (.int (((mx' * 6364136223846793005 + 1442695040888963407 * (k + (0 + (i : Int)) + 1)) % 2305843009213693951) / 1024 * (((mx' * 6364136223846793005 + 1442695040888963407 * (k + (0 + (i : Int)) + 1)) % 2305843009213693951) % 1000003 + 7919 * (0 + (i : Int)) + 1))), none], c', rfl, ?_, ⟨_, _, _, _, ?_, rfl, rfl⟩⟩
        · simp (disch := walk_at "dis") only [sSeq_, sSet_, e2_, eV_, eC_, gAdd_, gMul_, gMod_, gFdiv_, gName_, List.getElem?_cons_succ, List.getElem?_cons_zero, Option.join_some, Option.bind_some, List.set_cons_succ, List.set_cons_zero, sq_nx]
        · have := Int.emod_nonneg (((mx' * 6364136223846793005 + 1442695040888963407 * (k + (0 + (i : Int)) + 1)) % 2305843009213693951) / 1024 * (((mx' * 6364136223846793005 + 1442695040888963407 * (k + (0 + (i : Int)) + 1)) % 2305843009213693951) % 1000003 + 7919 * (0 + (i : Int)) + 1)) (show (1099511627776 : Int) ≠ 0 by decide)
          omega) ⟨mx, 0, none, none, Int.le_refl _, rfl, rfl⟩
    obtain ⟨σ', c', e, mx', tt', j', mo', h1, h2, h3⟩ := key2
    subst h2 h3
    refine ⟨mx', tt', j', mo', h1, ?_⟩
    unfold sFor
    rw [hr]
    exact e
  have hl : ((ns.map D.int).length : Int) = ns.length := by simp
  -- the own cell
  by_cases hk : k < ns.length
  · obtain ⟨z, hz⟩ : ∃ z, atD (ns.map D.int) k = some (.int z) := by
      have hkn : k.toNat < ns.length := by omega
      refine ⟨ns[k.toNat], ?_⟩
      have := atD_nat (xs := ns.map D.int) (n := k.toNat) (x := .int ns[k.toNat]) (by simp [hkn])
      rwa [show ((k.toNat : Nat) : Int) = k by omega] at this
    obtain ⟨w0, hw⟩ : ∃ w0, atD (ns.map D.int) 0 = some (.int w0) := by
      cases ns with
      | nil => simp at hk; omega
      | cons n ns => exact ⟨n, by simp⟩
    obtain ⟨mx', tt', j', mo', ht, el⟩ := loop z ((if z < 0 then -z else z) % 2305843009213693951 + 7919 * k + 5)
    refine ⟨(if z < 0 then -z else z) * (if decide (w0 % 2 = 1) = true then 1 else 0), tt', ?_, Int.mul_nonneg (by split <;> omega) (by split <;> omega), ht⟩
    rw [F_law_pool, mkF_, B_law_pool]
    have hk' : decide (k < ((ns.map D.int).length : Int)) = true := by rw [hl]; exact decide_eq_true hk
    have h0 : decide ((0 : Int) < ((ns.map D.int).length : Int)) = true := by rw [hl]; exact decide_eq_true (by omega)
    simp (disch := walk_at "dis") only [mkF_, sSeq_, sSet_, sAsg_, sPar_, sIf_, sRet_, sExpr_, sNil_, eC_, eV_, e1_, e2_, asB_, asI_, eAnd_, eOr_, eNot_, eIf_, aNil_, aCons_, eTup_, eLst_, eCall_, eB_, eM_, oNone_, eSl_, tV_, tAnd_, tOr_, tNot_, tYes_, eChain_, gName_, gNil_, gCons_, gTup_, sq_nx, sq_rt, fin_rt, fin_nx, gSub_, gAdd_, gLt_, gLe_, gGt_, gGe_, gNeg_, gMul_, gFdiv_, gMod_, gEq_int, gNe_int, gEq_bl, gNe_bl, seqOf_tup, gIx_tup, atD_0, atD_1, atD_2, bAbs_, bInt_bl, bMax2_, bMin2_, line1, line2, line3, line4, line5, line6, line7, line8, List.getElem?_cons_succ, List.getElem?_cons_zero, Option.join_some, Option.join_none, Option.bind_some, Option.bind_none, List.set_cons_succ, List.set_cons_zero, List.map_cons, List.map_nil, List.length_cons, List.length_nil, List.append_nil, List.nil_append, List.cons_append, List.replicate_succ, List.replicate_zero, Nat.reduceAdd, Nat.reduceSub, Nat.reduceEqDiff, if_true, if_false, Bool.false_eq_true, decide_true, decide_false, Bool.not_true, Bool.not_false, eq_self_iff_true, reduceIte, List.zip_cons_cons, List.zip_nil_right, List.zip_nil_left, List.foldl_cons, List.foldl_nil, Int.reduceLT, Int.reduceEq, Int.reduceLE, bLen_, s1, gIx_, hk', hz, hw, el, h0]
  · have hk' : decide (k < ((ns.map D.int).length : Int)) = false := by rw [hl]; exact decide_eq_false (by omega)
    obtain ⟨mx', tt', j', mo', ht, el⟩ := loop 0 (0 % 2305843009213693951 + 7919 * k + 5)
    by_cases hn : 0 < ns.length
    · obtain ⟨w0, hw⟩ : ∃ w0, atD (ns.map D.int) 0 = some (.int w0) := by
        cases ns with
        | nil => simp at hn
        | cons n ns => exact ⟨n, by simp⟩
      have h0 : decide ((0 : Int) < ((ns.map D.int).length : Int)) = true := by rw [hl]; exact decide_eq_true (by omega)
      refine ⟨0 * (if decide (w0 % 2 = 1) = true then 1 else 0), tt', ?_, by simp, ht⟩
      rw [F_law_pool, mkF_, B_law_pool]
      simp (disch := walk_at "dis") only [mkF_, sSeq_, sSet_, sAsg_, sPar_, sIf_, sRet_, sExpr_, sNil_, eC_, eV_, e1_, e2_, asB_, asI_, eAnd_, eOr_, eNot_, eIf_, aNil_, aCons_, eTup_, eLst_, eCall_, eB_, eM_, oNone_, eSl_, tV_, tAnd_, tOr_, tNot_, tYes_, eChain_, gName_, gNil_, gCons_, gTup_, sq_nx, sq_rt, fin_rt, fin_nx, gSub_, gAdd_, gLt_, gLe_, gGt_, gGe_, gNeg_, gMul_, gFdiv_, gMod_, gEq_int, gNe_int, gEq_bl, gNe_bl, seqOf_tup, gIx_tup, atD_0, atD_1, atD_2, bAbs_, bInt_bl, bMax2_, bMin2_, line1, line2, line3, line4, line5, line6, line7, line8, List.getElem?_cons_succ, List.getElem?_cons_zero, Option.join_some, Option.join_none, Option.bind_some, Option.bind_none, List.set_cons_succ, List.set_cons_zero, List.map_cons, List.map_nil, List.length_cons, List.length_nil, List.append_nil, List.nil_append, List.cons_append, List.replicate_succ, List.replicate_zero, Nat.reduceAdd, Nat.reduceSub, Nat.reduceEqDiff, if_true, if_false, Bool.false_eq_true, decide_true, decide_false, Bool.not_true, Bool.not_false, eq_self_iff_true, reduceIte, List.zip_cons_cons, List.zip_nil_right, List.zip_nil_left, List.foldl_cons, List.foldl_nil, Int.reduceLT, Int.reduceEq, Int.reduceLE, bLen_, s1, gIx_, hk', hw, el, h0]
    · have h0 : decide ((0 : Int) < ((ns.map D.int).length : Int)) = false := by rw [hl]; exact decide_eq_false (by omega)
      refine ⟨0 * (if false = true then 1 else 0), tt', ?_, by simp, ht⟩
      rw [F_law_pool, mkF_, B_law_pool]
      simp (disch := walk_at "dis") only [mkF_, sSeq_, sSet_, sAsg_, sPar_, sIf_, sRet_, sExpr_, sNil_, eC_, eV_, e1_, e2_, asB_, asI_, eAnd_, eOr_, eNot_, eIf_, aNil_, aCons_, eTup_, eLst_, eCall_, eB_, eM_, oNone_, eSl_, tV_, tAnd_, tOr_, tNot_, tYes_, eChain_, gName_, gNil_, gCons_, gTup_, sq_nx, sq_rt, fin_rt, fin_nx, gSub_, gAdd_, gLt_, gLe_, gGt_, gGe_, gNeg_, gMul_, gFdiv_, gMod_, gEq_int, gNe_int, gEq_bl, gNe_bl, seqOf_tup, gIx_tup, atD_0, atD_1, atD_2, bAbs_, bInt_bl, bMax2_, bMin2_, line1, line2, line3, line4, line5, line6, line7, line8, List.getElem?_cons_succ, List.getElem?_cons_zero, Option.join_some, Option.join_none, Option.bind_some, Option.bind_none, List.set_cons_succ, List.set_cons_zero, List.map_cons, List.map_nil, List.length_cons, List.length_nil, List.append_nil, List.nil_append, List.cons_append, List.replicate_succ, List.replicate_zero, Nat.reduceAdd, Nat.reduceSub, Nat.reduceEqDiff, if_true, if_false, Bool.false_eq_true, decide_true, decide_false, Bool.not_true, Bool.not_false, eq_self_iff_true, reduceIte, List.zip_cons_cons, List.zip_nil_right, List.zip_nil_left, List.foldl_cons, List.foldl_nil, Int.reduceLT, Int.reduceEq, Int.reduceLE, bLen_, s1, gIx_, hk', el, h0]
theorem pow9 {c : Cells} : gPow (.int 10) (.int 9) c = some (.int 1000000000, c) := by
  unfold gPow; rw [ii_, if_pos (by decide)]; rfl
theorem drawn_ {n : Nat} {c : Cells} (h : Pool n c) : ∃ x c', F_law_drawn [.ref n] c = some (.int x, c') ∧ -1000000000 ≤ x ∧ x ≤ 1000000000 ∧ Pool n c' ∧ Kp n c c' := by
  obtain ⟨d1, c1, e1, l1, u1, p1, k1⟩ := digit_ h (m := 5) (by decide) (by walk_at "bdm")
  by_cases h1 : d1 < 2
  · obtain ⟨d2, c2, e2, l2, u2, p2, k2⟩ := digit_ p1 (m := 9) (by decide) (by walk_at "bdm")
    refine ⟨d2 - 4, c2, ?_, by omega, by omega, p2, k1.trans k2⟩
    simp (disch := walk_at "dis") only [mkF_, sSeq_, sSet_, sAsg_, sPar_, sIf_, sRet_, sExpr_, sNil_, eC_, eV_, e1_, e2_, asB_, asI_, eAnd_, eOr_, eNot_, eIf_, aNil_, aCons_, eTup_, eLst_, eCall_, eB_, eM_, oNone_, eSl_, tV_, tAnd_, tOr_, tNot_, tYes_, eChain_, gName_, gNil_, gCons_, gTup_, sq_nx, sq_rt, fin_rt, fin_nx, gSub_, gAdd_, gLt_, gLe_, gGt_, gGe_, gNeg_, gMul_, gFdiv_, gMod_, gEq_int, gNe_int, gEq_bl, gNe_bl, seqOf_tup, gIx_tup, atD_0, atD_1, atD_2, bAbs_, bInt_bl, bMax2_, bMin2_, line1, line2, line3, line4, line5, line6, line7, line8, List.getElem?_cons_succ, List.getElem?_cons_zero, Option.join_some, Option.join_none, Option.bind_some, Option.bind_none, List.set_cons_succ, List.set_cons_zero, List.map_cons, List.map_nil, List.length_cons, List.length_nil, List.append_nil, List.nil_append, List.cons_append, List.replicate_succ, List.replicate_zero, Nat.reduceAdd, Nat.reduceSub, Nat.reduceEqDiff, if_true, if_false, Bool.false_eq_true, decide_true, decide_false, Bool.not_true, Bool.not_false, eq_self_iff_true, reduceIte, List.zip_cons_cons, List.zip_nil_right, List.zip_nil_left, List.foldl_cons, List.foldl_nil, Int.reduceLT, Int.reduceEq, Int.reduceLE, F_law_drawn, B_law_drawn, e1, h1, e2]
  by_cases h2 : d1 = 2
  · obtain ⟨d2, c2, e2, l2, u2, p2, k2⟩ := digit_ p1 (m := 1999999) (by decide) (by walk_at "bdm")
    refine ⟨d2 - 999999, c2, ?_, by omega, by omega, p2, k1.trans k2⟩
    simp (disch := walk_at "dis") only [mkF_, sSeq_, sSet_, sAsg_, sPar_, sIf_, sRet_, sExpr_, sNil_, eC_, eV_, e1_, e2_, asB_, asI_, eAnd_, eOr_, eNot_, eIf_, aNil_, aCons_, eTup_, eLst_, eCall_, eB_, eM_, oNone_, eSl_, tV_, tAnd_, tOr_, tNot_, tYes_, eChain_, gName_, gNil_, gCons_, gTup_, sq_nx, sq_rt, fin_rt, fin_nx, gSub_, gAdd_, gLt_, gLe_, gGt_, gGe_, gNeg_, gMul_, gFdiv_, gMod_, gEq_int, gNe_int, gEq_bl, gNe_bl, seqOf_tup, gIx_tup, atD_0, atD_1, atD_2, bAbs_, bInt_bl, bMax2_, bMin2_, line1, line2, line3, line4, line5, line6, line7, line8, List.getElem?_cons_succ, List.getElem?_cons_zero, Option.join_some, Option.join_none, Option.bind_some, Option.bind_none, List.set_cons_succ, List.set_cons_zero, List.map_cons, List.map_nil, List.length_cons, List.length_nil, List.append_nil, List.nil_append, List.cons_append, List.replicate_succ, List.replicate_zero, Nat.reduceAdd, Nat.reduceSub, Nat.reduceEqDiff, if_true, if_false, Bool.false_eq_true, decide_true, decide_false, Bool.not_true, Bool.not_false, eq_self_iff_true, reduceIte, List.zip_cons_cons, List.zip_nil_right, List.zip_nil_left, List.foldl_cons, List.foldl_nil, Int.reduceLT, Int.reduceEq, Int.reduceLE, F_law_drawn, B_law_drawn, e1, h1, h2, e2]
  by_cases h3 : d1 = 3
  · obtain ⟨d2, c2, e2, l2, u2, p2, k2⟩ := digit_ p1 (m := 3) (by decide) (by walk_at "bdm")
    obtain ⟨d3, c3, e3, l3, u3, p3, k3⟩ := digit_ p2 (m := 2) (by decide) (by walk_at "bdm")
    refine ⟨(999999 - d2) * (1 - 2 * d3), c3, ?_, ?_, ?_, p3, k1.trans (k2.trans k3)⟩
    · simp (disch := walk_at "dis") only [mkF_, sSeq_, sSet_, sAsg_, sPar_, sIf_, sRet_, sExpr_, sNil_, eC_, eV_, e1_, e2_, asB_, asI_, eAnd_, eOr_, eNot_, eIf_, aNil_, aCons_, eTup_, eLst_, eCall_, eB_, eM_, oNone_, eSl_, tV_, tAnd_, tOr_, tNot_, tYes_, eChain_, gName_, gNil_, gCons_, gTup_, sq_nx, sq_rt, fin_rt, fin_nx, gSub_, gAdd_, gLt_, gLe_, gGt_, gGe_, gNeg_, gMul_, gFdiv_, gMod_, gEq_int, gNe_int, gEq_bl, gNe_bl, seqOf_tup, gIx_tup, atD_0, atD_1, atD_2, bAbs_, bInt_bl, bMax2_, bMin2_, line1, line2, line3, line4, line5, line6, line7, line8, List.getElem?_cons_succ, List.getElem?_cons_zero, Option.join_some, Option.join_none, Option.bind_some, Option.bind_none, List.set_cons_succ, List.set_cons_zero, List.map_cons, List.map_nil, List.length_cons, List.length_nil, List.append_nil, List.nil_append, List.cons_append, List.replicate_succ, List.replicate_zero, Nat.reduceAdd, Nat.reduceSub, Nat.reduceEqDiff, if_true, if_false, Bool.false_eq_true, decide_true, decide_false, Bool.not_true, Bool.not_false, eq_self_iff_true, reduceIte, List.zip_cons_cons, List.zip_nil_right, List.zip_nil_left, List.foldl_cons, List.foldl_nil, Int.reduceLT, Int.reduceEq, Int.reduceLE, F_law_drawn, B_law_drawn, e1, h1, h2, h3, e2, e3]
    · have : d3 = 0 ∨ d3 = 1 := by omega
      rcases this with rfl | rfl <;> omega
    · have : d3 = 0 ∨ d3 = 1 := by omega
      rcases this with rfl | rfl <;> omega
  · obtain ⟨d2, c2, e2, l2, u2, p2, k2⟩ := digit_ p1 (m := 2 * 1000000000 + 1) (by decide) (by walk_at "bdm")
    refine ⟨d2 - 1000000000, c2, ?_, by omega, by omega, p2, k1.trans k2⟩
    simp (disch := walk_at "dis") only [mkF_, sSeq_, sSet_, sAsg_, sPar_, sIf_, sRet_, sExpr_, sNil_, eC_, eV_, e1_, e2_, asB_, asI_, eAnd_, eOr_, eNot_, eIf_, aNil_, aCons_, eTup_, eLst_, eCall_, eB_, eM_, oNone_, eSl_, tV_, tAnd_, tOr_, tNot_, tYes_, eChain_, gName_, gNil_, gCons_, gTup_, sq_nx, sq_rt, fin_rt, fin_nx, gSub_, gAdd_, gLt_, gLe_, gGt_, gGe_, gNeg_, gMul_, gFdiv_, gMod_, gEq_int, gNe_int, gEq_bl, gNe_bl, seqOf_tup, gIx_tup, atD_0, atD_1, atD_2, bAbs_, bInt_bl, bMax2_, bMin2_, line1, line2, line3, line4, line5, line6, line7, line8, List.getElem?_cons_succ, List.getElem?_cons_zero, Option.join_some, Option.join_none, Option.bind_some, Option.bind_none, List.set_cons_succ, List.set_cons_zero, List.map_cons, List.map_nil, List.length_cons, List.length_nil, List.append_nil, List.nil_append, List.cons_append, List.replicate_succ, List.replicate_zero, Nat.reduceAdd, Nat.reduceSub, Nat.reduceEqDiff, if_true, if_false, Bool.false_eq_true, decide_true, decide_false, Bool.not_true, Bool.not_false, eq_self_iff_true, reduceIte, List.zip_cons_cons, List.zip_nil_right, List.zip_nil_left, List.foldl_cons, List.foldl_nil, Int.reduceLT, Int.reduceEq, Int.reduceLE, F_law_drawn, B_law_drawn, e1, h1, h2, h3, pow9, e2]
theorem below_ {n : Nat} {c : Cells} (h : Pool n c) : ∃ x c', F_law_below [.ref n] c = some (.int x, c') ∧ 1 ≤ x ∧ x ≤ 1000000000 ∧ Pool n c' ∧ Kp n c c' := by
  obtain ⟨d1, c1, e1, l1, u1, p1, k1⟩ := digit_ h (m := 5) (by decide) (by walk_at "bdm")
  have key : ∀ m : Int, 0 < m → m ≤ 1000000000 → atD [D.int 1, .int 1, .int 9, .int 999999, .int 1000000000] d1 = some (.int m) → ∃ x c', F_law_below [.ref n] c = some (.int x, c') ∧ 1 ≤ x ∧ x ≤ 1000000000 ∧ Pool n c' ∧ Kp n c c' := by
    intro m m0 m1 ha
    obtain ⟨d2, c2, e2, l2, u2, p2, k2⟩ := digit_ (p1.more (zs := [.lst [.int 1, .int 1, .int 9, .int 999999, .int 1000000000]])) (m := m) m0 (by walk_at "bdm")
    refine ⟨1 + d2, c2, ?_, by omega, by omega, p2, k1.trans (Kp.more.trans k2)⟩
    have s2 : seqOf (.ref c1.length) (c1 ++ [.lst [.int 1, .int 1, .int 9, .int 999999, .int 1000000000]]) = some [.int 1, .int 1, .int 9, .int 999999, .int 1000000000] := seqOf_lst (by simp)
    simp (disch := walk_at "dis") only [mkF_, sSeq_, sSet_, sAsg_, sPar_, sIf_, sRet_, sExpr_, sNil_, eC_, eV_, e1_, e2_, asB_, asI_, eAnd_, eOr_, eNot_, eIf_, aNil_, aCons_, eTup_, eLst_, eCall_, eB_, eM_, oNone_, eSl_, tV_, tAnd_, tOr_, tNot_, tYes_, eChain_, gName_, gNil_, gCons_, gTup_, sq_nx, sq_rt, fin_rt, fin_nx, gSub_, gAdd_, gLt_, gLe_, gGt_, gGe_, gNeg_, gMul_, gFdiv_, gMod_, gEq_int, gNe_int, gEq_bl, gNe_bl, seqOf_tup, gIx_tup, atD_0, atD_1, atD_2, bAbs_, bInt_bl, bMax2_, bMin2_, line1, line2, line3, line4, line5, line6, line7, line8, List.getElem?_cons_succ, List.getElem?_cons_zero, Option.join_some, Option.join_none, Option.bind_some, Option.bind_none, List.set_cons_succ, List.set_cons_zero, List.map_cons, List.map_nil, List.length_cons, List.length_nil, List.append_nil, List.nil_append, List.cons_append, List.replicate_succ, List.replicate_zero, Nat.reduceAdd, Nat.reduceSub, Nat.reduceEqDiff, if_true, if_false, Bool.false_eq_true, decide_true, decide_false, Bool.not_true, Bool.not_false, eq_self_iff_true, reduceIte, List.zip_cons_cons, List.zip_nil_right, List.zip_nil_left, List.foldl_cons, List.foldl_nil, Int.reduceLT, Int.reduceEq, Int.reduceLE, F_law_below, B_law_below, e1, pow9, gIx_, s2, ha, e2]
  have : d1 = 0 ∨ d1 = 1 ∨ d1 = 2 ∨ d1 = 3 ∨ d1 = 4 := by omega
  rcases this with rfl | rfl | rfl | rfl | rfl
  · exact key 1 (by decide) (by decide) rfl
  · exact key 1 (by decide) (by decide) rfl
  · exact key 9 (by decide) (by decide) rfl
  · exact key 999999 (by decide) (by decide) rfl
  · exact key 1000000000 (by decide) (by decide) rfl
theorem shared_ {a b : Int} {c : Cells} : F_law_shared [.int a, .int b] c = some (.int (Int.gcd a b), c) := by
  have loop : ∀ (n : Nat) (x y : Int), 0 ≤ x → 0 ≤ y → y.natAbs = n → sWhile (tV (e2 gGt (eV 1) (eC (.int 0)))) (sPar [0, 1] (aCons (eV 1) (aCons (e2 gMod (eV 0) (eV 1)) aNil))) [some (.int x), some (.int y)] c = some (.nx, [some (.int (Int.gcd x y)), some (.int 0)], c) := by
    intro n
    induction n using Nat.strongRecOn with
    | _ n ih =>
      intro x y hx hy hn
      by_cases h : 0 < y
      · have h1 := Int.emod_lt_of_pos x h
        have h2 := Int.emod_nonneg x (show y ≠ 0 by omega)
        have := ih (x % y).natAbs (by omega) y (x % y) hy h2 rfl
        rw [My.gcd_emod] at this
        refine sWhile_go (c' := c) (σ' := [some (.int y), some (.int (x % y))]) (c2 := c) ?_ ?_ this
        · simp (disch := walk_at "dis") only [mkF_, sSeq_, sSet_, sAsg_, sPar_, sIf_, sRet_, sExpr_, sNil_, eC_, eV_, e1_, e2_, asB_, asI_, eAnd_, eOr_, eNot_, eIf_, aNil_, aCons_, eTup_, eLst_, eCall_, eB_, eM_, oNone_, eSl_, tV_, tAnd_, tOr_, tNot_, tYes_, eChain_, gName_, gNil_, gCons_, gTup_, sq_nx, sq_rt, fin_rt, fin_nx, gSub_, gAdd_, gLt_, gLe_, gGt_, gGe_, gNeg_, gMul_, gFdiv_, gMod_, gEq_int, gNe_int, gEq_bl, gNe_bl, seqOf_tup, gIx_tup, atD_0, atD_1, atD_2, bAbs_, bInt_bl, bMax2_, bMin2_, line1, line2, line3, line4, line5, line6, line7, line8, List.getElem?_cons_succ, List.getElem?_cons_zero, Option.join_some, Option.join_none, Option.bind_some, Option.bind_none, List.set_cons_succ, List.set_cons_zero, List.map_cons, List.map_nil, List.length_cons, List.length_nil, List.append_nil, List.nil_append, List.cons_append, List.replicate_succ, List.replicate_zero, Nat.reduceAdd, Nat.reduceSub, Nat.reduceEqDiff, if_true, if_false, Bool.false_eq_true, decide_true, decide_false, Bool.not_true, Bool.not_false, eq_self_iff_true, reduceIte, List.zip_cons_cons, List.zip_nil_right, List.zip_nil_left, List.foldl_cons, List.foldl_nil, Int.reduceLT, Int.reduceEq, Int.reduceLE, h]
        · simp (disch := walk_at "dis") only [mkF_, sSeq_, sSet_, sAsg_, sPar_, sIf_, sRet_, sExpr_, sNil_, eC_, eV_, e1_, e2_, asB_, asI_, eAnd_, eOr_, eNot_, eIf_, aNil_, aCons_, eTup_, eLst_, eCall_, eB_, eM_, oNone_, eSl_, tV_, tAnd_, tOr_, tNot_, tYes_, eChain_, gName_, gNil_, gCons_, gTup_, sq_nx, sq_rt, fin_rt, fin_nx, gSub_, gAdd_, gLt_, gLe_, gGt_, gGe_, gNeg_, gMul_, gFdiv_, gMod_, gEq_int, gNe_int, gEq_bl, gNe_bl, seqOf_tup, gIx_tup, atD_0, atD_1, atD_2, bAbs_, bInt_bl, bMax2_, bMin2_, line1, line2, line3, line4, line5, line6, line7, line8, List.getElem?_cons_succ, List.getElem?_cons_zero, Option.join_some, Option.join_none, Option.bind_some, Option.bind_none, List.set_cons_succ, List.set_cons_zero, List.map_cons, List.map_nil, List.length_cons, List.length_nil, List.append_nil, List.nil_append, List.cons_append, List.replicate_succ, List.replicate_zero, Nat.reduceAdd, Nat.reduceSub, Nat.reduceEqDiff, if_true, if_false, Bool.false_eq_true, decide_true, decide_false, Bool.not_true, Bool.not_false, eq_self_iff_true, reduceIte, List.zip_cons_cons, List.zip_nil_right, List.zip_nil_left, List.foldl_cons, List.foldl_nil, Int.reduceLT, Int.reduceEq, Int.reduceLE, h]
      · have : y = 0 := by omega
        subst this
        have e := My.gcd_zero x
        rw [if_neg (by omega)] at e
        rw [e]
        refine sWhile_stop ?_
        simp (disch := walk_at "dis") only [mkF_, sSeq_, sSet_, sAsg_, sPar_, sIf_, sRet_, sExpr_, sNil_, eC_, eV_, e1_, e2_, asB_, asI_, eAnd_, eOr_, eNot_, eIf_, aNil_, aCons_, eTup_, eLst_, eCall_, eB_, eM_, oNone_, eSl_, tV_, tAnd_, tOr_, tNot_, tYes_, eChain_, gName_, gNil_, gCons_, gTup_, sq_nx, sq_rt, fin_rt, fin_nx, gSub_, gAdd_, gLt_, gLe_, gGt_, gGe_, gNeg_, gMul_, gFdiv_, gMod_, gEq_int, gNe_int, gEq_bl, gNe_bl, seqOf_tup, gIx_tup, atD_0, atD_1, atD_2, bAbs_, bInt_bl, bMax2_, bMin2_, line1, line2, line3, line4, line5, line6, line7, line8, List.getElem?_cons_succ, List.getElem?_cons_zero, Option.join_some, Option.join_none, Option.bind_some, Option.bind_none, List.set_cons_succ, List.set_cons_zero, List.map_cons, List.map_nil, List.length_cons, List.length_nil, List.append_nil, List.nil_append, List.cons_append, List.replicate_succ, List.replicate_zero, Nat.reduceAdd, Nat.reduceSub, Nat.reduceEqDiff, if_true, if_false, Bool.false_eq_true, decide_true, decide_false, Bool.not_true, Bool.not_false, eq_self_iff_true, reduceIte, List.zip_cons_cons, List.zip_nil_right, List.zip_nil_left, List.foldl_cons, List.foldl_nil, Int.reduceLT, Int.reduceEq, Int.reduceLE, h]
  have := loop _ (if a < 0 then -a else a) (if b < 0 then -b else b) (by split <;> omega) (by split <;> omega) rfl
  rw [My.gcd_abs] at this
  simp (disch := walk_at "dis") only [mkF_, sSeq_, sSet_, sAsg_, sPar_, sIf_, sRet_, sExpr_, sNil_, eC_, eV_, e1_, e2_, asB_, asI_, eAnd_, eOr_, eNot_, eIf_, aNil_, aCons_, eTup_, eLst_, eCall_, eB_, eM_, oNone_, eSl_, tV_, tAnd_, tOr_, tNot_, tYes_, eChain_, gName_, gNil_, gCons_, gTup_, sq_nx, sq_rt, fin_rt, fin_nx, gSub_, gAdd_, gLt_, gLe_, gGt_, gGe_, gNeg_, gMul_, gFdiv_, gMod_, gEq_int, gNe_int, gEq_bl, gNe_bl, seqOf_tup, gIx_tup, atD_0, atD_1, atD_2, bAbs_, bInt_bl, bMax2_, bMin2_, line1, line2, line3, line4, line5, line6, line7, line8, List.getElem?_cons_succ, List.getElem?_cons_zero, Option.join_some, Option.join_none, Option.bind_some, Option.bind_none, List.set_cons_succ, List.set_cons_zero, List.map_cons, List.map_nil, List.length_cons, List.length_nil, List.append_nil, List.nil_append, List.cons_append, List.replicate_succ, List.replicate_zero, Nat.reduceAdd, Nat.reduceSub, Nat.reduceEqDiff, if_true, if_false, Bool.false_eq_true, decide_true, decide_false, Bool.not_true, Bool.not_false, eq_self_iff_true, reduceIte, List.zip_cons_cons, List.zip_nil_right, List.zip_nil_left, List.foldl_cons, List.foldl_nil, Int.reduceLT, Int.reduceEq, Int.reduceLE, F_law_shared, B_law_shared, this]
def sp (x y w : Int) : D := .tup [.int x, .int y, .int w]
theorem lowest_ {x y w : Int} {c : Cells} (hw : w ≠ 0) (hb : My.Bd 8900 w) : F_law_lowest [.int x, .int y, .int w] c = some (sp (My.sx x y w) (My.sy x y w) (My.sw x y w), c) := by
  have gP : ∀ (z : Int), z ≠ 0 → My.Bd 8900 z → ∀ (n m : Int), 0 < (Int.gcd (Int.gcd n m : Int) z : Int) ∧ My.Bd 8900 (Int.gcd (Int.gcd n m : Int) z : Int) := fun z hz hb n m => by
    have g0 := My.gcd_pos (n := (Int.gcd n m : Int)) hz
    refine ⟨g0, My.Bd.of_le hb ?_⟩
    have := My.sg_le (n := (Int.gcd n m : Int)) hz
    rw [My.sg_natAbs] at this
    omega
  by_cases h : w < 0
  · obtain ⟨e1, e2, e3⟩ := My.lowest_neg (x := x) (y := y) h
    obtain ⟨g0, g1⟩ := gP (0 - w) (by omega) ⟨by have := hb.lt; omega⟩ (0 - x) (0 - y)
    simp (disch := walk_at "dis") only [mkF_, sSeq_, sSet_, sAsg_, sPar_, sIf_, sRet_, sExpr_, sNil_, eC_, eV_, e1_, e2_, asB_, asI_, eAnd_, eOr_, eNot_, eIf_, aNil_, aCons_, eTup_, eLst_, eCall_, eB_, eM_, oNone_, eSl_, tV_, tAnd_, tOr_, tNot_, tYes_, eChain_, gName_, gNil_, gCons_, gTup_, sq_nx, sq_rt, fin_rt, fin_nx, gSub_, gAdd_, gLt_, gLe_, gGt_, gGe_, gNeg_, gMul_, gFdiv_, gMod_, gEq_int, gNe_int, gEq_bl, gNe_bl, seqOf_tup, gIx_tup, atD_0, atD_1, atD_2, bAbs_, bInt_bl, bMax2_, bMin2_, line1, line2, line3, line4, line5, line6, line7, line8, List.getElem?_cons_succ, List.getElem?_cons_zero, Option.join_some, Option.join_none, Option.bind_some, Option.bind_none, List.set_cons_succ, List.set_cons_zero, List.map_cons, List.map_nil, List.length_cons, List.length_nil, List.append_nil, List.nil_append, List.cons_append, List.replicate_succ, List.replicate_zero, Nat.reduceAdd, Nat.reduceSub, Nat.reduceEqDiff, if_true, if_false, Bool.false_eq_true, decide_true, decide_false, Bool.not_true, Bool.not_false, eq_self_iff_true, reduceIte, List.zip_cons_cons, List.zip_nil_right, List.zip_nil_left, List.foldl_cons, List.foldl_nil, Int.reduceLT, Int.reduceEq, Int.reduceLE, F_law_lowest, B_law_lowest, h, shared_, e1, e2, e3]
    rfl
  · obtain ⟨e1, e2, e3⟩ := My.lowest_pos (x := x) (y := y) (w := w) (by omega)
    obtain ⟨g0, g1⟩ := gP w hw hb x y
    simp (disch := walk_at "dis") only [mkF_, sSeq_, sSet_, sAsg_, sPar_, sIf_, sRet_, sExpr_, sNil_, eC_, eV_, e1_, e2_, asB_, asI_, eAnd_, eOr_, eNot_, eIf_, aNil_, aCons_, eTup_, eLst_, eCall_, eB_, eM_, oNone_, eSl_, tV_, tAnd_, tOr_, tNot_, tYes_, eChain_, gName_, gNil_, gCons_, gTup_, sq_nx, sq_rt, fin_rt, fin_nx, gSub_, gAdd_, gLt_, gLe_, gGt_, gGe_, gNeg_, gMul_, gFdiv_, gMod_, gEq_int, gNe_int, gEq_bl, gNe_bl, seqOf_tup, gIx_tup, atD_0, atD_1, atD_2, bAbs_, bInt_bl, bMax2_, bMin2_, line1, line2, line3, line4, line5, line6, line7, line8, List.getElem?_cons_succ, List.getElem?_cons_zero, Option.join_some, Option.join_none, Option.bind_some, Option.bind_none, List.set_cons_succ, List.set_cons_zero, List.map_cons, List.map_nil, List.length_cons, List.length_nil, List.append_nil, List.nil_append, List.cons_append, List.replicate_succ, List.replicate_zero, Nat.reduceAdd, Nat.reduceSub, Nat.reduceEqDiff, if_true, if_false, Bool.false_eq_true, decide_true, decide_false, Bool.not_true, Bool.not_false, eq_self_iff_true, reduceIte, List.zip_cons_cons, List.zip_nil_right, List.zip_nil_left, List.foldl_cons, List.foldl_nil, Int.reduceLT, Int.reduceEq, Int.reduceLE, F_law_lowest, B_law_lowest, h, shared_, e1, e2, e3]
    rfl
structure Sp (k : Nat) (x y w : Int) : Prop where
  low : My.Low x y w
  bx : My.Bd k x
  by_ : My.Bd k y
  bw : My.Bd k w
theorem Sp.pos {k : Nat} {x y w : Int} (h : Sp k x y w) : 0 < w := h.low.pos
theorem Sp.mono {j k : Nat} {x y w : Int} (h : Sp j x y w) (e : j ≤ k) : Sp k x y w := ⟨h.low, h.bx.mono e, h.by_.mono e, h.bw.mono e⟩
theorem Sp.mk' {k : Nat} {x y w : Int} (hw : w ≠ 0) (bx : My.Bd k x) (by_ : My.Bd k y) (bw : My.Bd k w) : Sp k (My.sx x y w) (My.sy x y w) (My.sw x y w) :=
  ⟨My.spot_low hw, My.Bd.of_le bx (My.sx_le hw), My.Bd.of_le by_ (My.sy_le hw), My.Bd.of_le bw (My.sw_le hw)⟩
theorem bd31 {x : Int} (h1 : -1000000000 ≤ x) (h2 : x ≤ 1000000000) : My.Bd 31 x := ⟨by
  have : (2 : Nat) ^ 31 = 2147483648 := by decide
  omega⟩
theorem spot_ {n : Nat} {c : Cells} (h : Pool n c) : ∃ x y w c', F_law_spot [.ref n] c = some (sp x y w, c') ∧ Sp 31 x y w ∧ Pool n c' ∧ Kp n c c' := by
  obtain ⟨d1, c1, e1, l1, u1, p1, k1⟩ := digit_ h (m := 3) (by decide) (by walk_at "bdm")
  by_cases h1 : d1 = 0
  · obtain ⟨x, c2, e2, l2, u2, p2, k2⟩ := drawn_ p1
    obtain ⟨y, c3, e3, l3, u3, p3, k3⟩ := drawn_ p2
    obtain ⟨w, c4, e4, l4, u4, p4, k4⟩ := below_ p3
    have hw : w ≠ 0 := by omega
    refine ⟨_, _, _, c4, ?_, Sp.mk' hw (bd31 l2 u2) (bd31 l3 u3) (bd31 (by omega) u4), p4, k1.trans (k2.trans (k3.trans k4))⟩
    have e5 := lowest_ (x := x) (y := y) (c := c4) hw ((bd31 (by omega) u4).mono (by decide))
    simp (disch := walk_at "dis") only [mkF_, sSeq_, sSet_, sAsg_, sPar_, sIf_, sRet_, sExpr_, sNil_, eC_, eV_, e1_, e2_, asB_, asI_, eAnd_, eOr_, eNot_, eIf_, aNil_, aCons_, eTup_, eLst_, eCall_, eB_, eM_, oNone_, eSl_, tV_, tAnd_, tOr_, tNot_, tYes_, eChain_, gName_, gNil_, gCons_, gTup_, sq_nx, sq_rt, fin_rt, fin_nx, gSub_, gAdd_, gLt_, gLe_, gGt_, gGe_, gNeg_, gMul_, gFdiv_, gMod_, gEq_int, gNe_int, gEq_bl, gNe_bl, seqOf_tup, gIx_tup, atD_0, atD_1, atD_2, bAbs_, bInt_bl, bMax2_, bMin2_, line1, line2, line3, line4, line5, line6, line7, line8, List.getElem?_cons_succ, List.getElem?_cons_zero, Option.join_some, Option.join_none, Option.bind_some, Option.bind_none, List.set_cons_succ, List.set_cons_zero, List.map_cons, List.map_nil, List.length_cons, List.length_nil, List.append_nil, List.nil_append, List.cons_append, List.replicate_succ, List.replicate_zero, Nat.reduceAdd, Nat.reduceSub, Nat.reduceEqDiff, if_true, if_false, Bool.false_eq_true, decide_true, decide_false, Bool.not_true, Bool.not_false, eq_self_iff_true, reduceIte, List.zip_cons_cons, List.zip_nil_right, List.zip_nil_left, List.foldl_cons, List.foldl_nil, Int.reduceLT, Int.reduceEq, Int.reduceLE, F_law_spot, B_law_spot, e1, h1, e2, e3, e4, e5]
  · obtain ⟨x, c2, e2, l2, u2, p2, k2⟩ := digit_ p1 (m := 5 + 4 * d1) (by omega) (by walk_at "bdm")
    obtain ⟨y, c3, e3, l3, u3, p3, k3⟩ := digit_ p2 (m := 5 + 4 * d1) (by omega) (by walk_at "bdm")
    obtain ⟨z, c4, e4, l4, u4, p4, k4⟩ := digit_ (p3.more (zs := [.lst [.int 1, .int 1, .int 2]])) (m := 3) (by omega) (by walk_at "bdm")
    have hs : seqOf (.ref c3.length) c4 = some [.int 1, .int 1, .int 2] := seqOf_lst (k4.get (by simp) (p3.ne (Nat.le_refl _)))
    have key : ∀ w : Int, w ≠ 0 → w ≤ 2 → 0 ≤ w → atD [D.int 1, .int 1, .int 2] z = some (.int w) → ∃ x y w c', F_law_spot [.ref n] c = some (sp x y w, c') ∧ Sp 31 x y w ∧ Pool n c' ∧ Kp n c c' := by
      intro w hw w2 w0 ha
      refine ⟨_, _, _, c4, ?_, Sp.mk' hw (bd31 (x := x) (by omega) (by omega)) (bd31 (x := y) (by omega) (by omega)) (bd31 (by omega) (by omega)), p4, k1.trans (k2.trans (k3.trans (Kp.more.trans k4)))⟩
      have e5 := lowest_ (x := x) (y := y) (c := c4) hw (by walk_at "bdm")
      simp (disch := walk_at "dis") only [mkF_, sSeq_, sSet_, sAsg_, sPar_, sIf_, sRet_, sExpr_, sNil_, eC_, eV_, e1_, e2_, asB_, asI_, eAnd_, eOr_, eNot_, eIf_, aNil_, aCons_, eTup_, eLst_, eCall_, eB_, eM_, oNone_, eSl_, tV_, tAnd_, tOr_, tNot_, tYes_, eChain_, gName_, gNil_, gCons_, gTup_, sq_nx, sq_rt, fin_rt, fin_nx, gSub_, gAdd_, gLt_, gLe_, gGt_, gGe_, gNeg_, gMul_, gFdiv_, gMod_, gEq_int, gNe_int, gEq_bl, gNe_bl, seqOf_tup, gIx_tup, atD_0, atD_1, atD_2, bAbs_, bInt_bl, bMax2_, bMin2_, line1, line2, line3, line4, line5, line6, line7, line8, List.getElem?_cons_succ, List.getElem?_cons_zero, Option.join_some, Option.join_none, Option.bind_some, Option.bind_none, List.set_cons_succ, List.set_cons_zero, List.map_cons, List.map_nil, List.length_cons, List.length_nil, List.append_nil, List.nil_append, List.cons_append, List.replicate_succ, List.replicate_zero, Nat.reduceAdd, Nat.reduceSub, Nat.reduceEqDiff, if_true, if_false, Bool.false_eq_true, decide_true, decide_false, Bool.not_true, Bool.not_false, eq_self_iff_true, reduceIte, List.zip_cons_cons, List.zip_nil_right, List.zip_nil_left, List.foldl_cons, List.foldl_nil, Int.reduceLT, Int.reduceEq, Int.reduceLE, F_law_spot, B_law_spot, e1, h1, e2, e3, e4, gIx_, hs, ha, e5]
    have : z = 0 ∨ z = 1 ∨ z = 2 := by omega
    rcases this with rfl | rfl | rfl
    · exact key 1 (by decide) (by decide) (by decide) rfl
    · exact key 1 (by decide) (by decide) (by decide) rfl
    · exact key 2 (by decide) (by decide) (by decide) rfl
abbrev T3 := My.T3
def sd (p : T3) : D := sp p.1 p.2.1 p.2.2
def ld (l : List T3) : D := .tup (l.map sd)
abbrev Ok (k : Nat) (p : T3) : Prop := Sp k p.1 p.2.1 p.2.2
theorem Ok.lowT {k : Nat} {p : T3} (h : Ok k p) : My.LowT p := h.low
theorem gIx_sp {x y w i : Int} {c : Cells} : gIx (sp x y w) (.int i) c = (atD [D.int x, .int y, .int w] i).bind fun d => some (d, c) := rfl
theorem isb_ {p q : T3} {c : Cells} (hp : Ok 1000 p) (hq : Ok 1000 q) : F_is_below [sd p, sd q] c = some (.bl (decide (p.2.1 * q.2.2 < q.2.1 * p.2.2)), c) := by
  have a1 := hp.bx; have a2 := hp.by_; have a3 := hp.bw; have b1 := hq.bx; have b2 := hq.by_; have b3 := hq.bw
  simp (disch := walk_at "dis") only [mkF_, sSeq_, sSet_, sAsg_, sPar_, sIf_, sRet_, sExpr_, sNil_, eC_, eV_, e1_, e2_, asB_, asI_, eAnd_, eOr_, eNot_, eIf_, aNil_, aCons_, eTup_, eLst_, eCall_, eB_, eM_, oNone_, eSl_, tV_, tAnd_, tOr_, tNot_, tYes_, eChain_, gName_, gNil_, gCons_, gTup_, sq_nx, sq_rt, fin_rt, fin_nx, gSub_, gAdd_, gLt_, gLe_, gGt_, gGe_, gNeg_, gMul_, gFdiv_, gMod_, gEq_int, gNe_int, gEq_bl, gNe_bl, seqOf_tup, gIx_tup, atD_0, atD_1, atD_2, bAbs_, bInt_bl, bMax2_, bMin2_, line1, line2, line3, line4, line5, line6, line7, line8, List.getElem?_cons_succ, List.getElem?_cons_zero, Option.join_some, Option.join_none, Option.bind_some, Option.bind_none, List.set_cons_succ, List.set_cons_zero, List.map_cons, List.map_nil, List.length_cons, List.length_nil, List.append_nil, List.nil_append, List.cons_append, List.replicate_succ, List.replicate_zero, Nat.reduceAdd, Nat.reduceSub, Nat.reduceEqDiff, if_true, if_false, Bool.false_eq_true, decide_true, decide_false, Bool.not_true, Bool.not_false, eq_self_iff_true, reduceIte, List.zip_cons_cons, List.zip_nil_right, List.zip_nil_left, List.foldl_cons, List.foldl_nil, Int.reduceLT, Int.reduceEq, Int.reduceLE, F_is_below, B_is_below, sd, gIx_sp]
theorem ahead_ {p q : T3} {c : Cells} (hp : Ok 1000 p) (hq : Ok 1000 q) : F_ahead [sd p, sd q] c = some (.bl (My.ahT p q), c) := by
  have a1 := hp.bx; have a2 := hp.by_; have a3 := hp.bw; have b1 := hq.bx; have b2 := hq.by_; have b3 := hq.bw
  have e := isb_ (c := c) hp hq
  unfold sd at e ⊢
  unfold My.ahT My.ahd
  by_cases h : p.1 * q.2.2 = q.1 * p.2.2
  · rw [if_pos h]
    simp (disch := walk_at "dis") only [mkF_, sSeq_, sSet_, sAsg_, sPar_, sIf_, sRet_, sExpr_, sNil_, eC_, eV_, e1_, e2_, asB_, asI_, eAnd_, eOr_, eNot_, eIf_, aNil_, aCons_, eTup_, eLst_, eCall_, eB_, eM_, oNone_, eSl_, tV_, tAnd_, tOr_, tNot_, tYes_, eChain_, gName_, gNil_, gCons_, gTup_, sq_nx, sq_rt, fin_rt, fin_nx, gSub_, gAdd_, gLt_, gLe_, gGt_, gGe_, gNeg_, gMul_, gFdiv_, gMod_, gEq_int, gNe_int, gEq_bl, gNe_bl, seqOf_tup, gIx_tup, atD_0, atD_1, atD_2, bAbs_, bInt_bl, bMax2_, bMin2_, line1, line2, line3, line4, line5, line6, line7, line8, List.getElem?_cons_succ, List.getElem?_cons_zero, Option.join_some, Option.join_none, Option.bind_some, Option.bind_none, List.set_cons_succ, List.set_cons_zero, List.map_cons, List.map_nil, List.length_cons, List.length_nil, List.append_nil, List.nil_append, List.cons_append, List.replicate_succ, List.replicate_zero, Nat.reduceAdd, Nat.reduceSub, Nat.reduceEqDiff, if_true, if_false, Bool.false_eq_true, decide_true, decide_false, Bool.not_true, Bool.not_false, eq_self_iff_true, reduceIte, List.zip_cons_cons, List.zip_nil_right, List.zip_nil_left, List.foldl_cons, List.foldl_nil, Int.reduceLT, Int.reduceEq, Int.reduceLE, F_ahead, B_ahead, gIx_sp, decide_eq_true h, e]
  · rw [if_neg h]
    simp (disch := walk_at "dis") only [mkF_, sSeq_, sSet_, sAsg_, sPar_, sIf_, sRet_, sExpr_, sNil_, eC_, eV_, e1_, e2_, asB_, asI_, eAnd_, eOr_, eNot_, eIf_, aNil_, aCons_, eTup_, eLst_, eCall_, eB_, eM_, oNone_, eSl_, tV_, tAnd_, tOr_, tNot_, tYes_, eChain_, gName_, gNil_, gCons_, gTup_, sq_nx, sq_rt, fin_rt, fin_nx, gSub_, gAdd_, gLt_, gLe_, gGt_, gGe_, gNeg_, gMul_, gFdiv_, gMod_, gEq_int, gNe_int, gEq_bl, gNe_bl, seqOf_tup, gIx_tup, atD_0, atD_1, atD_2, bAbs_, bInt_bl, bMax2_, bMin2_, line1, line2, line3, line4, line5, line6, line7, line8, List.getElem?_cons_succ, List.getElem?_cons_zero, Option.join_some, Option.join_none, Option.bind_some, Option.bind_none, List.set_cons_succ, List.set_cons_zero, List.map_cons, List.map_nil, List.length_cons, List.length_nil, List.append_nil, List.nil_append, List.cons_append, List.replicate_succ, List.replicate_zero, Nat.reduceAdd, Nat.reduceSub, Nat.reduceEqDiff, if_true, if_false, Bool.false_eq_true, decide_true, decide_false, Bool.not_true, Bool.not_false, eq_self_iff_true, reduceIte, List.zip_cons_cons, List.zip_nil_right, List.zip_nil_left, List.foldl_cons, List.foldl_nil, Int.reduceLT, Int.reduceEq, Int.reduceLE, F_ahead, B_ahead, gIx_sp, decide_eq_false h]
def pd (p : T3) : PyData := .tuple [.int p.1, .int p.2.1, .int p.2.2]
theorem pd_inj {p q : T3} : pd p = pd q ↔ p = q := by
  obtain ⟨a, b, c⟩ := p
  obtain ⟨x, y, z⟩ := q
  simp [pd]
theorem data_sd {c : Cells} {k : Nat} {p : T3} : data c (k + 2) (sd p) = some (pd p) := rfl
theorem omap_map {α β γ : Type} {f : β → Option γ} {g : α → β} {h : α → γ} (e : ∀ a, f (g a) = some (h a)) : ∀ l : List α, omap f (l.map g) = some (l.map h)
  | [] => rfl
  | a :: l => by simp only [List.map_cons, omap, e, Option.bind_some, omap_map e l]
theorem eqM_sd {p q : T3} {c : Cells} : eqM (sd p) (sd q) c = some (decide (p = q)) := by
  have e : eqM (sd p) (sd q) c = (data c 6 (sd p)).bind fun d => (data c 6 (sd q)).bind fun e => some (@decide (d = e) (Classical.propDecidable _)) := rfl
  rw [e, data_sd, data_sd, Option.bind_some, Option.bind_some]
  congr 1
  rw [Bool.eq_iff_iff]; simp only [decide_eq_true_eq]
  exact pd_inj
theorem gEq_sd {p q : T3} {c : Cells} : gEq (sd p) (sd q) c = some (.bl (decide (p = q)), c) := by unfold gEq; rw [eqM_sd]; rfl
theorem oSome_ {a : XE} {σ : Qm.Env} {c : Cells} : oSome a σ c = (a σ c).bind fun p => (asI p.1).bind fun i => some (some i, p.2) := by
  unfold oSome
  cases a σ c with
  | none => rfl
  | some p => obtain ⟨d, c⟩ := p; cases d <;> rfl
theorem low_add {x y w : Int} (h : My.Low x y w) : My.Low (x + w) y w := by
  exact ⟨h.pos, by rw [show Int.gcd (x + w) w = Int.gcd x w by simp]; exact h.low⟩
def mv (p : T3) (i : Nat) : T3 := (p.1 + (i : Int) * p.2.2, p.2.1, p.2.2)
theorem mv_zero {p : T3} : mv p 0 = p := by simp [mv]
theorem mv_succ {p : T3} {i : Nat} : mv p (i + 1) = ((mv p i).1 + (mv p i).2.2, (mv p i).2.1, (mv p i).2.2) := by
  simp only [mv, Prod.mk.injEq, and_self, and_true]
  rw [Int.natCast_add, Int.add_mul]
  omega
theorem mv_low {p : T3} (h : My.LowT p) : ∀ i, My.LowT (mv p i)
  | 0 => by rw [mv_zero]; exact h
  | i + 1 => by rw [mv_succ]; exact low_add (mv_low h i)
theorem mv_inj {p : T3} (h : My.LowT p) {i j : Nat} (e : mv p i = mv p j) : i = j := by
  have e1 : p.1 + (i : Int) * p.2.2 = p.1 + (j : Int) * p.2.2 := congrArg Prod.fst e
  have e2 : (i : Int) * p.2.2 = (j : Int) * p.2.2 := by omega
  have h0 : p.2.2 ≠ 0 := by have := h.pos; omega
  have := Int.eq_of_mul_eq_mul_right h0 e2
  omega
theorem mv_ok {K : Nat} {p : T3} (h : Ok K p) {i : Nat} (hi : i ≤ 1000) : Ok (K + 11) (mv p i) := by
  have a1 := h.bx; have a2 := h.by_; have a3 := h.bw
  refine ⟨mv_low h.low i, ?_, h.by_.mono (by omega), h.bw.mono (by omega)⟩
  exact (My.Bd.add h.bx (My.Bd.mul (show My.Bd 10 (i : Int) from ⟨by omega⟩) h.bw)).mono (by omega)
theorem gIn_ {p : T3} {m : Nat} {l : List T3} {c : Cells} (h : c[m]? = some (.lst (l.map sd))) : gIn (sd p) (.ref m) c = some (.bl (decide (p ∈ l)), c) := by
  have o : omap (data c 5) (l.map sd) = some (l.map pd) := omap_map (fun a => data_sd) l
  unfold gIn inM
  rw [seqOf_lst h, Option.bind_some, data_sd, Option.bind_some, o, Option.bind_some, Option.bind_some]
  congr 3
  rw [Bool.eq_iff_iff]; simp only [decide_eq_true_eq]
  rw [List.mem_map]
  constructor
  · rintro ⟨q, h1, h2⟩
    rw [← pd_inj.mp h2]; exact h1
  · exact fun h => ⟨p, h, rfl⟩
theorem unlike_ {K : Nat} {p : T3} {m : Nat} {l : List T3} {c : Cells} (hK : K ≤ 2000) (hp : Ok K p) (h : c[m]? = some (.lst (l.map sd))) (hn : l.length ≤ 100) : ∃ q, F_law_unlike [sd p, .ref m] c = some (sd q, c) ∧ Ok (K + 11) q ∧ q ∉ l := by
  have hr : iRng1 (aCons (e2 gAdd (eB bLen (aCons (eV 1) aNil)) (eC (.int 1))) aNil) [some (sd p), some (.ref m), none] c = some (⟨rng 0 (l.length + 1), []⟩, c) := by
    refine (iRng1' (j := (l.length : Int) + 1) (c' := c) ?_ (by omega)).trans ?_
    · simp (disch := walk_at "dis") only [mkF_, sSeq_, sSet_, sAsg_, sPar_, sIf_, sRet_, sExpr_, sNil_, eC_, eV_, e1_, e2_, asB_, asI_, eAnd_, eOr_, eNot_, eIf_, aNil_, aCons_, eTup_, eLst_, eCall_, eB_, eM_, oNone_, eSl_, tV_, tAnd_, tOr_, tNot_, tYes_, eChain_, gName_, gNil_, gCons_, gTup_, sq_nx, sq_rt, fin_rt, fin_nx, gSub_, gAdd_, gLt_, gLe_, gGt_, gGe_, gNeg_, gMul_, gFdiv_, gMod_, gEq_int, gNe_int, gEq_bl, gNe_bl, seqOf_tup, gIx_tup, atD_0, atD_1, atD_2, bAbs_, bInt_bl, bMax2_, bMin2_, line1, line2, line3, line4, line5, line6, line7, line8, List.getElem?_cons_succ, List.getElem?_cons_zero, Option.join_some, Option.join_none, Option.bind_some, Option.bind_none, List.set_cons_succ, List.set_cons_zero, List.map_cons, List.map_nil, List.length_cons, List.length_nil, List.append_nil, List.nil_append, List.cons_append, List.replicate_succ, List.replicate_zero, Nat.reduceAdd, Nat.reduceSub, Nat.reduceEqDiff, if_true, if_false, Bool.false_eq_true, decide_true, decide_false, Bool.not_true, Bool.not_false, eq_self_iff_true, reduceIte, List.zip_cons_cons, List.zip_nil_right, List.zip_nil_left, List.foldl_cons, List.foldl_nil, Int.reduceLT, Int.reduceEq, Int.reduceLE, bLen_, seqOf_lst h, List.length_map]
    · rw [show ((l.length : Int) + 1).toNat = l.length + 1 by omega]
  have key := forGo_inv (ks := []) (g := gName 2) (body := (sIf (tV (e2 gIn (eV 0) (eV 1)))
      (sSet 0 (eCall F_law_lowest [] (aCons (e2 gAdd (e2 gIx (eV 0) (eC (.int 0))) (e2 gIx (eV 0) (eC (.int 2)))) (aCons (e2 gIx (eV 0) (eC (.int 1))) (aCons (e2 gIx (eV 0) (eC (.int 2))) aNil)))))
      sNil)) (fun i σ c' => ∃ j x, j ≤ i ∧ (∀ k < j, mv p k ∈ l) ∧ (mv p j ∈ l → j = i) ∧ σ = [some (sd (mv p j)), some (.ref m), x] ∧ c' = c) (rng 0 (l.length + 1)) 0 [some (sd p), some (.ref m), none] c (fun _ _ _ _ => stays_nil)
  have key2 := key (by
    rintro i d σ c' hd ⟨j, x, h1, h2, h3, rfl, rfl⟩
    have hi : i < l.length + 1 := by
      have := (List.getElem?_eq_some_iff.mp hd).1
      simpa [rng] using this
    rw [Nat.zero_add] at h1 h3 ⊢
    by_cases hj : mv p j ∈ l
    · have := h3 hj
      subst this
      have low := mv_low hp.low j
      have hw := low.pos
      have e1 := lowest_ (x := (mv p j).1 + (mv p j).2.2) (y := (mv p j).2.1) (w := (mv p j).2.2) (c := c') (by omega) (hp.bw.mono (by omega))
      obtain ⟨a1, a2, a3⟩ := My.low_own (low_add low)
      rw [a1, a2, a3] at e1
      have e2 : sp ((mv p j).1 + (mv p j).2.2) (mv p j).2.1 (mv p j).2.2 = sd (mv p (j + 1)) := by rw [mv_succ]; rfl
      rw [e2] at e1
      refine ⟨_, c', [some (sd (mv p (j + 1))), some (.ref m), some d], c', rfl, ?_, j + 1, some d, Nat.le_refl _, fun k hk => ?_, fun _ => rfl, rfl, rfl⟩
      · have i0 : gIx (sd (mv p j)) (.int 0) c' = some (.int (mv p j).1, c') := rfl
        have i1 : gIx (sd (mv p j)) (.int 1) c' = some (.int (mv p j).2.1, c') := rfl
        have i2 : gIx (sd (mv p j)) (.int 2) c' = some (.int (mv p j).2.2, c') := rfl
        simp (disch := walk_at "dis") only [mkF_, sSeq_, sSet_, sAsg_, sPar_, sIf_, sRet_, sExpr_, sNil_, eC_, eV_, e1_, e2_, asB_, asI_, eAnd_, eOr_, eNot_, eIf_, aNil_, aCons_, eTup_, eLst_, eCall_, eB_, eM_, oNone_, eSl_, tV_, tAnd_, tOr_, tNot_, tYes_, eChain_, gName_, gNil_, gCons_, gTup_, sq_nx, sq_rt, fin_rt, fin_nx, gSub_, gAdd_, gLt_, gLe_, gGt_, gGe_, gNeg_, gMul_, gFdiv_, gMod_, gEq_int, gNe_int, gEq_bl, gNe_bl, seqOf_tup, gIx_tup, atD_0, atD_1, atD_2, bAbs_, bInt_bl, bMax2_, bMin2_, line1, line2, line3, line4, line5, line6, line7, line8, List.getElem?_cons_succ, List.getElem?_cons_zero, Option.join_some, Option.join_none, Option.bind_some, Option.bind_none, List.set_cons_succ, List.set_cons_zero, List.map_cons, List.map_nil, List.length_cons, List.length_nil, List.append_nil, List.nil_append, List.cons_append, List.replicate_succ, List.replicate_zero, Nat.reduceAdd, Nat.reduceSub, Nat.reduceEqDiff, if_true, if_false, Bool.false_eq_true, decide_true, decide_false, Bool.not_true, Bool.not_false, eq_self_iff_true, reduceIte, List.zip_cons_cons, List.zip_nil_right, List.zip_nil_left, List.foldl_cons, List.foldl_nil, Int.reduceLT, Int.reduceEq, Int.reduceLE, gIn_ h, decide_eq_true hj, i0, i1, i2, e1]
      · rcases Nat.lt_or_eq_of_le (Nat.le_of_lt_succ hk) with hk | rfl
        · exact h2 k hk
        · exact hj
    · refine ⟨_, c', [some (sd (mv p j)), some (.ref m), some d], c', rfl, ?_, j, some d, by omega, h2, fun z => absurd z hj, rfl, rfl⟩
      simp (disch := walk_at "dis") only [mkF_, sSeq_, sSet_, sAsg_, sPar_, sIf_, sRet_, sExpr_, sNil_, eC_, eV_, e1_, e2_, asB_, asI_, eAnd_, eOr_, eNot_, eIf_, aNil_, aCons_, eTup_, eLst_, eCall_, eB_, eM_, oNone_, eSl_, tV_, tAnd_, tOr_, tNot_, tYes_, eChain_, gName_, gNil_, gCons_, gTup_, sq_nx, sq_rt, fin_rt, fin_nx, gSub_, gAdd_, gLt_, gLe_, gGt_, gGe_, gNeg_, gMul_, gFdiv_, gMod_, gEq_int, gNe_int, gEq_bl, gNe_bl, seqOf_tup, gIx_tup, atD_0, atD_1, atD_2, bAbs_, bInt_bl, bMax2_, bMin2_, line1, line2, line3, line4, line5, line6, line7, line8, List.getElem?_cons_succ, List.getElem?_cons_zero, Option.join_some, Option.join_none, Option.bind_some, Option.bind_none, List.set_cons_succ, List.set_cons_zero, List.map_cons, List.map_nil, List.length_cons, List.length_nil, List.append_nil, List.nil_append, List.cons_append, List.replicate_succ, List.replicate_zero, Nat.reduceAdd, Nat.reduceSub, Nat.reduceEqDiff, if_true, if_false, Bool.false_eq_true, decide_true, decide_false, Bool.not_true, Bool.not_false, eq_self_iff_true, reduceIte, List.zip_cons_cons, List.zip_nil_right, List.zip_nil_left, List.foldl_cons, List.foldl_nil, Int.reduceLT, Int.reduceEq, Int.reduceLE, gIn_ h, decide_eq_false hj]) ⟨0, none, Nat.le_refl _, fun _ hk => by omega, fun _ => rfl, by rw [mv_zero], rfl⟩
  obtain ⟨σ', c', e, j, x, h1, h2, h3, rfl, rfl⟩ := key2
  rw [show (rng 0 (l.length + 1)).length = l.length + 1 by simp [rng], Nat.zero_add] at h1 h3
  refine ⟨mv p j, ?_, mv_ok hp (by omega), fun hj => ?_⟩
  · have e0 : sFor (iRng1 (aCons (e2 gAdd (eB bLen (aCons (eV 1) aNil)) (eC (.int 1))) aNil)) (gName 2) (sIf (tV (e2 gIn (eV 0) (eV 1)))
      (sSet 0 (eCall F_law_lowest [] (aCons (e2 gAdd (e2 gIx (eV 0) (eC (.int 0))) (e2 gIx (eV 0) (eC (.int 2)))) (aCons (e2 gIx (eV 0) (eC (.int 1))) (aCons (e2 gIx (eV 0) (eC (.int 2))) aNil)))))
      sNil) [some (sd p), some (.ref m), none] c' = some (.nx, [some (sd (mv p j)), some (.ref m), x], c') := by
      unfold sFor
      rw [hr, Option.bind_some]
      exact e
    simp (disch := walk_at "dis") only [mkF_, sSeq_, sSet_, sAsg_, sPar_, sIf_, sRet_, sExpr_, sNil_, eC_, eV_, e1_, e2_, asB_, asI_, eAnd_, eOr_, eNot_, eIf_, aNil_, aCons_, eTup_, eLst_, eCall_, eB_, eM_, oNone_, eSl_, tV_, tAnd_, tOr_, tNot_, tYes_, eChain_, gName_, gNil_, gCons_, gTup_, sq_nx, sq_rt, fin_rt, fin_nx, gSub_, gAdd_, gLt_, gLe_, gGt_, gGe_, gNeg_, gMul_, gFdiv_, gMod_, gEq_int, gNe_int, gEq_bl, gNe_bl, seqOf_tup, gIx_tup, atD_0, atD_1, atD_2, bAbs_, bInt_bl, bMax2_, bMin2_, line1, line2, line3, line4, line5, line6, line7, line8, List.getElem?_cons_succ, List.getElem?_cons_zero, Option.join_some, Option.join_none, Option.bind_some, Option.bind_none, List.set_cons_succ, List.set_cons_zero, List.map_cons, List.map_nil, List.length_cons, List.length_nil, List.append_nil, List.nil_append, List.cons_append, List.replicate_succ, List.replicate_zero, Nat.reduceAdd, Nat.reduceSub, Nat.reduceEqDiff, if_true, if_false, Bool.false_eq_true, decide_true, decide_false, Bool.not_true, Bool.not_false, eq_self_iff_true, reduceIte, List.zip_cons_cons, List.zip_nil_right, List.zip_nil_left, List.foldl_cons, List.foldl_nil, Int.reduceLT, Int.reduceEq, Int.reduceLE, F_law_unlike, B_law_unlike, e0]
  · have := h3 hj
    obtain ⟨i, hi, hn⟩ := My.away l (mv p) (fun i k => mv_inj hp.low)
    exact hn (h2 i (by omega))
theorem pre_get {c c' : Cells} {i : Nat} {z : Cell} (h : c <+: c') (e : c[i]? = some z) : c'[i]? = some z := by
  obtain ⟨t, rfl⟩ := h
  rw [List.getElem?_append_left (List.getElem?_eq_some_iff.mp e).1]; exact e
theorem gCut_ref {m : Nat} {c : Cells} {lo hi : Option Int} : gCut (.ref m) lo hi c = (seqOf (.ref m) c).bind fun xs => some (.ref c.length, c ++ [.lst (Qm.cutD xs lo hi)]) := rfl
theorem Kp.own {n m : Nat} {c c' : Cells} {z : Cell} (k : Kp n c c') (h : c.length ≤ m) : Kp n c (c'.set m z) := ⟨by rw [List.length_set]; exact k.len, fun i hi hn => by rw [List.getElem?_set, if_neg (by omega)]; exact k.at_ i hi hn⟩
theorem Pool.own {n m : Nat} {c : Cells} {z : Cell} (h : Pool n c) (hm : m ≠ n) : Pool n (c.set m z) := by
  obtain ⟨a, b, h, r⟩ := h
  exact ⟨a, b, by rw [List.getElem?_set, if_neg hm]; exact h, r⟩
theorem Pool.pre {n : Nat} {c c' : Cells} (h : Pool n c) (hp : c <+: c') : Pool n c' := by
  obtain ⟨t, rfl⟩ := hp; exact h.more
theorem Kp.pre {n : Nat} {c c' : Cells} (hp : c <+: c') : Kp n c c' := by
  obtain ⟨t, rfl⟩ := hp; exact Kp.more
def side (p q : T3) : D := .tup [sd p, sd q]
theorem i0_ (r : T3) (c : Cells) : gIx (sd r) (.int 0) c = some (.int r.1, c) := rfl
theorem i1_ (r : T3) (c : Cells) : gIx (sd r) (.int 1) c = some (.int r.2.1, c) := rfl
theorem i2_ (r : T3) (c : Cells) : gIx (sd r) (.int 2) c = some (.int r.2.2, c) := rfl
theorem sd0_ (a b : T3) (c : Cells) : gIx (side a b) (.int 0) c = some (sd a, c) := rfl
theorem sd1_ (a b : T3) (c : Cells) : gIx (side a b) (.int 1) c = some (sd b, c) := rfl
theorem sign_ {n : Int} {c : Cells} : F_sign [.int n] c = some (.int (My.sgn n), c) := by
  unfold My.sgn
  by_cases h : 0 < n
  · rw [if_pos h]; simp (disch := walk_at "dis") only [mkF_, sSeq_, sSet_, sAsg_, sPar_, sIf_, sRet_, sExpr_, sNil_, eC_, eV_, e1_, e2_, asB_, asI_, eAnd_, eOr_, eNot_, eIf_, aNil_, aCons_, eTup_, eLst_, eCall_, eB_, eM_, oNone_, eSl_, tV_, tAnd_, tOr_, tNot_, tYes_, eChain_, gName_, gNil_, gCons_, gTup_, sq_nx, sq_rt, fin_rt, fin_nx, gSub_, gAdd_, gLt_, gLe_, gGt_, gGe_, gNeg_, gMul_, gFdiv_, gMod_, gEq_int, gNe_int, gEq_bl, gNe_bl, seqOf_tup, gIx_tup, atD_0, atD_1, atD_2, bAbs_, bInt_bl, bMax2_, bMin2_, line1, line2, line3, line4, line5, line6, line7, line8, List.getElem?_cons_succ, List.getElem?_cons_zero, Option.join_some, Option.join_none, Option.bind_some, Option.bind_none, List.set_cons_succ, List.set_cons_zero, List.map_cons, List.map_nil, List.length_cons, List.length_nil, List.append_nil, List.nil_append, List.cons_append, List.replicate_succ, List.replicate_zero, Nat.reduceAdd, Nat.reduceSub, Nat.reduceEqDiff, if_true, if_false, Bool.false_eq_true, decide_true, decide_false, Bool.not_true, Bool.not_false, eq_self_iff_true, reduceIte, List.zip_cons_cons, List.zip_nil_right, List.zip_nil_left, List.foldl_cons, List.foldl_nil, Int.reduceLT, Int.reduceEq, Int.reduceLE, F_sign, B_sign, decide_eq_true h]
  · rw [if_neg h]
    by_cases h2 : n < 0
    · rw [if_pos h2]; simp (disch := walk_at "dis") only [mkF_, sSeq_, sSet_, sAsg_, sPar_, sIf_, sRet_, sExpr_, sNil_, eC_, eV_, e1_, e2_, asB_, asI_, eAnd_, eOr_, eNot_, eIf_, aNil_, aCons_, eTup_, eLst_, eCall_, eB_, eM_, oNone_, eSl_, tV_, tAnd_, tOr_, tNot_, tYes_, eChain_, gName_, gNil_, gCons_, gTup_, sq_nx, sq_rt, fin_rt, fin_nx, gSub_, gAdd_, gLt_, gLe_, gGt_, gGe_, gNeg_, gMul_, gFdiv_, gMod_, gEq_int, gNe_int, gEq_bl, gNe_bl, seqOf_tup, gIx_tup, atD_0, atD_1, atD_2, bAbs_, bInt_bl, bMax2_, bMin2_, line1, line2, line3, line4, line5, line6, line7, line8, List.getElem?_cons_succ, List.getElem?_cons_zero, Option.join_some, Option.join_none, Option.bind_some, Option.bind_none, List.set_cons_succ, List.set_cons_zero, List.map_cons, List.map_nil, List.length_cons, List.length_nil, List.append_nil, List.nil_append, List.cons_append, List.replicate_succ, List.replicate_zero, Nat.reduceAdd, Nat.reduceSub, Nat.reduceEqDiff, if_true, if_false, Bool.false_eq_true, decide_true, decide_false, Bool.not_true, Bool.not_false, eq_self_iff_true, reduceIte, List.zip_cons_cons, List.zip_nil_right, List.zip_nil_left, List.foldl_cons, List.foldl_nil, Int.reduceLT, Int.reduceEq, Int.reduceLE, F_sign, B_sign, decide_eq_false h, decide_eq_true h2]
    · rw [if_neg h2]; simp (disch := walk_at "dis") only [mkF_, sSeq_, sSet_, sAsg_, sPar_, sIf_, sRet_, sExpr_, sNil_, eC_, eV_, e1_, e2_, asB_, asI_, eAnd_, eOr_, eNot_, eIf_, aNil_, aCons_, eTup_, eLst_, eCall_, eB_, eM_, oNone_, eSl_, tV_, tAnd_, tOr_, tNot_, tYes_, eChain_, gName_, gNil_, gCons_, gTup_, sq_nx, sq_rt, fin_rt, fin_nx, gSub_, gAdd_, gLt_, gLe_, gGt_, gGe_, gNeg_, gMul_, gFdiv_, gMod_, gEq_int, gNe_int, gEq_bl, gNe_bl, seqOf_tup, gIx_tup, atD_0, atD_1, atD_2, bAbs_, bInt_bl, bMax2_, bMin2_, line1, line2, line3, line4, line5, line6, line7, line8, List.getElem?_cons_succ, List.getElem?_cons_zero, Option.join_some, Option.join_none, Option.bind_some, Option.bind_none, List.set_cons_succ, List.set_cons_zero, List.map_cons, List.map_nil, List.length_cons, List.length_nil, List.append_nil, List.nil_append, List.cons_append, List.replicate_succ, List.replicate_zero, Nat.reduceAdd, Nat.reduceSub, Nat.reduceEqDiff, if_true, if_false, Bool.false_eq_true, decide_true, decide_false, Bool.not_true, Bool.not_false, eq_self_iff_true, reduceIte, List.zip_cons_cons, List.zip_nil_right, List.zip_nil_left, List.foldl_cons, List.foldl_nil, Int.reduceLT, Int.reduceEq, Int.reduceLE, F_sign, B_sign, decide_eq_false h, decide_eq_false h2]
def dt (a b p : T3) : Int := My.det a.1 a.2.1 a.2.2 b.1 b.2.1 b.2.2 p.1 p.2.1 p.2.2
theorem crossed_ {p q : T3} {c : Cells} (hp : Ok 1000 p) (hq : Ok 1000 q) : F_crossed [sd p, sd q] c = some (sd (p.2.1 * q.2.2 - p.2.2 * q.2.1, p.2.2 * q.1 - p.1 * q.2.2, p.1 * q.2.1 - p.2.1 * q.1), c) := by
  have a1 := hp.bx; have a2 := hp.by_; have a3 := hp.bw; have b1 := hq.bx; have b2 := hq.by_; have b3 := hq.bw
  simp (disch := walk_at "dis") only [mkF_, sSeq_, sSet_, sAsg_, sPar_, sIf_, sRet_, sExpr_, sNil_, eC_, eV_, e1_, e2_, asB_, asI_, eAnd_, eOr_, eNot_, eIf_, aNil_, aCons_, eTup_, eLst_, eCall_, eB_, eM_, oNone_, eSl_, tV_, tAnd_, tOr_, tNot_, tYes_, eChain_, gName_, gNil_, gCons_, gTup_, sq_nx, sq_rt, fin_rt, fin_nx, gSub_, gAdd_, gLt_, gLe_, gGt_, gGe_, gNeg_, gMul_, gFdiv_, gMod_, gEq_int, gNe_int, gEq_bl, gNe_bl, seqOf_tup, gIx_tup, atD_0, atD_1, atD_2, bAbs_, bInt_bl, bMax2_, bMin2_, line1, line2, line3, line4, line5, line6, line7, line8, List.getElem?_cons_succ, List.getElem?_cons_zero, Option.join_some, Option.join_none, Option.bind_some, Option.bind_none, List.set_cons_succ, List.set_cons_zero, List.map_cons, List.map_nil, List.length_cons, List.length_nil, List.append_nil, List.nil_append, List.cons_append, List.replicate_succ, List.replicate_zero, Nat.reduceAdd, Nat.reduceSub, Nat.reduceEqDiff, if_true, if_false, Bool.false_eq_true, decide_true, decide_false, Bool.not_true, Bool.not_false, eq_self_iff_true, reduceIte, List.zip_cons_cons, List.zip_nil_right, List.zip_nil_left, List.foldl_cons, List.foldl_nil, Int.reduceLT, Int.reduceEq, Int.reduceLE, F_crossed, B_crossed, i0_, i1_, i2_]
  rfl
theorem turn_ {a b p : T3} {c : Cells} (ha : Ok 1000 a) (hb : Ok 1000 b) (hp : Ok 1000 p) : F_turn [sd a, sd b, sd p] c = some (.int (My.sgn (dt a b p)), c) := by
  have a1 := ha.bx; have a2 := ha.by_; have a3 := ha.bw; have b1 := hb.bx; have b2 := hb.by_; have b3 := hb.bw; have p1 := hp.bx; have p2 := hp.by_; have p3 := hp.bw
  have e := crossed_ (c := c) ha hb
  have k0 : My.Bd 90000 (a.2.1 * b.2.2 - a.2.2 * b.2.1) := (My.Bd.sub (a2.mul b3) (a3.mul b2)).mono (by decide)
  have k1 : My.Bd 90000 (a.2.2 * b.1 - a.1 * b.2.2) := (My.Bd.sub (a3.mul b1) (a1.mul b3)).mono (by decide)
  have k2 : My.Bd 90000 (a.1 * b.2.1 - a.2.1 * b.1) := (My.Bd.sub (a1.mul b2) (a2.mul b1)).mono (by decide)
  have q1 := p1.mono (k := 90000) (by decide); have q2 := p2.mono (k := 90000) (by decide); have q3 := p3.mono (k := 90000) (by decide)
  have s := sign_ (n := dt a b p) (c := c)
  unfold dt My.det at s ⊢
  simp (disch := walk_at "dis") only [mkF_, sSeq_, sSet_, sAsg_, sPar_, sIf_, sRet_, sExpr_, sNil_, eC_, eV_, e1_, e2_, asB_, asI_, eAnd_, eOr_, eNot_, eIf_, aNil_, aCons_, eTup_, eLst_, eCall_, eB_, eM_, oNone_, eSl_, tV_, tAnd_, tOr_, tNot_, tYes_, eChain_, gName_, gNil_, gCons_, gTup_, sq_nx, sq_rt, fin_rt, fin_nx, gSub_, gAdd_, gLt_, gLe_, gGt_, gGe_, gNeg_, gMul_, gFdiv_, gMod_, gEq_int, gNe_int, gEq_bl, gNe_bl, seqOf_tup, gIx_tup, atD_0, atD_1, atD_2, bAbs_, bInt_bl, bMax2_, bMin2_, line1, line2, line3, line4, line5, line6, line7, line8, List.getElem?_cons_succ, List.getElem?_cons_zero, Option.join_some, Option.join_none, Option.bind_some, Option.bind_none, List.set_cons_succ, List.set_cons_zero, List.map_cons, List.map_nil, List.length_cons, List.length_nil, List.append_nil, List.nil_append, List.cons_append, List.replicate_succ, List.replicate_zero, Nat.reduceAdd, Nat.reduceSub, Nat.reduceEqDiff, if_true, if_false, Bool.false_eq_true, decide_true, decide_false, Bool.not_true, Bool.not_false, eq_self_iff_true, reduceIte, List.zip_cons_cons, List.zip_nil_right, List.zip_nil_left, List.foldl_cons, List.foldl_nil, Int.reduceLT, Int.reduceEq, Int.reduceLE, F_turn, B_turn, e, i0_, i1_, i2_, gMul_ (mulB k0 q1), gMul_ (mulB k1 q2), gMul_ (mulB k2 q3), s]
theorem forward_ {a b : T3} {c : Cells} (ha : Ok 1000 a) (hb : Ok 1000 b) : F_forward [side a b] c = some (if My.ahT a b = true then side a b else side b a, c) := by
  have e := ahead_ (c := c) ha hb
  cases h : My.ahT a b
  · rw [h] at e
    simp (disch := walk_at "dis") only [mkF_, sSeq_, sSet_, sAsg_, sPar_, sIf_, sRet_, sExpr_, sNil_, eC_, eV_, e1_, e2_, asB_, asI_, eAnd_, eOr_, eNot_, eIf_, aNil_, aCons_, eTup_, eLst_, eCall_, eB_, eM_, oNone_, eSl_, tV_, tAnd_, tOr_, tNot_, tYes_, eChain_, gName_, gNil_, gCons_, gTup_, sq_nx, sq_rt, fin_rt, fin_nx, gSub_, gAdd_, gLt_, gLe_, gGt_, gGe_, gNeg_, gMul_, gFdiv_, gMod_, gEq_int, gNe_int, gEq_bl, gNe_bl, seqOf_tup, gIx_tup, atD_0, atD_1, atD_2, bAbs_, bInt_bl, bMax2_, bMin2_, line1, line2, line3, line4, line5, line6, line7, line8, List.getElem?_cons_succ, List.getElem?_cons_zero, Option.join_some, Option.join_none, Option.bind_some, Option.bind_none, List.set_cons_succ, List.set_cons_zero, List.map_cons, List.map_nil, List.length_cons, List.length_nil, List.append_nil, List.nil_append, List.cons_append, List.replicate_succ, List.replicate_zero, Nat.reduceAdd, Nat.reduceSub, Nat.reduceEqDiff, if_true, if_false, Bool.false_eq_true, decide_true, decide_false, Bool.not_true, Bool.not_false, eq_self_iff_true, reduceIte, List.zip_cons_cons, List.zip_nil_right, List.zip_nil_left, List.foldl_cons, List.foldl_nil, Int.reduceLT, Int.reduceEq, Int.reduceLE, F_forward, B_forward, sd0_, sd1_, e]
    rfl
  · rw [h] at e
    simp (disch := walk_at "dis") only [mkF_, sSeq_, sSet_, sAsg_, sPar_, sIf_, sRet_, sExpr_, sNil_, eC_, eV_, e1_, e2_, asB_, asI_, eAnd_, eOr_, eNot_, eIf_, aNil_, aCons_, eTup_, eLst_, eCall_, eB_, eM_, oNone_, eSl_, tV_, tAnd_, tOr_, tNot_, tYes_, eChain_, gName_, gNil_, gCons_, gTup_, sq_nx, sq_rt, fin_rt, fin_nx, gSub_, gAdd_, gLt_, gLe_, gGt_, gGe_, gNeg_, gMul_, gFdiv_, gMod_, gEq_int, gNe_int, gEq_bl, gNe_bl, seqOf_tup, gIx_tup, atD_0, atD_1, atD_2, bAbs_, bInt_bl, bMax2_, bMin2_, line1, line2, line3, line4, line5, line6, line7, line8, List.getElem?_cons_succ, List.getElem?_cons_zero, Option.join_some, Option.join_none, Option.bind_some, Option.bind_none, List.set_cons_succ, List.set_cons_zero, List.map_cons, List.map_nil, List.length_cons, List.length_nil, List.append_nil, List.nil_append, List.cons_append, List.replicate_succ, List.replicate_zero, Nat.reduceAdd, Nat.reduceSub, Nat.reduceEqDiff, if_true, if_false, Bool.false_eq_true, decide_true, decide_false, Bool.not_true, Bool.not_false, eq_self_iff_true, reduceIte, List.zip_cons_cons, List.zip_nil_right, List.zip_nil_left, List.foldl_cons, List.foldl_nil, Int.reduceLT, Int.reduceEq, Int.reduceLE, F_forward, B_forward, sd0_, sd1_, e]
def onT (p a b : T3) : Bool := My.onS p.1 p.2.1 p.2.2 a.1 a.2.1 a.2.2 b.1 b.2.1 b.2.2
theorem on_side_ {p a b : T3} {c : Cells} (hp : Ok 1000 p) (ha : Ok 1000 a) (hb : Ok 1000 b) : F_on_side [sd p, side a b] c = some (.bl (onT p a b), c) := by
  have e := turn_ (c := c) ha hb hp
  have f := forward_ (c := c) ha hb
  unfold onT My.onS
  by_cases h : dt a b p = 0
  · have hs : My.sgn (dt a b p) = 0 := by rw [h]; rfl
    unfold dt at h
    rw [if_pos h]
    rw [hs] at e
    by_cases ha' : My.ahT a b = true
    · rw [if_pos ha'] at f
      have ha2 : My.ahd a.1 a.2.1 a.2.2 b.1 b.2.1 b.2.2 = true := ha'
      rw [if_pos ha2]
      have g1 := ahead_ (c := c) hp ha
      have g2 := ahead_ (c := c) hb hp
      change _ = some (D.bl (!My.ahT p a && !My.ahT b p), c)
      cases h1 : My.ahT p a <;> cases h2 : My.ahT b p <;> rw [h1] at g1 <;> rw [h2] at g2 <;> simp (disch := walk_at "dis") only [mkF_, sSeq_, sSet_, sAsg_, sPar_, sIf_, sRet_, sExpr_, sNil_, eC_, eV_, e1_, e2_, asB_, asI_, eAnd_, eOr_, eNot_, eIf_, aNil_, aCons_, eTup_, eLst_, eCall_, eB_, eM_, oNone_, eSl_, tV_, tAnd_, tOr_, tNot_, tYes_, eChain_, gName_, gNil_, gCons_, gTup_, sq_nx, sq_rt, fin_rt, fin_nx, gSub_, gAdd_, gLt_, gLe_, gGt_, gGe_, gNeg_, gMul_, gFdiv_, gMod_, gEq_int, gNe_int, gEq_bl, gNe_bl, seqOf_tup, gIx_tup, atD_0, atD_1, atD_2, bAbs_, bInt_bl, bMax2_, bMin2_, line1, line2, line3, line4, line5, line6, line7, line8, List.getElem?_cons_succ, List.getElem?_cons_zero, Option.join_some, Option.join_none, Option.bind_some, Option.bind_none, List.set_cons_succ, List.set_cons_zero, List.map_cons, List.map_nil, List.length_cons, List.length_nil, List.append_nil, List.nil_append, List.cons_append, List.replicate_succ, List.replicate_zero, Nat.reduceAdd, Nat.reduceSub, Nat.reduceEqDiff, if_true, if_false, Bool.false_eq_true, decide_true, decide_false, Bool.not_true, Bool.not_false, eq_self_iff_true, reduceIte, List.zip_cons_cons, List.zip_nil_right, List.zip_nil_left, List.foldl_cons, List.foldl_nil, Int.reduceLT, Int.reduceEq, Int.reduceLE, F_on_side, B_on_side, sd0_, sd1_, e, f, g1, g2] <;> rfl
    · rw [if_neg ha'] at f
      have ha2 : ¬ My.ahd a.1 a.2.1 a.2.2 b.1 b.2.1 b.2.2 = true := ha'
      rw [if_neg ha2]
      have g1 := ahead_ (c := c) hp hb
      have g2 := ahead_ (c := c) ha hp
      change _ = some (D.bl (!My.ahT p b && !My.ahT a p), c)
      cases h1 : My.ahT p b <;> cases h2 : My.ahT a p <;> rw [h1] at g1 <;> rw [h2] at g2 <;> simp (disch := walk_at "dis") only [mkF_, sSeq_, sSet_, sAsg_, sPar_, sIf_, sRet_, sExpr_, sNil_, eC_, eV_, e1_, e2_, asB_, asI_, eAnd_, eOr_, eNot_, eIf_, aNil_, aCons_, eTup_, eLst_, eCall_, eB_, eM_, oNone_, eSl_, tV_, tAnd_, tOr_, tNot_, tYes_, eChain_, gName_, gNil_, gCons_, gTup_, sq_nx, sq_rt, fin_rt, fin_nx, gSub_, gAdd_, gLt_, gLe_, gGt_, gGe_, gNeg_, gMul_, gFdiv_, gMod_, gEq_int, gNe_int, gEq_bl, gNe_bl, seqOf_tup, gIx_tup, atD_0, atD_1, atD_2, bAbs_, bInt_bl, bMax2_, bMin2_, line1, line2, line3, line4, line5, line6, line7, line8, List.getElem?_cons_succ, List.getElem?_cons_zero, Option.join_some, Option.join_none, Option.bind_some, Option.bind_none, List.set_cons_succ, List.set_cons_zero, List.map_cons, List.map_nil, List.length_cons, List.length_nil, List.append_nil, List.nil_append, List.cons_append, List.replicate_succ, List.replicate_zero, Nat.reduceAdd, Nat.reduceSub, Nat.reduceEqDiff, if_true, if_false, Bool.false_eq_true, decide_true, decide_false, Bool.not_true, Bool.not_false, eq_self_iff_true, reduceIte, List.zip_cons_cons, List.zip_nil_right, List.zip_nil_left, List.foldl_cons, List.foldl_nil, Int.reduceLT, Int.reduceEq, Int.reduceLE, F_on_side, B_on_side, sd0_, sd1_, e, f, g1, g2] <;> rfl
  · have hs : ¬ My.sgn (dt a b p) = 0 := fun g => h (My.sgn_zero g)
    unfold dt at h
    rw [if_neg h]
    simp (disch := walk_at "dis") only [mkF_, sSeq_, sSet_, sAsg_, sPar_, sIf_, sRet_, sExpr_, sNil_, eC_, eV_, e1_, e2_, asB_, asI_, eAnd_, eOr_, eNot_, eIf_, aNil_, aCons_, eTup_, eLst_, eCall_, eB_, eM_, oNone_, eSl_, tV_, tAnd_, tOr_, tNot_, tYes_, eChain_, gName_, gNil_, gCons_, gTup_, sq_nx, sq_rt, fin_rt, fin_nx, gSub_, gAdd_, gLt_, gLe_, gGt_, gGe_, gNeg_, gMul_, gFdiv_, gMod_, gEq_int, gNe_int, gEq_bl, gNe_bl, seqOf_tup, gIx_tup, atD_0, atD_1, atD_2, bAbs_, bInt_bl, bMax2_, bMin2_, line1, line2, line3, line4, line5, line6, line7, line8, List.getElem?_cons_succ, List.getElem?_cons_zero, Option.join_some, Option.join_none, Option.bind_some, Option.bind_none, List.set_cons_succ, List.set_cons_zero, List.map_cons, List.map_nil, List.length_cons, List.length_nil, List.append_nil, List.nil_append, List.cons_append, List.replicate_succ, List.replicate_zero, Nat.reduceAdd, Nat.reduceSub, Nat.reduceEqDiff, if_true, if_false, Bool.false_eq_true, decide_true, decide_false, Bool.not_true, Bool.not_false, eq_self_iff_true, reduceIte, List.zip_cons_cons, List.zip_nil_right, List.zip_nil_left, List.foldl_cons, List.foldl_nil, Int.reduceLT, Int.reduceEq, Int.reduceLE, F_on_side, B_on_side, sd0_, sd1_, e, decide_eq_false hs]
theorem gMod_n {i j : Int} {c : Cells} (h : j ≠ 0) : gMod (.int i) (.int j) c = some (.int (i.fmod j), c) := by
  unfold gMod; rw [ii_, if_pos h]; rfl
theorem gFdiv_n {i j : Int} {c : Cells} (h : j ≠ 0) (hb : My.Bd 8900 j) : gFdiv (.int i) (.int j) c = some (.int (i.fdiv j), c) := by
  unfold gFdiv; rw [ii_, if_pos ⟨h, hb⟩]; rfl
theorem divisor_ {n m : Int} {c : Cells} : F_divisor [.int n, .int m] c = some (.int (Int.gcd n m), c) := by
  have loop : ∀ (k : Nat) (x y : Int) (z : Option D), y.natAbs = k → ∃ g z', sWhile (tV (e2 gNe (eV 1) (eC (.int 0)))) (sSeq (sSet 2 (e2 gMod (eV 0) (eV 1))) (sSeq (sSet 0 (eV 1)) (sSet 1 (eV 2)))) [some (.int x), some (.int y), z] c = some (.nx, [some (.int g), some (.int 0), z'], c) ∧ (if g < 0 then -g else g) = (Int.gcd x y : Int) := by
    intro k
    induction k using Nat.strongRecOn with
    | _ k ih =>
      intro x y z hk
      by_cases h : y = 0
      · subst h
        exact ⟨x, z, sWhile_stop (by simp (disch := walk_at "dis") only [mkF_, sSeq_, sSet_, sAsg_, sPar_, sIf_, sRet_, sExpr_, sNil_, eC_, eV_, e1_, e2_, asB_, asI_, eAnd_, eOr_, eNot_, eIf_, aNil_, aCons_, eTup_, eLst_, eCall_, eB_, eM_, oNone_, eSl_, tV_, tAnd_, tOr_, tNot_, tYes_, eChain_, gName_, gNil_, gCons_, gTup_, sq_nx, sq_rt, fin_rt, fin_nx, gSub_, gAdd_, gLt_, gLe_, gGt_, gGe_, gNeg_, gMul_, gFdiv_, gMod_, gEq_int, gNe_int, gEq_bl, gNe_bl, seqOf_tup, gIx_tup, atD_0, atD_1, atD_2, bAbs_, bInt_bl, bMax2_, bMin2_, line1, line2, line3, line4, line5, line6, line7, line8, List.getElem?_cons_succ, List.getElem?_cons_zero, Option.join_some, Option.join_none, Option.bind_some, Option.bind_none, List.set_cons_succ, List.set_cons_zero, List.map_cons, List.map_nil, List.length_cons, List.length_nil, List.append_nil, List.nil_append, List.cons_append, List.replicate_succ, List.replicate_zero, Nat.reduceAdd, Nat.reduceSub, Nat.reduceEqDiff, if_true, if_false, Bool.false_eq_true, decide_true, decide_false, Bool.not_true, Bool.not_false, eq_self_iff_true, reduceIte, List.zip_cons_cons, List.zip_nil_right, List.zip_nil_left, List.foldl_cons, List.foldl_nil, Int.reduceLT, Int.reduceEq, Int.reduceLE]), (My.gcd_zero x).symm⟩
      · have lt := My.fmod_natAbs_lt x h
        obtain ⟨g, z', e, r⟩ := ih (x.fmod y).natAbs (by omega) y (x.fmod y) (some (.int (x.fmod y))) rfl
        rw [My.gcd_fmod] at r
        exact ⟨g, z', sWhile_go (c' := c) (c2 := c) (by simp (disch := walk_at "dis") only [mkF_, sSeq_, sSet_, sAsg_, sPar_, sIf_, sRet_, sExpr_, sNil_, eC_, eV_, e1_, e2_, asB_, asI_, eAnd_, eOr_, eNot_, eIf_, aNil_, aCons_, eTup_, eLst_, eCall_, eB_, eM_, oNone_, eSl_, tV_, tAnd_, tOr_, tNot_, tYes_, eChain_, gName_, gNil_, gCons_, gTup_, sq_nx, sq_rt, fin_rt, fin_nx, gSub_, gAdd_, gLt_, gLe_, gGt_, gGe_, gNeg_, gMul_, gFdiv_, gMod_, gEq_int, gNe_int, gEq_bl, gNe_bl, seqOf_tup, gIx_tup, atD_0, atD_1, atD_2, bAbs_, bInt_bl, bMax2_, bMin2_, line1, line2, line3, line4, line5, line6, line7, line8, List.getElem?_cons_succ, List.getElem?_cons_zero, Option.join_some, Option.join_none, Option.bind_some, Option.bind_none, List.set_cons_succ, List.set_cons_zero, List.map_cons, List.map_nil, List.length_cons, List.length_nil, List.append_nil, List.nil_append, List.cons_append, List.replicate_succ, List.replicate_zero, Nat.reduceAdd, Nat.reduceSub, Nat.reduceEqDiff, if_true, if_false, Bool.false_eq_true, decide_true, decide_false, Bool.not_true, Bool.not_false, eq_self_iff_true, reduceIte, List.zip_cons_cons, List.zip_nil_right, List.zip_nil_left, List.foldl_cons, List.foldl_nil, Int.reduceLT, Int.reduceEq, Int.reduceLE, decide_eq_false h]) (by simp (disch := walk_at "dis") only [mkF_, sSeq_, sSet_, sAsg_, sPar_, sIf_, sRet_, sExpr_, sNil_, eC_, eV_, e1_, e2_, asB_, asI_, eAnd_, eOr_, eNot_, eIf_, aNil_, aCons_, eTup_, eLst_, eCall_, eB_, eM_, oNone_, eSl_, tV_, tAnd_, tOr_, tNot_, tYes_, eChain_, gName_, gNil_, gCons_, gTup_, sq_nx, sq_rt, fin_rt, fin_nx, gSub_, gAdd_, gLt_, gLe_, gGt_, gGe_, gNeg_, gMul_, gFdiv_, gMod_, gEq_int, gNe_int, gEq_bl, gNe_bl, seqOf_tup, gIx_tup, atD_0, atD_1, atD_2, bAbs_, bInt_bl, bMax2_, bMin2_, line1, line2, line3, line4, line5, line6, line7, line8, List.getElem?_cons_succ, List.getElem?_cons_zero, Option.join_some, Option.join_none, Option.bind_some, Option.bind_none, List.set_cons_succ, List.set_cons_zero, List.map_cons, List.map_nil, List.length_cons, List.length_nil, List.append_nil, List.nil_append, List.cons_append, List.replicate_succ, List.replicate_zero, Nat.reduceAdd, Nat.reduceSub, Nat.reduceEqDiff, if_true, if_false, Bool.false_eq_true, decide_true, decide_false, Bool.not_true, Bool.not_false, eq_self_iff_true, reduceIte, List.zip_cons_cons, List.zip_nil_right, List.zip_nil_left, List.foldl_cons, List.foldl_nil, Int.reduceLT, Int.reduceEq, Int.reduceLE, gMod_n h]) e, r⟩
  obtain ⟨g, z', e, r⟩ := loop _ n m none rfl
  simp (disch := walk_at "dis") only [mkF_, sSeq_, sSet_, sAsg_, sPar_, sIf_, sRet_, sExpr_, sNil_, eC_, eV_, e1_, e2_, asB_, asI_, eAnd_, eOr_, eNot_, eIf_, aNil_, aCons_, eTup_, eLst_, eCall_, eB_, eM_, oNone_, eSl_, tV_, tAnd_, tOr_, tNot_, tYes_, eChain_, gName_, gNil_, gCons_, gTup_, sq_nx, sq_rt, fin_rt, fin_nx, gSub_, gAdd_, gLt_, gLe_, gGt_, gGe_, gNeg_, gMul_, gFdiv_, gMod_, gEq_int, gNe_int, gEq_bl, gNe_bl, seqOf_tup, gIx_tup, atD_0, atD_1, atD_2, bAbs_, bInt_bl, bMax2_, bMin2_, line1, line2, line3, line4, line5, line6, line7, line8, List.getElem?_cons_succ, List.getElem?_cons_zero, Option.join_some, Option.join_none, Option.bind_some, Option.bind_none, List.set_cons_succ, List.set_cons_zero, List.map_cons, List.map_nil, List.length_cons, List.length_nil, List.append_nil, List.nil_append, List.cons_append, List.replicate_succ, List.replicate_zero, Nat.reduceAdd, Nat.reduceSub, Nat.reduceEqDiff, if_true, if_false, Bool.false_eq_true, decide_true, decide_false, Bool.not_true, Bool.not_false, eq_self_iff_true, reduceIte, List.zip_cons_cons, List.zip_nil_right, List.zip_nil_left, List.foldl_cons, List.foldl_nil, Int.reduceLT, Int.reduceEq, Int.reduceLE, F_divisor, B_divisor, e, r]
theorem spotF_ {x y w : Int} {c : Cells} (hw : w ≠ 0) (hb : My.Bd 8900 w) : F_spot [.int x, .int y, .int w] c = some (sd (My.spT x y w), c) := by
  have d1 := divisor_ (n := x) (m := w) (c := c)
  have d2 := divisor_ (n := (Int.gcd x w : Int)) (m := y) (c := c)
  have n0 := My.sg3_ne (x := x) (y := y) hw
  have nb : My.Bd 8900 (My.sg3 x y w) := My.Bd.of_le hb (My.sg3_le hw)
  unfold My.spT My.sx My.sy My.sw
  by_cases h : w < 0
  · have es : My.sg3 x y w = -(Int.gcd (Int.gcd x w : Int) y : Int) := by unfold My.sg3; rw [if_pos h]
    rw [es] at n0 nb ⊢
    simp (disch := walk_at "dis") only [mkF_, sSeq_, sSet_, sAsg_, sPar_, sIf_, sRet_, sExpr_, sNil_, eC_, eV_, e1_, e2_, asB_, asI_, eAnd_, eOr_, eNot_, eIf_, aNil_, aCons_, eTup_, eLst_, eCall_, eB_, eM_, oNone_, eSl_, tV_, tAnd_, tOr_, tNot_, tYes_, eChain_, gName_, gNil_, gCons_, gTup_, sq_nx, sq_rt, fin_rt, fin_nx, gSub_, gAdd_, gLt_, gLe_, gGt_, gGe_, gNeg_, gMul_, gFdiv_, gMod_, gEq_int, gNe_int, gEq_bl, gNe_bl, seqOf_tup, gIx_tup, atD_0, atD_1, atD_2, bAbs_, bInt_bl, bMax2_, bMin2_, line1, line2, line3, line4, line5, line6, line7, line8, List.getElem?_cons_succ, List.getElem?_cons_zero, Option.join_some, Option.join_none, Option.bind_some, Option.bind_none, List.set_cons_succ, List.set_cons_zero, List.map_cons, List.map_nil, List.length_cons, List.length_nil, List.append_nil, List.nil_append, List.cons_append, List.replicate_succ, List.replicate_zero, Nat.reduceAdd, Nat.reduceSub, Nat.reduceEqDiff, if_true, if_false, Bool.false_eq_true, decide_true, decide_false, Bool.not_true, Bool.not_false, eq_self_iff_true, reduceIte, List.zip_cons_cons, List.zip_nil_right, List.zip_nil_left, List.foldl_cons, List.foldl_nil, Int.reduceLT, Int.reduceEq, Int.reduceLE, F_spot, B_spot, d1, d2, h, gFdiv_n n0 nb]
    rfl
  · have es : My.sg3 x y w = (Int.gcd (Int.gcd x w : Int) y : Int) := by unfold My.sg3; rw [if_neg h]
    rw [es] at n0 nb ⊢
    simp (disch := walk_at "dis") only [mkF_, sSeq_, sSet_, sAsg_, sPar_, sIf_, sRet_, sExpr_, sNil_, eC_, eV_, e1_, e2_, asB_, asI_, eAnd_, eOr_, eNot_, eIf_, aNil_, aCons_, eTup_, eLst_, eCall_, eB_, eM_, oNone_, eSl_, tV_, tAnd_, tOr_, tNot_, tYes_, eChain_, gName_, gNil_, gCons_, gTup_, sq_nx, sq_rt, fin_rt, fin_nx, gSub_, gAdd_, gLt_, gLe_, gGt_, gGe_, gNeg_, gMul_, gFdiv_, gMod_, gEq_int, gNe_int, gEq_bl, gNe_bl, seqOf_tup, gIx_tup, atD_0, atD_1, atD_2, bAbs_, bInt_bl, bMax2_, bMin2_, line1, line2, line3, line4, line5, line6, line7, line8, List.getElem?_cons_succ, List.getElem?_cons_zero, Option.join_some, Option.join_none, Option.bind_some, Option.bind_none, List.set_cons_succ, List.set_cons_zero, List.map_cons, List.map_nil, List.length_cons, List.length_nil, List.append_nil, List.nil_append, List.cons_append, List.replicate_succ, List.replicate_zero, Nat.reduceAdd, Nat.reduceSub, Nat.reduceEqDiff, if_true, if_false, Bool.false_eq_true, decide_true, decide_false, Bool.not_true, Bool.not_false, eq_self_iff_true, reduceIte, List.zip_cons_cons, List.zip_nil_right, List.zip_nil_left, List.foldl_cons, List.foldl_nil, Int.reduceLT, Int.reduceEq, Int.reduceLE, F_spot, B_spot, d1, d2, h, gFdiv_n n0 nb]
    rfl
theorem crossedB {p q : T3} {c : Cells} (a1 : My.Bd 1000 p.1) (a2 : My.Bd 1000 p.2.1) (a3 : My.Bd 1000 p.2.2) (b1 : My.Bd 1000 q.1) (b2 : My.Bd 1000 q.2.1) (b3 : My.Bd 1000 q.2.2) : F_crossed [sd p, sd q] c = some (sd (p.2.1 * q.2.2 - p.2.2 * q.2.1, p.2.2 * q.1 - p.1 * q.2.2, p.1 * q.2.1 - p.2.1 * q.1), c) := by
  simp (disch := walk_at "dis") only [mkF_, sSeq_, sSet_, sAsg_, sPar_, sIf_, sRet_, sExpr_, sNil_, eC_, eV_, e1_, e2_, asB_, asI_, eAnd_, eOr_, eNot_, eIf_, aNil_, aCons_, eTup_, eLst_, eCall_, eB_, eM_, oNone_, eSl_, tV_, tAnd_, tOr_, tNot_, tYes_, eChain_, gName_, gNil_, gCons_, gTup_, sq_nx, sq_rt, fin_rt, fin_nx, gSub_, gAdd_, gLt_, gLe_, gGt_, gGe_, gNeg_, gMul_, gFdiv_, gMod_, gEq_int, gNe_int, gEq_bl, gNe_bl, seqOf_tup, gIx_tup, atD_0, atD_1, atD_2, bAbs_, bInt_bl, bMax2_, bMin2_, line1, line2, line3, line4, line5, line6, line7, line8, List.getElem?_cons_succ, List.getElem?_cons_zero, Option.join_some, Option.join_none, Option.bind_some, Option.bind_none, List.set_cons_succ, List.set_cons_zero, List.map_cons, List.map_nil, List.length_cons, List.length_nil, List.append_nil, List.nil_append, List.cons_append, List.replicate_succ, List.replicate_zero, Nat.reduceAdd, Nat.reduceSub, Nat.reduceEqDiff, if_true, if_false, Bool.false_eq_true, decide_true, decide_false, Bool.not_true, Bool.not_false, eq_self_iff_true, reduceIte, List.zip_cons_cons, List.zip_nil_right, List.zip_nil_left, List.foldl_cons, List.foldl_nil, Int.reduceLT, Int.reduceEq, Int.reduceLE, F_crossed, B_crossed, i0_, i1_, i2_]
  rfl
theorem crossing_ {a b p q : T3} {c : Cells} (ha : Ok 130 a) (hb : Ok 130 b) (hp : Ok 130 p) (hq : Ok 130 q) (hm : My.mW a b p q ≠ 0) : F_crossing [side a b, side p q] c = some (sd (My.spT (My.mX a b p q) (My.mY a b p q) (My.mW a b p q)), c) ∧ Ok 530 (My.spT (My.mX a b p q) (My.mY a b p q) (My.mW a b p q)) := by
  have e1 := crossed_ (c := c) (ha.mono (k := 1000) (by decide)) (hb.mono (k := 1000) (by decide))
  have e2 := crossed_ (c := c) (hp.mono (k := 1000) (by decide)) (hq.mono (k := 1000) (by decide))
  have r : ∀ {u v : T3}, Ok 130 u → Ok 130 v → My.Bd 261 (u.2.1 * v.2.2 - u.2.2 * v.2.1) ∧ My.Bd 261 (u.2.2 * v.1 - u.1 * v.2.2) ∧ My.Bd 261 (u.1 * v.2.1 - u.2.1 * v.1) := fun h1 h2 => ⟨(My.Bd.sub (h1.by_.mul h2.bw) (h1.bw.mul h2.by_)).mono (by decide), (My.Bd.sub (h1.bw.mul h2.bx) (h1.bx.mul h2.bw)).mono (by decide), (My.Bd.sub (h1.bx.mul h2.by_) (h1.by_.mul h2.bx)).mono (by decide)⟩
  obtain ⟨x1, x2, x3⟩ := r ha hb
  obtain ⟨y1, y2, y3⟩ := r hp hq
  have e3 := crossedB (c := c) (p := (a.2.1 * b.2.2 - a.2.2 * b.2.1, a.2.2 * b.1 - a.1 * b.2.2, a.1 * b.2.1 - a.2.1 * b.1)) (q := (p.2.1 * q.2.2 - p.2.2 * q.2.1, p.2.2 * q.1 - p.1 * q.2.2, p.1 * q.2.1 - p.2.1 * q.1)) (x1.mono (by decide)) (x2.mono (by decide)) (x3.mono (by decide)) (y1.mono (by decide)) (y2.mono (by decide)) (y3.mono (by decide))
  have bX : My.Bd 530 (My.mX a b p q) := by
    unfold My.mX My.m0; exact (My.Bd.sub (x2.mul y3) (x3.mul y2)).mono (by decide)
  have bY : My.Bd 530 (My.mY a b p q) := by
    unfold My.mY My.m1; exact (My.Bd.sub (x3.mul y1) (x1.mul y3)).mono (by decide)
  have bW : My.Bd 530 (My.mW a b p q) := by
    unfold My.mW My.m2; exact (My.Bd.sub (x1.mul y2) (x2.mul y1)).mono (by decide)
  have sp := spotF_ (x := My.mX a b p q) (y := My.mY a b p q) (c := c) hm (bW.mono (by decide))
  refine ⟨?_, Sp.mk' hm bX bY bW⟩
  dsimp only at e3
  have ee : sd ((a.2.2 * b.1 - a.1 * b.2.2) * (p.1 * q.2.1 - p.2.1 * q.1) - (a.1 * b.2.1 - a.2.1 * b.1) * (p.2.2 * q.1 - p.1 * q.2.2), (a.1 * b.2.1 - a.2.1 * b.1) * (p.2.1 * q.2.2 - p.2.2 * q.2.1) - (a.2.1 * b.2.2 - a.2.2 * b.2.1) * (p.1 * q.2.1 - p.2.1 * q.1), (a.2.1 * b.2.2 - a.2.2 * b.2.1) * (p.2.2 * q.1 - p.1 * q.2.2) - (a.2.2 * b.1 - a.1 * b.2.2) * (p.2.1 * q.2.2 - p.2.2 * q.2.1)) = sd (My.mX a b p q, My.mY a b p q, My.mW a b p q) := rfl
  rw [ee] at e3
  generalize My.mX a b p q = X at *
  generalize My.mY a b p q = Y at *
  generalize My.mW a b p q = W at *
  simp (disch := walk_at "dis") only [mkF_, sSeq_, sSet_, sAsg_, sPar_, sIf_, sRet_, sExpr_, sNil_, eC_, eV_, e1_, e2_, asB_, asI_, eAnd_, eOr_, eNot_, eIf_, aNil_, aCons_, eTup_, eLst_, eCall_, eB_, eM_, oNone_, eSl_, tV_, tAnd_, tOr_, tNot_, tYes_, eChain_, gName_, gNil_, gCons_, gTup_, sq_nx, sq_rt, fin_rt, fin_nx, gSub_, gAdd_, gLt_, gLe_, gGt_, gGe_, gNeg_, gMul_, gFdiv_, gMod_, gEq_int, gNe_int, gEq_bl, gNe_bl, seqOf_tup, gIx_tup, atD_0, atD_1, atD_2, bAbs_, bInt_bl, bMax2_, bMin2_, line1, line2, line3, line4, line5, line6, line7, line8, List.getElem?_cons_succ, List.getElem?_cons_zero, Option.join_some, Option.join_none, Option.bind_some, Option.bind_none, List.set_cons_succ, List.set_cons_zero, List.map_cons, List.map_nil, List.length_cons, List.length_nil, List.append_nil, List.nil_append, List.cons_append, List.replicate_succ, List.replicate_zero, Nat.reduceAdd, Nat.reduceSub, Nat.reduceEqDiff, if_true, if_false, Bool.false_eq_true, decide_true, decide_false, Bool.not_true, Bool.not_false, eq_self_iff_true, reduceIte, List.zip_cons_cons, List.zip_nil_right, List.zip_nil_left, List.foldl_cons, List.foldl_nil, Int.reduceLT, Int.reduceEq, Int.reduceLE, F_crossing, B_crossing, sd0_, sd1_, e1, e2, e3, i0_, i1_, i2_, sp]
theorem compL_go {ks : List (Nat × Cell)} {te : XE} {ρ : Qm.Env} {c : Cells} (hs : stays ks c) : ∀ (ds vs acc : List D) (zs : List Cell) (x : Option D), ds.length = vs.length → (∀ (i : Nat) d v, ds[i]? = some d → vs[i]? = some v → ∀ c', c <+: c' → ∃ ws, te (some d :: ρ) c' = some (v, c' ++ ws)) → acc.length + ds.length ≤ 1000 →
    ∃ zs', compGo c.length ks (gName 0) tYes te ds (x :: ρ) (c ++ .lst acc :: zs) = some (c ++ .lst (acc ++ vs) :: zs')
  | [], vs, acc, zs, x, hl, _, _ => by
    cases vs with
    | nil =>
      have st : stays ks (c ++ .lst acc :: zs) := fun p hp => pre_get ⟨_, rfl⟩ (hs p hp)
      refine ⟨zs, ?_⟩
      unfold compGo
      rw [if_pos st]
      simp
    | cons v vs => simp at hl
  | d :: ds, vs, acc, zs, x, hl, hv, hn => by
    cases vs with
    | nil => simp at hl
    | cons v vs =>
      have st : stays ks (c ++ .lst acc :: zs) := fun p hp => pre_get ⟨_, rfl⟩ (hs p hp)
      rw [List.length_cons] at hn
      obtain ⟨ws, f2⟩ := hv 0 d v rfl rfl (c ++ .lst acc :: zs) ⟨_, rfl⟩
      have f3 : (c ++ .lst acc :: zs ++ ws)[c.length]? = some (.lst acc) := by simp
      have f4 : (c ++ .lst acc :: zs ++ ws).set c.length (.lst (acc ++ [v])) = c ++ .lst (acc ++ [v]) :: (zs ++ ws) := by simp
      obtain ⟨zs', f5⟩ := compL_go hs ds vs (acc ++ [v]) (zs ++ ws) (some d) (by simpa using hl) (fun i d' v' h1 h2 => hv (i + 1) d' v' (by simpa using h1) (by simpa using h2)) (by simp only [List.length_append, List.length_cons, List.length_nil]; omega)
      refine ⟨zs', ?_⟩
      unfold compGo
      rw [if_pos st]
      have f1 : tYes (some d :: ρ) (c ++ .lst acc :: zs) = some (true, c ++ .lst acc :: zs) := rfl
      simp only [gName_, List.set_cons_zero, Option.bind_some, f1, if_true, f2, f3, f4]
      rw [if_pos (Nat.lt_of_lt_of_le (show acc.length < 10000 by omega) (line_ok (Nat.le_refl _))), f5]
      simp
theorem compL {it : XI} {cap : List (Option Nat)} {te : XE} {σ ρ : Qm.Env} {x : Option D} {c : Cells} {ds : List D} (vs : List D) (hi : it σ c = some (⟨ds, []⟩, c)) (hc : capt σ cap = x :: ρ) (hl : ds.length = vs.length) (hv : ∀ (i : Nat) d v, ds[i]? = some d → vs[i]? = some v → ∀ c', c <+: c' → ∃ ws, te (some d :: ρ) c' = some (v, c' ++ ws)) (hn : ds.length ≤ 1000) :
    ∃ c', eComp it cap (gName 0) tYes te σ c = some (.ref c.length, c') ∧ c <+: c' ∧ c'[c.length]? = some (.lst vs) := by
  obtain ⟨zs, e⟩ := compL_go (te := te) (ρ := ρ) (ks := []) (c := c) stays_nil ds vs [] [] x hl hv (by simp; omega)
  refine ⟨c ++ .lst vs :: zs, ?_, ⟨_, rfl⟩, by simp⟩
  unfold eComp
  rw [hi, Option.bind_some]
  dsimp only
  rw [hc, e]
  rfl
theorem turns_ {a b p q : T3} {c : Cells} (ha : Ok 1000 a) (hb : Ok 1000 b) (hp : Ok 1000 p) (hq : Ok 1000 q) : ∃ c', F_turns_to [side a b, side p q] c = some (.ref c.length, c') ∧ c <+: c' ∧ c'[c.length]? = some (.lst [.int (My.sgn (My.dtT a b p)), .int (My.sgn (My.dtT a b q))]) := by
  have hi : iTup (eV 1) [some (side a b), some (side p q)] c = some (⟨[sd p, sd q], []⟩, c) := rfl
  obtain ⟨c', e, h1, h2⟩ := compL (te := (eCall F_turn [] (aCons (e2 gIx (eV 1) (eC (.int 0))) (aCons (e2 gIx (eV 1) (eC (.int 1))) (aCons (eV 0) aNil))))) (cap := [none, some 0]) [.int (My.sgn (My.dtT a b p)), .int (My.sgn (My.dtT a b q))] hi (show capt [some (side a b), some (side p q)] [none, some 0] = none :: [some (side a b)] from rfl) rfl (by
    intro i d v g1 g2 c' _
    match i with
    | 0 =>
      cases g1; cases g2
      exact ⟨[], by rw [List.append_nil]; have := turn_ (c := c') ha hb hp; simp (disch := walk_at "dis") only [mkF_, sSeq_, sSet_, sAsg_, sPar_, sIf_, sRet_, sExpr_, sNil_, eC_, eV_, e1_, e2_, asB_, asI_, eAnd_, eOr_, eNot_, eIf_, aNil_, aCons_, eTup_, eLst_, eCall_, eB_, eM_, oNone_, eSl_, tV_, tAnd_, tOr_, tNot_, tYes_, eChain_, gName_, gNil_, gCons_, gTup_, sq_nx, sq_rt, fin_rt, fin_nx, gSub_, gAdd_, gLt_, gLe_, gGt_, gGe_, gNeg_, gMul_, gFdiv_, gMod_, gEq_int, gNe_int, gEq_bl, gNe_bl, seqOf_tup, gIx_tup, atD_0, atD_1, atD_2, bAbs_, bInt_bl, bMax2_, bMin2_, line1, line2, line3, line4, line5, line6, line7, line8, List.getElem?_cons_succ, List.getElem?_cons_zero, Option.join_some, Option.join_none, Option.bind_some, Option.bind_none, List.set_cons_succ, List.set_cons_zero, List.map_cons, List.map_nil, List.length_cons, List.length_nil, List.append_nil, List.nil_append, List.cons_append, List.replicate_succ, List.replicate_zero, Nat.reduceAdd, Nat.reduceSub, Nat.reduceEqDiff, if_true, if_false, Bool.false_eq_true, decide_true, decide_false, Bool.not_true, Bool.not_false, eq_self_iff_true, reduceIte, List.zip_cons_cons, List.zip_nil_right, List.zip_nil_left, List.foldl_cons, List.foldl_nil, Int.reduceLT, Int.reduceEq, Int.reduceLE, sd0_, sd1_, this]; rfl⟩
    | 1 =>
      cases g1; cases g2
      exact ⟨[], by rw [List.append_nil]; have := turn_ (c := c') ha hb hq; simp (disch := walk_at "dis") only [mkF_, sSeq_, sSet_, sAsg_, sPar_, sIf_, sRet_, sExpr_, sNil_, eC_, eV_, e1_, e2_, asB_, asI_, eAnd_, eOr_, eNot_, eIf_, aNil_, aCons_, eTup_, eLst_, eCall_, eB_, eM_, oNone_, eSl_, tV_, tAnd_, tOr_, tNot_, tYes_, eChain_, gName_, gNil_, gCons_, gTup_, sq_nx, sq_rt, fin_rt, fin_nx, gSub_, gAdd_, gLt_, gLe_, gGt_, gGe_, gNeg_, gMul_, gFdiv_, gMod_, gEq_int, gNe_int, gEq_bl, gNe_bl, seqOf_tup, gIx_tup, atD_0, atD_1, atD_2, bAbs_, bInt_bl, bMax2_, bMin2_, line1, line2, line3, line4, line5, line6, line7, line8, List.getElem?_cons_succ, List.getElem?_cons_zero, Option.join_some, Option.join_none, Option.bind_some, Option.bind_none, List.set_cons_succ, List.set_cons_zero, List.map_cons, List.map_nil, List.length_cons, List.length_nil, List.append_nil, List.nil_append, List.cons_append, List.replicate_succ, List.replicate_zero, Nat.reduceAdd, Nat.reduceSub, Nat.reduceEqDiff, if_true, if_false, Bool.false_eq_true, decide_true, decide_false, Bool.not_true, Bool.not_false, eq_self_iff_true, reduceIte, List.zip_cons_cons, List.zip_nil_right, List.zip_nil_left, List.foldl_cons, List.foldl_nil, Int.reduceLT, Int.reduceEq, Int.reduceLE, sd0_, sd1_, this]; rfl⟩
    | n + 2 => simp at g1) (by simp)
  refine ⟨c', ?_, h1, h2⟩
  generalize hE : eComp (iTup (eV 1)) [none, some 0] (gName 0) tYes (eCall F_turn [] (aCons (e2 gIx (eV 1) (eC (.int 0))) (aCons (e2 gIx (eV 1) (eC (.int 1))) (aCons (eV 0) aNil)))) = EE at e
  have hE' := hE
  rw [F_turns_to, mkF_, B_turns_to, hE']
  simp (disch := walk_at "dis") only [mkF_, sSeq_, sSet_, sAsg_, sPar_, sIf_, sRet_, sExpr_, sNil_, eC_, eV_, e1_, e2_, asB_, asI_, eAnd_, eOr_, eNot_, eIf_, aNil_, aCons_, eTup_, eLst_, eCall_, eB_, eM_, oNone_, eSl_, tV_, tAnd_, tOr_, tNot_, tYes_, eChain_, gName_, gNil_, gCons_, gTup_, sq_nx, sq_rt, fin_rt, fin_nx, gSub_, gAdd_, gLt_, gLe_, gGt_, gGe_, gNeg_, gMul_, gFdiv_, gMod_, gEq_int, gNe_int, gEq_bl, gNe_bl, seqOf_tup, gIx_tup, atD_0, atD_1, atD_2, bAbs_, bInt_bl, bMax2_, bMin2_, line1, line2, line3, line4, line5, line6, line7, line8, List.getElem?_cons_succ, List.getElem?_cons_zero, Option.join_some, Option.join_none, Option.bind_some, Option.bind_none, List.set_cons_succ, List.set_cons_zero, List.map_cons, List.map_nil, List.length_cons, List.length_nil, List.append_nil, List.nil_append, List.cons_append, List.replicate_succ, List.replicate_zero, Nat.reduceAdd, Nat.reduceSub, Nat.reduceEqDiff, if_true, if_false, Bool.false_eq_true, decide_true, decide_false, Bool.not_true, Bool.not_false, eq_self_iff_true, reduceIte, List.zip_cons_cons, List.zip_nil_right, List.zip_nil_left, List.foldl_cons, List.foldl_nil, Int.reduceLT, Int.reduceEq, Int.reduceLE, e]
def cD : My.Cmn → D
  | .none => .non
  | .spot p => .tup [.str "spot", sd p]
  | .stretch p q => .tup [.str "stretch", sd p, sd q]
def cP : My.Cmn → PyData
  | .none => .none
  | .spot p => .tuple [.str "spot", pd p]
  | .stretch p q => .tuple [.str "stretch", pd p, pd q]
theorem st1 : (("spot" : Str).cps.all (· < 1114112)) = true := by decide +kernel
theorem st2 : (("stretch" : Str).cps.all (· < 1114112)) = true := by decide +kernel
theorem data_str {c : Cells} {k : Nat} {x : Str} (h : x.cps.all (· < 1114112) = true) : data c (k + 1) (.str x) = some (.str x) := by
  show (if x.cps.all (· < 1114112) = true then some (PyData.str x) else none) = _
  rw [if_pos h]
theorem data_cD {c : Cells} {k : Nat} : ∀ x : My.Cmn, data c (k + 3) (cD x) = some (cP x)
  | .none => rfl
  | .spot p => by
    show (omap (data c (k + 2)) [.str "spot", sd p]).bind (fun ds => some (PyData.tuple ds)) = _
    simp only [omap, data_str st1, data_sd, Option.bind_some]
    rfl
  | .stretch p q => by
    show (omap (data c (k + 2)) [.str "stretch", sd p, sd q]).bind (fun ds => some (PyData.tuple ds)) = _
    simp only [omap, data_str st2, data_sd, Option.bind_some]
    rfl
theorem gNe_cD {c : Cells} (x : My.Cmn) : gNe (cD x) (cD x) c = some (.bl false, c) := by
  have e : eqM (cD x) (cD x) c = (data c 6 (cD x)).bind fun d => (data c 6 (cD x)).bind fun e => some (@decide (d = e) (Classical.propDecidable _)) := by
    cases x <;> rfl
  unfold gNe
  rw [e, data_cD x, Option.bind_some, Option.bind_some]
  simp
theorem gEq_l2 {c : Cells} {m n : Nat} {a b : Int} (h1 : c[m]? = some (.lst [.int a, .int b])) (h2 : c[n]? = some (.lst [.int 0, .int 0])) : gEq (.ref m) (.ref n) c = some (.bl (decide (a = 0 ∧ b = 0)), c) := by
  have d1 : ∀ {m : Nat} {a b : Int}, c[m]? = some (.lst [.int a, .int b]) → data c 6 (.ref m) = some (.list [.int a, .int b]) := fun {m a b} h => by
    show (match c[m]? with | some (.lst xs) => (omap (data c 5) xs).bind fun ds => some (PyData.list ds) | some (.ro xs) => (omap (data c 5) xs).bind fun ds => some (.list ds) | none => none) = _
    rw [h]; rfl
  have e : eqM (.ref m) (.ref n) c = (data c 6 (.ref m)).bind fun d => (data c 6 (.ref n)).bind fun e => some (@decide (d = e) (Classical.propDecidable _)) := rfl
  unfold gEq
  rw [e, d1 h1, d1 h2, Option.bind_some, Option.bind_some, Option.bind_some]
  congr 3
  rw [Bool.eq_iff_iff]; simp
theorem in_rowP_ {a b p q : T3} {c : Cells} (ha : Ok 1000 a) (hb : Ok 1000 b) (hp : Ok 1000 p) (hq : Ok 1000 q) : F_common_in_row [side a b, side p q] c = some (cD (My.rowC (My.fw a b) (My.fw p q)), c) := by
  have fwk : ∀ {u v : T3}, Ok 1000 u → Ok 1000 v → (if My.ahT u v = true then side u v else side v u) = side (My.fw u v).1 (My.fw u v).2 ∧ Ok 1000 (My.fw u v).1 ∧ Ok 1000 (My.fw u v).2 := fun {u v} h1 h2 => by
    unfold My.fw; split
    · exact ⟨rfl, h1, h2⟩
    · exact ⟨rfl, h2, h1⟩
  have f1 := forward_ (c := c) ha hb
  have f2 := forward_ (c := c) hp hq
  obtain ⟨g1, l1, l2⟩ := fwk ha hb
  obtain ⟨g2, r1, r2⟩ := fwk hp hq
  rw [g1] at f1
  rw [g2] at f2
  have h1 := ahead_ (c := c) l1 r1
  have h2 := ahead_ (c := c) l2 r2
  unfold My.rowC
  dsimp only
  have oP : Ok 1000 (if My.ahT (My.fw a b).1 (My.fw p q).1 = true then (My.fw p q).1 else (My.fw a b).1) := by split <;> assumption
  have oQ : Ok 1000 (if My.ahT (My.fw a b).2 (My.fw p q).2 = true then (My.fw a b).2 else (My.fw p q).2) := by split <;> assumption
  have w1 : (if My.ahT (My.fw a b).1 (My.fw p q).1 = true then sd (My.fw p q).1 else sd (My.fw a b).1) = sd (if My.ahT (My.fw a b).1 (My.fw p q).1 = true then (My.fw p q).1 else (My.fw a b).1) := by split <;> rfl
  have w2 : (if My.ahT (My.fw a b).2 (My.fw p q).2 = true then sd (My.fw a b).2 else sd (My.fw p q).2) = sd (if My.ahT (My.fw a b).2 (My.fw p q).2 = true then (My.fw a b).2 else (My.fw p q).2) := by split <;> rfl
  have i1 : ∀ σ : Qm.Env, σ[2]? = some (some (side (My.fw a b).1 (My.fw a b).2)) → σ[3]? = some (some (side (My.fw p q).1 (My.fw p q).2)) → eIf (tV (eCall F_ahead [] (aCons (e2 gIx (eV 2) (eC (.int 0))) (aCons (e2 gIx (eV 3) (eC (.int 0))) aNil)))) (e2 gIx (eV 3) (eC (.int 0))) (e2 gIx (eV 2) (eC (.int 0))) σ c = some (sd (if My.ahT (My.fw a b).1 (My.fw p q).1 = true then (My.fw p q).1 else (My.fw a b).1), c) := fun σ s2 s3 => by
    rw [← w1]
    cases hh : My.ahT (My.fw a b).1 (My.fw p q).1 <;> rw [hh] at h1 <;> simp (disch := walk_at "dis") only [mkF_, sSeq_, sSet_, sAsg_, sPar_, sIf_, sRet_, sExpr_, sNil_, eC_, eV_, e1_, e2_, asB_, asI_, eAnd_, eOr_, eNot_, eIf_, aNil_, aCons_, eTup_, eLst_, eCall_, eB_, eM_, oNone_, eSl_, tV_, tAnd_, tOr_, tNot_, tYes_, eChain_, gName_, gNil_, gCons_, gTup_, sq_nx, sq_rt, fin_rt, fin_nx, gSub_, gAdd_, gLt_, gLe_, gGt_, gGe_, gNeg_, gMul_, gFdiv_, gMod_, gEq_int, gNe_int, gEq_bl, gNe_bl, seqOf_tup, gIx_tup, atD_0, atD_1, atD_2, bAbs_, bInt_bl, bMax2_, bMin2_, line1, line2, line3, line4, line5, line6, line7, line8, List.getElem?_cons_succ, List.getElem?_cons_zero, Option.join_some, Option.join_none, Option.bind_some, Option.bind_none, List.set_cons_succ, List.set_cons_zero, List.map_cons, List.map_nil, List.length_cons, List.length_nil, List.append_nil, List.nil_append, List.cons_append, List.replicate_succ, List.replicate_zero, Nat.reduceAdd, Nat.reduceSub, Nat.reduceEqDiff, if_true, if_false, Bool.false_eq_true, decide_true, decide_false, Bool.not_true, Bool.not_false, eq_self_iff_true, reduceIte, List.zip_cons_cons, List.zip_nil_right, List.zip_nil_left, List.foldl_cons, List.foldl_nil, Int.reduceLT, Int.reduceEq, Int.reduceLE, s2, s3, sd0_, h1]
  have i2 : ∀ σ : Qm.Env, σ[2]? = some (some (side (My.fw a b).1 (My.fw a b).2)) → σ[3]? = some (some (side (My.fw p q).1 (My.fw p q).2)) → eIf (tV (eCall F_ahead [] (aCons (e2 gIx (eV 2) (eC (.int 1))) (aCons (e2 gIx (eV 3) (eC (.int 1))) aNil)))) (e2 gIx (eV 2) (eC (.int 1))) (e2 gIx (eV 3) (eC (.int 1))) σ c = some (sd (if My.ahT (My.fw a b).2 (My.fw p q).2 = true then (My.fw a b).2 else (My.fw p q).2), c) := fun σ s2 s3 => by
    rw [← w2]
    cases hh : My.ahT (My.fw a b).2 (My.fw p q).2 <;> rw [hh] at h2 <;> simp (disch := walk_at "dis") only [mkF_, sSeq_, sSet_, sAsg_, sPar_, sIf_, sRet_, sExpr_, sNil_, eC_, eV_, e1_, e2_, asB_, asI_, eAnd_, eOr_, eNot_, eIf_, aNil_, aCons_, eTup_, eLst_, eCall_, eB_, eM_, oNone_, eSl_, tV_, tAnd_, tOr_, tNot_, tYes_, eChain_, gName_, gNil_, gCons_, gTup_, sq_nx, sq_rt, fin_rt, fin_nx, gSub_, gAdd_, gLt_, gLe_, gGt_, gGe_, gNeg_, gMul_, gFdiv_, gMod_, gEq_int, gNe_int, gEq_bl, gNe_bl, seqOf_tup, gIx_tup, atD_0, atD_1, atD_2, bAbs_, bInt_bl, bMax2_, bMin2_, line1, line2, line3, line4, line5, line6, line7, line8, List.getElem?_cons_succ, List.getElem?_cons_zero, Option.join_some, Option.join_none, Option.bind_some, Option.bind_none, List.set_cons_succ, List.set_cons_zero, List.map_cons, List.map_nil, List.length_cons, List.length_nil, List.append_nil, List.nil_append, List.cons_append, List.replicate_succ, List.replicate_zero, Nat.reduceAdd, Nat.reduceSub, Nat.reduceEqDiff, if_true, if_false, Bool.false_eq_true, decide_true, decide_false, Bool.not_true, Bool.not_false, eq_self_iff_true, reduceIte, List.zip_cons_cons, List.zip_nil_right, List.zip_nil_left, List.foldl_cons, List.foldl_nil, Int.reduceLT, Int.reduceEq, Int.reduceLE, s2, s3, sd1_, h2]
  have j1 := i1 [some (side a b), some (side p q), some (side (My.fw a b).1 (My.fw a b).2), some (side (My.fw p q).1 (My.fw p q).2), none, none] rfl rfl
  generalize (if My.ahT (My.fw a b).1 (My.fw p q).1 = true then (My.fw p q).1 else (My.fw a b).1) = P at *
  have j2 := i2 [some (side a b), some (side p q), some (side (My.fw a b).1 (My.fw a b).2), some (side (My.fw p q).1 (My.fw p q).2), some (sd P), none] rfl rfl
  generalize (if My.ahT (My.fw a b).2 (My.fw p q).2 = true then (My.fw a b).2 else (My.fw p q).2) = Q at *
  have h3 := ahead_ (c := c) oP oQ
  clear i1 i2
  unfold F_common_in_row B_common_in_row
  generalize hE1 : eIf (tV (eCall F_ahead [] (aCons (e2 gIx (eV 2) (eC (.int 0))) (aCons (e2 gIx (eV 3) (eC (.int 0))) aNil)))) (e2 gIx (eV 3) (eC (.int 0))) (e2 gIx (eV 2) (eC (.int 0))) = E1 at j1 ⊢
  generalize hE2 : eIf (tV (eCall F_ahead [] (aCons (e2 gIx (eV 2) (eC (.int 1))) (aCons (e2 gIx (eV 3) (eC (.int 1))) aNil)))) (e2 gIx (eV 2) (eC (.int 1))) (e2 gIx (eV 3) (eC (.int 1))) = E2 at j2 ⊢
  by_cases hPQ : P = Q
  · subst hPQ
    rw [if_pos rfl]
    simp (disch := walk_at "dis") only [mkF_, sSeq_, sSet_, sAsg_, sPar_, sIf_, sRet_, sExpr_, sNil_, eC_, eV_, e1_, e2_, asB_, asI_, eAnd_, eOr_, eNot_, eIf_, aNil_, aCons_, eTup_, eLst_, eCall_, eB_, eM_, oNone_, eSl_, tV_, tAnd_, tOr_, tNot_, tYes_, eChain_, gName_, gNil_, gCons_, gTup_, sq_nx, sq_rt, fin_rt, fin_nx, gSub_, gAdd_, gLt_, gLe_, gGt_, gGe_, gNeg_, gMul_, gFdiv_, gMod_, gEq_int, gNe_int, gEq_bl, gNe_bl, seqOf_tup, gIx_tup, atD_0, atD_1, atD_2, bAbs_, bInt_bl, bMax2_, bMin2_, line1, line2, line3, line4, line5, line6, line7, line8, List.getElem?_cons_succ, List.getElem?_cons_zero, Option.join_some, Option.join_none, Option.bind_some, Option.bind_none, List.set_cons_succ, List.set_cons_zero, List.map_cons, List.map_nil, List.length_cons, List.length_nil, List.append_nil, List.nil_append, List.cons_append, List.replicate_succ, List.replicate_zero, Nat.reduceAdd, Nat.reduceSub, Nat.reduceEqDiff, if_true, if_false, Bool.false_eq_true, decide_true, decide_false, Bool.not_true, Bool.not_false, eq_self_iff_true, reduceIte, List.zip_cons_cons, List.zip_nil_right, List.zip_nil_left, List.foldl_cons, List.foldl_nil, Int.reduceLT, Int.reduceEq, Int.reduceLE, f1, f2, j1, j2, gEq_sd]
    rfl
  · rw [if_neg hPQ]
    cases hh : My.ahT P Q
    · rw [hh] at h3
      simp (disch := walk_at "dis") only [mkF_, sSeq_, sSet_, sAsg_, sPar_, sIf_, sRet_, sExpr_, sNil_, eC_, eV_, e1_, e2_, asB_, asI_, eAnd_, eOr_, eNot_, eIf_, aNil_, aCons_, eTup_, eLst_, eCall_, eB_, eM_, oNone_, eSl_, tV_, tAnd_, tOr_, tNot_, tYes_, eChain_, gName_, gNil_, gCons_, gTup_, sq_nx, sq_rt, fin_rt, fin_nx, gSub_, gAdd_, gLt_, gLe_, gGt_, gGe_, gNeg_, gMul_, gFdiv_, gMod_, gEq_int, gNe_int, gEq_bl, gNe_bl, seqOf_tup, gIx_tup, atD_0, atD_1, atD_2, bAbs_, bInt_bl, bMax2_, bMin2_, line1, line2, line3, line4, line5, line6, line7, line8, List.getElem?_cons_succ, List.getElem?_cons_zero, Option.join_some, Option.join_none, Option.bind_some, Option.bind_none, List.set_cons_succ, List.set_cons_zero, List.map_cons, List.map_nil, List.length_cons, List.length_nil, List.append_nil, List.nil_append, List.cons_append, List.replicate_succ, List.replicate_zero, Nat.reduceAdd, Nat.reduceSub, Nat.reduceEqDiff, if_true, if_false, Bool.false_eq_true, decide_true, decide_false, Bool.not_true, Bool.not_false, eq_self_iff_true, reduceIte, List.zip_cons_cons, List.zip_nil_right, List.zip_nil_left, List.foldl_cons, List.foldl_nil, Int.reduceLT, Int.reduceEq, Int.reduceLE, f1, f2, j1, j2, gEq_sd, hPQ, h3]
      rfl
    · rw [hh] at h3
      simp (disch := walk_at "dis") only [mkF_, sSeq_, sSet_, sAsg_, sPar_, sIf_, sRet_, sExpr_, sNil_, eC_, eV_, e1_, e2_, asB_, asI_, eAnd_, eOr_, eNot_, eIf_, aNil_, aCons_, eTup_, eLst_, eCall_, eB_, eM_, oNone_, eSl_, tV_, tAnd_, tOr_, tNot_, tYes_, eChain_, gName_, gNil_, gCons_, gTup_, sq_nx, sq_rt, fin_rt, fin_nx, gSub_, gAdd_, gLt_, gLe_, gGt_, gGe_, gNeg_, gMul_, gFdiv_, gMod_, gEq_int, gNe_int, gEq_bl, gNe_bl, seqOf_tup, gIx_tup, atD_0, atD_1, atD_2, bAbs_, bInt_bl, bMax2_, bMin2_, line1, line2, line3, line4, line5, line6, line7, line8, List.getElem?_cons_succ, List.getElem?_cons_zero, Option.join_some, Option.join_none, Option.bind_some, Option.bind_none, List.set_cons_succ, List.set_cons_zero, List.map_cons, List.map_nil, List.length_cons, List.length_nil, List.append_nil, List.nil_append, List.cons_append, List.replicate_succ, List.replicate_zero, Nat.reduceAdd, Nat.reduceSub, Nat.reduceEqDiff, if_true, if_false, Bool.false_eq_true, decide_true, decide_false, Bool.not_true, Bool.not_false, eq_self_iff_true, reduceIte, List.zip_cons_cons, List.zip_nil_right, List.zip_nil_left, List.foldl_cons, List.foldl_nil, Int.reduceLT, Int.reduceEq, Int.reduceLE, f1, f2, j1, j2, gEq_sd, hPQ, h3]
      rfl
theorem ixl0 {m : Nat} {x y : D} {c : Cells} (h : c[m]? = some (.lst [x, y])) : gIx (.ref m) (.int 0) c = some (x, c) := by
  rw [gIx_, seqOf_lst h]; rfl
theorem ixl1 {m : Nat} {x y : D} {c : Cells} (h : c[m]? = some (.lst [x, y])) : gIx (.ref m) (.int 1) c = some (y, c) := by
  rw [gIx_, seqOf_lst h]; rfl
theorem sgn_bd (n : Int) : -1 ≤ My.sgn n ∧ My.sgn n ≤ 1 := by
  rcases My.sgn3 n with ⟨_, e⟩ | ⟨_, e⟩ | ⟨_, e⟩ <;> omega
theorem common_ {a b p q : T3} {c : Cells} (ha : Ok 130 a) (hb : Ok 130 b) (hp : Ok 130 p) (hq : Ok 130 q) : ∃ c', F_common [side a b, side p q] c = some (cD (My.cm a b p q), c') ∧ c <+: c' ∧ (∀ z, My.cm a b p q = .spot z → Ok 1000 z) ∧ (∀ z w, My.cm a b p q = .stretch z w → Ok 1000 z ∧ Ok 1000 w) := by
  have ha' := ha.mono (k := 1000) (by decide); have hb' := hb.mono (k := 1000) (by decide); have hp' := hp.mono (k := 1000) (by decide); have hq' := hq.mono (k := 1000) (by decide)
  obtain ⟨c1, e1, p1, g1⟩ := turns_ (c := c) ha' hb' hp' hq'
  have n1 : (c1 ++ [Cell.lst [.int 0, .int 0]])[c1.length]? = some (.lst [.int 0, .int 0]) := List.getElem?_concat_length
  have g1' : (c1 ++ [Cell.lst [.int 0, .int 0]])[c.length]? = some (.lst [.int (My.sgn (My.dtT a b p)), .int (My.sgn (My.dtT a b q))]) := pre_get ⟨_, rfl⟩ g1
  have q1 := gEq_l2 g1' n1
  obtain ⟨s1, s2⟩ := sgn_bd (My.dtT a b p)
  obtain ⟨s3, s4⟩ := sgn_bd (My.dtT a b q)
  obtain ⟨s5, s6⟩ := sgn_bd (My.dtT p q a)
  obtain ⟨s7, s8⟩ := sgn_bd (My.dtT p q b)
  have fwo : ∀ {u v : T3}, Ok 1000 u → Ok 1000 v → Ok 1000 (My.fw u v).1 ∧ Ok 1000 (My.fw u v).2 := fun {u v} h1 h2 => by
    unfold My.fw; split
    · exact ⟨h1, h2⟩
    · exact ⟨h2, h1⟩
  have rowOk : (∀ z, My.rowC (My.fw a b) (My.fw p q) = .spot z → Ok 1000 z) ∧ (∀ z w, My.rowC (My.fw a b) (My.fw p q) = .stretch z w → Ok 1000 z ∧ Ok 1000 w) := by
    obtain ⟨l1, l2⟩ := fwo ha' hb'
    obtain ⟨r1, r2⟩ := fwo hp' hq'
    have oP : Ok 1000 (if My.ahT (My.fw a b).1 (My.fw p q).1 = true then (My.fw p q).1 else (My.fw a b).1) := by split <;> assumption
    have oQ : Ok 1000 (if My.ahT (My.fw a b).2 (My.fw p q).2 = true then (My.fw a b).2 else (My.fw p q).2) := by split <;> assumption
    unfold My.rowC
    dsimp only
    generalize (if My.ahT (My.fw a b).1 (My.fw p q).1 = true then (My.fw p q).1 else (My.fw a b).1) = P at *
    generalize (if My.ahT (My.fw a b).2 (My.fw p q).2 = true then (My.fw a b).2 else (My.fw p q).2) = Q at *
    refine ⟨fun z hz => ?_, fun z w hz => ?_⟩
    · split at hz
      · cases hz; exact oP
      · split at hz <;> cases hz
    · split at hz
      · cases hz
      · split at hz
        · cases hz; exact ⟨oP, oQ⟩
        · cases hz
  unfold My.cm
  by_cases g : My.sgn (My.dtT a b p) = 0 ∧ My.sgn (My.dtT a b q) = 0
  · rw [if_pos g]
    refine ⟨c1 ++ [.lst [.int 0, .int 0]], ?_, p1.trans ⟨_, rfl⟩, rowOk.1, rowOk.2⟩
    have f := in_rowP_ (c := c1 ++ [.lst [.int 0, .int 0]]) ha' hb' hp' hq'
    rw [decide_eq_true g] at q1
    simp (disch := walk_at "dis") only [mkF_, sSeq_, sSet_, sAsg_, sPar_, sIf_, sRet_, sExpr_, sNil_, eC_, eV_, e1_, e2_, asB_, asI_, eAnd_, eOr_, eNot_, eIf_, aNil_, aCons_, eTup_, eLst_, eCall_, eB_, eM_, oNone_, eSl_, tV_, tAnd_, tOr_, tNot_, tYes_, eChain_, gName_, gNil_, gCons_, gTup_, sq_nx, sq_rt, fin_rt, fin_nx, gSub_, gAdd_, gLt_, gLe_, gGt_, gGe_, gNeg_, gMul_, gFdiv_, gMod_, gEq_int, gNe_int, gEq_bl, gNe_bl, seqOf_tup, gIx_tup, atD_0, atD_1, atD_2, bAbs_, bInt_bl, bMax2_, bMin2_, line1, line2, line3, line4, line5, line6, line7, line8, List.getElem?_cons_succ, List.getElem?_cons_zero, Option.join_some, Option.join_none, Option.bind_some, Option.bind_none, List.set_cons_succ, List.set_cons_zero, List.map_cons, List.map_nil, List.length_cons, List.length_nil, List.append_nil, List.nil_append, List.cons_append, List.replicate_succ, List.replicate_zero, Nat.reduceAdd, Nat.reduceSub, Nat.reduceEqDiff, if_true, if_false, Bool.false_eq_true, decide_true, decide_false, Bool.not_true, Bool.not_false, eq_self_iff_true, reduceIte, List.zip_cons_cons, List.zip_nil_right, List.zip_nil_left, List.foldl_cons, List.foldl_nil, Int.reduceLT, Int.reduceEq, Int.reduceLE, F_common, B_common, e1, q1, f]
  · rw [if_neg g]
    rw [decide_eq_false g] at q1
    obtain ⟨c2, e2, p2, g2⟩ := turns_ (c := c1 ++ [.lst [.int 0, .int 0]]) hp' hq' ha' hb'
    have g1'' := pre_get p2 g1'
    have t0 := ixl0 g1''; have t1 := ixl1 g1''; have b0 := ixl0 g2; have b1 := ixl1 g2
    have m1 : Qm.MulOk (My.sgn (My.dtT a b p)) (My.sgn (My.dtT a b q)) := mulL (by omega)
    have m2 : Qm.MulOk (My.sgn (My.dtT p q a)) (My.sgn (My.dtT p q b)) := mulL (by omega)
    have pp : c <+: c2 := p1.trans (List.IsPrefix.trans ⟨_, rfl⟩ p2)
    by_cases k1 : 0 < My.sgn (My.dtT a b p) * My.sgn (My.dtT a b q)
    · rw [if_pos (.inl k1)]
      refine ⟨c2, ?_, pp, fun z hz => (by cases hz), fun z w hz => (by cases hz)⟩
      simp (disch := walk_at "dis") only [mkF_, sSeq_, sSet_, sAsg_, sPar_, sIf_, sRet_, sExpr_, sNil_, eC_, eV_, e1_, e2_, asB_, asI_, eAnd_, eOr_, eNot_, eIf_, aNil_, aCons_, eTup_, eLst_, eCall_, eB_, eM_, oNone_, eSl_, tV_, tAnd_, tOr_, tNot_, tYes_, eChain_, gName_, gNil_, gCons_, gTup_, sq_nx, sq_rt, fin_rt, fin_nx, gSub_, gAdd_, gLt_, gLe_, gGt_, gGe_, gNeg_, gMul_, gFdiv_, gMod_, gEq_int, gNe_int, gEq_bl, gNe_bl, seqOf_tup, gIx_tup, atD_0, atD_1, atD_2, bAbs_, bInt_bl, bMax2_, bMin2_, line1, line2, line3, line4, line5, line6, line7, line8, List.getElem?_cons_succ, List.getElem?_cons_zero, Option.join_some, Option.join_none, Option.bind_some, Option.bind_none, List.set_cons_succ, List.set_cons_zero, List.map_cons, List.map_nil, List.length_cons, List.length_nil, List.append_nil, List.nil_append, List.cons_append, List.replicate_succ, List.replicate_zero, Nat.reduceAdd, Nat.reduceSub, Nat.reduceEqDiff, if_true, if_false, Bool.false_eq_true, decide_true, decide_false, Bool.not_true, Bool.not_false, eq_self_iff_true, reduceIte, List.zip_cons_cons, List.zip_nil_right, List.zip_nil_left, List.foldl_cons, List.foldl_nil, Int.reduceLT, Int.reduceEq, Int.reduceLE, F_common, B_common, e1, q1, e2, t0, t1, gMul_ m1, k1]
      rfl
    · by_cases k2 : 0 < My.sgn (My.dtT p q a) * My.sgn (My.dtT p q b)
      · rw [if_pos (.inr k2)]
        refine ⟨c2, ?_, pp, fun z hz => (by cases hz), fun z w hz => (by cases hz)⟩
        simp (disch := walk_at "dis") only [mkF_, sSeq_, sSet_, sAsg_, sPar_, sIf_, sRet_, sExpr_, sNil_, eC_, eV_, e1_, e2_, asB_, asI_, eAnd_, eOr_, eNot_, eIf_, aNil_, aCons_, eTup_, eLst_, eCall_, eB_, eM_, oNone_, eSl_, tV_, tAnd_, tOr_, tNot_, tYes_, eChain_, gName_, gNil_, gCons_, gTup_, sq_nx, sq_rt, fin_rt, fin_nx, gSub_, gAdd_, gLt_, gLe_, gGt_, gGe_, gNeg_, gMul_, gFdiv_, gMod_, gEq_int, gNe_int, gEq_bl, gNe_bl, seqOf_tup, gIx_tup, atD_0, atD_1, atD_2, bAbs_, bInt_bl, bMax2_, bMin2_, line1, line2, line3, line4, line5, line6, line7, line8, List.getElem?_cons_succ, List.getElem?_cons_zero, Option.join_some, Option.join_none, Option.bind_some, Option.bind_none, List.set_cons_succ, List.set_cons_zero, List.map_cons, List.map_nil, List.length_cons, List.length_nil, List.append_nil, List.nil_append, List.cons_append, List.replicate_succ, List.replicate_zero, Nat.reduceAdd, Nat.reduceSub, Nat.reduceEqDiff, if_true, if_false, Bool.false_eq_true, decide_true, decide_false, Bool.not_true, Bool.not_false, eq_self_iff_true, reduceIte, List.zip_cons_cons, List.zip_nil_right, List.zip_nil_left, List.foldl_cons, List.foldl_nil, Int.reduceLT, Int.reduceEq, Int.reduceLE, F_common, B_common, e1, q1, e2, t0, t1, b0, b1, gMul_ m1, gMul_ m2, k1, k2]
        rfl
      · rw [if_neg (fun z => z.elim k1 k2)]
        obtain ⟨f, o⟩ := crossing_ (c := c2) ha hb hp hq (My.cross_ne hp.pos hq.pos g k1)
        refine ⟨c2, ?_, pp, fun z hz => (by cases hz; exact o.mono (by decide)), fun z w hz => (by cases hz)⟩
        simp (disch := walk_at "dis") only [mkF_, sSeq_, sSet_, sAsg_, sPar_, sIf_, sRet_, sExpr_, sNil_, eC_, eV_, e1_, e2_, asB_, asI_, eAnd_, eOr_, eNot_, eIf_, aNil_, aCons_, eTup_, eLst_, eCall_, eB_, eM_, oNone_, eSl_, tV_, tAnd_, tOr_, tNot_, tYes_, eChain_, gName_, gNil_, gCons_, gTup_, sq_nx, sq_rt, fin_rt, fin_nx, gSub_, gAdd_, gLt_, gLe_, gGt_, gGe_, gNeg_, gMul_, gFdiv_, gMod_, gEq_int, gNe_int, gEq_bl, gNe_bl, seqOf_tup, gIx_tup, atD_0, atD_1, atD_2, bAbs_, bInt_bl, bMax2_, bMin2_, line1, line2, line3, line4, line5, line6, line7, line8, List.getElem?_cons_succ, List.getElem?_cons_zero, Option.join_some, Option.join_none, Option.bind_some, Option.bind_none, List.set_cons_succ, List.set_cons_zero, List.map_cons, List.map_nil, List.length_cons, List.length_nil, List.append_nil, List.nil_append, List.cons_append, List.replicate_succ, List.replicate_zero, Nat.reduceAdd, Nat.reduceSub, Nat.reduceEqDiff, if_true, if_false, Bool.false_eq_true, decide_true, decide_false, Bool.not_true, Bool.not_false, eq_self_iff_true, reduceIte, List.zip_cons_cons, List.zip_nil_right, List.zip_nil_left, List.foldl_cons, List.foldl_nil, Int.reduceLT, Int.reduceEq, Int.reduceLE, F_common, B_common, e1, q1, e2, t0, t1, b0, b1, gMul_ m1, gMul_ m2, k1, k2, f]
        rfl
def pr (u : My.P2) : D := .tup [.int u.1, .int u.2]
theorem pr0_ (p : My.P2) (c : Cells) : gIx (pr p) (.int 0) c = some (.int p.1, c) := rfl
theorem pr1_ (p : My.P2) (c : Cells) : gIx (pr p) (.int 1) c = some (.int p.2, c) := rfl
theorem ml9 {y z : Int} (h1 : My.Bd 9000 y) (h2 : My.Bd 9000 z) : Qm.MulOk y z := mulB (h1.mono (by decide)) (h2.mono (by decide))
theorem gt_pr (u v : My.P2) : Qm.gtL [u.1, u.2] [v.1, v.2] = My.gtP u v := by
  unfold My.gtP
  simp only [Qm.gtL]
theorem max_pr {u v : My.P2} {c : Cells} : bMax2T [pr u, pr v] c = some (pr (if My.gtP v u = true then v else u), c) := by
  have e : bMax2T [pr u, pr v] c = some (if Qm.gtL [v.1, v.2] [u.1, u.2] = true then pr v else pr u, c) := rfl
  rw [e, gt_pr]
  split <;> rfl
theorem min_pr {u v : My.P2} {c : Cells} : bMin2T [pr u, pr v] c = some (pr (if My.gtP u v = true then v else u), c) := by
  have e : bMin2T [pr u, pr v] c = some (if Qm.gtL [u.1, u.2] [v.1, v.2] = true then pr v else pr u, c) := rfl
  rw [e, gt_pr]
  split <;> rfl
theorem gt2_pr {u v : My.P2} {c : Cells} : gGtT (pr u) (pr v) c = some (.bl (My.gtP u v), c) := by
  have e : gGtT (pr u) (pr v) c = some (.bl (Qm.gtL [u.1, u.2] [v.1, v.2]), c) := rfl
  rw [e, gt_pr]
theorem sorted_pr {u v : My.P2} {m : Nat} {c : Cells} (h : c[m]? = some (.lst [pr u, pr v])) : bSorted2 [.ref m] c = some (.ref c.length, c ++ [.lst [pr (My.srt u v).1, pr (My.srt u v).2]]) := by
  have s := seqOf_lst h
  have e : bSorted2 [.ref m] c = (seqOf (.ref m) c).bind fun zs => (two2T zs).bind fun q => some (.ref c.length, c ++ [.lst (if Qm.gtL q.2.2.1 q.2.2.2 = true then [.tup q.2.1, .tup q.1] else [.tup q.1, .tup q.2.1])]) := rfl
  have e2 : two2T [pr u, pr v] = some ([.int u.1, .int u.2], [.int v.1, .int v.2], [u.1, u.2], [v.1, v.2]) := by
    show (if [u.1, u.2] ≠ [] ∧ [v.1, v.2] ≠ [] then some _ else none) = _
    rw [if_pos ⟨nofun, nofun⟩]
  rw [e, s, Option.bind_some, e2, Option.bind_some]
  dsimp only
  rw [gt_pr]
  unfold My.srt
  split <;> rfl
theorem eq_pr {u v : My.P2} {c : Cells} : gEq (pr u) (pr v) c = some (.bl (decide (u = v)), c) := by
  have e : eqM (pr u) (pr v) c = some (@decide (PyData.tuple [.int u.1, .int u.2] = PyData.tuple [.int v.1, .int v.2]) (Classical.propDecidable _)) := rfl
  unfold gEq
  rw [e, Option.bind_some]
  congr 3
  rw [Bool.eq_iff_iff]
  simp only [decide_eq_true_eq, PyData.tuple.injEq, List.cons.injEq, PyData.int.injEq, and_true]
  exact ⟨fun z => Prod.ext z.1 z.2, fun z => by rw [z]; exact ⟨rfl, rfl⟩⟩
theorem across_ {u v : My.P2} {c : Cells} (h1 : My.Bd 9000 u.1) (h2 : My.Bd 9000 u.2) (h3 : My.Bd 9000 v.1) (h4 : My.Bd 9000 v.2) : F_law_across [pr u, pr v] c = some (.int (My.crs u v), c) := by
  unfold My.crs
  simp (disch := walk_at "dis") only [mkF_, sSeq_, sSet_, sAsg_, sPar_, sIf_, sRet_, sExpr_, sNil_, eC_, eV_, e1_, e2_, asB_, asI_, eAnd_, eOr_, eNot_, eIf_, aNil_, aCons_, eTup_, eLst_, eCall_, eB_, eM_, oNone_, eSl_, tV_, tAnd_, tOr_, tNot_, tYes_, eChain_, gName_, gNil_, gCons_, gTup_, sq_nx, sq_rt, fin_rt, fin_nx, gSub_, gAdd_, gLt_, gLe_, gGt_, gGe_, gNeg_, gMul_, gFdiv_, gMod_, gEq_int, gNe_int, gEq_bl, gNe_bl, seqOf_tup, gIx_tup, atD_0, atD_1, atD_2, bAbs_, bInt_bl, bMax2_, bMin2_, line1, line2, line3, line4, line5, line6, line7, line8, List.getElem?_cons_succ, List.getElem?_cons_zero, Option.join_some, Option.join_none, Option.bind_some, Option.bind_none, List.set_cons_succ, List.set_cons_zero, List.map_cons, List.map_nil, List.length_cons, List.length_nil, List.append_nil, List.nil_append, List.cons_append, List.replicate_succ, List.replicate_zero, Nat.reduceAdd, Nat.reduceSub, Nat.reduceEqDiff, if_true, if_false, Bool.false_eq_true, decide_true, decide_false, Bool.not_true, Bool.not_false, eq_self_iff_true, reduceIte, List.zip_cons_cons, List.zip_nil_right, List.zip_nil_left, List.foldl_cons, List.foldl_nil, Int.reduceLT, Int.reduceEq, Int.reduceLE, F_law_across, B_law_across, pr0_, pr1_, gMul_ (ml9 h1 h4), gMul_ (ml9 h2 h3)]
theorem lowestS_ {x y w : Int} {c : Cells} (hw : w ≠ 0) (hb : My.Bd 8900 w) : F_law_lowest [.int x, .int y, .int w] c = some (sd (My.spT x y w), c) := lowest_ hw hb
theorem lone_ {x y w : Int} {c : Cells} (hw : w ≠ 0) (hb : My.Bd 8900 w) : F_law_lone [.int x, .int y, .int w] c = some (cD (.spot (My.spT x y w)), c) := by
  have l := lowestS_ (x := x) (y := y) (c := c) hw hb
  simp (disch := walk_at "dis") only [mkF_, sSeq_, sSet_, sAsg_, sPar_, sIf_, sRet_, sExpr_, sNil_, eC_, eV_, e1_, e2_, asB_, asI_, eAnd_, eOr_, eNot_, eIf_, aNil_, aCons_, eTup_, eLst_, eCall_, eB_, eM_, oNone_, eSl_, tV_, tAnd_, tOr_, tNot_, tYes_, eChain_, gName_, gNil_, gCons_, gTup_, sq_nx, sq_rt, fin_rt, fin_nx, gSub_, gAdd_, gLt_, gLe_, gGt_, gGe_, gNeg_, gMul_, gFdiv_, gMod_, gEq_int, gNe_int, gEq_bl, gNe_bl, seqOf_tup, gIx_tup, atD_0, atD_1, atD_2, bAbs_, bInt_bl, bMax2_, bMin2_, line1, line2, line3, line4, line5, line6, line7, line8, List.getElem?_cons_succ, List.getElem?_cons_zero, Option.join_some, Option.join_none, Option.bind_some, Option.bind_none, List.set_cons_succ, List.set_cons_zero, List.map_cons, List.map_nil, List.length_cons, List.length_nil, List.append_nil, List.nil_append, List.cons_append, List.replicate_succ, List.replicate_zero, Nat.reduceAdd, Nat.reduceSub, Nat.reduceEqDiff, if_true, if_false, Bool.false_eq_true, decide_true, decide_false, Bool.not_true, Bool.not_false, eq_self_iff_true, reduceIte, List.zip_cons_cons, List.zip_nil_right, List.zip_nil_left, List.foldl_cons, List.foldl_nil, Int.reduceLT, Int.reduceEq, Int.reduceLE, F_law_lone, B_law_lone, l]
  rfl
theorem in_rowL_ {m n : Nat} {l r : My.P2 × My.P2} {W : Int} {c : Cells} (hm : c[m]? = some (.lst [pr l.1, pr l.2])) (hn : c[n]? = some (.lst [pr r.1, pr r.2])) (hw : W ≠ 0) (hb : My.Bd 8900 W) : F_law_in_row [.ref m, .ref n, .int W] c = some (cD (My.rowL l r W), c) := by
  have a0 := ixl0 hm; have a1 := ixl1 hm; have b0 := ixl0 hn; have b1 := ixl1 hn
  unfold My.rowL
  dsimp only
  have x1 := max_pr (u := l.1) (v := r.1) (c := c)
  have x2 := min_pr (u := l.2) (v := r.2) (c := c)
  generalize (if My.gtP r.1 l.1 = true then r.1 else l.1) = lo at *
  generalize (if My.gtP l.2 r.2 = true then r.2 else l.2) = hi at *
  have x3 := gt2_pr (u := lo) (v := hi) (c := c)
  have x4 := eq_pr (u := lo) (v := hi) (c := c)
  have y1 := lowestS_ (x := lo.1) (y := lo.2) (c := c) hw hb
  have y2 := lowestS_ (x := hi.1) (y := hi.2) (c := c) hw hb
  have y3 := lone_ (x := lo.1) (y := lo.2) (c := c) hw hb
  cases g : My.gtP lo hi
  · rw [g] at x3
    by_cases k : lo = hi
    · rw [decide_eq_true k] at x4
      rw [if_pos k]
      simp (disch := walk_at "dis") only [mkF_, sSeq_, sSet_, sAsg_, sPar_, sIf_, sRet_, sExpr_, sNil_, eC_, eV_, e1_, e2_, asB_, asI_, eAnd_, eOr_, eNot_, eIf_, aNil_, aCons_, eTup_, eLst_, eCall_, eB_, eM_, oNone_, eSl_, tV_, tAnd_, tOr_, tNot_, tYes_, eChain_, gName_, gNil_, gCons_, gTup_, sq_nx, sq_rt, fin_rt, fin_nx, gSub_, gAdd_, gLt_, gLe_, gGt_, gGe_, gNeg_, gMul_, gFdiv_, gMod_, gEq_int, gNe_int, gEq_bl, gNe_bl, seqOf_tup, gIx_tup, atD_0, atD_1, atD_2, bAbs_, bInt_bl, bMax2_, bMin2_, line1, line2, line3, line4, line5, line6, line7, line8, List.getElem?_cons_succ, List.getElem?_cons_zero, Option.join_some, Option.join_none, Option.bind_some, Option.bind_none, List.set_cons_succ, List.set_cons_zero, List.map_cons, List.map_nil, List.length_cons, List.length_nil, List.append_nil, List.nil_append, List.cons_append, List.replicate_succ, List.replicate_zero, Nat.reduceAdd, Nat.reduceSub, Nat.reduceEqDiff, if_true, if_false, Bool.false_eq_true, decide_true, decide_false, Bool.not_true, Bool.not_false, eq_self_iff_true, reduceIte, List.zip_cons_cons, List.zip_nil_right, List.zip_nil_left, List.foldl_cons, List.foldl_nil, Int.reduceLT, Int.reduceEq, Int.reduceLE, F_law_in_row, B_law_in_row, a0, a1, b0, b1, x1, x2, x3, x4, pr0_, pr1_, y3]
    · rw [decide_eq_false k] at x4
      rw [if_neg k]
      simp (disch := walk_at "dis") only [mkF_, sSeq_, sSet_, sAsg_, sPar_, sIf_, sRet_, sExpr_, sNil_, eC_, eV_, e1_, e2_, asB_, asI_, eAnd_, eOr_, eNot_, eIf_, aNil_, aCons_, eTup_, eLst_, eCall_, eB_, eM_, oNone_, eSl_, tV_, tAnd_, tOr_, tNot_, tYes_, eChain_, gName_, gNil_, gCons_, gTup_, sq_nx, sq_rt, fin_rt, fin_nx, gSub_, gAdd_, gLt_, gLe_, gGt_, gGe_, gNeg_, gMul_, gFdiv_, gMod_, gEq_int, gNe_int, gEq_bl, gNe_bl, seqOf_tup, gIx_tup, atD_0, atD_1, atD_2, bAbs_, bInt_bl, bMax2_, bMin2_, line1, line2, line3, line4, line5, line6, line7, line8, List.getElem?_cons_succ, List.getElem?_cons_zero, Option.join_some, Option.join_none, Option.bind_some, Option.bind_none, List.set_cons_succ, List.set_cons_zero, List.map_cons, List.map_nil, List.length_cons, List.length_nil, List.append_nil, List.nil_append, List.cons_append, List.replicate_succ, List.replicate_zero, Nat.reduceAdd, Nat.reduceSub, Nat.reduceEqDiff, if_true, if_false, Bool.false_eq_true, decide_true, decide_false, Bool.not_true, Bool.not_false, eq_self_iff_true, reduceIte, List.zip_cons_cons, List.zip_nil_right, List.zip_nil_left, List.foldl_cons, List.foldl_nil, Int.reduceLT, Int.reduceEq, Int.reduceLE, F_law_in_row, B_law_in_row, a0, a1, b0, b1, x1, x2, x3, x4, pr0_, pr1_, y1, y2]
      rfl
  · rw [g] at x3
    simp (disch := walk_at "dis") only [mkF_, sSeq_, sSet_, sAsg_, sPar_, sIf_, sRet_, sExpr_, sNil_, eC_, eV_, e1_, e2_, asB_, asI_, eAnd_, eOr_, eNot_, eIf_, aNil_, aCons_, eTup_, eLst_, eCall_, eB_, eM_, oNone_, eSl_, tV_, tAnd_, tOr_, tNot_, tYes_, eChain_, gName_, gNil_, gCons_, gTup_, sq_nx, sq_rt, fin_rt, fin_nx, gSub_, gAdd_, gLt_, gLe_, gGt_, gGe_, gNeg_, gMul_, gFdiv_, gMod_, gEq_int, gNe_int, gEq_bl, gNe_bl, seqOf_tup, gIx_tup, atD_0, atD_1, atD_2, bAbs_, bInt_bl, bMax2_, bMin2_, line1, line2, line3, line4, line5, line6, line7, line8, List.getElem?_cons_succ, List.getElem?_cons_zero, Option.join_some, Option.join_none, Option.bind_some, Option.bind_none, List.set_cons_succ, List.set_cons_zero, List.map_cons, List.map_nil, List.length_cons, List.length_nil, List.append_nil, List.nil_append, List.cons_append, List.replicate_succ, List.replicate_zero, Nat.reduceAdd, Nat.reduceSub, Nat.reduceEqDiff, if_true, if_false, Bool.false_eq_true, decide_true, decide_false, Bool.not_true, Bool.not_false, eq_self_iff_true, reduceIte, List.zip_cons_cons, List.zip_nil_right, List.zip_nil_left, List.foldl_cons, List.foldl_nil, Int.reduceLT, Int.reduceEq, Int.reduceLE, F_law_in_row, B_law_in_row, a0, a1, b0, b1, x1, x2, x3]
    rfl
theorem div_bd {W w : Int} {k : Nat} (hW : 0 < W) (hw : 0 < w) (hb : My.Bd k W) : My.Bd k (W / w) := by
  refine My.Bd.of_le hb ?_
  have h1 := Int.ediv_nonneg (Int.le_of_lt hW) (Int.le_of_lt hw)
  have h2 := Int.ediv_le_self w (Int.le_of_lt hW)
  omega
noncomputable abbrev hR : XS := (sIf (tAnd (tV (e2 gEq (eV 10) (eC (.int 0)))) (tV (e2 gEq (eV 12) (eC (.int 0))))) (sRet (eCall F_law_in_row [] (aCons (eB bSorted2 (aCons (eLst (aCons (eV 3) (aCons (eV 4) aNil))) aNil)) (aCons (eB bSorted2 (aCons (eLst (aCons (eV 5) (aCons (eV 6) aNil))) aNil)) (aCons (eV 2) aNil))))) sNil)
noncomputable abbrev hN : XS := (sIf (tV (e2 gLt (eV 10) (eC (.int 0)))) (sPar [10, 11, 12] (aCons (e2 gSub (eC (.int 0)) (eV 10)) (aCons (e2 gSub (eC (.int 0)) (eV 11)) (aCons (e2 gSub (eC (.int 0)) (eV 12)) aNil)))) sNil)
noncomputable abbrev hC : XS := (sIf (tOr (tV (e2 gEq (eV 10) (eC (.int 0)))) (tOr (tNot (tV (eChain gLe gLe (eC (.int 0)) (eV 11) (eV 10)))) (tNot (tV (eChain gLe gLe (eC (.int 0)) (eV 12) (eV 10)))))) (sRet (eC .non)) sNil)
noncomputable abbrev hCp : XE := (eComp (iTup (e2 gAdd (eV 0) (eV 1))) [none, some 2] (gName 0) tYes (eTup (aCons (e2 gMul (e2 gIx (eV 0) (eC (.int 0))) (e2 gFdiv (eV 1) (e2 gIx (eV 0) (eC (.int 2))))) (aCons (e2 gMul (e2 gIx (eV 0) (eC (.int 1))) (e2 gFdiv (eV 1) (e2 gIx (eV 0) (eC (.int 2))))) aNil))))
noncomputable abbrev shT : XS := (sSeq (sSet 2 (e2 gMul (e2 gMul (e2 gMul (e2 gIx (e2 gIx (eV 0) (eC (.int 0))) (eC (.int 2))) (e2 gIx (e2 gIx (eV 0) (eC (.int 1))) (eC (.int 2)))) (e2 gIx (e2 gIx (eV 1) (eC (.int 0))) (eC (.int 2)))) (e2 gIx (e2 gIx (eV 1) (eC (.int 1))) (eC (.int 2)))))
  (sSeq (sAsg hCp (gUnL 4 (gCons (gName 3) (gCons (gName 4) (gCons (gName 5) (gCons (gName 6) gNil))))))
  (sSeq (sSet 7 (eTup (aCons (e2 gSub (e2 gIx (eV 4) (eC (.int 0))) (e2 gIx (eV 3) (eC (.int 0)))) (aCons (e2 gSub (e2 gIx (eV 4) (eC (.int 1))) (e2 gIx (eV 3) (eC (.int 1)))) aNil))))
  (sSeq (sSet 8 (eTup (aCons (e2 gSub (e2 gIx (eV 6) (eC (.int 0))) (e2 gIx (eV 5) (eC (.int 0)))) (aCons (e2 gSub (e2 gIx (eV 6) (eC (.int 1))) (e2 gIx (eV 5) (eC (.int 1)))) aNil))))
  (sSeq (sSet 9 (eTup (aCons (e2 gSub (e2 gIx (eV 5) (eC (.int 0))) (e2 gIx (eV 3) (eC (.int 0)))) (aCons (e2 gSub (e2 gIx (eV 5) (eC (.int 1))) (e2 gIx (eV 3) (eC (.int 1)))) aNil))))
  (sSeq (sSet 10 (eCall F_law_across [] (aCons (eV 7) (aCons (eV 8) aNil))))
  (sSeq (sSet 11 (eCall F_law_across [] (aCons (eV 9) (aCons (eV 8) aNil))))
  (sSeq (sSet 12 (eCall F_law_across [] (aCons (eV 9) (aCons (eV 7) aNil))))
  (sSeq hR
  (sSeq hN
  (sSeq hC
  (sRet (eCall F_law_lone [] (aCons (e2 gAdd (e2 gMul (e2 gIx (eV 3) (eC (.int 0))) (eV 10)) (e2 gMul (e2 gIx (eV 7) (eC (.int 0))) (eV 11))) (aCons (e2 gAdd (e2 gMul (e2 gIx (eV 3) (eC (.int 1))) (eV 10)) (e2 gMul (e2 gIx (eV 7) (eC (.int 1))) (eV 11))) (aCons (e2 gMul (eV 2) (eV 10)) aNil))))))))))))))))
theorem B_sh_eq : B_law_shares = shT := rfl
theorem sSeq_of {a b : XS} {σ σ1 : Qm.Env} {c c1 : Cells} {r : Option (Fl × Qm.Env × Cells)} (h1 : a σ c = some (.nx, σ1, c1)) (h2 : b σ1 c1 = r) : sSeq a b σ c = r := by
  rw [sSeq_, h1, Option.bind_some]
  exact h2
theorem sSeq_rt {a b : XS} {σ σ1 : Qm.Env} {c c1 : Cells} {d : D} (h1 : a σ c = some (.rt d, σ1, c1)) : sSeq a b σ c = some (.rt d, σ1, c1) := by
  rw [sSeq_, h1]
  rfl
theorem shares_ {a b p q : T3} {c : Cells} (ha : Ok 130 a) (hb : Ok 130 b) (hp : Ok 130 p) (hq : Ok 130 q) : ∃ c', F_law_shares [side a b, side p q] c = some (cD (My.share a b p q), c') ∧ c <+: c' := by
  have pa := ha.pos; have pb := hb.pos; have pp := hp.pos; have pq := hq.pos
  have w1 := ha.bw.mul hb.bw; have w2 := w1.mul hp.bw; have w3 := w2.mul hq.bw
  have hW : 0 < My.wN a b p q := Int.mul_pos (Int.mul_pos (Int.mul_pos pa pb) pp) pq
  have bW : My.Bd 520 (My.wN a b p q) := w3.mono (by decide)
  have scB : ∀ {x : T3}, Ok 130 x → My.Bd 650 (My.scW (My.wN a b p q) x).1 ∧ My.Bd 650 (My.scW (My.wN a b p q) x).2 := fun {x} h => by
    have d := div_bd hW h.pos bW
    unfold My.scW My.sc
    exact ⟨(h.bx.mul d).mono (by decide), (h.by_.mul d).mono (by decide)⟩
  obtain ⟨A1, A2⟩ := scB ha
  obtain ⟨B1, B2⟩ := scB hb
  obtain ⟨C1, C2⟩ := scB hp
  obtain ⟨D1, D2⟩ := scB hq
  have sq4 : gAdd (side a b) (side p q) c = some (.tup [sd a, sd b, sd p, sd q], c) := by
    have : gAdd (side a b) (side p q) c = (if [sd a, sd b] ≠ [] ∧ [sd a, sd b].length + [sd p, sd q].length ≤ LINE then some (.tup ([sd a, sd b] ++ [sd p, sd q]), c) else none) := rfl
    rw [this, if_pos ⟨nofun, line_ok (by simp)⟩]; rfl
  have hi : iTup (e2 gAdd (eV 0) (eV 1)) [some (side a b), some (side p q), some (.int (My.wN a b p q)), none, none, none, none, none, none, none, none, none, none] c = some (⟨[sd a, sd b, sd p, sd q], []⟩, c) := by
    unfold iTup
    simp (disch := walk_at "dis") only [mkF_, sSeq_, sSet_, sAsg_, sPar_, sIf_, sRet_, sExpr_, sNil_, eC_, eV_, e1_, e2_, asB_, asI_, eAnd_, eOr_, eNot_, eIf_, aNil_, aCons_, eTup_, eLst_, eCall_, eB_, eM_, oNone_, eSl_, tV_, tAnd_, tOr_, tNot_, tYes_, eChain_, gName_, gNil_, gCons_, gTup_, sq_nx, sq_rt, fin_rt, fin_nx, gSub_, gAdd_, gLt_, gLe_, gGt_, gGe_, gNeg_, gMul_, gFdiv_, gMod_, gEq_int, gNe_int, gEq_bl, gNe_bl, seqOf_tup, gIx_tup, atD_0, atD_1, atD_2, bAbs_, bInt_bl, bMax2_, bMin2_, line1, line2, line3, line4, line5, line6, line7, line8, List.getElem?_cons_succ, List.getElem?_cons_zero, Option.join_some, Option.join_none, Option.bind_some, Option.bind_none, List.set_cons_succ, List.set_cons_zero, List.map_cons, List.map_nil, List.length_cons, List.length_nil, List.append_nil, List.nil_append, List.cons_append, List.replicate_succ, List.replicate_zero, Nat.reduceAdd, Nat.reduceSub, Nat.reduceEqDiff, if_true, if_false, Bool.false_eq_true, decide_true, decide_false, Bool.not_true, Bool.not_false, eq_self_iff_true, reduceIte, List.zip_cons_cons, List.zip_nil_right, List.zip_nil_left, List.foldl_cons, List.foldl_nil, Int.reduceLT, Int.reduceEq, Int.reduceLE, sq4]
  have item : ∀ {x : T3}, Ok 130 x → ∀ c', eTup (aCons (e2 gMul (e2 gIx (eV 0) (eC (.int 0))) (e2 gFdiv (eV 1) (e2 gIx (eV 0) (eC (.int 2))))) (aCons (e2 gMul (e2 gIx (eV 0) (eC (.int 1))) (e2 gFdiv (eV 1) (e2 gIx (eV 0) (eC (.int 2))))) aNil)) [some (sd x), some (.int (My.wN a b p q))] c' = some (pr (My.scW (My.wN a b p q) x), c') := fun {x} h c' => by
    have d := div_bd hW h.pos bW
    simp (disch := walk_at "dis") only [mkF_, sSeq_, sSet_, sAsg_, sPar_, sIf_, sRet_, sExpr_, sNil_, eC_, eV_, e1_, e2_, asB_, asI_, eAnd_, eOr_, eNot_, eIf_, aNil_, aCons_, eTup_, eLst_, eCall_, eB_, eM_, oNone_, eSl_, tV_, tAnd_, tOr_, tNot_, tYes_, eChain_, gName_, gNil_, gCons_, gTup_, sq_nx, sq_rt, fin_rt, fin_nx, gSub_, gAdd_, gLt_, gLe_, gGt_, gGe_, gNeg_, gMul_, gFdiv_, gMod_, gEq_int, gNe_int, gEq_bl, gNe_bl, seqOf_tup, gIx_tup, atD_0, atD_1, atD_2, bAbs_, bInt_bl, bMax2_, bMin2_, line1, line2, line3, line4, line5, line6, line7, line8, List.getElem?_cons_succ, List.getElem?_cons_zero, Option.join_some, Option.join_none, Option.bind_some, Option.bind_none, List.set_cons_succ, List.set_cons_zero, List.map_cons, List.map_nil, List.length_cons, List.length_nil, List.append_nil, List.nil_append, List.cons_append, List.replicate_succ, List.replicate_zero, Nat.reduceAdd, Nat.reduceSub, Nat.reduceEqDiff, if_true, if_false, Bool.false_eq_true, decide_true, decide_false, Bool.not_true, Bool.not_false, eq_self_iff_true, reduceIte, List.zip_cons_cons, List.zip_nil_right, List.zip_nil_left, List.foldl_cons, List.foldl_nil, Int.reduceLT, Int.reduceEq, Int.reduceLE, i0_, i1_, i2_, gFdiv_ h.pos (h.bw.mono (k := 8900) (by decide)), gMul_ (ml9 (h.bx.mono (by decide)) (d.mono (by decide))), gMul_ (ml9 (h.by_.mono (by decide)) (d.mono (by decide)))]
    rfl
  obtain ⟨c1, f1, q1, g1⟩ := compL (te := eTup (aCons (e2 gMul (e2 gIx (eV 0) (eC (.int 0))) (e2 gFdiv (eV 1) (e2 gIx (eV 0) (eC (.int 2))))) (aCons (e2 gMul (e2 gIx (eV 0) (eC (.int 1))) (e2 gFdiv (eV 1) (e2 gIx (eV 0) (eC (.int 2))))) aNil))) (cap := [none, some 2]) [pr (My.scW (My.wN a b p q) a), pr (My.scW (My.wN a b p q) b), pr (My.scW (My.wN a b p q) p), pr (My.scW (My.wN a b p q) q)] hi (show capt [some (side a b), some (side p q), some (.int (My.wN a b p q)), none, none, none, none, none, none, none, none, none, none] [none, some 2] = none :: [some (.int (My.wN a b p q))] from rfl) rfl (by
    intro i d v g1 g2 c' _
    match i with
    | 0 => cases g1; cases g2; exact ⟨[], by rw [List.append_nil]; exact item ha c'⟩
    | 1 => cases g1; cases g2; exact ⟨[], by rw [List.append_nil]; exact item hb c'⟩
    | 2 => cases g1; cases g2; exact ⟨[], by rw [List.append_nil]; exact item hp c'⟩
    | 3 => cases g1; cases g2; exact ⟨[], by rw [List.append_nil]; exact item hq c'⟩
    | n + 4 => simp at g1) (by simp)
  clear item hi sq4 scB
  unfold My.share
  have eWh : My.whI a b p q = My.crs (My.subP (My.scW (My.wN a b p q) b) (My.scW (My.wN a b p q) a)) (My.subP (My.scW (My.wN a b p q) q) (My.scW (My.wN a b p q) p)) := rfl
  have eMi : My.miI a b p q = My.crs (My.subP (My.scW (My.wN a b p q) p) (My.scW (My.wN a b p q) a)) (My.subP (My.scW (My.wN a b p q) q) (My.scW (My.wN a b p q) p)) := rfl
  have eTh : My.thI a b p q = My.crs (My.subP (My.scW (My.wN a b p q) p) (My.scW (My.wN a b p q) a)) (My.subP (My.scW (My.wN a b p q) b) (My.scW (My.wN a b p q) a)) := rfl
  have f0 : (sSet 2 (e2 gMul (e2 gMul (e2 gMul (e2 gIx (e2 gIx (eV 0) (eC (.int 0))) (eC (.int 2))) (e2 gIx (e2 gIx (eV 0) (eC (.int 1))) (eC (.int 2)))) (e2 gIx (e2 gIx (eV 1) (eC (.int 0))) (eC (.int 2)))) (e2 gIx (e2 gIx (eV 1) (eC (.int 1))) (eC (.int 2))))) [some (side a b), some (side p q), none, none, none, none, none, none, none, none, none, none, none] c = some (.nx, [some (side a b), some (side p q), some (.int (My.wN a b p q)), none, none, none, none, none, none, none, none, none, none], c) := by
    unfold My.wN
    simp (disch := walk_at "dis") only [mkF_, sSeq_, sSet_, sAsg_, sPar_, sIf_, sRet_, sExpr_, sNil_, eC_, eV_, e1_, e2_, asB_, asI_, eAnd_, eOr_, eNot_, eIf_, aNil_, aCons_, eTup_, eLst_, eCall_, eB_, eM_, oNone_, eSl_, tV_, tAnd_, tOr_, tNot_, tYes_, eChain_, gName_, gNil_, gCons_, gTup_, sq_nx, sq_rt, fin_rt, fin_nx, gSub_, gAdd_, gLt_, gLe_, gGt_, gGe_, gNeg_, gMul_, gFdiv_, gMod_, gEq_int, gNe_int, gEq_bl, gNe_bl, seqOf_tup, gIx_tup, atD_0, atD_1, atD_2, bAbs_, bInt_bl, bMax2_, bMin2_, line1, line2, line3, line4, line5, line6, line7, line8, List.getElem?_cons_succ, List.getElem?_cons_zero, Option.join_some, Option.join_none, Option.bind_some, Option.bind_none, List.set_cons_succ, List.set_cons_zero, List.map_cons, List.map_nil, List.length_cons, List.length_nil, List.append_nil, List.nil_append, List.cons_append, List.replicate_succ, List.replicate_zero, Nat.reduceAdd, Nat.reduceSub, Nat.reduceEqDiff, if_true, if_false, Bool.false_eq_true, decide_true, decide_false, Bool.not_true, Bool.not_false, eq_self_iff_true, reduceIte, List.zip_cons_cons, List.zip_nil_right, List.zip_nil_left, List.foldl_cons, List.foldl_nil, Int.reduceLT, Int.reduceEq, Int.reduceLE, sd0_, sd1_, i2_, gMul_ (ml9 (ha.bw.mono (by decide)) (hb.bw.mono (by decide))), gMul_ (ml9 (w1.mono (by decide)) (hp.bw.mono (by decide))), gMul_ (ml9 (w2.mono (by decide)) (hq.bw.mono (by decide)))]
  generalize My.whI a b p q = wh at *
  generalize My.miI a b p q = mi at *
  generalize My.thI a b p q = th at *
  generalize My.scW (My.wN a b p q) a = A at *
  generalize My.scW (My.wN a b p q) b = B at *
  generalize My.scW (My.wN a b p q) p = C at *
  generalize My.scW (My.wN a b p q) q = DD at *
  generalize My.wN a b p q = W at *
  have sb : ∀ {x y : Int}, My.Bd 650 x → My.Bd 650 y → My.Bd 651 (x - y) := fun h1 h2 => (My.Bd.sub h1 h2).mono (by decide)
  have u1 := sb B1 A1; have u2 := sb B2 A2; have v1 := sb D1 C1; have v2 := sb D2 C2; have z1 := sb C1 A1; have z2 := sb C2 A2
  have cb : ∀ {x y z w : Int}, My.Bd 651 x → My.Bd 651 y → My.Bd 651 z → My.Bd 651 w → My.Bd 1304 (x * y - z * w) := fun h1 h2 h3 h4 => (My.Bd.sub (h1.mul h2) (h3.mul h4)).mono (by decide)
  have bwh : My.Bd 1304 wh := by rw [eWh]; exact cb u1 v2 u2 v1
  have bmi : My.Bd 1304 mi := by rw [eMi]; exact cb z1 v2 z2 v1
  have bth : My.Bd 1304 th := by rw [eTh]; exact cb z1 u2 z2 u1
  have m9 : ∀ {x : Int}, My.Bd 651 x → My.Bd 9000 x := fun h => h.mono (by decide)
  have k5 : ∀ c', F_law_across [pr (My.subP B A), pr (My.subP DD C)] c' = some (.int wh, c') := fun c' => by rw [eWh]; exact across_ (m9 u1) (m9 u2) (m9 v1) (m9 v2)
  have k6 : ∀ c', F_law_across [pr (My.subP C A), pr (My.subP DD C)] c' = some (.int mi, c') := fun c' => by rw [eMi]; exact across_ (m9 z1) (m9 z2) (m9 v1) (m9 v2)
  have k7 : ∀ c', F_law_across [pr (My.subP C A), pr (My.subP B A)] c' = some (.int th, c') := fun c' => by rw [eTh]; exact across_ (m9 z1) (m9 z2) (m9 u1) (m9 u2)
  have su : ∀ (x y : My.P2), (D.tup [.int (x.1 - y.1), .int (x.2 - y.2)]) = pr (My.subP x y) := fun _ _ => rfl
  have bu1 : My.Bd 651 (My.subP B A).1 := u1
  have bu2 : My.Bd 651 (My.subP B A).2 := u2
  clear eWh eMi eTh
  -- the last
  have key : ∀ (R : Option (Fl × Qm.Env × Cells)), (sSeq hR (sSeq hN (sSeq hC (sRet (eCall F_law_lone [] (aCons (e2 gAdd (e2 gMul (e2 gIx (eV 3) (eC (.int 0))) (eV 10)) (e2 gMul (e2 gIx (eV 7) (eC (.int 0))) (eV 11))) (aCons (e2 gAdd (e2 gMul (e2 gIx (eV 3) (eC (.int 1))) (eV 10)) (e2 gMul (e2 gIx (eV 7) (eC (.int 1))) (eV 11))) (aCons (e2 gMul (eV 2) (eV 10)) aNil)))))))) [some (side a b), some (side p q), some (.int W), some (pr A), some (pr B), some (pr C), some (pr DD), some (pr (My.subP B A)), some (pr (My.subP DD C)), some (pr (My.subP C A)), some (.int wh), some (.int mi), some (.int th)] c1 = R → F_law_shares [side a b, side p q] c = R.bind fin := by
    intro R hRR
    rw [F_law_shares, mkF_, B_sh_eq]
    have run : shT [some (side a b), some (side p q), none, none, none, none, none, none, none, none, none, none, none] c = R := by
      refine sSeq_of f0 ?_
      refine sSeq_of (σ1 := [some (side a b), some (side p q), some (.int W), some (pr A), some (pr B), some (pr C), some (pr DD), none, none, none, none, none, none]) (c1 := c1) ?_ ?_
      · have cell := lstOf_lst g1
        generalize hK : hCp = KK at *
        have f1' : KK [some (side a b), some (side p q), some (.int W), none, none, none, none, none, none, none, none, none, none] c = some (.ref c.length, c1) := by rw [← hK]; exact f1
        unfold gUnL
        simp (disch := walk_at "dis") only [mkF_, sSeq_, sSet_, sAsg_, sPar_, sIf_, sRet_, sExpr_, sNil_, eC_, eV_, e1_, e2_, asB_, asI_, eAnd_, eOr_, eNot_, eIf_, aNil_, aCons_, eTup_, eLst_, eCall_, eB_, eM_, oNone_, eSl_, tV_, tAnd_, tOr_, tNot_, tYes_, eChain_, gName_, gNil_, gCons_, gTup_, sq_nx, sq_rt, fin_rt, fin_nx, gSub_, gAdd_, gLt_, gLe_, gGt_, gGe_, gNeg_, gMul_, gFdiv_, gMod_, gEq_int, gNe_int, gEq_bl, gNe_bl, seqOf_tup, gIx_tup, atD_0, atD_1, atD_2, bAbs_, bInt_bl, bMax2_, bMin2_, line1, line2, line3, line4, line5, line6, line7, line8, List.getElem?_cons_succ, List.getElem?_cons_zero, Option.join_some, Option.join_none, Option.bind_some, Option.bind_none, List.set_cons_succ, List.set_cons_zero, List.map_cons, List.map_nil, List.length_cons, List.length_nil, List.append_nil, List.nil_append, List.cons_append, List.replicate_succ, List.replicate_zero, Nat.reduceAdd, Nat.reduceSub, Nat.reduceEqDiff, if_true, if_false, Bool.false_eq_true, decide_true, decide_false, Bool.not_true, Bool.not_false, eq_self_iff_true, reduceIte, List.zip_cons_cons, List.zip_nil_right, List.zip_nil_left, List.foldl_cons, List.foldl_nil, Int.reduceLT, Int.reduceEq, Int.reduceLE, f1', cell]
      refine sSeq_of (σ1 := [some (side a b), some (side p q), some (.int W), some (pr A), some (pr B), some (pr C), some (pr DD), some (pr (My.subP B A)), none, none, none, none, none]) (c1 := c1) (by simp (disch := walk_at "dis") only [mkF_, sSeq_, sSet_, sAsg_, sPar_, sIf_, sRet_, sExpr_, sNil_, eC_, eV_, e1_, e2_, asB_, asI_, eAnd_, eOr_, eNot_, eIf_, aNil_, aCons_, eTup_, eLst_, eCall_, eB_, eM_, oNone_, eSl_, tV_, tAnd_, tOr_, tNot_, tYes_, eChain_, gName_, gNil_, gCons_, gTup_, sq_nx, sq_rt, fin_rt, fin_nx, gSub_, gAdd_, gLt_, gLe_, gGt_, gGe_, gNeg_, gMul_, gFdiv_, gMod_, gEq_int, gNe_int, gEq_bl, gNe_bl, seqOf_tup, gIx_tup, atD_0, atD_1, atD_2, bAbs_, bInt_bl, bMax2_, bMin2_, line1, line2, line3, line4, line5, line6, line7, line8, List.getElem?_cons_succ, List.getElem?_cons_zero, Option.join_some, Option.join_none, Option.bind_some, Option.bind_none, List.set_cons_succ, List.set_cons_zero, List.map_cons, List.map_nil, List.length_cons, List.length_nil, List.append_nil, List.nil_append, List.cons_append, List.replicate_succ, List.replicate_zero, Nat.reduceAdd, Nat.reduceSub, Nat.reduceEqDiff, if_true, if_false, Bool.false_eq_true, decide_true, decide_false, Bool.not_true, Bool.not_false, eq_self_iff_true, reduceIte, List.zip_cons_cons, List.zip_nil_right, List.zip_nil_left, List.foldl_cons, List.foldl_nil, Int.reduceLT, Int.reduceEq, Int.reduceLE, pr0_, pr1_, su]) ?_
      refine sSeq_of (σ1 := [some (side a b), some (side p q), some (.int W), some (pr A), some (pr B), some (pr C), some (pr DD), some (pr (My.subP B A)), some (pr (My.subP DD C)), none, none, none, none]) (c1 := c1) (by simp (disch := walk_at "dis") only [mkF_, sSeq_, sSet_, sAsg_, sPar_, sIf_, sRet_, sExpr_, sNil_, eC_, eV_, e1_, e2_, asB_, asI_, eAnd_, eOr_, eNot_, eIf_, aNil_, aCons_, eTup_, eLst_, eCall_, eB_, eM_, oNone_, eSl_, tV_, tAnd_, tOr_, tNot_, tYes_, eChain_, gName_, gNil_, gCons_, gTup_, sq_nx, sq_rt, fin_rt, fin_nx, gSub_, gAdd_, gLt_, gLe_, gGt_, gGe_, gNeg_, gMul_, gFdiv_, gMod_, gEq_int, gNe_int, gEq_bl, gNe_bl, seqOf_tup, gIx_tup, atD_0, atD_1, atD_2, bAbs_, bInt_bl, bMax2_, bMin2_, line1, line2, line3, line4, line5, line6, line7, line8, List.getElem?_cons_succ, List.getElem?_cons_zero, Option.join_some, Option.join_none, Option.bind_some, Option.bind_none, List.set_cons_succ, List.set_cons_zero, List.map_cons, List.map_nil, List.length_cons, List.length_nil, List.append_nil, List.nil_append, List.cons_append, List.replicate_succ, List.replicate_zero, Nat.reduceAdd, Nat.reduceSub, Nat.reduceEqDiff, if_true, if_false, Bool.false_eq_true, decide_true, decide_false, Bool.not_true, Bool.not_false, eq_self_iff_true, reduceIte, List.zip_cons_cons, List.zip_nil_right, List.zip_nil_left, List.foldl_cons, List.foldl_nil, Int.reduceLT, Int.reduceEq, Int.reduceLE, pr0_, pr1_, su]) ?_
      refine sSeq_of (σ1 := [some (side a b), some (side p q), some (.int W), some (pr A), some (pr B), some (pr C), some (pr DD), some (pr (My.subP B A)), some (pr (My.subP DD C)), some (pr (My.subP C A)), none, none, none]) (c1 := c1) (by simp (disch := walk_at "dis") only [mkF_, sSeq_, sSet_, sAsg_, sPar_, sIf_, sRet_, sExpr_, sNil_, eC_, eV_, e1_, e2_, asB_, asI_, eAnd_, eOr_, eNot_, eIf_, aNil_, aCons_, eTup_, eLst_, eCall_, eB_, eM_, oNone_, eSl_, tV_, tAnd_, tOr_, tNot_, tYes_, eChain_, gName_, gNil_, gCons_, gTup_, sq_nx, sq_rt, fin_rt, fin_nx, gSub_, gAdd_, gLt_, gLe_, gGt_, gGe_, gNeg_, gMul_, gFdiv_, gMod_, gEq_int, gNe_int, gEq_bl, gNe_bl, seqOf_tup, gIx_tup, atD_0, atD_1, atD_2, bAbs_, bInt_bl, bMax2_, bMin2_, line1, line2, line3, line4, line5, line6, line7, line8, List.getElem?_cons_succ, List.getElem?_cons_zero, Option.join_some, Option.join_none, Option.bind_some, Option.bind_none, List.set_cons_succ, List.set_cons_zero, List.map_cons, List.map_nil, List.length_cons, List.length_nil, List.append_nil, List.nil_append, List.cons_append, List.replicate_succ, List.replicate_zero, Nat.reduceAdd, Nat.reduceSub, Nat.reduceEqDiff, if_true, if_false, Bool.false_eq_true, decide_true, decide_false, Bool.not_true, Bool.not_false, eq_self_iff_true, reduceIte, List.zip_cons_cons, List.zip_nil_right, List.zip_nil_left, List.foldl_cons, List.foldl_nil, Int.reduceLT, Int.reduceEq, Int.reduceLE, pr0_, pr1_, su]) ?_
      refine sSeq_of (σ1 := [some (side a b), some (side p q), some (.int W), some (pr A), some (pr B), some (pr C), some (pr DD), some (pr (My.subP B A)), some (pr (My.subP DD C)), some (pr (My.subP C A)), some (.int wh), none, none]) (c1 := c1) (by simp (disch := walk_at "dis") only [mkF_, sSeq_, sSet_, sAsg_, sPar_, sIf_, sRet_, sExpr_, sNil_, eC_, eV_, e1_, e2_, asB_, asI_, eAnd_, eOr_, eNot_, eIf_, aNil_, aCons_, eTup_, eLst_, eCall_, eB_, eM_, oNone_, eSl_, tV_, tAnd_, tOr_, tNot_, tYes_, eChain_, gName_, gNil_, gCons_, gTup_, sq_nx, sq_rt, fin_rt, fin_nx, gSub_, gAdd_, gLt_, gLe_, gGt_, gGe_, gNeg_, gMul_, gFdiv_, gMod_, gEq_int, gNe_int, gEq_bl, gNe_bl, seqOf_tup, gIx_tup, atD_0, atD_1, atD_2, bAbs_, bInt_bl, bMax2_, bMin2_, line1, line2, line3, line4, line5, line6, line7, line8, List.getElem?_cons_succ, List.getElem?_cons_zero, Option.join_some, Option.join_none, Option.bind_some, Option.bind_none, List.set_cons_succ, List.set_cons_zero, List.map_cons, List.map_nil, List.length_cons, List.length_nil, List.append_nil, List.nil_append, List.cons_append, List.replicate_succ, List.replicate_zero, Nat.reduceAdd, Nat.reduceSub, Nat.reduceEqDiff, if_true, if_false, Bool.false_eq_true, decide_true, decide_false, Bool.not_true, Bool.not_false, eq_self_iff_true, reduceIte, List.zip_cons_cons, List.zip_nil_right, List.zip_nil_left, List.foldl_cons, List.foldl_nil, Int.reduceLT, Int.reduceEq, Int.reduceLE, k5]) ?_
      refine sSeq_of (σ1 := [some (side a b), some (side p q), some (.int W), some (pr A), some (pr B), some (pr C), some (pr DD), some (pr (My.subP B A)), some (pr (My.subP DD C)), some (pr (My.subP C A)), some (.int wh), some (.int mi), none]) (c1 := c1) (by simp (disch := walk_at "dis") only [mkF_, sSeq_, sSet_, sAsg_, sPar_, sIf_, sRet_, sExpr_, sNil_, eC_, eV_, e1_, e2_, asB_, asI_, eAnd_, eOr_, eNot_, eIf_, aNil_, aCons_, eTup_, eLst_, eCall_, eB_, eM_, oNone_, eSl_, tV_, tAnd_, tOr_, tNot_, tYes_, eChain_, gName_, gNil_, gCons_, gTup_, sq_nx, sq_rt, fin_rt, fin_nx, gSub_, gAdd_, gLt_, gLe_, gGt_, gGe_, gNeg_, gMul_, gFdiv_, gMod_, gEq_int, gNe_int, gEq_bl, gNe_bl, seqOf_tup, gIx_tup, atD_0, atD_1, atD_2, bAbs_, bInt_bl, bMax2_, bMin2_, line1, line2, line3, line4, line5, line6, line7, line8, List.getElem?_cons_succ, List.getElem?_cons_zero, Option.join_some, Option.join_none, Option.bind_some, Option.bind_none, List.set_cons_succ, List.set_cons_zero, List.map_cons, List.map_nil, List.length_cons, List.length_nil, List.append_nil, List.nil_append, List.cons_append, List.replicate_succ, List.replicate_zero, Nat.reduceAdd, Nat.reduceSub, Nat.reduceEqDiff, if_true, if_false, Bool.false_eq_true, decide_true, decide_false, Bool.not_true, Bool.not_false, eq_self_iff_true, reduceIte, List.zip_cons_cons, List.zip_nil_right, List.zip_nil_left, List.foldl_cons, List.foldl_nil, Int.reduceLT, Int.reduceEq, Int.reduceLE, k6]) ?_
      refine sSeq_of (σ1 := [some (side a b), some (side p q), some (.int W), some (pr A), some (pr B), some (pr C), some (pr DD), some (pr (My.subP B A)), some (pr (My.subP DD C)), some (pr (My.subP C A)), some (.int wh), some (.int mi), some (.int th)]) (c1 := c1) (by simp (disch := walk_at "dis") only [mkF_, sSeq_, sSet_, sAsg_, sPar_, sIf_, sRet_, sExpr_, sNil_, eC_, eV_, e1_, e2_, asB_, asI_, eAnd_, eOr_, eNot_, eIf_, aNil_, aCons_, eTup_, eLst_, eCall_, eB_, eM_, oNone_, eSl_, tV_, tAnd_, tOr_, tNot_, tYes_, eChain_, gName_, gNil_, gCons_, gTup_, sq_nx, sq_rt, fin_rt, fin_nx, gSub_, gAdd_, gLt_, gLe_, gGt_, gGe_, gNeg_, gMul_, gFdiv_, gMod_, gEq_int, gNe_int, gEq_bl, gNe_bl, seqOf_tup, gIx_tup, atD_0, atD_1, atD_2, bAbs_, bInt_bl, bMax2_, bMin2_, line1, line2, line3, line4, line5, line6, line7, line8, List.getElem?_cons_succ, List.getElem?_cons_zero, Option.join_some, Option.join_none, Option.bind_some, Option.bind_none, List.set_cons_succ, List.set_cons_zero, List.map_cons, List.map_nil, List.length_cons, List.length_nil, List.append_nil, List.nil_append, List.cons_append, List.replicate_succ, List.replicate_zero, Nat.reduceAdd, Nat.reduceSub, Nat.reduceEqDiff, if_true, if_false, Bool.false_eq_true, decide_true, decide_false, Bool.not_true, Bool.not_false, eq_self_iff_true, reduceIte, List.zip_cons_cons, List.zip_nil_right, List.zip_nil_left, List.foldl_cons, List.foldl_nil, Int.reduceLT, Int.reduceEq, Int.reduceLE, k7]) ?_
      exact hRR
    generalize hT : shT = TT at run
    simp (disch := walk_at "dis") only [mkF_, sSeq_, sSet_, sAsg_, sPar_, sIf_, sRet_, sExpr_, sNil_, eC_, eV_, e1_, e2_, asB_, asI_, eAnd_, eOr_, eNot_, eIf_, aNil_, aCons_, eTup_, eLst_, eCall_, eB_, eM_, oNone_, eSl_, tV_, tAnd_, tOr_, tNot_, tYes_, eChain_, gName_, gNil_, gCons_, gTup_, sq_nx, sq_rt, fin_rt, fin_nx, gSub_, gAdd_, gLt_, gLe_, gGt_, gGe_, gNeg_, gMul_, gFdiv_, gMod_, gEq_int, gNe_int, gEq_bl, gNe_bl, seqOf_tup, gIx_tup, atD_0, atD_1, atD_2, bAbs_, bInt_bl, bMax2_, bMin2_, line1, line2, line3, line4, line5, line6, line7, line8, List.getElem?_cons_succ, List.getElem?_cons_zero, Option.join_some, Option.join_none, Option.bind_some, Option.bind_none, List.set_cons_succ, List.set_cons_zero, List.map_cons, List.map_nil, List.length_cons, List.length_nil, List.append_nil, List.nil_append, List.cons_append, List.replicate_succ, List.replicate_zero, Nat.reduceAdd, Nat.reduceSub, Nat.reduceEqDiff, if_true, if_false, Bool.false_eq_true, decide_true, decide_false, Bool.not_true, Bool.not_false, eq_self_iff_true, reduceIte, List.zip_cons_cons, List.zip_nil_right, List.zip_nil_left, List.foldl_cons, List.foldl_nil, Int.reduceLT, Int.reduceEq, Int.reduceLE, run]
  by_cases g : wh = 0 ∧ th = 0
  · rw [if_pos g]
    have n1 : (c1 ++ [Cell.lst [pr A, pr B]])[c1.length]? = some (.lst [pr A, pr B]) := List.getElem?_concat_length
    have s1 := sorted_pr n1
    generalize hc2 : c1 ++ [Cell.lst [pr A, pr B]] ++ [Cell.lst [pr (My.srt A B).1, pr (My.srt A B).2]] = c2 at s1
    have n2 : (c2 ++ [Cell.lst [pr C, pr DD]])[c2.length]? = some (.lst [pr C, pr DD]) := List.getElem?_concat_length
    have s2 := sorted_pr n2
    have m1 : c2[(c1 ++ [Cell.lst [pr A, pr B]]).length]? = some (.lst [pr (My.srt A B).1, pr (My.srt A B).2]) := by rw [← hc2]; exact List.getElem?_concat_length
    generalize hc4 : c2 ++ [Cell.lst [pr C, pr DD]] ++ [Cell.lst [pr (My.srt C DD).1, pr (My.srt C DD).2]] = c4 at s2
    have m2 : c4[(c2 ++ [Cell.lst [pr C, pr DD]]).length]? = some (.lst [pr (My.srt C DD).1, pr (My.srt C DD).2]) := by rw [← hc4]; exact List.getElem?_concat_length
    have m1' : c4[(c1 ++ [Cell.lst [pr A, pr B]]).length]? = some (.lst [pr (My.srt A B).1, pr (My.srt A B).2]) := pre_get ⟨[Cell.lst [pr C, pr DD], Cell.lst [pr (My.srt C DD).1, pr (My.srt C DD).2]], by rw [← hc4]; simp⟩ m1
    have ir := in_rowL_ m1' m2 (show W ≠ 0 by omega) (bW.mono (by decide))
    refine ⟨c4, ?_, q1.trans ⟨[Cell.lst [pr A, pr B], Cell.lst [pr (My.srt A B).1, pr (My.srt A B).2], Cell.lst [pr C, pr DD], Cell.lst [pr (My.srt C DD).1, pr (My.srt C DD).2]], by rw [← hc4, ← hc2]; simp⟩⟩
    refine (key _ (sSeq_rt (d := cD (My.rowL (My.srt A B) (My.srt C DD) W)) (σ1 := [some (side a b), some (side p q), some (.int W), some (pr A), some (pr B), some (pr C), some (pr DD), some (pr (My.subP B A)), some (pr (My.subP DD C)), some (pr (My.subP C A)), some (.int wh), some (.int mi), some (.int th)]) (c1 := c4) ?_)).trans rfl
    obtain ⟨g1', g2'⟩ := g
    simp (disch := walk_at "dis") only [mkF_, sSeq_, sSet_, sAsg_, sPar_, sIf_, sRet_, sExpr_, sNil_, eC_, eV_, e1_, e2_, asB_, asI_, eAnd_, eOr_, eNot_, eIf_, aNil_, aCons_, eTup_, eLst_, eCall_, eB_, eM_, oNone_, eSl_, tV_, tAnd_, tOr_, tNot_, tYes_, eChain_, gName_, gNil_, gCons_, gTup_, sq_nx, sq_rt, fin_rt, fin_nx, gSub_, gAdd_, gLt_, gLe_, gGt_, gGe_, gNeg_, gMul_, gFdiv_, gMod_, gEq_int, gNe_int, gEq_bl, gNe_bl, seqOf_tup, gIx_tup, atD_0, atD_1, atD_2, bAbs_, bInt_bl, bMax2_, bMin2_, line1, line2, line3, line4, line5, line6, line7, line8, List.getElem?_cons_succ, List.getElem?_cons_zero, Option.join_some, Option.join_none, Option.bind_some, Option.bind_none, List.set_cons_succ, List.set_cons_zero, List.map_cons, List.map_nil, List.length_cons, List.length_nil, List.append_nil, List.nil_append, List.cons_append, List.replicate_succ, List.replicate_zero, Nat.reduceAdd, Nat.reduceSub, Nat.reduceEqDiff, if_true, if_false, Bool.false_eq_true, decide_true, decide_false, Bool.not_true, Bool.not_false, eq_self_iff_true, reduceIte, List.zip_cons_cons, List.zip_nil_right, List.zip_nil_left, List.foldl_cons, List.foldl_nil, Int.reduceLT, Int.reduceEq, Int.reduceLE, hR, g1', g2', s1, s2, ir]
  · rw [if_neg g]
    have t1 : hR [some (side a b), some (side p q), some (.int W), some (pr A), some (pr B), some (pr C), some (pr DD), some (pr (My.subP B A)), some (pr (My.subP DD C)), some (pr (My.subP C A)), some (.int wh), some (.int mi), some (.int th)] c1 = some (.nx, [some (side a b), some (side p q), some (.int W), some (pr A), some (pr B), some (pr C), some (pr DD), some (pr (My.subP B A)), some (pr (My.subP DD C)), some (pr (My.subP C A)), some (.int wh), some (.int mi), some (.int th)], c1) := by
      by_cases g1' : wh = 0
      · have g2' : ¬ th = 0 := fun z => g ⟨g1', z⟩
        simp (disch := walk_at "dis") only [mkF_, sSeq_, sSet_, sAsg_, sPar_, sIf_, sRet_, sExpr_, sNil_, eC_, eV_, e1_, e2_, asB_, asI_, eAnd_, eOr_, eNot_, eIf_, aNil_, aCons_, eTup_, eLst_, eCall_, eB_, eM_, oNone_, eSl_, tV_, tAnd_, tOr_, tNot_, tYes_, eChain_, gName_, gNil_, gCons_, gTup_, sq_nx, sq_rt, fin_rt, fin_nx, gSub_, gAdd_, gLt_, gLe_, gGt_, gGe_, gNeg_, gMul_, gFdiv_, gMod_, gEq_int, gNe_int, gEq_bl, gNe_bl, seqOf_tup, gIx_tup, atD_0, atD_1, atD_2, bAbs_, bInt_bl, bMax2_, bMin2_, line1, line2, line3, line4, line5, line6, line7, line8, List.getElem?_cons_succ, List.getElem?_cons_zero, Option.join_some, Option.join_none, Option.bind_some, Option.bind_none, List.set_cons_succ, List.set_cons_zero, List.map_cons, List.map_nil, List.length_cons, List.length_nil, List.append_nil, List.nil_append, List.cons_append, List.replicate_succ, List.replicate_zero, Nat.reduceAdd, Nat.reduceSub, Nat.reduceEqDiff, if_true, if_false, Bool.false_eq_true, decide_true, decide_false, Bool.not_true, Bool.not_false, eq_self_iff_true, reduceIte, List.zip_cons_cons, List.zip_nil_right, List.zip_nil_left, List.foldl_cons, List.foldl_nil, Int.reduceLT, Int.reduceEq, Int.reduceLE, hR, g1', g2']
      · simp (disch := walk_at "dis") only [mkF_, sSeq_, sSet_, sAsg_, sPar_, sIf_, sRet_, sExpr_, sNil_, eC_, eV_, e1_, e2_, asB_, asI_, eAnd_, eOr_, eNot_, eIf_, aNil_, aCons_, eTup_, eLst_, eCall_, eB_, eM_, oNone_, eSl_, tV_, tAnd_, tOr_, tNot_, tYes_, eChain_, gName_, gNil_, gCons_, gTup_, sq_nx, sq_rt, fin_rt, fin_nx, gSub_, gAdd_, gLt_, gLe_, gGt_, gGe_, gNeg_, gMul_, gFdiv_, gMod_, gEq_int, gNe_int, gEq_bl, gNe_bl, seqOf_tup, gIx_tup, atD_0, atD_1, atD_2, bAbs_, bInt_bl, bMax2_, bMin2_, line1, line2, line3, line4, line5, line6, line7, line8, List.getElem?_cons_succ, List.getElem?_cons_zero, Option.join_some, Option.join_none, Option.bind_some, Option.bind_none, List.set_cons_succ, List.set_cons_zero, List.map_cons, List.map_nil, List.length_cons, List.length_nil, List.append_nil, List.nil_append, List.cons_append, List.replicate_succ, List.replicate_zero, Nat.reduceAdd, Nat.reduceSub, Nat.reduceEqDiff, if_true, if_false, Bool.false_eq_true, decide_true, decide_false, Bool.not_true, Bool.not_false, eq_self_iff_true, reduceIte, List.zip_cons_cons, List.zip_nil_right, List.zip_nil_left, List.foldl_cons, List.foldl_nil, Int.reduceLT, Int.reduceEq, Int.reduceLE, hR, g1']
    have t2 : hN [some (side a b), some (side p q), some (.int W), some (pr A), some (pr B), some (pr C), some (pr DD), some (pr (My.subP B A)), some (pr (My.subP DD C)), some (pr (My.subP C A)), some (.int wh), some (.int mi), some (.int th)] c1 = some (.nx, [some (side a b), some (side p q), some (.int W), some (pr A), some (pr B), some (pr C), some (pr DD), some (pr (My.subP B A)), some (pr (My.subP DD C)), some (pr (My.subP C A)), some (.int (My.sg' wh wh)), some (.int (My.sg' wh mi)), some (.int (My.sg' wh th))], c1) := by
      unfold My.sg'
      by_cases k : wh < 0
      · rw [if_pos k, if_pos k, if_pos k]; simp (disch := walk_at "dis") only [mkF_, sSeq_, sSet_, sAsg_, sPar_, sIf_, sRet_, sExpr_, sNil_, eC_, eV_, e1_, e2_, asB_, asI_, eAnd_, eOr_, eNot_, eIf_, aNil_, aCons_, eTup_, eLst_, eCall_, eB_, eM_, oNone_, eSl_, tV_, tAnd_, tOr_, tNot_, tYes_, eChain_, gName_, gNil_, gCons_, gTup_, sq_nx, sq_rt, fin_rt, fin_nx, gSub_, gAdd_, gLt_, gLe_, gGt_, gGe_, gNeg_, gMul_, gFdiv_, gMod_, gEq_int, gNe_int, gEq_bl, gNe_bl, seqOf_tup, gIx_tup, atD_0, atD_1, atD_2, bAbs_, bInt_bl, bMax2_, bMin2_, line1, line2, line3, line4, line5, line6, line7, line8, List.getElem?_cons_succ, List.getElem?_cons_zero, Option.join_some, Option.join_none, Option.bind_some, Option.bind_none, List.set_cons_succ, List.set_cons_zero, List.map_cons, List.map_nil, List.length_cons, List.length_nil, List.append_nil, List.nil_append, List.cons_append, List.replicate_succ, List.replicate_zero, Nat.reduceAdd, Nat.reduceSub, Nat.reduceEqDiff, if_true, if_false, Bool.false_eq_true, decide_true, decide_false, Bool.not_true, Bool.not_false, eq_self_iff_true, reduceIte, List.zip_cons_cons, List.zip_nil_right, List.zip_nil_left, List.foldl_cons, List.foldl_nil, Int.reduceLT, Int.reduceEq, Int.reduceLE, hN, k]
      · rw [if_neg k, if_neg k, if_neg k]; simp (disch := walk_at "dis") only [mkF_, sSeq_, sSet_, sAsg_, sPar_, sIf_, sRet_, sExpr_, sNil_, eC_, eV_, e1_, e2_, asB_, asI_, eAnd_, eOr_, eNot_, eIf_, aNil_, aCons_, eTup_, eLst_, eCall_, eB_, eM_, oNone_, eSl_, tV_, tAnd_, tOr_, tNot_, tYes_, eChain_, gName_, gNil_, gCons_, gTup_, sq_nx, sq_rt, fin_rt, fin_nx, gSub_, gAdd_, gLt_, gLe_, gGt_, gGe_, gNeg_, gMul_, gFdiv_, gMod_, gEq_int, gNe_int, gEq_bl, gNe_bl, seqOf_tup, gIx_tup, atD_0, atD_1, atD_2, bAbs_, bInt_bl, bMax2_, bMin2_, line1, line2, line3, line4, line5, line6, line7, line8, List.getElem?_cons_succ, List.getElem?_cons_zero, Option.join_some, Option.join_none, Option.bind_some, Option.bind_none, List.set_cons_succ, List.set_cons_zero, List.map_cons, List.map_nil, List.length_cons, List.length_nil, List.append_nil, List.nil_append, List.cons_append, List.replicate_succ, List.replicate_zero, Nat.reduceAdd, Nat.reduceSub, Nat.reduceEqDiff, if_true, if_false, Bool.false_eq_true, decide_true, decide_false, Bool.not_true, Bool.not_false, eq_self_iff_true, reduceIte, List.zip_cons_cons, List.zip_nil_right, List.zip_nil_left, List.foldl_cons, List.foldl_nil, Int.reduceLT, Int.reduceEq, Int.reduceLE, hN, k]
    have sgB : ∀ {x : Int}, My.Bd 1304 x → My.Bd 1305 (My.sg' wh x) := fun {x} h => by
      unfold My.sg'; split
      · exact (My.Bd.sub (bd64 (i := 0) (by decide)) h).mono (by decide)
      · exact h.mono (by decide)
    have e1 := sgB bwh; have e2' := sgB bmi
    have nz : My.sg' wh wh = 0 ↔ wh = 0 := by unfold My.sg'; split <;> omega
    generalize My.sg' wh wh = Wh at *
    generalize My.sg' wh mi = Mi at *
    generalize My.sg' wh th = Th at *
    by_cases k : Wh = 0 ∨ ¬ (0 ≤ Mi ∧ Mi ≤ Wh) ∨ ¬ (0 ≤ Th ∧ Th ≤ Wh)
    · rw [if_pos k]
      refine ⟨c1, (key _ (sSeq_of t1 (sSeq_of t2 (sSeq_rt (d := .non) (σ1 := [some (side a b), some (side p q), some (.int W), some (pr A), some (pr B), some (pr C), some (pr DD), some (pr (My.subP B A)), some (pr (My.subP DD C)), some (pr (My.subP C A)), some (.int Wh), some (.int Mi), some (.int Th)]) (c1 := c1) ?_)))).trans rfl, q1⟩
      by_cases k1 : Wh = 0
      · simp (disch := walk_at "dis") only [mkF_, sSeq_, sSet_, sAsg_, sPar_, sIf_, sRet_, sExpr_, sNil_, eC_, eV_, e1_, e2_, asB_, asI_, eAnd_, eOr_, eNot_, eIf_, aNil_, aCons_, eTup_, eLst_, eCall_, eB_, eM_, oNone_, eSl_, tV_, tAnd_, tOr_, tNot_, tYes_, eChain_, gName_, gNil_, gCons_, gTup_, sq_nx, sq_rt, fin_rt, fin_nx, gSub_, gAdd_, gLt_, gLe_, gGt_, gGe_, gNeg_, gMul_, gFdiv_, gMod_, gEq_int, gNe_int, gEq_bl, gNe_bl, seqOf_tup, gIx_tup, atD_0, atD_1, atD_2, bAbs_, bInt_bl, bMax2_, bMin2_, line1, line2, line3, line4, line5, line6, line7, line8, List.getElem?_cons_succ, List.getElem?_cons_zero, Option.join_some, Option.join_none, Option.bind_some, Option.bind_none, List.set_cons_succ, List.set_cons_zero, List.map_cons, List.map_nil, List.length_cons, List.length_nil, List.append_nil, List.nil_append, List.cons_append, List.replicate_succ, List.replicate_zero, Nat.reduceAdd, Nat.reduceSub, Nat.reduceEqDiff, if_true, if_false, Bool.false_eq_true, decide_true, decide_false, Bool.not_true, Bool.not_false, eq_self_iff_true, reduceIte, List.zip_cons_cons, List.zip_nil_right, List.zip_nil_left, List.foldl_cons, List.foldl_nil, Int.reduceLT, Int.reduceEq, Int.reduceLE, hC, k1]
      · by_cases k2 : 0 ≤ Mi
        · by_cases k3 : Mi ≤ Wh
          · by_cases k4 : 0 ≤ Th
            · by_cases k5' : Th ≤ Wh
              · exact absurd k (by omega)
              · simp (disch := walk_at "dis") only [mkF_, sSeq_, sSet_, sAsg_, sPar_, sIf_, sRet_, sExpr_, sNil_, eC_, eV_, e1_, e2_, asB_, asI_, eAnd_, eOr_, eNot_, eIf_, aNil_, aCons_, eTup_, eLst_, eCall_, eB_, eM_, oNone_, eSl_, tV_, tAnd_, tOr_, tNot_, tYes_, eChain_, gName_, gNil_, gCons_, gTup_, sq_nx, sq_rt, fin_rt, fin_nx, gSub_, gAdd_, gLt_, gLe_, gGt_, gGe_, gNeg_, gMul_, gFdiv_, gMod_, gEq_int, gNe_int, gEq_bl, gNe_bl, seqOf_tup, gIx_tup, atD_0, atD_1, atD_2, bAbs_, bInt_bl, bMax2_, bMin2_, line1, line2, line3, line4, line5, line6, line7, line8, List.getElem?_cons_succ, List.getElem?_cons_zero, Option.join_some, Option.join_none, Option.bind_some, Option.bind_none, List.set_cons_succ, List.set_cons_zero, List.map_cons, List.map_nil, List.length_cons, List.length_nil, List.append_nil, List.nil_append, List.cons_append, List.replicate_succ, List.replicate_zero, Nat.reduceAdd, Nat.reduceSub, Nat.reduceEqDiff, if_true, if_false, Bool.false_eq_true, decide_true, decide_false, Bool.not_true, Bool.not_false, eq_self_iff_true, reduceIte, List.zip_cons_cons, List.zip_nil_right, List.zip_nil_left, List.foldl_cons, List.foldl_nil, Int.reduceLT, Int.reduceEq, Int.reduceLE, hC, k1, k2, k3, k4, k5']
            · simp (disch := walk_at "dis") only [mkF_, sSeq_, sSet_, sAsg_, sPar_, sIf_, sRet_, sExpr_, sNil_, eC_, eV_, e1_, e2_, asB_, asI_, eAnd_, eOr_, eNot_, eIf_, aNil_, aCons_, eTup_, eLst_, eCall_, eB_, eM_, oNone_, eSl_, tV_, tAnd_, tOr_, tNot_, tYes_, eChain_, gName_, gNil_, gCons_, gTup_, sq_nx, sq_rt, fin_rt, fin_nx, gSub_, gAdd_, gLt_, gLe_, gGt_, gGe_, gNeg_, gMul_, gFdiv_, gMod_, gEq_int, gNe_int, gEq_bl, gNe_bl, seqOf_tup, gIx_tup, atD_0, atD_1, atD_2, bAbs_, bInt_bl, bMax2_, bMin2_, line1, line2, line3, line4, line5, line6, line7, line8, List.getElem?_cons_succ, List.getElem?_cons_zero, Option.join_some, Option.join_none, Option.bind_some, Option.bind_none, List.set_cons_succ, List.set_cons_zero, List.map_cons, List.map_nil, List.length_cons, List.length_nil, List.append_nil, List.nil_append, List.cons_append, List.replicate_succ, List.replicate_zero, Nat.reduceAdd, Nat.reduceSub, Nat.reduceEqDiff, if_true, if_false, Bool.false_eq_true, decide_true, decide_false, Bool.not_true, Bool.not_false, eq_self_iff_true, reduceIte, List.zip_cons_cons, List.zip_nil_right, List.zip_nil_left, List.foldl_cons, List.foldl_nil, Int.reduceLT, Int.reduceEq, Int.reduceLE, hC, k1, k2, k3, k4]
          · simp (disch := walk_at "dis") only [mkF_, sSeq_, sSet_, sAsg_, sPar_, sIf_, sRet_, sExpr_, sNil_, eC_, eV_, e1_, e2_, asB_, asI_, eAnd_, eOr_, eNot_, eIf_, aNil_, aCons_, eTup_, eLst_, eCall_, eB_, eM_, oNone_, eSl_, tV_, tAnd_, tOr_, tNot_, tYes_, eChain_, gName_, gNil_, gCons_, gTup_, sq_nx, sq_rt, fin_rt, fin_nx, gSub_, gAdd_, gLt_, gLe_, gGt_, gGe_, gNeg_, gMul_, gFdiv_, gMod_, gEq_int, gNe_int, gEq_bl, gNe_bl, seqOf_tup, gIx_tup, atD_0, atD_1, atD_2, bAbs_, bInt_bl, bMax2_, bMin2_, line1, line2, line3, line4, line5, line6, line7, line8, List.getElem?_cons_succ, List.getElem?_cons_zero, Option.join_some, Option.join_none, Option.bind_some, Option.bind_none, List.set_cons_succ, List.set_cons_zero, List.map_cons, List.map_nil, List.length_cons, List.length_nil, List.append_nil, List.nil_append, List.cons_append, List.replicate_succ, List.replicate_zero, Nat.reduceAdd, Nat.reduceSub, Nat.reduceEqDiff, if_true, if_false, Bool.false_eq_true, decide_true, decide_false, Bool.not_true, Bool.not_false, eq_self_iff_true, reduceIte, List.zip_cons_cons, List.zip_nil_right, List.zip_nil_left, List.foldl_cons, List.foldl_nil, Int.reduceLT, Int.reduceEq, Int.reduceLE, hC, k1, k2, k3]
        · simp (disch := walk_at "dis") only [mkF_, sSeq_, sSet_, sAsg_, sPar_, sIf_, sRet_, sExpr_, sNil_, eC_, eV_, e1_, e2_, asB_, asI_, eAnd_, eOr_, eNot_, eIf_, aNil_, aCons_, eTup_, eLst_, eCall_, eB_, eM_, oNone_, eSl_, tV_, tAnd_, tOr_, tNot_, tYes_, eChain_, gName_, gNil_, gCons_, gTup_, sq_nx, sq_rt, fin_rt, fin_nx, gSub_, gAdd_, gLt_, gLe_, gGt_, gGe_, gNeg_, gMul_, gFdiv_, gMod_, gEq_int, gNe_int, gEq_bl, gNe_bl, seqOf_tup, gIx_tup, atD_0, atD_1, atD_2, bAbs_, bInt_bl, bMax2_, bMin2_, line1, line2, line3, line4, line5, line6, line7, line8, List.getElem?_cons_succ, List.getElem?_cons_zero, Option.join_some, Option.join_none, Option.bind_some, Option.bind_none, List.set_cons_succ, List.set_cons_zero, List.map_cons, List.map_nil, List.length_cons, List.length_nil, List.append_nil, List.nil_append, List.cons_append, List.replicate_succ, List.replicate_zero, Nat.reduceAdd, Nat.reduceSub, Nat.reduceEqDiff, if_true, if_false, Bool.false_eq_true, decide_true, decide_false, Bool.not_true, Bool.not_false, eq_self_iff_true, reduceIte, List.zip_cons_cons, List.zip_nil_right, List.zip_nil_left, List.foldl_cons, List.foldl_nil, Int.reduceLT, Int.reduceEq, Int.reduceLE, hC, k1, k2]
    · rw [if_neg k]
      have k1 : ¬ Wh = 0 := fun z => k (.inl z)
      have k2 : 0 ≤ Mi := by omega
      have k3 : Mi ≤ Wh := by omega
      have k4 : 0 ≤ Th := by omega
      have k5' : Th ≤ Wh := by omega
      have wz : W * Wh ≠ 0 := Int.mul_ne_zero (by omega) k1
      have bz : My.Bd 8900 (W * Wh) := (bW.mul e1).mono (by decide)
      have lo := lone_ (x := A.1 * Wh + (My.subP B A).1 * Mi) (y := A.2 * Wh + (My.subP B A).2 * Mi) (c := c1) wz bz
      refine ⟨c1, (key _ (sSeq_of t1 (sSeq_of t2 (sSeq_of (σ1 := [some (side a b), some (side p q), some (.int W), some (pr A), some (pr B), some (pr C), some (pr DD), some (pr (My.subP B A)), some (pr (My.subP DD C)), some (pr (My.subP C A)), some (.int Wh), some (.int Mi), some (.int Th)]) (c1 := c1) ?_ ?_)))).trans (b := (some (Fl.rt (cD (.spot (My.spT (A.1 * Wh + (My.subP B A).1 * Mi) (A.2 * Wh + (My.subP B A).2 * Mi) (W * Wh)))), [some (side a b), some (side p q), some (.int W), some (pr A), some (pr B), some (pr C), some (pr DD), some (pr (My.subP B A)), some (pr (My.subP DD C)), some (pr (My.subP C A)), some (.int Wh), some (.int Mi), some (.int Th)], c1)).bind fin) rfl, q1⟩
      · simp (disch := walk_at "dis") only [mkF_, sSeq_, sSet_, sAsg_, sPar_, sIf_, sRet_, sExpr_, sNil_, eC_, eV_, e1_, e2_, asB_, asI_, eAnd_, eOr_, eNot_, eIf_, aNil_, aCons_, eTup_, eLst_, eCall_, eB_, eM_, oNone_, eSl_, tV_, tAnd_, tOr_, tNot_, tYes_, eChain_, gName_, gNil_, gCons_, gTup_, sq_nx, sq_rt, fin_rt, fin_nx, gSub_, gAdd_, gLt_, gLe_, gGt_, gGe_, gNeg_, gMul_, gFdiv_, gMod_, gEq_int, gNe_int, gEq_bl, gNe_bl, seqOf_tup, gIx_tup, atD_0, atD_1, atD_2, bAbs_, bInt_bl, bMax2_, bMin2_, line1, line2, line3, line4, line5, line6, line7, line8, List.getElem?_cons_succ, List.getElem?_cons_zero, Option.join_some, Option.join_none, Option.bind_some, Option.bind_none, List.set_cons_succ, List.set_cons_zero, List.map_cons, List.map_nil, List.length_cons, List.length_nil, List.append_nil, List.nil_append, List.cons_append, List.replicate_succ, List.replicate_zero, Nat.reduceAdd, Nat.reduceSub, Nat.reduceEqDiff, if_true, if_false, Bool.false_eq_true, decide_true, decide_false, Bool.not_true, Bool.not_false, eq_self_iff_true, reduceIte, List.zip_cons_cons, List.zip_nil_right, List.zip_nil_left, List.foldl_cons, List.foldl_nil, Int.reduceLT, Int.reduceEq, Int.reduceLE, hC, k1, k2, k3, k4, k5']
      · simp (disch := walk_at "dis") only [mkF_, sSeq_, sSet_, sAsg_, sPar_, sIf_, sRet_, sExpr_, sNil_, eC_, eV_, e1_, e2_, asB_, asI_, eAnd_, eOr_, eNot_, eIf_, aNil_, aCons_, eTup_, eLst_, eCall_, eB_, eM_, oNone_, eSl_, tV_, tAnd_, tOr_, tNot_, tYes_, eChain_, gName_, gNil_, gCons_, gTup_, sq_nx, sq_rt, fin_rt, fin_nx, gSub_, gAdd_, gLt_, gLe_, gGt_, gGe_, gNeg_, gMul_, gFdiv_, gMod_, gEq_int, gNe_int, gEq_bl, gNe_bl, seqOf_tup, gIx_tup, atD_0, atD_1, atD_2, bAbs_, bInt_bl, bMax2_, bMin2_, line1, line2, line3, line4, line5, line6, line7, line8, List.getElem?_cons_succ, List.getElem?_cons_zero, Option.join_some, Option.join_none, Option.bind_some, Option.bind_none, List.set_cons_succ, List.set_cons_zero, List.map_cons, List.map_nil, List.length_cons, List.length_nil, List.append_nil, List.nil_append, List.cons_append, List.replicate_succ, List.replicate_zero, Nat.reduceAdd, Nat.reduceSub, Nat.reduceEqDiff, if_true, if_false, Bool.false_eq_true, decide_true, decide_false, Bool.not_true, Bool.not_false, eq_self_iff_true, reduceIte, List.zip_cons_cons, List.zip_nil_right, List.zip_nil_left, List.foldl_cons, List.foldl_nil, Int.reduceLT, Int.reduceEq, Int.reduceLE, pr0_, pr1_, gMul_ (ml9 (A1.mono (by decide)) (e1.mono (by decide))), gMul_ (ml9 (A2.mono (by decide)) (e1.mono (by decide))), gMul_ (ml9 (bu1.mono (by decide)) (e2'.mono (by decide))), gMul_ (ml9 (bu2.mono (by decide)) (e2'.mono (by decide))), gMul_ (ml9 (bW.mono (by decide)) (e1.mono (by decide))), lo]
theorem sd_sp (x y w : Int) : sp x y w = sd (x, y, w) := rfl
theorem bd3 {x : Int} (h1 : -7 ≤ x) (h2 : x ≤ 7) : My.Bd 3 x := ⟨by
  have : x.natAbs < 8 := by omega
  exact this⟩
theorem between_ {n ka kb : Nat} {a b : T3} {c : Cells} (ha : Ok ka a) (hb : Ok kb b) (h1 : ka ≤ 200) (h2 : kb ≤ 200) (h : Pool n c) : ∃ q c', F_law_between [.ref n, sd a, sd b] c = some (sd q, c') ∧ Ok (ka + kb + 4) q ∧ Pool n c' ∧ Kp n c c' := by
  obtain ⟨n', c1, f1, l1, u1, p1, k1⟩ := digit_ h (m := 7) (by decide) (by walk_at "bdm")
  obtain ⟨d', c2, f2, l2, u2, p2, k2⟩ := digit_ p1 (m := 5) (by decide) (by walk_at "bdm")
  have w0 : 0 < a.2.2 * b.2.2 * (1 + d') := Int.mul_pos (Int.mul_pos ha.pos hb.pos) (by omega)
  have t1 : My.Bd 3 (n' - 1) := bd3 (by omega) (by omega)
  have t2 : My.Bd 3 (1 + d') := bd3 (by omega) (by omega)
  have t3 : My.Bd 3 (1 + d' - (n' - 1)) := bd3 (by omega) (by omega)
  have m1 := ha.bx.mul hb.bw; have m2 := hb.bx.mul ha.bw; have m3 := ha.by_.mul hb.bw; have m4 := hb.by_.mul ha.bw; have m5 := ha.bw.mul hb.bw
  have bx : My.Bd (ka + kb + 4) (a.1 * b.2.2 * (1 + d' - (n' - 1)) + b.1 * a.2.2 * (n' - 1)) := (My.Bd.add (m1.mul t3) (m2.mul t1)).mono (by omega)
  have by' : My.Bd (ka + kb + 4) (a.2.1 * b.2.2 * (1 + d' - (n' - 1)) + b.2.1 * a.2.2 * (n' - 1)) := (My.Bd.add (m3.mul t3) (m4.mul t1)).mono (by omega)
  have bw : My.Bd (ka + kb + 4) (a.2.2 * b.2.2 * (1 + d')) := (m5.mul t2).mono (by omega)
  have lo := lowest_ (x := a.1 * b.2.2 * (1 + d' - (n' - 1)) + b.1 * a.2.2 * (n' - 1)) (y := a.2.1 * b.2.2 * (1 + d' - (n' - 1)) + b.2.1 * a.2.2 * (n' - 1)) (c := c2) (show a.2.2 * b.2.2 * (1 + d') ≠ 0 by omega) (bw.mono (by omega))
  have hs := Sp.mk' (show a.2.2 * b.2.2 * (1 + d') ≠ 0 by omega) bx by' bw
  refine ⟨(_, _, _), c2, ?_, hs, p2, k1.trans k2⟩
  rw [sd_sp] at lo
  have ml : ∀ {y z : Int} {i j : Nat}, My.Bd i y → My.Bd j z → i ≤ 500 → j ≤ 500 → Qm.MulOk y z := fun h1 h2 h3 h4 => mulB (h1.mono (by omega)) (h2.mono (by omega))
  simp (disch := walk_at "dis") only [mkF_, sSeq_, sSet_, sAsg_, sPar_, sIf_, sRet_, sExpr_, sNil_, eC_, eV_, e1_, e2_, asB_, asI_, eAnd_, eOr_, eNot_, eIf_, aNil_, aCons_, eTup_, eLst_, eCall_, eB_, eM_, oNone_, eSl_, tV_, tAnd_, tOr_, tNot_, tYes_, eChain_, gName_, gNil_, gCons_, gTup_, sq_nx, sq_rt, fin_rt, fin_nx, gSub_, gAdd_, gLt_, gLe_, gGt_, gGe_, gNeg_, gMul_, gFdiv_, gMod_, gEq_int, gNe_int, gEq_bl, gNe_bl, seqOf_tup, gIx_tup, atD_0, atD_1, atD_2, bAbs_, bInt_bl, bMax2_, bMin2_, line1, line2, line3, line4, line5, line6, line7, line8, List.getElem?_cons_succ, List.getElem?_cons_zero, Option.join_some, Option.join_none, Option.bind_some, Option.bind_none, List.set_cons_succ, List.set_cons_zero, List.map_cons, List.map_nil, List.length_cons, List.length_nil, List.append_nil, List.nil_append, List.cons_append, List.replicate_succ, List.replicate_zero, Nat.reduceAdd, Nat.reduceSub, Nat.reduceEqDiff, if_true, if_false, Bool.false_eq_true, decide_true, decide_false, Bool.not_true, Bool.not_false, eq_self_iff_true, reduceIte, List.zip_cons_cons, List.zip_nil_right, List.zip_nil_left, List.foldl_cons, List.foldl_nil, Int.reduceLT, Int.reduceEq, Int.reduceLE, F_law_between, B_law_between, f1, f2, i0_, i1_, i2_, gMul_ (ml ha.bx hb.bw (by omega) (by omega)), gMul_ (ml hb.bx ha.bw (by omega) (by omega)), gMul_ (ml ha.by_ hb.bw (by omega) (by omega)), gMul_ (ml hb.by_ ha.bw (by omega) (by omega)), gMul_ (ml ha.bw hb.bw (by omega) (by omega)), gMul_ (ml m1 t3 (by omega) (by omega)), gMul_ (ml m2 t1 (by omega) (by omega)), gMul_ (ml m3 t3 (by omega) (by omega)), gMul_ (ml m4 t1 (by omega) (by omega)), gMul_ (ml m5 t2 (by omega) (by omega)), lo]
  rfl
noncomputable abbrev j1 : XS := (sIf (tV (e2 gEq (eV 3) (eC (.int 1)))) (sSet 4 (eCall F_law_between [] (aCons (eV 0) (aCons (eV 1) (aCons (eV 2) aNil))))) sNil)
noncomputable abbrev j2 : XS := (sIf (tV (e2 gEq (eV 3) (eC (.int 2)))) (sSeq (sSet 4 (eCall F_law_between [] (aCons (eV 0) (aCons (eV 1) (aCons (eV 2) aNil))))) (sSet 5 (eCall F_law_between [] (aCons (eV 0) (aCons (eV 1) (aCons (eV 2) aNil)))))) sNil)
noncomputable abbrev j3 : XS := (sIf (tV (e2 gEq (eV 3) (eC (.int 3)))) (sSet 4 (e2 gIx (eLst (aCons (eV 1) (aCons (eV 2) aNil))) (eCall F_law_digit [] (aCons (eV 0) (aCons (eC (.int 2)) aNil))))) sNil)
noncomputable abbrev j4 : XS := (sIf (tV (e2 gEq (eV 3) (eC (.int 4)))) (sAsg (e2 gIx (eLst (aCons (eTup (aCons (eV 1) (aCons (eV 2) aNil))) (aCons (eTup (aCons (eV 2) (aCons (eV 1) aNil))) aNil))) (eCall F_law_digit [] (aCons (eV 0) (aCons (eC (.int 2)) aNil)))) (gTup 2 (gCons (gName 4) (gCons (gName 5) gNil)))) sNil)
noncomputable abbrev j5 : XS := (sIf (tV (e2 gEq (eV 3) (eC (.int 5)))) (sSeq (sSet 6 (eCall F_law_between [] (aCons (eV 0) (aCons (eV 1) (aCons (eV 2) aNil))))) (sSet 5 (eCall F_law_lowest [] (aCons (e2 gSub (e2 gMul (e2 gMul (eC (.int 2)) (e2 gIx (eV 6) (eC (.int 0)))) (e2 gIx (eV 4) (eC (.int 2)))) (e2 gMul (e2 gIx (eV 4) (eC (.int 0))) (e2 gIx (eV 6) (eC (.int 2))))) (aCons (e2 gSub (e2 gMul (e2 gMul (eC (.int 2)) (e2 gIx (eV 6) (eC (.int 1)))) (e2 gIx (eV 4) (eC (.int 2)))) (e2 gMul (e2 gIx (eV 4) (eC (.int 1))) (e2 gIx (eV 6) (eC (.int 2))))) (aCons (e2 gMul (e2 gIx (eV 6) (eC (.int 2))) (e2 gIx (eV 4) (eC (.int 2)))) aNil)))))) sNil)
noncomputable abbrev jR : XS := (sRet (eTup (aCons (eV 4) (aCons (eCall F_law_unlike [] (aCons (eV 5) (aCons (eLst (aCons (eV 4) aNil)) aNil))) aNil))))
noncomputable abbrev seT : XS := (sSeq (sSet 3 (eCall F_law_digit [] (aCons (eV 0) (aCons (eC (.int 7)) aNil))))
  (sSeq (sSet 4 (eCall F_law_spot [] (aCons (eV 0) aNil)))
  (sSeq (sSet 5 (eCall F_law_spot [] (aCons (eV 0) aNil)))
  (sSeq j1
  (sSeq j2
  (sSeq j3
  (sSeq j4
  (sSeq j5
  jR))))))))
theorem B_se_eq : B_law_second = seT := rfl
theorem sk1 {n : Nat} {a b x y : T3} {d : Int} {z : Option D} {c : Cells} (h : d ≠ 1) : j1 [some (.ref n), some (sd a), some (sd b), some (.int d), some (sd x), some (sd y), z] c = some (.nx, [some (.ref n), some (sd a), some (sd b), some (.int d), some (sd x), some (sd y), z], c) := by
  simp (disch := walk_at "dis") only [mkF_, sSeq_, sSet_, sAsg_, sPar_, sIf_, sRet_, sExpr_, sNil_, eC_, eV_, e1_, e2_, asB_, asI_, eAnd_, eOr_, eNot_, eIf_, aNil_, aCons_, eTup_, eLst_, eCall_, eB_, eM_, oNone_, eSl_, tV_, tAnd_, tOr_, tNot_, tYes_, eChain_, gName_, gNil_, gCons_, gTup_, sq_nx, sq_rt, fin_rt, fin_nx, gSub_, gAdd_, gLt_, gLe_, gGt_, gGe_, gNeg_, gMul_, gFdiv_, gMod_, gEq_int, gNe_int, gEq_bl, gNe_bl, seqOf_tup, gIx_tup, atD_0, atD_1, atD_2, bAbs_, bInt_bl, bMax2_, bMin2_, line1, line2, line3, line4, line5, line6, line7, line8, List.getElem?_cons_succ, List.getElem?_cons_zero, Option.join_some, Option.join_none, Option.bind_some, Option.bind_none, List.set_cons_succ, List.set_cons_zero, List.map_cons, List.map_nil, List.length_cons, List.length_nil, List.append_nil, List.nil_append, List.cons_append, List.replicate_succ, List.replicate_zero, Nat.reduceAdd, Nat.reduceSub, Nat.reduceEqDiff, if_true, if_false, Bool.false_eq_true, decide_true, decide_false, Bool.not_true, Bool.not_false, eq_self_iff_true, reduceIte, List.zip_cons_cons, List.zip_nil_right, List.zip_nil_left, List.foldl_cons, List.foldl_nil, Int.reduceLT, Int.reduceEq, Int.reduceLE, j1, h]
theorem sk2 {n : Nat} {a b x y : T3} {d : Int} {z : Option D} {c : Cells} (h : d ≠ 2) : j2 [some (.ref n), some (sd a), some (sd b), some (.int d), some (sd x), some (sd y), z] c = some (.nx, [some (.ref n), some (sd a), some (sd b), some (.int d), some (sd x), some (sd y), z], c) := by
  simp (disch := walk_at "dis") only [mkF_, sSeq_, sSet_, sAsg_, sPar_, sIf_, sRet_, sExpr_, sNil_, eC_, eV_, e1_, e2_, asB_, asI_, eAnd_, eOr_, eNot_, eIf_, aNil_, aCons_, eTup_, eLst_, eCall_, eB_, eM_, oNone_, eSl_, tV_, tAnd_, tOr_, tNot_, tYes_, eChain_, gName_, gNil_, gCons_, gTup_, sq_nx, sq_rt, fin_rt, fin_nx, gSub_, gAdd_, gLt_, gLe_, gGt_, gGe_, gNeg_, gMul_, gFdiv_, gMod_, gEq_int, gNe_int, gEq_bl, gNe_bl, seqOf_tup, gIx_tup, atD_0, atD_1, atD_2, bAbs_, bInt_bl, bMax2_, bMin2_, line1, line2, line3, line4, line5, line6, line7, line8, List.getElem?_cons_succ, List.getElem?_cons_zero, Option.join_some, Option.join_none, Option.bind_some, Option.bind_none, List.set_cons_succ, List.set_cons_zero, List.map_cons, List.map_nil, List.length_cons, List.length_nil, List.append_nil, List.nil_append, List.cons_append, List.replicate_succ, List.replicate_zero, Nat.reduceAdd, Nat.reduceSub, Nat.reduceEqDiff, if_true, if_false, Bool.false_eq_true, decide_true, decide_false, Bool.not_true, Bool.not_false, eq_self_iff_true, reduceIte, List.zip_cons_cons, List.zip_nil_right, List.zip_nil_left, List.foldl_cons, List.foldl_nil, Int.reduceLT, Int.reduceEq, Int.reduceLE, j2, h]
theorem sk3 {n : Nat} {a b x y : T3} {d : Int} {z : Option D} {c : Cells} (h : d ≠ 3) : j3 [some (.ref n), some (sd a), some (sd b), some (.int d), some (sd x), some (sd y), z] c = some (.nx, [some (.ref n), some (sd a), some (sd b), some (.int d), some (sd x), some (sd y), z], c) := by
  simp (disch := walk_at "dis") only [mkF_, sSeq_, sSet_, sAsg_, sPar_, sIf_, sRet_, sExpr_, sNil_, eC_, eV_, e1_, e2_, asB_, asI_, eAnd_, eOr_, eNot_, eIf_, aNil_, aCons_, eTup_, eLst_, eCall_, eB_, eM_, oNone_, eSl_, tV_, tAnd_, tOr_, tNot_, tYes_, eChain_, gName_, gNil_, gCons_, gTup_, sq_nx, sq_rt, fin_rt, fin_nx, gSub_, gAdd_, gLt_, gLe_, gGt_, gGe_, gNeg_, gMul_, gFdiv_, gMod_, gEq_int, gNe_int, gEq_bl, gNe_bl, seqOf_tup, gIx_tup, atD_0, atD_1, atD_2, bAbs_, bInt_bl, bMax2_, bMin2_, line1, line2, line3, line4, line5, line6, line7, line8, List.getElem?_cons_succ, List.getElem?_cons_zero, Option.join_some, Option.join_none, Option.bind_some, Option.bind_none, List.set_cons_succ, List.set_cons_zero, List.map_cons, List.map_nil, List.length_cons, List.length_nil, List.append_nil, List.nil_append, List.cons_append, List.replicate_succ, List.replicate_zero, Nat.reduceAdd, Nat.reduceSub, Nat.reduceEqDiff, if_true, if_false, Bool.false_eq_true, decide_true, decide_false, Bool.not_true, Bool.not_false, eq_self_iff_true, reduceIte, List.zip_cons_cons, List.zip_nil_right, List.zip_nil_left, List.foldl_cons, List.foldl_nil, Int.reduceLT, Int.reduceEq, Int.reduceLE, j3, h]
theorem sk4 {n : Nat} {a b x y : T3} {d : Int} {z : Option D} {c : Cells} (h : d ≠ 4) : j4 [some (.ref n), some (sd a), some (sd b), some (.int d), some (sd x), some (sd y), z] c = some (.nx, [some (.ref n), some (sd a), some (sd b), some (.int d), some (sd x), some (sd y), z], c) := by
  simp (disch := walk_at "dis") only [mkF_, sSeq_, sSet_, sAsg_, sPar_, sIf_, sRet_, sExpr_, sNil_, eC_, eV_, e1_, e2_, asB_, asI_, eAnd_, eOr_, eNot_, eIf_, aNil_, aCons_, eTup_, eLst_, eCall_, eB_, eM_, oNone_, eSl_, tV_, tAnd_, tOr_, tNot_, tYes_, eChain_, gName_, gNil_, gCons_, gTup_, sq_nx, sq_rt, fin_rt, fin_nx, gSub_, gAdd_, gLt_, gLe_, gGt_, gGe_, gNeg_, gMul_, gFdiv_, gMod_, gEq_int, gNe_int, gEq_bl, gNe_bl, seqOf_tup, gIx_tup, atD_0, atD_1, atD_2, bAbs_, bInt_bl, bMax2_, bMin2_, line1, line2, line3, line4, line5, line6, line7, line8, List.getElem?_cons_succ, List.getElem?_cons_zero, Option.join_some, Option.join_none, Option.bind_some, Option.bind_none, List.set_cons_succ, List.set_cons_zero, List.map_cons, List.map_nil, List.length_cons, List.length_nil, List.append_nil, List.nil_append, List.cons_append, List.replicate_succ, List.replicate_zero, Nat.reduceAdd, Nat.reduceSub, Nat.reduceEqDiff, if_true, if_false, Bool.false_eq_true, decide_true, decide_false, Bool.not_true, Bool.not_false, eq_self_iff_true, reduceIte, List.zip_cons_cons, List.zip_nil_right, List.zip_nil_left, List.foldl_cons, List.foldl_nil, Int.reduceLT, Int.reduceEq, Int.reduceLE, j4, h]
theorem sk5 {n : Nat} {a b x y : T3} {d : Int} {z : Option D} {c : Cells} (h : d ≠ 5) : j5 [some (.ref n), some (sd a), some (sd b), some (.int d), some (sd x), some (sd y), z] c = some (.nx, [some (.ref n), some (sd a), some (sd b), some (.int d), some (sd x), some (sd y), z], c) := by
  simp (disch := walk_at "dis") only [mkF_, sSeq_, sSet_, sAsg_, sPar_, sIf_, sRet_, sExpr_, sNil_, eC_, eV_, e1_, e2_, asB_, asI_, eAnd_, eOr_, eNot_, eIf_, aNil_, aCons_, eTup_, eLst_, eCall_, eB_, eM_, oNone_, eSl_, tV_, tAnd_, tOr_, tNot_, tYes_, eChain_, gName_, gNil_, gCons_, gTup_, sq_nx, sq_rt, fin_rt, fin_nx, gSub_, gAdd_, gLt_, gLe_, gGt_, gGe_, gNeg_, gMul_, gFdiv_, gMod_, gEq_int, gNe_int, gEq_bl, gNe_bl, seqOf_tup, gIx_tup, atD_0, atD_1, atD_2, bAbs_, bInt_bl, bMax2_, bMin2_, line1, line2, line3, line4, line5, line6, line7, line8, List.getElem?_cons_succ, List.getElem?_cons_zero, Option.join_some, Option.join_none, Option.bind_some, Option.bind_none, List.set_cons_succ, List.set_cons_zero, List.map_cons, List.map_nil, List.length_cons, List.length_nil, List.append_nil, List.nil_append, List.cons_append, List.replicate_succ, List.replicate_zero, Nat.reduceAdd, Nat.reduceSub, Nat.reduceEqDiff, if_true, if_false, Bool.false_eq_true, decide_true, decide_false, Bool.not_true, Bool.not_false, eq_self_iff_true, reduceIte, List.zip_cons_cons, List.zip_nil_right, List.zip_nil_left, List.foldl_cons, List.foldl_nil, Int.reduceLT, Int.reduceEq, Int.reduceLE, j5, h]
theorem fin2_ {n : Nat} {a b x y : T3} {d : Int} {z : Option D} {c : Cells} (hx : Ok 119 x) (hy : Ok 119 y) : ∃ q c', jR [some (.ref n), some (sd a), some (sd b), some (.int d), some (sd x), some (sd y), z] c = some (.rt (side x q), [some (.ref n), some (sd a), some (sd b), some (.int d), some (sd x), some (sd y), z], c') ∧ Ok 130 q ∧ x ≠ q ∧ c <+: c' := by
  have m1 : (c ++ [Cell.lst [sd x]])[c.length]? = some (.lst ([x].map sd)) := List.getElem?_concat_length
  obtain ⟨q, f, o, ne⟩ := unlike_ (K := 119) (by decide) hy m1 (by simp)
  refine ⟨q, c ++ [.lst [sd x]], ?_, o, fun z => ne (by rw [z]; exact List.mem_cons_self), ⟨_, rfl⟩⟩
  simp (disch := walk_at "dis") only [mkF_, sSeq_, sSet_, sAsg_, sPar_, sIf_, sRet_, sExpr_, sNil_, eC_, eV_, e1_, e2_, asB_, asI_, eAnd_, eOr_, eNot_, eIf_, aNil_, aCons_, eTup_, eLst_, eCall_, eB_, eM_, oNone_, eSl_, tV_, tAnd_, tOr_, tNot_, tYes_, eChain_, gName_, gNil_, gCons_, gTup_, sq_nx, sq_rt, fin_rt, fin_nx, gSub_, gAdd_, gLt_, gLe_, gGt_, gGe_, gNeg_, gMul_, gFdiv_, gMod_, gEq_int, gNe_int, gEq_bl, gNe_bl, seqOf_tup, gIx_tup, atD_0, atD_1, atD_2, bAbs_, bInt_bl, bMax2_, bMin2_, line1, line2, line3, line4, line5, line6, line7, line8, List.getElem?_cons_succ, List.getElem?_cons_zero, Option.join_some, Option.join_none, Option.bind_some, Option.bind_none, List.set_cons_succ, List.set_cons_zero, List.map_cons, List.map_nil, List.length_cons, List.length_nil, List.append_nil, List.nil_append, List.cons_append, List.replicate_succ, List.replicate_zero, Nat.reduceAdd, Nat.reduceSub, Nat.reduceEqDiff, if_true, if_false, Bool.false_eq_true, decide_true, decide_false, Bool.not_true, Bool.not_false, eq_self_iff_true, reduceIte, List.zip_cons_cons, List.zip_nil_right, List.zip_nil_left, List.foldl_cons, List.foldl_nil, Int.reduceLT, Int.reduceEq, Int.reduceLE, jR, f]
  rfl
theorem second_ {n : Nat} {a b : T3} {c : Cells} (ha : Ok 31 a) (hb : Ok 42 b) (h : Pool n c) : ∃ p q c', F_law_second [.ref n, sd a, sd b] c = some (side p q, c') ∧ Ok 130 p ∧ Ok 130 q ∧ p ≠ q ∧ Pool n c' ∧ Kp n c c' := by
  obtain ⟨d, c1, f1, l1, u1, p1, k1⟩ := digit_ h (m := 7) (by decide) (by walk_at "bdm")
  obtain ⟨x0, x1, x2, c2, f2, o2, p2, k2⟩ := spot_ p1
  obtain ⟨y0, y1, y2, c3, f3, o3, p3, k3⟩ := spot_ p2
  rw [sd_sp] at f2 f3
  generalize hx : ((x0, x1, x2) : T3) = x at f2
  generalize hy : ((y0, y1, y2) : T3) = y at f3
  have ox : Ok 31 x := by rw [← hx]; exact o2
  have oy : Ok 31 y := by rw [← hy]; exact o3
  -- what the ifs leave
  have key : ∀ (x' y' : T3) (z : Option D) (c4 : Cells), Ok 119 x' → Ok 119 y' → Pool n c4 → Kp n c3 c4 → (∀ R, jR [some (.ref n), some (sd a), some (sd b), some (.int d), some (sd x'), some (sd y'), z] c4 = R → (sSeq j1 (sSeq j2 (sSeq j3 (sSeq j4 (sSeq j5 jR))))) [some (.ref n), some (sd a), some (sd b), some (.int d), some (sd x), some (sd y), none] c3 = R) → ∃ p q c', F_law_second [.ref n, sd a, sd b] c = some (side p q, c') ∧ Ok 130 p ∧ Ok 130 q ∧ p ≠ q ∧ Pool n c' ∧ Kp n c c' := by
    intro x' y' z c4 ox' oy' p4 k4 st
    obtain ⟨q, c5, f, oq, ne, pr5⟩ := fin2_ (n := n) (a := a) (b := b) (d := d) (z := z) (c := c4) ox' oy'
    refine ⟨x', q, c5, ?_, ox'.mono (by decide), oq, ne, p4.pre pr5, k1.trans (k2.trans (k3.trans (k4.trans (Kp.pre pr5))))⟩
    have run : seT [some (.ref n), some (sd a), some (sd b), none, none, none, none] c = some (.rt (side x' q), [some (.ref n), some (sd a), some (sd b), some (.int d), some (sd x'), some (sd y'), z], c5) := by
      refine sSeq_of (σ1 := [some (.ref n), some (sd a), some (sd b), some (.int d), none, none, none]) (c1 := c1) (by simp (disch := walk_at "dis") only [mkF_, sSeq_, sSet_, sAsg_, sPar_, sIf_, sRet_, sExpr_, sNil_, eC_, eV_, e1_, e2_, asB_, asI_, eAnd_, eOr_, eNot_, eIf_, aNil_, aCons_, eTup_, eLst_, eCall_, eB_, eM_, oNone_, eSl_, tV_, tAnd_, tOr_, tNot_, tYes_, eChain_, gName_, gNil_, gCons_, gTup_, sq_nx, sq_rt, fin_rt, fin_nx, gSub_, gAdd_, gLt_, gLe_, gGt_, gGe_, gNeg_, gMul_, gFdiv_, gMod_, gEq_int, gNe_int, gEq_bl, gNe_bl, seqOf_tup, gIx_tup, atD_0, atD_1, atD_2, bAbs_, bInt_bl, bMax2_, bMin2_, line1, line2, line3, line4, line5, line6, line7, line8, List.getElem?_cons_succ, List.getElem?_cons_zero, Option.join_some, Option.join_none, Option.bind_some, Option.bind_none, List.set_cons_succ, List.set_cons_zero, List.map_cons, List.map_nil, List.length_cons, List.length_nil, List.append_nil, List.nil_append, List.cons_append, List.replicate_succ, List.replicate_zero, Nat.reduceAdd, Nat.reduceSub, Nat.reduceEqDiff, if_true, if_false, Bool.false_eq_true, decide_true, decide_false, Bool.not_true, Bool.not_false, eq_self_iff_true, reduceIte, List.zip_cons_cons, List.zip_nil_right, List.zip_nil_left, List.foldl_cons, List.foldl_nil, Int.reduceLT, Int.reduceEq, Int.reduceLE, f1]) ?_
      refine sSeq_of (σ1 := [some (.ref n), some (sd a), some (sd b), some (.int d), some (sd x), none, none]) (c1 := c2) (by simp (disch := walk_at "dis") only [mkF_, sSeq_, sSet_, sAsg_, sPar_, sIf_, sRet_, sExpr_, sNil_, eC_, eV_, e1_, e2_, asB_, asI_, eAnd_, eOr_, eNot_, eIf_, aNil_, aCons_, eTup_, eLst_, eCall_, eB_, eM_, oNone_, eSl_, tV_, tAnd_, tOr_, tNot_, tYes_, eChain_, gName_, gNil_, gCons_, gTup_, sq_nx, sq_rt, fin_rt, fin_nx, gSub_, gAdd_, gLt_, gLe_, gGt_, gGe_, gNeg_, gMul_, gFdiv_, gMod_, gEq_int, gNe_int, gEq_bl, gNe_bl, seqOf_tup, gIx_tup, atD_0, atD_1, atD_2, bAbs_, bInt_bl, bMax2_, bMin2_, line1, line2, line3, line4, line5, line6, line7, line8, List.getElem?_cons_succ, List.getElem?_cons_zero, Option.join_some, Option.join_none, Option.bind_some, Option.bind_none, List.set_cons_succ, List.set_cons_zero, List.map_cons, List.map_nil, List.length_cons, List.length_nil, List.append_nil, List.nil_append, List.cons_append, List.replicate_succ, List.replicate_zero, Nat.reduceAdd, Nat.reduceSub, Nat.reduceEqDiff, if_true, if_false, Bool.false_eq_true, decide_true, decide_false, Bool.not_true, Bool.not_false, eq_self_iff_true, reduceIte, List.zip_cons_cons, List.zip_nil_right, List.zip_nil_left, List.foldl_cons, List.foldl_nil, Int.reduceLT, Int.reduceEq, Int.reduceLE, f2]) ?_
      refine sSeq_of (σ1 := [some (.ref n), some (sd a), some (sd b), some (.int d), some (sd x), some (sd y), none]) (c1 := c3) (by simp (disch := walk_at "dis") only [mkF_, sSeq_, sSet_, sAsg_, sPar_, sIf_, sRet_, sExpr_, sNil_, eC_, eV_, e1_, e2_, asB_, asI_, eAnd_, eOr_, eNot_, eIf_, aNil_, aCons_, eTup_, eLst_, eCall_, eB_, eM_, oNone_, eSl_, tV_, tAnd_, tOr_, tNot_, tYes_, eChain_, gName_, gNil_, gCons_, gTup_, sq_nx, sq_rt, fin_rt, fin_nx, gSub_, gAdd_, gLt_, gLe_, gGt_, gGe_, gNeg_, gMul_, gFdiv_, gMod_, gEq_int, gNe_int, gEq_bl, gNe_bl, seqOf_tup, gIx_tup, atD_0, atD_1, atD_2, bAbs_, bInt_bl, bMax2_, bMin2_, line1, line2, line3, line4, line5, line6, line7, line8, List.getElem?_cons_succ, List.getElem?_cons_zero, Option.join_some, Option.join_none, Option.bind_some, Option.bind_none, List.set_cons_succ, List.set_cons_zero, List.map_cons, List.map_nil, List.length_cons, List.length_nil, List.append_nil, List.nil_append, List.cons_append, List.replicate_succ, List.replicate_zero, Nat.reduceAdd, Nat.reduceSub, Nat.reduceEqDiff, if_true, if_false, Bool.false_eq_true, decide_true, decide_false, Bool.not_true, Bool.not_false, eq_self_iff_true, reduceIte, List.zip_cons_cons, List.zip_nil_right, List.zip_nil_left, List.foldl_cons, List.foldl_nil, Int.reduceLT, Int.reduceEq, Int.reduceLE, f3]) ?_
      exact st _ f
    rw [F_law_second, mkF_, B_se_eq]
    generalize hT : seT = TT at run
    simp (disch := walk_at "dis") only [mkF_, sSeq_, sSet_, sAsg_, sPar_, sIf_, sRet_, sExpr_, sNil_, eC_, eV_, e1_, e2_, asB_, asI_, eAnd_, eOr_, eNot_, eIf_, aNil_, aCons_, eTup_, eLst_, eCall_, eB_, eM_, oNone_, eSl_, tV_, tAnd_, tOr_, tNot_, tYes_, eChain_, gName_, gNil_, gCons_, gTup_, sq_nx, sq_rt, fin_rt, fin_nx, gSub_, gAdd_, gLt_, gLe_, gGt_, gGe_, gNeg_, gMul_, gFdiv_, gMod_, gEq_int, gNe_int, gEq_bl, gNe_bl, seqOf_tup, gIx_tup, atD_0, atD_1, atD_2, bAbs_, bInt_bl, bMax2_, bMin2_, line1, line2, line3, line4, line5, line6, line7, line8, List.getElem?_cons_succ, List.getElem?_cons_zero, Option.join_some, Option.join_none, Option.bind_some, Option.bind_none, List.set_cons_succ, List.set_cons_zero, List.map_cons, List.map_nil, List.length_cons, List.length_nil, List.append_nil, List.nil_append, List.cons_append, List.replicate_succ, List.replicate_zero, Nat.reduceAdd, Nat.reduceSub, Nat.reduceEqDiff, if_true, if_false, Bool.false_eq_true, decide_true, decide_false, Bool.not_true, Bool.not_false, eq_self_iff_true, reduceIte, List.zip_cons_cons, List.zip_nil_right, List.zip_nil_left, List.foldl_cons, List.foldl_nil, Int.reduceLT, Int.reduceEq, Int.reduceLE, run]
  have x9 : Ok 119 x := ox.mono (by decide)
  have y9 : Ok 119 y := oy.mono (by decide)
  by_cases g1 : d = 1
  · obtain ⟨r, c4, f4, o4, p4, k4⟩ := between_ ha hb (by decide) (by decide) p3
    refine key r y none c4 (o4.mono (by decide)) y9 p4 k4 fun R hR => ?_
    refine sSeq_of (σ1 := [some (.ref n), some (sd a), some (sd b), some (.int d), some (sd r), some (sd y), none]) (c1 := c4) (by simp (disch := walk_at "dis") only [mkF_, sSeq_, sSet_, sAsg_, sPar_, sIf_, sRet_, sExpr_, sNil_, eC_, eV_, e1_, e2_, asB_, asI_, eAnd_, eOr_, eNot_, eIf_, aNil_, aCons_, eTup_, eLst_, eCall_, eB_, eM_, oNone_, eSl_, tV_, tAnd_, tOr_, tNot_, tYes_, eChain_, gName_, gNil_, gCons_, gTup_, sq_nx, sq_rt, fin_rt, fin_nx, gSub_, gAdd_, gLt_, gLe_, gGt_, gGe_, gNeg_, gMul_, gFdiv_, gMod_, gEq_int, gNe_int, gEq_bl, gNe_bl, seqOf_tup, gIx_tup, atD_0, atD_1, atD_2, bAbs_, bInt_bl, bMax2_, bMin2_, line1, line2, line3, line4, line5, line6, line7, line8, List.getElem?_cons_succ, List.getElem?_cons_zero, Option.join_some, Option.join_none, Option.bind_some, Option.bind_none, List.set_cons_succ, List.set_cons_zero, List.map_cons, List.map_nil, List.length_cons, List.length_nil, List.append_nil, List.nil_append, List.cons_append, List.replicate_succ, List.replicate_zero, Nat.reduceAdd, Nat.reduceSub, Nat.reduceEqDiff, if_true, if_false, Bool.false_eq_true, decide_true, decide_false, Bool.not_true, Bool.not_false, eq_self_iff_true, reduceIte, List.zip_cons_cons, List.zip_nil_right, List.zip_nil_left, List.foldl_cons, List.foldl_nil, Int.reduceLT, Int.reduceEq, Int.reduceLE, j1, g1, f4]) ?_
    exact sSeq_of (sk2 (by omega)) (sSeq_of (sk3 (by omega)) (sSeq_of (sk4 (by omega)) (sSeq_of (sk5 (by omega)) hR)))
  by_cases g2 : d = 2
  · obtain ⟨r, c4, f4, o4, p4, k4⟩ := between_ ha hb (by decide) (by decide) p3
    obtain ⟨t, c5, f5, o5, p5, k5⟩ := between_ ha hb (by decide) (by decide) p4
    refine key r t none c5 (o4.mono (by decide)) (o5.mono (by decide)) p5 (k4.trans k5) fun R hR => ?_
    refine sSeq_of (sk1 (by omega)) (sSeq_of (σ1 := [some (.ref n), some (sd a), some (sd b), some (.int d), some (sd r), some (sd t), none]) (c1 := c5) (by simp (disch := walk_at "dis") only [mkF_, sSeq_, sSet_, sAsg_, sPar_, sIf_, sRet_, sExpr_, sNil_, eC_, eV_, e1_, e2_, asB_, asI_, eAnd_, eOr_, eNot_, eIf_, aNil_, aCons_, eTup_, eLst_, eCall_, eB_, eM_, oNone_, eSl_, tV_, tAnd_, tOr_, tNot_, tYes_, eChain_, gName_, gNil_, gCons_, gTup_, sq_nx, sq_rt, fin_rt, fin_nx, gSub_, gAdd_, gLt_, gLe_, gGt_, gGe_, gNeg_, gMul_, gFdiv_, gMod_, gEq_int, gNe_int, gEq_bl, gNe_bl, seqOf_tup, gIx_tup, atD_0, atD_1, atD_2, bAbs_, bInt_bl, bMax2_, bMin2_, line1, line2, line3, line4, line5, line6, line7, line8, List.getElem?_cons_succ, List.getElem?_cons_zero, Option.join_some, Option.join_none, Option.bind_some, Option.bind_none, List.set_cons_succ, List.set_cons_zero, List.map_cons, List.map_nil, List.length_cons, List.length_nil, List.append_nil, List.nil_append, List.cons_append, List.replicate_succ, List.replicate_zero, Nat.reduceAdd, Nat.reduceSub, Nat.reduceEqDiff, if_true, if_false, Bool.false_eq_true, decide_true, decide_false, Bool.not_true, Bool.not_false, eq_self_iff_true, reduceIte, List.zip_cons_cons, List.zip_nil_right, List.zip_nil_left, List.foldl_cons, List.foldl_nil, Int.reduceLT, Int.reduceEq, Int.reduceLE, j2, g2, f4, f5]) ?_)
    exact sSeq_of (sk3 (by omega)) (sSeq_of (sk4 (by omega)) (sSeq_of (sk5 (by omega)) hR))
  by_cases g3 : d = 3
  · obtain ⟨e, c5, f5, l5, u5, p5, k5⟩ := digit_ (p3.more (zs := [.lst [sd a, sd b]])) (m := 2) (by decide) (by walk_at "bdm")
    have m5 : c5[c3.length]? = some (.lst [sd a, sd b]) := k5.get List.getElem?_concat_length (p3.ne (Nat.le_refl _))
    obtain ⟨r, orr, hr⟩ : ∃ r, Ok 119 r ∧ gIx (.ref c3.length) (.int e) c5 = some (sd r, c5) := by
      have : e = 0 ∨ e = 1 := by omega
      rcases this with rfl | rfl
      · exact ⟨a, ha.mono (by decide), ixl0 m5⟩
      · exact ⟨b, hb.mono (by decide), ixl1 m5⟩
    refine key r y none c5 orr y9 p5 (Kp.more.trans k5) fun R hR => ?_
    refine sSeq_of (sk1 (by omega)) (sSeq_of (sk2 (by omega)) (sSeq_of (σ1 := [some (.ref n), some (sd a), some (sd b), some (.int d), some (sd r), some (sd y), none]) (c1 := c5) (by simp (disch := walk_at "dis") only [mkF_, sSeq_, sSet_, sAsg_, sPar_, sIf_, sRet_, sExpr_, sNil_, eC_, eV_, e1_, e2_, asB_, asI_, eAnd_, eOr_, eNot_, eIf_, aNil_, aCons_, eTup_, eLst_, eCall_, eB_, eM_, oNone_, eSl_, tV_, tAnd_, tOr_, tNot_, tYes_, eChain_, gName_, gNil_, gCons_, gTup_, sq_nx, sq_rt, fin_rt, fin_nx, gSub_, gAdd_, gLt_, gLe_, gGt_, gGe_, gNeg_, gMul_, gFdiv_, gMod_, gEq_int, gNe_int, gEq_bl, gNe_bl, seqOf_tup, gIx_tup, atD_0, atD_1, atD_2, bAbs_, bInt_bl, bMax2_, bMin2_, line1, line2, line3, line4, line5, line6, line7, line8, List.getElem?_cons_succ, List.getElem?_cons_zero, Option.join_some, Option.join_none, Option.bind_some, Option.bind_none, List.set_cons_succ, List.set_cons_zero, List.map_cons, List.map_nil, List.length_cons, List.length_nil, List.append_nil, List.nil_append, List.cons_append, List.replicate_succ, List.replicate_zero, Nat.reduceAdd, Nat.reduceSub, Nat.reduceEqDiff, if_true, if_false, Bool.false_eq_true, decide_true, decide_false, Bool.not_true, Bool.not_false, eq_self_iff_true, reduceIte, List.zip_cons_cons, List.zip_nil_right, List.zip_nil_left, List.foldl_cons, List.foldl_nil, Int.reduceLT, Int.reduceEq, Int.reduceLE, j3, g3, f5, hr]) ?_))
    exact sSeq_of (sk4 (by omega)) (sSeq_of (sk5 (by omega)) hR)
  by_cases g4 : d = 4
  · obtain ⟨e, c5, f5, l5, u5, p5, k5⟩ := digit_ (p3.more (zs := [.lst [side a b, side b a]])) (m := 2) (by decide) (by walk_at "bdm")
    have m5 : c5[c3.length]? = some (.lst [side a b, side b a]) := k5.get List.getElem?_concat_length (p3.ne (Nat.le_refl _))
    obtain ⟨r, t, or1, or2, hr⟩ : ∃ r t, Ok 119 r ∧ Ok 119 t ∧ gIx (.ref c3.length) (.int e) c5 = some (side r t, c5) := by
      have : e = 0 ∨ e = 1 := by omega
      rcases this with rfl | rfl
      · exact ⟨a, b, ha.mono (by decide), hb.mono (by decide), ixl0 m5⟩
      · exact ⟨b, a, hb.mono (by decide), ha.mono (by decide), ixl1 m5⟩
    have es1 : (D.tup [sd a, sd b]) = side a b := rfl
    have es2 : (D.tup [sd b, sd a]) = side b a := rfl
    refine key r t none c5 or1 or2 p5 (Kp.more.trans k5) fun R hR => ?_
    refine sSeq_of (sk1 (by omega)) (sSeq_of (sk2 (by omega)) (sSeq_of (sk3 (by omega)) (sSeq_of (σ1 := [some (.ref n), some (sd a), some (sd b), some (.int d), some (sd r), some (sd t), none]) (c1 := c5) ?_ (sSeq_of (sk5 (by omega)) hR))))
    have gt : gTup 2 (gCons (gName 4) (gCons (gName 5) gNil)) (side r t) [some (.ref n), some (sd a), some (sd b), some (.int d), some (sd x), some (sd y), none] c5 = some ([some (.ref n), some (sd a), some (sd b), some (.int d), some (sd r), some (sd t), none], c5) := by
      unfold side
      simp (disch := walk_at "dis") only [mkF_, sSeq_, sSet_, sAsg_, sPar_, sIf_, sRet_, sExpr_, sNil_, eC_, eV_, e1_, e2_, asB_, asI_, eAnd_, eOr_, eNot_, eIf_, aNil_, aCons_, eTup_, eLst_, eCall_, eB_, eM_, oNone_, eSl_, tV_, tAnd_, tOr_, tNot_, tYes_, eChain_, gName_, gNil_, gCons_, gTup_, sq_nx, sq_rt, fin_rt, fin_nx, gSub_, gAdd_, gLt_, gLe_, gGt_, gGe_, gNeg_, gMul_, gFdiv_, gMod_, gEq_int, gNe_int, gEq_bl, gNe_bl, seqOf_tup, gIx_tup, atD_0, atD_1, atD_2, bAbs_, bInt_bl, bMax2_, bMin2_, line1, line2, line3, line4, line5, line6, line7, line8, List.getElem?_cons_succ, List.getElem?_cons_zero, Option.join_some, Option.join_none, Option.bind_some, Option.bind_none, List.set_cons_succ, List.set_cons_zero, List.map_cons, List.map_nil, List.length_cons, List.length_nil, List.append_nil, List.nil_append, List.cons_append, List.replicate_succ, List.replicate_zero, Nat.reduceAdd, Nat.reduceSub, Nat.reduceEqDiff, if_true, if_false, Bool.false_eq_true, decide_true, decide_false, Bool.not_true, Bool.not_false, eq_self_iff_true, reduceIte, List.zip_cons_cons, List.zip_nil_right, List.zip_nil_left, List.foldl_cons, List.foldl_nil, Int.reduceLT, Int.reduceEq, Int.reduceLE]
    generalize hG : gTup 2 (gCons (gName 4) (gCons (gName 5) gNil)) = GG at gt
    have hG' := hG
    rw [g4] at gt
    simp (disch := walk_at "dis") only [mkF_, sSeq_, sSet_, sAsg_, sPar_, sIf_, sRet_, sExpr_, sNil_, eC_, eV_, e1_, e2_, asB_, asI_, eAnd_, eOr_, eNot_, eIf_, aNil_, aCons_, eTup_, eLst_, eCall_, eB_, eM_, oNone_, eSl_, tV_, tAnd_, tOr_, tNot_, tYes_, eChain_, gName_, gNil_, gCons_, gTup_, sq_nx, sq_rt, fin_rt, fin_nx, gSub_, gAdd_, gLt_, gLe_, gGt_, gGe_, gNeg_, gMul_, gFdiv_, gMod_, gEq_int, gNe_int, gEq_bl, gNe_bl, seqOf_tup, gIx_tup, atD_0, atD_1, atD_2, bAbs_, bInt_bl, bMax2_, bMin2_, line1, line2, line3, line4, line5, line6, line7, line8, List.getElem?_cons_succ, List.getElem?_cons_zero, Option.join_some, Option.join_none, Option.bind_some, Option.bind_none, List.set_cons_succ, List.set_cons_zero, List.map_cons, List.map_nil, List.length_cons, List.length_nil, List.append_nil, List.nil_append, List.cons_append, List.replicate_succ, List.replicate_zero, Nat.reduceAdd, Nat.reduceSub, Nat.reduceEqDiff, if_true, if_false, Bool.false_eq_true, decide_true, decide_false, Bool.not_true, Bool.not_false, eq_self_iff_true, reduceIte, List.zip_cons_cons, List.zip_nil_right, List.zip_nil_left, List.foldl_cons, List.foldl_nil, Int.reduceLT, Int.reduceEq, Int.reduceLE, j4, g4, es1, es2, f5, hr, hG', gt]
  by_cases g5 : d = 5
  · obtain ⟨r, c4, f4, o4, p4, k4⟩ := between_ ha hb (by decide) (by decide) p3
    have b2 : My.Bd 2 2 := ⟨by decide⟩
    have w0 : 0 < r.2.2 * x.2.2 := Int.mul_pos o4.pos ox.pos
    have t1 := b2.mul o4.bx; have t2 := b2.mul o4.by_
    have bx : My.Bd 119 (2 * r.1 * x.2.2 - x.1 * r.2.2) := (My.Bd.sub (t1.mul ox.bw) (ox.bx.mul o4.bw)).mono (by decide)
    have by' : My.Bd 119 (2 * r.2.1 * x.2.2 - x.2.1 * r.2.2) := (My.Bd.sub (t2.mul ox.bw) (ox.by_.mul o4.bw)).mono (by decide)
    have bw : My.Bd 119 (r.2.2 * x.2.2) := (o4.bw.mul ox.bw).mono (by decide)
    have lo := lowestS_ (x := 2 * r.1 * x.2.2 - x.1 * r.2.2) (y := 2 * r.2.1 * x.2.2 - x.2.1 * r.2.2) (c := c4) (show r.2.2 * x.2.2 ≠ 0 by omega) (bw.mono (by decide))
    have ot : Ok 119 (My.spT (2 * r.1 * x.2.2 - x.1 * r.2.2) (2 * r.2.1 * x.2.2 - x.2.1 * r.2.2) (r.2.2 * x.2.2)) := Sp.mk' (by omega) bx by' bw
    generalize My.spT (2 * r.1 * x.2.2 - x.1 * r.2.2) (2 * r.2.1 * x.2.2 - x.2.1 * r.2.2) (r.2.2 * x.2.2) = t at *
    refine key x t (some (sd r)) c4 x9 ot p4 k4 fun R hR => ?_
    refine sSeq_of (sk1 (by omega)) (sSeq_of (sk2 (by omega)) (sSeq_of (sk3 (by omega)) (sSeq_of (sk4 (by omega)) (sSeq_of (σ1 := [some (.ref n), some (sd a), some (sd b), some (.int d), some (sd x), some (sd t), some (sd r)]) (c1 := c4) ?_ hR))))
    simp (disch := walk_at "dis") only [mkF_, sSeq_, sSet_, sAsg_, sPar_, sIf_, sRet_, sExpr_, sNil_, eC_, eV_, e1_, e2_, asB_, asI_, eAnd_, eOr_, eNot_, eIf_, aNil_, aCons_, eTup_, eLst_, eCall_, eB_, eM_, oNone_, eSl_, tV_, tAnd_, tOr_, tNot_, tYes_, eChain_, gName_, gNil_, gCons_, gTup_, sq_nx, sq_rt, fin_rt, fin_nx, gSub_, gAdd_, gLt_, gLe_, gGt_, gGe_, gNeg_, gMul_, gFdiv_, gMod_, gEq_int, gNe_int, gEq_bl, gNe_bl, seqOf_tup, gIx_tup, atD_0, atD_1, atD_2, bAbs_, bInt_bl, bMax2_, bMin2_, line1, line2, line3, line4, line5, line6, line7, line8, List.getElem?_cons_succ, List.getElem?_cons_zero, Option.join_some, Option.join_none, Option.bind_some, Option.bind_none, List.set_cons_succ, List.set_cons_zero, List.map_cons, List.map_nil, List.length_cons, List.length_nil, List.append_nil, List.nil_append, List.cons_append, List.replicate_succ, List.replicate_zero, Nat.reduceAdd, Nat.reduceSub, Nat.reduceEqDiff, if_true, if_false, Bool.false_eq_true, decide_true, decide_false, Bool.not_true, Bool.not_false, eq_self_iff_true, reduceIte, List.zip_cons_cons, List.zip_nil_right, List.zip_nil_left, List.foldl_cons, List.foldl_nil, Int.reduceLT, Int.reduceEq, Int.reduceLE, j5, g5, f4, i0_, i1_, i2_, gMul_ (ml9 (b2.mono (by decide)) (o4.bx.mono (by decide))), gMul_ (ml9 (t1.mono (by decide)) (ox.bw.mono (by decide))), gMul_ (ml9 (ox.bx.mono (by decide)) (o4.bw.mono (by decide))), gMul_ (ml9 (b2.mono (by decide)) (o4.by_.mono (by decide))), gMul_ (ml9 (t2.mono (by decide)) (ox.bw.mono (by decide))), gMul_ (ml9 (ox.by_.mono (by decide)) (o4.bw.mono (by decide))), gMul_ (ml9 (o4.bw.mono (by decide)) (ox.bw.mono (by decide))), lo]
  · refine key x y none c3 x9 y9 p3 (Kp.refl _ _) fun R hR => ?_
    exact sSeq_of (sk1 g1) (sSeq_of (sk2 g2) (sSeq_of (sk3 g3) (sSeq_of (sk4 g4) (sSeq_of (sk5 g5) hR))))
theorem cut1_ {x : D} {xs : List D} {c : Cells} : gCut (.tup (x :: xs)) (some 1) none c = some (.tup xs, c) := by
  have e : gCut (.tup (x :: xs)) (some 1) none c = some (.tup (Qm.cutD (x :: xs) (some 1) none), c) := rfl
  rw [e]
  congr 3
  unfold Qm.cutD Qm.sxD
  simp
theorem isT_ {b : Bool} {c : Cells} : gIsT (.bl b) (.bl true) c = some (.bl b, c) := rfl
theorem all_trues {m : Nat} {c : Cells} {xs : List D} (h : c[m]? = some (.lst xs)) (ht : ∀ x ∈ xs, x = .bl true) : bAll [.ref m] c = some (.bl true, c) := by
  have e : bAll [.ref m] c = (lstOf (.ref m) c).bind fun l => (omap asB l.2).bind fun bs => some (.bl (bs.all id), c) := rfl
  rw [e, lstOf_lst h, Option.bind_some]
  dsimp only
  have : ∀ xs : List D, (∀ x ∈ xs, x = .bl true) → omap asB xs = some (List.replicate xs.length true) := by
    intro xs
    induction xs with
    | nil => intro _; rfl
    | cons x xs ih =>
      intro h
      rw [h x List.mem_cons_self]
      have := ih fun y hy => h y (List.mem_cons_of_mem _ hy)
      simp only [omap, asB_, Option.bind_some, this, List.length_cons, List.replicate_succ]
  rw [this xs ht, Option.bind_some]
  simp
noncomputable abbrev rC : XE := (eComp (iTup (eSl gCut (eV 3) (oSome (eC (.int 1))) oNone)) [none, some 0, some 1] (gName 0) tYes (eAnd (e2 gIsT (eCall F_on_side [] (aCons (eV 0) (aCons (eV 1) aNil))) (eC (.bl true))) (e2 gIsT (eCall F_on_side [] (aCons (eV 0) (aCons (eV 2) aNil))) (eC (.bl true)))))
theorem right_ {a b p q : T3} {X : My.Cmn} {c : Cells} (ha : Ok 130 a) (hb : Ok 130 b) (hp : Ok 130 p) (hq : Ok 130 q) (h1 : a ≠ b) (h2 : p ≠ q) (hX : My.cm a b p q = X) : ∃ c', F_law_right [side a b, side p q, cD X] c = some (.bl true, c') ∧ c <+: c' := by
  have ha' := ha.mono (k := 1000) (by decide); have hb' := hb.mono (k := 1000) (by decide); have hp' := hp.mono (k := 1000) (by decide); have hq' := hq.mono (k := 1000) (by decide)
  obtain ⟨c1, f1, q1, o1, o2⟩ := common_ (c := c) ha hb hp hq
  obtain ⟨t1, t2⟩ := My.cm_told ha.lowT hb.lowT hp.lowT hq.lowT h1 h2
  rw [hX] at f1 o1 o2 t1 t2
  have ne := gNe_cD (c := c1) X
  -- each told spot
  have each : ∀ {z : T3} (c' : Cells), Ok 1000 z → My.Told a b p q z → (eAnd (e2 gIsT (eCall F_on_side [] (aCons (eV 0) (aCons (eV 1) aNil))) (eC (.bl true))) (e2 gIsT (eCall F_on_side [] (aCons (eV 0) (aCons (eV 2) aNil))) (eC (.bl true)))) [some (sd z), some (side a b), some (side p q)] c' = some (.bl true, c') := fun {z} c' oz tz => by
    have s1 := on_side_ (c := c') oz ha' hb'
    have s2 := on_side_ (c := c') oz hp' hq'
    have r1 : onT z a b = true := tz.2.1
    have r2 : onT z p q = true := tz.2.2
    rw [r1] at s1
    rw [r2] at s2
    simp (disch := walk_at "dis") only [mkF_, sSeq_, sSet_, sAsg_, sPar_, sIf_, sRet_, sExpr_, sNil_, eC_, eV_, e1_, e2_, asB_, asI_, eAnd_, eOr_, eNot_, eIf_, aNil_, aCons_, eTup_, eLst_, eCall_, eB_, eM_, oNone_, eSl_, tV_, tAnd_, tOr_, tNot_, tYes_, eChain_, gName_, gNil_, gCons_, gTup_, sq_nx, sq_rt, fin_rt, fin_nx, gSub_, gAdd_, gLt_, gLe_, gGt_, gGe_, gNeg_, gMul_, gFdiv_, gMod_, gEq_int, gNe_int, gEq_bl, gNe_bl, seqOf_tup, gIx_tup, atD_0, atD_1, atD_2, bAbs_, bInt_bl, bMax2_, bMin2_, line1, line2, line3, line4, line5, line6, line7, line8, List.getElem?_cons_succ, List.getElem?_cons_zero, Option.join_some, Option.join_none, Option.bind_some, Option.bind_none, List.set_cons_succ, List.set_cons_zero, List.map_cons, List.map_nil, List.length_cons, List.length_nil, List.append_nil, List.nil_append, List.cons_append, List.replicate_succ, List.replicate_zero, Nat.reduceAdd, Nat.reduceSub, Nat.reduceEqDiff, if_true, if_false, Bool.false_eq_true, decide_true, decide_false, Bool.not_true, Bool.not_false, eq_self_iff_true, reduceIte, List.zip_cons_cons, List.zip_nil_right, List.zip_nil_left, List.foldl_cons, List.foldl_nil, Int.reduceLT, Int.reduceEq, Int.reduceLE, s1, s2, isT_]
  have key : ∀ (w : D) (zs : List T3), cD X = .tup (w :: zs.map sd) → (∀ z ∈ zs, Ok 1000 z ∧ My.Told a b p q z) → zs.length ≤ 2 → ∃ c', F_law_right [side a b, side p q, cD X] c = some (.bl true, c') ∧ c <+: c' := by
    intro w zs hw hz hl
    have hi : iTup (eSl gCut (eV 3) (oSome (eC (.int 1))) oNone) [some (side a b), some (side p q), some (cD X), some (cD X)] c1 = some (⟨zs.map sd, []⟩, c1) := by
      unfold iTup
      simp (disch := walk_at "dis") only [mkF_, sSeq_, sSet_, sAsg_, sPar_, sIf_, sRet_, sExpr_, sNil_, eC_, eV_, e1_, e2_, asB_, asI_, eAnd_, eOr_, eNot_, eIf_, aNil_, aCons_, eTup_, eLst_, eCall_, eB_, eM_, oNone_, eSl_, tV_, tAnd_, tOr_, tNot_, tYes_, eChain_, gName_, gNil_, gCons_, gTup_, sq_nx, sq_rt, fin_rt, fin_nx, gSub_, gAdd_, gLt_, gLe_, gGt_, gGe_, gNeg_, gMul_, gFdiv_, gMod_, gEq_int, gNe_int, gEq_bl, gNe_bl, seqOf_tup, gIx_tup, atD_0, atD_1, atD_2, bAbs_, bInt_bl, bMax2_, bMin2_, line1, line2, line3, line4, line5, line6, line7, line8, List.getElem?_cons_succ, List.getElem?_cons_zero, Option.join_some, Option.join_none, Option.bind_some, Option.bind_none, List.set_cons_succ, List.set_cons_zero, List.map_cons, List.map_nil, List.length_cons, List.length_nil, List.append_nil, List.nil_append, List.cons_append, List.replicate_succ, List.replicate_zero, Nat.reduceAdd, Nat.reduceSub, Nat.reduceEqDiff, if_true, if_false, Bool.false_eq_true, decide_true, decide_false, Bool.not_true, Bool.not_false, eq_self_iff_true, reduceIte, List.zip_cons_cons, List.zip_nil_right, List.zip_nil_left, List.foldl_cons, List.foldl_nil, Int.reduceLT, Int.reduceEq, Int.reduceLE, hw, oSome_, cut1_]
    obtain ⟨c2, f2, q2, g2⟩ := compL (te := (eAnd (e2 gIsT (eCall F_on_side [] (aCons (eV 0) (aCons (eV 1) aNil))) (eC (.bl true))) (e2 gIsT (eCall F_on_side [] (aCons (eV 0) (aCons (eV 2) aNil))) (eC (.bl true))))) (cap := [none, some 0, some 1]) (List.replicate zs.length (.bl true)) hi (show capt [some (side a b), some (side p q), some (cD X), some (cD X)] [none, some 0, some 1] = none :: [some (side a b), some (side p q)] from rfl) (by simp) (by
      intro i d v g1 g2 c' _
      rw [List.getElem?_map] at g1
      cases hzi : zs[i]? with
      | none => rw [hzi] at g1; cases g1
      | some z =>
        rw [hzi] at g1
        cases g1
        have hv : v = .bl true := by
          have := List.mem_of_getElem? g2
          exact List.eq_of_mem_replicate this
        subst hv
        obtain ⟨oz, tz⟩ := hz z (List.mem_of_getElem? hzi)
        exact ⟨[], by rw [List.append_nil]; exact each c' oz tz⟩) (by rw [List.length_map]; omega)
    have f3 := all_trues g2 (fun x hx => List.eq_of_mem_replicate hx)
    refine ⟨c2, ?_, q1.trans q2⟩
    have e1' : gNotN (cD X) .non c1 = some (.bl true, c1) := by rw [hw]; rfl
    have e2' : bIsinst [cD X, .ty "tuple"] c1 = some (.bl true, c1) := by rw [hw]; rfl
    have e3' : gIsN (cD X) .non c1 = some (.bl false, c1) := by rw [hw]; rfl
    have f2' : rC [some (side a b), some (side p q), some (cD X), some (cD X)] c1 = some (.ref c1.length, c2) := f2
    generalize cD X = V at *
    generalize hR : rC = RR at f2'
    have hR' := hR
    unfold rC at hR'
    rw [F_law_right, mkF_, B_law_right, hR']
    simp (disch := walk_at "dis") only [mkF_, sSeq_, sSet_, sAsg_, sPar_, sIf_, sRet_, sExpr_, sNil_, eC_, eV_, e1_, e2_, asB_, asI_, eAnd_, eOr_, eNot_, eIf_, aNil_, aCons_, eTup_, eLst_, eCall_, eB_, eM_, oNone_, eSl_, tV_, tAnd_, tOr_, tNot_, tYes_, eChain_, gName_, gNil_, gCons_, gTup_, sq_nx, sq_rt, fin_rt, fin_nx, gSub_, gAdd_, gLt_, gLe_, gGt_, gGe_, gNeg_, gMul_, gFdiv_, gMod_, gEq_int, gNe_int, gEq_bl, gNe_bl, seqOf_tup, gIx_tup, atD_0, atD_1, atD_2, bAbs_, bInt_bl, bMax2_, bMin2_, line1, line2, line3, line4, line5, line6, line7, line8, List.getElem?_cons_succ, List.getElem?_cons_zero, Option.join_some, Option.join_none, Option.bind_some, Option.bind_none, List.set_cons_succ, List.set_cons_zero, List.map_cons, List.map_nil, List.length_cons, List.length_nil, List.append_nil, List.nil_append, List.cons_append, List.replicate_succ, List.replicate_zero, Nat.reduceAdd, Nat.reduceSub, Nat.reduceEqDiff, if_true, if_false, Bool.false_eq_true, decide_true, decide_false, Bool.not_true, Bool.not_false, eq_self_iff_true, reduceIte, List.zip_cons_cons, List.zip_nil_right, List.zip_nil_left, List.foldl_cons, List.foldl_nil, Int.reduceLT, Int.reduceEq, Int.reduceLE, f1, ne, e1', e2', e3', f2', f3]
  cases X with
  | none =>
    refine ⟨c1, ?_, q1⟩
    have e1' : gNotN (cD .none) .non c1 = some (.bl false, c1) := rfl
    have e3' : gIsN (cD .none) .non c1 = some (.bl true, c1) := rfl
    simp (disch := walk_at "dis") only [mkF_, sSeq_, sSet_, sAsg_, sPar_, sIf_, sRet_, sExpr_, sNil_, eC_, eV_, e1_, e2_, asB_, asI_, eAnd_, eOr_, eNot_, eIf_, aNil_, aCons_, eTup_, eLst_, eCall_, eB_, eM_, oNone_, eSl_, tV_, tAnd_, tOr_, tNot_, tYes_, eChain_, gName_, gNil_, gCons_, gTup_, sq_nx, sq_rt, fin_rt, fin_nx, gSub_, gAdd_, gLt_, gLe_, gGt_, gGe_, gNeg_, gMul_, gFdiv_, gMod_, gEq_int, gNe_int, gEq_bl, gNe_bl, seqOf_tup, gIx_tup, atD_0, atD_1, atD_2, bAbs_, bInt_bl, bMax2_, bMin2_, line1, line2, line3, line4, line5, line6, line7, line8, List.getElem?_cons_succ, List.getElem?_cons_zero, Option.join_some, Option.join_none, Option.bind_some, Option.bind_none, List.set_cons_succ, List.set_cons_zero, List.map_cons, List.map_nil, List.length_cons, List.length_nil, List.append_nil, List.nil_append, List.cons_append, List.replicate_succ, List.replicate_zero, Nat.reduceAdd, Nat.reduceSub, Nat.reduceEqDiff, if_true, if_false, Bool.false_eq_true, decide_true, decide_false, Bool.not_true, Bool.not_false, eq_self_iff_true, reduceIte, List.zip_cons_cons, List.zip_nil_right, List.zip_nil_left, List.foldl_cons, List.foldl_nil, Int.reduceLT, Int.reduceEq, Int.reduceLE, F_law_right, B_law_right, f1, ne, e1', e3']
  | spot z => exact key (.str "spot") [z] rfl (fun w hw => by rw [List.mem_singleton.mp hw]; exact ⟨o1 z rfl, t1 z rfl⟩) (by simp)
  | stretch z w =>
    refine key (.str "stretch") [z, w] rfl (fun u hu => ?_) (by simp)
    obtain ⟨a1, a2⟩ := o2 z w rfl
    obtain ⟨b1, b2⟩ := t2 z w rfl
    rcases List.mem_cons.mp hu with rfl | hu
    · exact ⟨a1, b1⟩
    · rw [List.mem_singleton.mp hu]; exact ⟨a2, b2⟩
def Keeps (ns : List Int) (σ : Qm.Env) (c : Cells) : Prop := c[0]? = some (.ro (ns.map D.int)) ∧ ∃ x1 x2 x3 x4 x5 x6 x7, σ = [some (.ref 0), x1, x2, x3, x4, x5, x6, x7]
noncomputable abbrev g1S : XS := (sIf (tOr (tNot (tV (eCall F_law_right [] (aCons (eTup (aCons (eV 3) (aCons (eV 4) aNil))) (aCons (eTup (aCons (eV 5) (aCons (eV 6) aNil))) (aCons (eV 7) aNil)))))) (tNot (tV (eCall F_law_right [] (aCons (eTup (aCons (eV 5) (aCons (eV 6) aNil))) (aCons (eTup (aCons (eV 3) (aCons (eV 4) aNil))) (aCons (eV 7) aNil))))))) (sRet (eC (.bl false))) sNil)
noncomputable abbrev g2S : XS := (sIf (tOr (tNot (tV (eCall F_law_right [] (aCons (eTup (aCons (eV 4) (aCons (eV 3) aNil))) (aCons (eTup (aCons (eV 5) (aCons (eV 6) aNil))) (aCons (eV 7) aNil)))))) (tNot (tV (eCall F_law_right [] (aCons (eTup (aCons (eV 6) (aCons (eV 5) aNil))) (aCons (eTup (aCons (eV 4) (aCons (eV 3) aNil))) (aCons (eV 7) aNil))))))) (sRet (eC (.bl false))) sNil)
noncomputable abbrev lawB : XS := (sSeq (sSet 2 (eCall F_law_pool [] (aCons (eV 0) (aCons (e2 gAdd (eC (.int 1)) (eV 1)) aNil))))
  (sSeq (sSet 3 (eCall F_law_spot [] (aCons (eV 2) aNil)))
  (sSeq (sSet 4 (eCall F_law_unlike [] (aCons (eCall F_law_spot [] (aCons (eV 2) aNil)) (aCons (eLst (aCons (eV 3) aNil)) aNil))))
  (sSeq (sAsg (eCall F_law_second [] (aCons (eV 2) (aCons (eV 3) (aCons (eV 4) aNil)))) (gTup 2 (gCons (gName 5) (gCons (gName 6) gNil))))
  (sSeq (sSet 7 (eCall F_law_shares [] (aCons (eTup (aCons (eV 3) (aCons (eV 4) aNil))) (aCons (eTup (aCons (eV 5) (aCons (eV 6) aNil))) aNil))))
  (sSeq g1S
  g2S))))))
theorem step_ {ns : List Int} {x2 x3 x4 x5 x6 x7 : Option D} {c : Cells} {k : Int} (k0 : 0 ≤ k) (k1 : k < 900) (h0 : c[0]? = some (.ro (ns.map D.int))) :
    ∃ σ' c', lawB [some (.ref 0), some (.int k), x2, x3, x4, x5, x6, x7] c = some (.nx, σ', c') ∧ Keeps ns σ' c' := by
  obtain ⟨A, B, f1, a0, b0⟩ := pool_ (k := 1 + k) h0 (by omega) (by omega)
  have hl0 := (List.getElem?_eq_some_iff.mp h0).1
  generalize hc1 : c ++ [Cell.lst [.int A, .int B]] = c1 at f1
  have P1 : Pool c.length c1 := ⟨A, B, by rw [← hc1]; exact List.getElem?_concat_length, a0, b0⟩
  have z1 : c1[0]? = some (.ro (ns.map D.int)) := by rw [← hc1]; exact pre_get ⟨_, rfl⟩ h0
  obtain ⟨v0, v1, v2, c2, f2, o2, p2, kp2⟩ := spot_ P1
  rw [sd_sp] at f2
  generalize hv : ((v0, v1, v2) : T3) = a at f2
  have oa : Ok 31 a := by rw [← hv]; exact o2
  obtain ⟨w0, w1, w2, c3, f3, o3, p3, kp3⟩ := spot_ p2
  rw [sd_sp] at f3
  generalize hw : ((w0, w1, w2) : T3) = b0' at f3
  have ob0 : Ok 31 b0' := by rw [← hw]; exact o3
  have m3 : (c3 ++ [Cell.lst [sd a]])[c3.length]? = some (.lst ([a].map sd)) := List.getElem?_concat_length
  obtain ⟨b, f4, ob, nb⟩ := unlike_ (K := 31) (by decide) ob0 m3 (by simp)
  have ne1 : a ≠ b := fun z => nb (by rw [z]; exact List.mem_cons_self)
  obtain ⟨p, q, c5, f5, op, oq, ne2, p5, kp5⟩ := second_ oa ob (p3.more (zs := [.lst [sd a]]))
  have oa' : Ok 130 a := oa.mono (by decide)
  have ob' : Ok 130 b := ob.mono (by decide)
  obtain ⟨c6, f6, q6⟩ := shares_ (c := c5) oa' ob' op oq
  rw [My.share_eq oa'.lowT ob'.lowT op.lowT oq.lowT ne1 ne2] at f6
  generalize hX : My.cm a b p q = X at f6
  obtain ⟨c7, f7, q7⟩ := right_ (c := c6) oa' ob' op oq ne1 ne2 hX
  obtain ⟨c8, f8, q8⟩ := right_ (c := c7) op oq oa' ob' ne2 ne1 ((My.cm_swap oa'.lowT ob'.lowT op.lowT oq.lowT ne1 ne2).trans hX)
  obtain ⟨c9, f9, q9⟩ := right_ (c := c8) ob' oa' op oq (Ne.symm ne1) ne2 ((My.cm_back oa'.lowT ob'.lowT op.lowT oq.lowT ne1).trans hX)
  obtain ⟨c10, f10, q10⟩ := right_ (X := X) (c := c9) oq op ob' oa' (Ne.symm ne2) (Ne.symm ne1) (by
    rw [My.cm_swap ob'.lowT oa'.lowT oq.lowT op.lowT (Ne.symm ne1) (Ne.symm ne2), My.cm_back2 ob'.lowT oa'.lowT op.lowT oq.lowT (Ne.symm ne1) ne2, My.cm_back oa'.lowT ob'.lowT op.lowT oq.lowT ne1]
    exact hX)
  have es : ∀ u v : T3, (D.tup [sd u, sd v]) = side u v := fun _ _ => rfl
  have zz : c10[0]? = some (.ro (ns.map D.int)) := by
    have y5 : c5[0]? = some (.ro (ns.map D.int)) := kp5.get (pre_get ⟨_, rfl⟩ (kp3.get (kp2.get z1 (by omega)) (by omega))) (by omega)
    exact pre_get (q6.trans (q7.trans (q8.trans (q9.trans q10)))) y5
  refine ⟨[some (.ref 0), some (.int k), some (.ref c.length), some (sd a), some (sd b), some (sd p), some (sd q), some (cD X)], c10, ?_, zz, some (.int k), some (.ref c.length), some (sd a), some (sd b), some (sd p), some (sd q), some (cD X), rfl⟩
  generalize cD X = V at *
  refine sSeq_of (σ1 := [some (.ref 0), some (.int k), some (.ref c.length), x3, x4, x5, x6, x7]) (c1 := c1) (by simp (disch := walk_at "dis") only [mkF_, sSeq_, sSet_, sAsg_, sPar_, sIf_, sRet_, sExpr_, sNil_, eC_, eV_, e1_, e2_, asB_, asI_, eAnd_, eOr_, eNot_, eIf_, aNil_, aCons_, eTup_, eLst_, eCall_, eB_, eM_, oNone_, eSl_, tV_, tAnd_, tOr_, tNot_, tYes_, eChain_, gName_, gNil_, gCons_, gTup_, sq_nx, sq_rt, fin_rt, fin_nx, gSub_, gAdd_, gLt_, gLe_, gGt_, gGe_, gNeg_, gMul_, gFdiv_, gMod_, gEq_int, gNe_int, gEq_bl, gNe_bl, seqOf_tup, gIx_tup, atD_0, atD_1, atD_2, bAbs_, bInt_bl, bMax2_, bMin2_, line1, line2, line3, line4, line5, line6, line7, line8, List.getElem?_cons_succ, List.getElem?_cons_zero, Option.join_some, Option.join_none, Option.bind_some, Option.bind_none, List.set_cons_succ, List.set_cons_zero, List.map_cons, List.map_nil, List.length_cons, List.length_nil, List.append_nil, List.nil_append, List.cons_append, List.replicate_succ, List.replicate_zero, Nat.reduceAdd, Nat.reduceSub, Nat.reduceEqDiff, if_true, if_false, Bool.false_eq_true, decide_true, decide_false, Bool.not_true, Bool.not_false, eq_self_iff_true, reduceIte, List.zip_cons_cons, List.zip_nil_right, List.zip_nil_left, List.foldl_cons, List.foldl_nil, Int.reduceLT, Int.reduceEq, Int.reduceLE, f1]) ?_
  refine sSeq_of (σ1 := [some (.ref 0), some (.int k), some (.ref c.length), some (sd a), x4, x5, x6, x7]) (c1 := c2) (by simp (disch := walk_at "dis") only [mkF_, sSeq_, sSet_, sAsg_, sPar_, sIf_, sRet_, sExpr_, sNil_, eC_, eV_, e1_, e2_, asB_, asI_, eAnd_, eOr_, eNot_, eIf_, aNil_, aCons_, eTup_, eLst_, eCall_, eB_, eM_, oNone_, eSl_, tV_, tAnd_, tOr_, tNot_, tYes_, eChain_, gName_, gNil_, gCons_, gTup_, sq_nx, sq_rt, fin_rt, fin_nx, gSub_, gAdd_, gLt_, gLe_, gGt_, gGe_, gNeg_, gMul_, gFdiv_, gMod_, gEq_int, gNe_int, gEq_bl, gNe_bl, seqOf_tup, gIx_tup, atD_0, atD_1, atD_2, bAbs_, bInt_bl, bMax2_, bMin2_, line1, line2, line3, line4, line5, line6, line7, line8, List.getElem?_cons_succ, List.getElem?_cons_zero, Option.join_some, Option.join_none, Option.bind_some, Option.bind_none, List.set_cons_succ, List.set_cons_zero, List.map_cons, List.map_nil, List.length_cons, List.length_nil, List.append_nil, List.nil_append, List.cons_append, List.replicate_succ, List.replicate_zero, Nat.reduceAdd, Nat.reduceSub, Nat.reduceEqDiff, if_true, if_false, Bool.false_eq_true, decide_true, decide_false, Bool.not_true, Bool.not_false, eq_self_iff_true, reduceIte, List.zip_cons_cons, List.zip_nil_right, List.zip_nil_left, List.foldl_cons, List.foldl_nil, Int.reduceLT, Int.reduceEq, Int.reduceLE, f2]) ?_
  refine sSeq_of (σ1 := [some (.ref 0), some (.int k), some (.ref c.length), some (sd a), some (sd b), x5, x6, x7]) (c1 := c3 ++ [.lst [sd a]]) (by
    have f4' : F_law_unlike [sd b0', .ref c3.length] (c3 ++ [.lst [sd a]]) = some (sd b, c3 ++ [.lst [sd a]]) := f4
    simp (disch := walk_at "dis") only [mkF_, sSeq_, sSet_, sAsg_, sPar_, sIf_, sRet_, sExpr_, sNil_, eC_, eV_, e1_, e2_, asB_, asI_, eAnd_, eOr_, eNot_, eIf_, aNil_, aCons_, eTup_, eLst_, eCall_, eB_, eM_, oNone_, eSl_, tV_, tAnd_, tOr_, tNot_, tYes_, eChain_, gName_, gNil_, gCons_, gTup_, sq_nx, sq_rt, fin_rt, fin_nx, gSub_, gAdd_, gLt_, gLe_, gGt_, gGe_, gNeg_, gMul_, gFdiv_, gMod_, gEq_int, gNe_int, gEq_bl, gNe_bl, seqOf_tup, gIx_tup, atD_0, atD_1, atD_2, bAbs_, bInt_bl, bMax2_, bMin2_, line1, line2, line3, line4, line5, line6, line7, line8, List.getElem?_cons_succ, List.getElem?_cons_zero, Option.join_some, Option.join_none, Option.bind_some, Option.bind_none, List.set_cons_succ, List.set_cons_zero, List.map_cons, List.map_nil, List.length_cons, List.length_nil, List.append_nil, List.nil_append, List.cons_append, List.replicate_succ, List.replicate_zero, Nat.reduceAdd, Nat.reduceSub, Nat.reduceEqDiff, if_true, if_false, Bool.false_eq_true, decide_true, decide_false, Bool.not_true, Bool.not_false, eq_self_iff_true, reduceIte, List.zip_cons_cons, List.zip_nil_right, List.zip_nil_left, List.foldl_cons, List.foldl_nil, Int.reduceLT, Int.reduceEq, Int.reduceLE, f3, f4']) ?_
  refine sSeq_of (σ1 := [some (.ref 0), some (.int k), some (.ref c.length), some (sd a), some (sd b), some (sd p), some (sd q), x7]) (c1 := c5) (by
    have gt : gTup 2 (gCons (gName 5) (gCons (gName 6) gNil)) (side p q) [some (.ref 0), some (.int k), some (.ref c.length), some (sd a), some (sd b), x5, x6, x7] c5 = some ([some (.ref 0), some (.int k), some (.ref c.length), some (sd a), some (sd b), some (sd p), some (sd q), x7], c5) := by
      unfold side
      simp (disch := walk_at "dis") only [mkF_, sSeq_, sSet_, sAsg_, sPar_, sIf_, sRet_, sExpr_, sNil_, eC_, eV_, e1_, e2_, asB_, asI_, eAnd_, eOr_, eNot_, eIf_, aNil_, aCons_, eTup_, eLst_, eCall_, eB_, eM_, oNone_, eSl_, tV_, tAnd_, tOr_, tNot_, tYes_, eChain_, gName_, gNil_, gCons_, gTup_, sq_nx, sq_rt, fin_rt, fin_nx, gSub_, gAdd_, gLt_, gLe_, gGt_, gGe_, gNeg_, gMul_, gFdiv_, gMod_, gEq_int, gNe_int, gEq_bl, gNe_bl, seqOf_tup, gIx_tup, atD_0, atD_1, atD_2, bAbs_, bInt_bl, bMax2_, bMin2_, line1, line2, line3, line4, line5, line6, line7, line8, List.getElem?_cons_succ, List.getElem?_cons_zero, Option.join_some, Option.join_none, Option.bind_some, Option.bind_none, List.set_cons_succ, List.set_cons_zero, List.map_cons, List.map_nil, List.length_cons, List.length_nil, List.append_nil, List.nil_append, List.cons_append, List.replicate_succ, List.replicate_zero, Nat.reduceAdd, Nat.reduceSub, Nat.reduceEqDiff, if_true, if_false, Bool.false_eq_true, decide_true, decide_false, Bool.not_true, Bool.not_false, eq_self_iff_true, reduceIte, List.zip_cons_cons, List.zip_nil_right, List.zip_nil_left, List.foldl_cons, List.foldl_nil, Int.reduceLT, Int.reduceEq, Int.reduceLE]
    generalize hG : gTup 2 (gCons (gName 5) (gCons (gName 6) gNil)) = GG at gt
    simp (disch := walk_at "dis") only [mkF_, sSeq_, sSet_, sAsg_, sPar_, sIf_, sRet_, sExpr_, sNil_, eC_, eV_, e1_, e2_, asB_, asI_, eAnd_, eOr_, eNot_, eIf_, aNil_, aCons_, eTup_, eLst_, eCall_, eB_, eM_, oNone_, eSl_, tV_, tAnd_, tOr_, tNot_, tYes_, eChain_, gName_, gNil_, gCons_, gTup_, sq_nx, sq_rt, fin_rt, fin_nx, gSub_, gAdd_, gLt_, gLe_, gGt_, gGe_, gNeg_, gMul_, gFdiv_, gMod_, gEq_int, gNe_int, gEq_bl, gNe_bl, seqOf_tup, gIx_tup, atD_0, atD_1, atD_2, bAbs_, bInt_bl, bMax2_, bMin2_, line1, line2, line3, line4, line5, line6, line7, line8, List.getElem?_cons_succ, List.getElem?_cons_zero, Option.join_some, Option.join_none, Option.bind_some, Option.bind_none, List.set_cons_succ, List.set_cons_zero, List.map_cons, List.map_nil, List.length_cons, List.length_nil, List.append_nil, List.nil_append, List.cons_append, List.replicate_succ, List.replicate_zero, Nat.reduceAdd, Nat.reduceSub, Nat.reduceEqDiff, if_true, if_false, Bool.false_eq_true, decide_true, decide_false, Bool.not_true, Bool.not_false, eq_self_iff_true, reduceIte, List.zip_cons_cons, List.zip_nil_right, List.zip_nil_left, List.foldl_cons, List.foldl_nil, Int.reduceLT, Int.reduceEq, Int.reduceLE, f5, gt]) ?_
  refine sSeq_of (σ1 := [some (.ref 0), some (.int k), some (.ref c.length), some (sd a), some (sd b), some (sd p), some (sd q), some V]) (c1 := c6) (by simp (disch := walk_at "dis") only [mkF_, sSeq_, sSet_, sAsg_, sPar_, sIf_, sRet_, sExpr_, sNil_, eC_, eV_, e1_, e2_, asB_, asI_, eAnd_, eOr_, eNot_, eIf_, aNil_, aCons_, eTup_, eLst_, eCall_, eB_, eM_, oNone_, eSl_, tV_, tAnd_, tOr_, tNot_, tYes_, eChain_, gName_, gNil_, gCons_, gTup_, sq_nx, sq_rt, fin_rt, fin_nx, gSub_, gAdd_, gLt_, gLe_, gGt_, gGe_, gNeg_, gMul_, gFdiv_, gMod_, gEq_int, gNe_int, gEq_bl, gNe_bl, seqOf_tup, gIx_tup, atD_0, atD_1, atD_2, bAbs_, bInt_bl, bMax2_, bMin2_, line1, line2, line3, line4, line5, line6, line7, line8, List.getElem?_cons_succ, List.getElem?_cons_zero, Option.join_some, Option.join_none, Option.bind_some, Option.bind_none, List.set_cons_succ, List.set_cons_zero, List.map_cons, List.map_nil, List.length_cons, List.length_nil, List.append_nil, List.nil_append, List.cons_append, List.replicate_succ, List.replicate_zero, Nat.reduceAdd, Nat.reduceSub, Nat.reduceEqDiff, if_true, if_false, Bool.false_eq_true, decide_true, decide_false, Bool.not_true, Bool.not_false, eq_self_iff_true, reduceIte, List.zip_cons_cons, List.zip_nil_right, List.zip_nil_left, List.foldl_cons, List.foldl_nil, Int.reduceLT, Int.reduceEq, Int.reduceLE, es, f6]) ?_
  refine sSeq_of (σ1 := [some (.ref 0), some (.int k), some (.ref c.length), some (sd a), some (sd b), some (sd p), some (sd q), some V]) (c1 := c8) (by simp (disch := walk_at "dis") only [mkF_, sSeq_, sSet_, sAsg_, sPar_, sIf_, sRet_, sExpr_, sNil_, eC_, eV_, e1_, e2_, asB_, asI_, eAnd_, eOr_, eNot_, eIf_, aNil_, aCons_, eTup_, eLst_, eCall_, eB_, eM_, oNone_, eSl_, tV_, tAnd_, tOr_, tNot_, tYes_, eChain_, gName_, gNil_, gCons_, gTup_, sq_nx, sq_rt, fin_rt, fin_nx, gSub_, gAdd_, gLt_, gLe_, gGt_, gGe_, gNeg_, gMul_, gFdiv_, gMod_, gEq_int, gNe_int, gEq_bl, gNe_bl, seqOf_tup, gIx_tup, atD_0, atD_1, atD_2, bAbs_, bInt_bl, bMax2_, bMin2_, line1, line2, line3, line4, line5, line6, line7, line8, List.getElem?_cons_succ, List.getElem?_cons_zero, Option.join_some, Option.join_none, Option.bind_some, Option.bind_none, List.set_cons_succ, List.set_cons_zero, List.map_cons, List.map_nil, List.length_cons, List.length_nil, List.append_nil, List.nil_append, List.cons_append, List.replicate_succ, List.replicate_zero, Nat.reduceAdd, Nat.reduceSub, Nat.reduceEqDiff, if_true, if_false, Bool.false_eq_true, decide_true, decide_false, Bool.not_true, Bool.not_false, eq_self_iff_true, reduceIte, List.zip_cons_cons, List.zip_nil_right, List.zip_nil_left, List.foldl_cons, List.foldl_nil, Int.reduceLT, Int.reduceEq, Int.reduceLE, g1S, es, f7, f8]) ?_
  simp (disch := walk_at "dis") only [mkF_, sSeq_, sSet_, sAsg_, sPar_, sIf_, sRet_, sExpr_, sNil_, eC_, eV_, e1_, e2_, asB_, asI_, eAnd_, eOr_, eNot_, eIf_, aNil_, aCons_, eTup_, eLst_, eCall_, eB_, eM_, oNone_, eSl_, tV_, tAnd_, tOr_, tNot_, tYes_, eChain_, gName_, gNil_, gCons_, gTup_, sq_nx, sq_rt, fin_rt, fin_nx, gSub_, gAdd_, gLt_, gLe_, gGt_, gGe_, gNeg_, gMul_, gFdiv_, gMod_, gEq_int, gNe_int, gEq_bl, gNe_bl, seqOf_tup, gIx_tup, atD_0, atD_1, atD_2, bAbs_, bInt_bl, bMax2_, bMin2_, line1, line2, line3, line4, line5, line6, line7, line8, List.getElem?_cons_succ, List.getElem?_cons_zero, Option.join_some, Option.join_none, Option.bind_some, Option.bind_none, List.set_cons_succ, List.set_cons_zero, List.map_cons, List.map_nil, List.length_cons, List.length_nil, List.append_nil, List.nil_append, List.cons_append, List.replicate_succ, List.replicate_zero, Nat.reduceAdd, Nat.reduceSub, Nat.reduceEqDiff, if_true, if_false, Bool.false_eq_true, decide_true, decide_false, Bool.not_true, Bool.not_false, eq_self_iff_true, reduceIte, List.zip_cons_cons, List.zip_nil_right, List.zip_nil_left, List.foldl_cons, List.foldl_nil, Int.reduceLT, Int.reduceEq, Int.reduceLE, g2S, es, f9, f10]
theorem rng_get' {lo : Int} {n i : Nat} {d : D} (h : (rng lo n)[i]? = some d) : i < n ∧ d = .int (lo + i) := by
  unfold rng at h
  rw [List.getElem?_map] at h
  by_cases hi : i < n
  · rw [List.getElem?_range hi] at h; cases h; exact ⟨hi, rfl⟩
  · rw [List.getElem?_eq_none_iff.mpr (by simpa using Nat.le_of_not_lt hi)] at h; cases h
theorem law_true (ns : List Int) (h : ns.length ≤ 63) : ∃ c, F_law [.ref 0] [.ro (ns.map Qm.D.int)] = some (.bl true, c) := by
  have key := forGo_inv (ks := []) (g := gName 1) (body := lawB) (fun _ σ c => Keeps ns σ c)
  have cl : (Qm.cutD (ns.map D.int) (some 1) (some 21)).length ≤ 63 := by
    unfold Qm.cutD
    rw [List.length_take, List.length_drop, List.length_map]
    omega
  generalize hcut : Qm.cutD (ns.map D.int) (some 1) (some 21) = cut at cl
  have h0 : ([Cell.ro (ns.map D.int)] : Cells)[0]? = some (.ro (ns.map D.int)) := rfl
  generalize hc0 : ([Cell.ro (ns.map D.int)] : Cells) = c0 at h0
  have hs : seqOf (.ref c0.length) (c0 ++ [.lst cut]) = some cut := seqOf_lst List.getElem?_concat_length
  have hr : iRng1 (aCons (eB bMax2 (aCons (eC (.int 1)) (aCons (eB bLen (aCons (eSl gCut (eV 0) (oSome (eC (.int 1))) (oSome (eC (.int 21)))) aNil)) aNil))) aNil) [some (.ref 0), none, none, none, none, none, none, none] c0 = some (⟨rng 0 (if (cut.length : Int) > 1 then (cut.length : Int) else 1).toNat, []⟩, c0 ++ [.lst cut]) := by
    refine iRng1' (j := if (cut.length : Int) > 1 then (cut.length : Int) else 1) ?_ (by split <;> omega)
    simp (disch := walk_at "dis") only [mkF_, sSeq_, sSet_, sAsg_, sPar_, sIf_, sRet_, sExpr_, sNil_, eC_, eV_, e1_, e2_, asB_, asI_, eAnd_, eOr_, eNot_, eIf_, aNil_, aCons_, eTup_, eLst_, eCall_, eB_, eM_, oNone_, eSl_, tV_, tAnd_, tOr_, tNot_, tYes_, eChain_, gName_, gNil_, gCons_, gTup_, sq_nx, sq_rt, fin_rt, fin_nx, gSub_, gAdd_, gLt_, gLe_, gGt_, gGe_, gNeg_, gMul_, gFdiv_, gMod_, gEq_int, gNe_int, gEq_bl, gNe_bl, seqOf_tup, gIx_tup, atD_0, atD_1, atD_2, bAbs_, bInt_bl, bMax2_, bMin2_, line1, line2, line3, line4, line5, line6, line7, line8, List.getElem?_cons_succ, List.getElem?_cons_zero, Option.join_some, Option.join_none, Option.bind_some, Option.bind_none, List.set_cons_succ, List.set_cons_zero, List.map_cons, List.map_nil, List.length_cons, List.length_nil, List.append_nil, List.nil_append, List.cons_append, List.replicate_succ, List.replicate_zero, Nat.reduceAdd, Nat.reduceSub, Nat.reduceEqDiff, if_true, if_false, Bool.false_eq_true, decide_true, decide_false, Bool.not_true, Bool.not_false, eq_self_iff_true, reduceIte, List.zip_cons_cons, List.zip_nil_right, List.zip_nil_left, List.foldl_cons, List.foldl_nil, Int.reduceLT, Int.reduceEq, Int.reduceLE, oSome_, gCut_ref, seqOf_ro h0, hcut, bLen_, hs]
  obtain ⟨σ', c', e, K⟩ := key (rng 0 (if (cut.length : Int) > 1 then (cut.length : Int) else 1).toNat) 0 [some (.ref 0), none, none, none, none, none, none, none] (c0 ++ [.lst cut]) (fun _ _ _ _ => stays_nil) (by
    rintro i d σ c hd ⟨z, x1, x2, x3, x4, x5, x6, x7, rfl⟩
    obtain ⟨hi, rfl⟩ := rng_get' hd
    have hi' : i < 63 := by split at hi <;> omega
    obtain ⟨σ', c', e, K⟩ := step_ (x2 := x2) (x3 := x3) (x4 := x4) (x5 := x5) (x6 := x6) (x7 := x7) (k := 0 + i) (by omega) (by omega) z
    exact ⟨_, c, σ', c', rfl, e, K⟩) ⟨pre_get ⟨_, rfl⟩ h0, none, none, none, none, none, none, none, rfl⟩
  refine ⟨c', ?_⟩
  have e0 : sFor (iRng1 (aCons (eB bMax2 (aCons (eC (.int 1)) (aCons (eB bLen (aCons (eSl gCut (eV 0) (oSome (eC (.int 1))) (oSome (eC (.int 21)))) aNil)) aNil))) aNil)) (gName 1) lawB [some (.ref 0), none, none, none, none, none, none, none] c0 = some (.nx, σ', c') := by
    unfold sFor
    rw [hr, Option.bind_some]
    exact e
  simp (disch := walk_at "dis") only [mkF_, sSeq_, sSet_, sAsg_, sPar_, sIf_, sRet_, sExpr_, sNil_, eC_, eV_, e1_, e2_, asB_, asI_, eAnd_, eOr_, eNot_, eIf_, aNil_, aCons_, eTup_, eLst_, eCall_, eB_, eM_, oNone_, eSl_, tV_, tAnd_, tOr_, tNot_, tYes_, eChain_, gName_, gNil_, gCons_, gTup_, sq_nx, sq_rt, fin_rt, fin_nx, gSub_, gAdd_, gLt_, gLe_, gGt_, gGe_, gNeg_, gMul_, gFdiv_, gMod_, gEq_int, gNe_int, gEq_bl, gNe_bl, seqOf_tup, gIx_tup, atD_0, atD_1, atD_2, bAbs_, bInt_bl, bMax2_, bMin2_, line1, line2, line3, line4, line5, line6, line7, line8, List.getElem?_cons_succ, List.getElem?_cons_zero, Option.join_some, Option.join_none, Option.bind_some, Option.bind_none, List.set_cons_succ, List.set_cons_zero, List.map_cons, List.map_nil, List.length_cons, List.length_nil, List.append_nil, List.nil_append, List.cons_append, List.replicate_succ, List.replicate_zero, Nat.reduceAdd, Nat.reduceSub, Nat.reduceEqDiff, if_true, if_false, Bool.false_eq_true, decide_true, decide_false, Bool.not_true, Bool.not_false, eq_self_iff_true, reduceIte, List.zip_cons_cons, List.zip_nil_right, List.zip_nil_left, List.foldl_cons, List.foldl_nil, Int.reduceLT, Int.reduceEq, Int.reduceLE, F_law, B_law, e0]
end Law
set_option maxHeartbeats 4000000
namespace Law
open PySem L2
def top (i : Nat) : Stmt := PySem.Challenge.pw_sheetlay_k15_what_is_common.main.body.getD i (.Pass ⟨0, 0, 0, 0⟩)
structure Adr where
  f_divisor : Addr
  d_divisor : FuncData
  f_spot : Addr
  d_spot : FuncData
  k_spot : Tok
  f_is_below : Addr
  d_is_below : FuncData
  f_ahead : Addr
  d_ahead : FuncData
  f_crossed : Addr
  d_crossed : FuncData
  f_sign : Addr
  d_sign : FuncData
  f_turn : Addr
  d_turn : FuncData
  f_forward : Addr
  d_forward : FuncData
  f_on_side : Addr
  d_on_side : FuncData
  f_turns_to : Addr
  d_turns_to : FuncData
  f_common_in_row : Addr
  d_common_in_row : FuncData
  f_crossing : Addr
  d_crossing : FuncData
  f_common : Addr
  d_common : FuncData
  f_law_pool : Addr
  d_law_pool : FuncData
  f_law_digit : Addr
  d_law_digit : FuncData
  f_law_drawn : Addr
  d_law_drawn : FuncData
  f_law_below : Addr
  d_law_below : FuncData
  f_law_shared : Addr
  d_law_shared : FuncData
  f_law_lowest : Addr
  d_law_lowest : FuncData
  f_law_spot : Addr
  d_law_spot : FuncData
  f_law_unlike : Addr
  d_law_unlike : FuncData
  f_law_between : Addr
  d_law_between : FuncData
  f_law_lone : Addr
  d_law_lone : FuncData
  f_law_in_row : Addr
  d_law_in_row : FuncData
  f_law_across : Addr
  d_law_across : FuncData
  f_law_shares : Addr
  d_law_shares : FuncData
  f_law_second : Addr
  d_law_second : FuncData
  f_law_right : Addr
  d_law_right : FuncData
  f_law : Addr
  d_law : FuncData
structure Txt (K : PySem.W.Frag) (mg : Str → Option Value) (t : Adr) : Prop where
  F_divisor : Fun K "divisor" "divisor" (top 1) t.f_divisor t.d_divisor
  m_divisor : mg "divisor" = some (.ref t.f_divisor)
  b_divisor : Binds K t.d_divisor ["n", "m"] []
  F_spot : FunD K "spot" "spot" (top 3) t.f_spot t.d_spot
  m_spot : mg "spot" = some (.ref t.f_spot)
  b_spot : Binds K t.d_spot ["x", "y", "w"] []
  b1_spot : Binds K t.d_spot ["x", "y", "w"] [Value.int 1 t.k_spot]
  F_is_below : Fun K "is_below" "is_below" (top 4) t.f_is_below t.d_is_below
  m_is_below : mg "is_below" = some (.ref t.f_is_below)
  b_is_below : Binds K t.d_is_below ["p", "q"] []
  F_ahead : Fun K "ahead" "ahead" (top 5) t.f_ahead t.d_ahead
  m_ahead : mg "ahead" = some (.ref t.f_ahead)
  b_ahead : Binds K t.d_ahead ["p", "q"] []
  F_crossed : Fun K "crossed" "crossed" (top 6) t.f_crossed t.d_crossed
  m_crossed : mg "crossed" = some (.ref t.f_crossed)
  b_crossed : Binds K t.d_crossed ["p", "q"] []
  F_sign : Fun K "sign" "sign" (top 7) t.f_sign t.d_sign
  m_sign : mg "sign" = some (.ref t.f_sign)
  b_sign : Binds K t.d_sign ["n"] []
  F_turn : Fun K "turn" "turn" (top 8) t.f_turn t.d_turn
  m_turn : mg "turn" = some (.ref t.f_turn)
  b_turn : Binds K t.d_turn ["a", "b", "c"] []
  F_forward : Fun K "forward" "forward" (top 10) t.f_forward t.d_forward
  m_forward : mg "forward" = some (.ref t.f_forward)
  b_forward : Binds K t.d_forward ["side"] []
  F_on_side : Fun K "on_side" "on_side" (top 11) t.f_on_side t.d_on_side
  m_on_side : mg "on_side" = some (.ref t.f_on_side)
  b_on_side : Binds K t.d_on_side ["p", "side"] []
  F_turns_to : Fun K "turns_to" "turns_to" (top 12) t.f_turns_to t.d_turns_to
  m_turns_to : mg "turns_to" = some (.ref t.f_turns_to)
  b_turns_to : Binds K t.d_turns_to ["side", "other"] []
  F_common_in_row : Fun K "common_in_row" "common_in_row" (top 13) t.f_common_in_row t.d_common_in_row
  m_common_in_row : mg "common_in_row" = some (.ref t.f_common_in_row)
  b_common_in_row : Binds K t.d_common_in_row ["one", "other"] []
  F_crossing : Fun K "crossing" "crossing" (top 14) t.f_crossing t.d_crossing
  m_crossing : mg "crossing" = some (.ref t.f_crossing)
  b_crossing : Binds K t.d_crossing ["one", "other"] []
  F_common : Fun K "common" "common" (top 15) t.f_common t.d_common
  m_common : mg "common" = some (.ref t.f_common)
  b_common : Binds K t.d_common ["one", "other"] []
  F_law_pool : Fun K "_law_pool" "_law_pool" (top 17) t.f_law_pool t.d_law_pool
  m_law_pool : mg "_law_pool" = some (.ref t.f_law_pool)
  b_law_pool : Binds K t.d_law_pool ["_law_script", "_law_k"] []
  F_law_digit : Fun K "_law_digit" "_law_digit" (top 18) t.f_law_digit t.d_law_digit
  m_law_digit : mg "_law_digit" = some (.ref t.f_law_digit)
  b_law_digit : Binds K t.d_law_digit ["_law_pool_here", "_law_many"] []
  F_law_drawn : Fun K "_law_drawn" "_law_drawn" (top 19) t.f_law_drawn t.d_law_drawn
  m_law_drawn : mg "_law_drawn" = some (.ref t.f_law_drawn)
  b_law_drawn : Binds K t.d_law_drawn ["_law_pool_here"] []
  F_law_below : Fun K "_law_below" "_law_below" (top 20) t.f_law_below t.d_law_below
  m_law_below : mg "_law_below" = some (.ref t.f_law_below)
  b_law_below : Binds K t.d_law_below ["_law_pool_here"] []
  F_law_shared : Fun K "_law_shared" "_law_shared" (top 21) t.f_law_shared t.d_law_shared
  m_law_shared : mg "_law_shared" = some (.ref t.f_law_shared)
  b_law_shared : Binds K t.d_law_shared ["_law_a", "_law_b"] []
  F_law_lowest : Fun K "_law_lowest" "_law_lowest" (top 22) t.f_law_lowest t.d_law_lowest
  m_law_lowest : mg "_law_lowest" = some (.ref t.f_law_lowest)
  b_law_lowest : Binds K t.d_law_lowest ["_law_x", "_law_y", "_law_w"] []
  F_law_spot : Fun K "_law_spot" "_law_spot" (top 23) t.f_law_spot t.d_law_spot
  m_law_spot : mg "_law_spot" = some (.ref t.f_law_spot)
  b_law_spot : Binds K t.d_law_spot ["_law_pool_here"] []
  F_law_unlike : Fun K "_law_unlike" "_law_unlike" (top 24) t.f_law_unlike t.d_law_unlike
  m_law_unlike : mg "_law_unlike" = some (.ref t.f_law_unlike)
  b_law_unlike : Binds K t.d_law_unlike ["_law_p", "_law_some"] []
  F_law_between : Fun K "_law_between" "_law_between" (top 25) t.f_law_between t.d_law_between
  m_law_between : mg "_law_between" = some (.ref t.f_law_between)
  b_law_between : Binds K t.d_law_between ["_law_pool_here", "_law_a", "_law_b"] []
  F_law_lone : Fun K "_law_lone" "_law_lone" (top 26) t.f_law_lone t.d_law_lone
  m_law_lone : mg "_law_lone" = some (.ref t.f_law_lone)
  b_law_lone : Binds K t.d_law_lone ["_law_x", "_law_y", "_law_w"] []
  F_law_in_row : Fun K "_law_in_row" "_law_in_row" (top 27) t.f_law_in_row t.d_law_in_row
  m_law_in_row : mg "_law_in_row" = some (.ref t.f_law_in_row)
  b_law_in_row : Binds K t.d_law_in_row ["_law_mine", "_law_theirs", "_law_w"] []
  F_law_across : Fun K "_law_across" "_law_across" (top 28) t.f_law_across t.d_law_across
  m_law_across : mg "_law_across" = some (.ref t.f_law_across)
  b_law_across : Binds K t.d_law_across ["_law_a", "_law_b"] []
  F_law_shares : Fun K "_law_shares" "_law_shares" (top 29) t.f_law_shares t.d_law_shares
  m_law_shares : mg "_law_shares" = some (.ref t.f_law_shares)
  b_law_shares : Binds K t.d_law_shares ["_law_one", "_law_other"] []
  F_law_second : Fun K "_law_second" "_law_second" (top 30) t.f_law_second t.d_law_second
  m_law_second : mg "_law_second" = some (.ref t.f_law_second)
  b_law_second : Binds K t.d_law_second ["_law_pool_here", "_law_a", "_law_b"] []
  F_law_right : Fun K "_law_right" "_law_right" (top 31) t.f_law_right t.d_law_right
  m_law_right : mg "_law_right" = some (.ref t.f_law_right)
  b_law_right : Binds K t.d_law_right ["_law_one", "_law_other", "_law_due"] []
  F_law : Fun K "law" "law" (top 32) t.f_law t.d_law
  m_law : mg "law" = some (.ref t.f_law)
  b_law : Binds K t.d_law ["_law_script"] []
  z_abs : mg "abs" = none
  z_all : mg "all" = none
  z_int : mg "int" = none
  z_isinstance : mg "isinstance" = none
  z_len : mg "len" = none
  z_max : mg "max" = none
  z_min : mg "min" = none
  z_range : mg "range" = none
  z_sorted : mg "sorted" = none
  z_tuple : mg "tuple" = none
section
variable {P : Program} {w : World} {K : PySem.W.Frag} {mg : Str → Option Value} {base : Heap} {t : Adr}
theorem sc_divisor : FnScope ["n", "m", "rest"] ["n", "m"] (defScope (top 1)) := ⟨rfl, rfl, rfl, by decide +kernel, rfl, by decide +kernel, by decide +kernel⟩
theorem ok_divisor (T : Txt K mg t) : FnOk P w K mg base CX0 1 t.f_divisor t.d_divisor ["n", "m"] (spD K F_divisor) := by
  refine T.F_divisor.okQ (n := 2) (m := 3) (B := B_divisor) sc_divisor rfl rfl (by decide) rfl fun cdv A outer s H E hr => ?_
  unfold B_divisor
  exact (qss_cons (qs_while PassesOwn.never (qt_cmp (op_neQ hr.units) lk_ne (qe_var 1 (pv 1)) qe_int (nomark _)) (qss_cons (qs_set (i := 2) sc_divisor.nd rfl (Or.inl rfl) (qe_op op_modN lk_mod (qe_var 0 (pv 0)) (qe_var 1 (pv 1))))
      (qss_cons (qs_set (i := 0) sc_divisor.nd rfl (Or.inl rfl) (qe_var 1 (pv 1)))
      (qss_one (qs_set (i := 1) sc_divisor.nd rfl (Or.inl rfl) (qe_var 2 (pv 2)))))))
      (qss_one (qs_ret (qe_callB call_abs lk_abs (by rfl) T.z_abs bt_abs (qa_cons (qe_var 0 (pv 0)) qa_nil)))))
theorem sc_spot : FnScope ["x", "y", "w", "shared"] ["x", "y", "w"] (defScope (top 3)) := ⟨rfl, rfl, rfl, by decide +kernel, rfl, by decide +kernel, by decide +kernel⟩
theorem ok_spot (T : Txt K mg t) : FnOk P w K mg base CX0 2 t.f_spot t.d_spot ["x", "y", "w"] (spD K F_spot) := by
  refine T.F_spot.okQ (n := 3) (m := 4) (B := B_spot) sc_spot rfl rfl (by decide) rfl fun cdv A outer s H E hr => ?_
  unfold B_spot
  exact (qss_cons (qs_set (i := 3) sc_spot.nd rfl (Or.inl rfl) (qe_call [] (ok_divisor T) (hr.mono (by decide)) (by rfl) T.m_divisor T.F_divisor.kp T.b_divisor .nil (fun _ _ _ => .nil) (qa_cons (qe_call [] (ok_divisor T) (hr.mono (by decide)) (by rfl) T.m_divisor T.F_divisor.kp T.b_divisor .nil (fun _ _ _ => .nil) (qa_cons (qe_var 0 (pv 0)) (qa_cons (qe_var 2 (pv 2)) qa_nil))) (qa_cons (qe_var 1 (pv 1)) qa_nil))))
      (qss_cons (qs_if (qt_cmp op_lt lk_lt (qe_var 2 (pv 2)) qe_int (nomark _)) (qss_one (qs_set (i := 3) sc_spot.nd rfl (Or.inl rfl) (qe_neg (qe_var 3 (pv 3))))) qss_nil)
      (qss_one (qs_ret (qe_tup (qa_cons (qe_op op_fdivB lk_fdiv (qe_var 0 (pv 0)) (qe_var 3 (pv 3))) (qa_cons (qe_op op_fdivB lk_fdiv (qe_var 1 (pv 1)) (qe_var 3 (pv 3))) (qa_cons (qe_op op_fdivB lk_fdiv (qe_var 2 (pv 2)) (qe_var 3 (pv 3))) qa_nil))))))))
theorem sc_is_below : FnScope ["p", "q"] ["p", "q"] (defScope (top 4)) := ⟨rfl, rfl, rfl, by decide +kernel, rfl, by decide +kernel, by decide +kernel⟩
theorem ok_is_below (T : Txt K mg t) : FnOk P w K mg base CX0 1 t.f_is_below t.d_is_below ["p", "q"] (spD K F_is_below) := by
  refine T.F_is_below.okQ (n := 2) (m := 2) (B := B_is_below) sc_is_below rfl rfl (by decide) rfl fun cdv A outer s H E hr => ?_
  unfold B_is_below
  exact (qss_one (qs_ret (qe_cmp op_lt lk_lt (qe_op op_mulB lk_mul (qe_item (qe_var 0 (pv 0)) qe_int (fun _ _ => rfl)) (qe_item (qe_var 1 (pv 1)) qe_int (fun _ _ => rfl))) (qe_op op_mulB lk_mul (qe_item (qe_var 1 (pv 1)) qe_int (fun _ _ => rfl)) (qe_item (qe_var 0 (pv 0)) qe_int (fun _ _ => rfl))) (nomark _))))
theorem sc_ahead : FnScope ["p", "q", "one", "other"] ["p", "q"] (defScope (top 5)) := ⟨rfl, rfl, rfl, by decide +kernel, rfl, by decide +kernel, by decide +kernel⟩
theorem ok_ahead (T : Txt K mg t) : FnOk P w K mg base CX0 2 t.f_ahead t.d_ahead ["p", "q"] (spD K F_ahead) := by
  refine T.F_ahead.okQ (n := 2) (m := 4) (B := B_ahead) sc_ahead rfl rfl (by decide) rfl fun cdv A outer s H E hr => ?_
  unfold B_ahead
  exact (qss_cons (qs_set (i := 2) sc_ahead.nd rfl (Or.inl rfl) (qe_op op_mulB lk_mul (qe_item (qe_var 0 (pv 0)) qe_int (fun _ _ => rfl)) (qe_item (qe_var 1 (pv 1)) qe_int (fun _ _ => rfl))))
      (qss_cons (qs_set (i := 3) sc_ahead.nd rfl (Or.inl rfl) (qe_op op_mulB lk_mul (qe_item (qe_var 1 (pv 1)) qe_int (fun _ _ => rfl)) (qe_item (qe_var 0 (pv 0)) qe_int (fun _ _ => rfl))))
      (qss_cons (qs_if (qt_cmp (op_eqQ hr.units) lk_eq (qe_var 2 (pv 2)) (qe_var 3 (pv 3)) (nomark _)) (qss_one (qs_ret (qe_call [] (ok_is_below T) (hr.mono (by decide)) (by rfl) T.m_is_below T.F_is_below.kp T.b_is_below .nil (fun _ _ _ => .nil) (qa_cons (qe_var 0 (pv 0)) (qa_cons (qe_var 1 (pv 1)) qa_nil))))) qss_nil)
      (qss_one (qs_ret (qe_cmp op_lt lk_lt (qe_var 2 (pv 2)) (qe_var 3 (pv 3)) (nomark _)))))))
theorem sc_crossed : FnScope ["p", "q"] ["p", "q"] (defScope (top 6)) := ⟨rfl, rfl, rfl, by decide +kernel, rfl, by decide +kernel, by decide +kernel⟩
theorem ok_crossed (T : Txt K mg t) : FnOk P w K mg base CX0 1 t.f_crossed t.d_crossed ["p", "q"] (spD K F_crossed) := by
  refine T.F_crossed.okQ (n := 2) (m := 2) (B := B_crossed) sc_crossed rfl rfl (by decide) rfl fun cdv A outer s H E hr => ?_
  unfold B_crossed
  exact (qss_one (qs_ret (qe_tup (qa_cons (qe_op op_sub lk_sub (qe_op op_mulB lk_mul (qe_item (qe_var 0 (pv 0)) qe_int (fun _ _ => rfl)) (qe_item (qe_var 1 (pv 1)) qe_int (fun _ _ => rfl))) (qe_op op_mulB lk_mul (qe_item (qe_var 0 (pv 0)) qe_int (fun _ _ => rfl)) (qe_item (qe_var 1 (pv 1)) qe_int (fun _ _ => rfl)))) (qa_cons (qe_op op_sub lk_sub (qe_op op_mulB lk_mul (qe_item (qe_var 0 (pv 0)) qe_int (fun _ _ => rfl)) (qe_item (qe_var 1 (pv 1)) qe_int (fun _ _ => rfl))) (qe_op op_mulB lk_mul (qe_item (qe_var 0 (pv 0)) qe_int (fun _ _ => rfl)) (qe_item (qe_var 1 (pv 1)) qe_int (fun _ _ => rfl)))) (qa_cons (qe_op op_sub lk_sub (qe_op op_mulB lk_mul (qe_item (qe_var 0 (pv 0)) qe_int (fun _ _ => rfl)) (qe_item (qe_var 1 (pv 1)) qe_int (fun _ _ => rfl))) (qe_op op_mulB lk_mul (qe_item (qe_var 0 (pv 0)) qe_int (fun _ _ => rfl)) (qe_item (qe_var 1 (pv 1)) qe_int (fun _ _ => rfl)))) qa_nil))))))
theorem sc_sign : FnScope ["n"] ["n"] (defScope (top 7)) := ⟨rfl, rfl, rfl, by decide +kernel, rfl, by decide +kernel, by decide +kernel⟩
theorem ok_sign (T : Txt K mg t) : FnOk P w K mg base CX0 1 t.f_sign t.d_sign ["n"] (spD K F_sign) := by
  refine T.F_sign.okQ (n := 1) (m := 1) (B := B_sign) sc_sign rfl rfl (by decide) rfl fun cdv A outer s H E hr => ?_
  unfold B_sign
  exact (qss_cons (qs_if (qt_cmp op_gt lk_gt (qe_var 0 (pv 0)) qe_int (nomark _)) (qss_one (qs_ret qe_int)) qss_nil)
      (qss_cons (qs_if (qt_cmp op_lt lk_lt (qe_var 0 (pv 0)) qe_int (nomark _)) (qss_one (qs_ret (qe_neg qe_int))) qss_nil)
      (qss_one (qs_ret qe_int))))
theorem sc_turn : FnScope ["a", "b", "c", "row"] ["a", "b", "c"] (defScope (top 8)) := ⟨rfl, rfl, rfl, by decide +kernel, rfl, by decide +kernel, by decide +kernel⟩
theorem ok_turn (T : Txt K mg t) : FnOk P w K mg base CX0 2 t.f_turn t.d_turn ["a", "b", "c"] (spD K F_turn) := by
  refine T.F_turn.okQ (n := 3) (m := 4) (B := B_turn) sc_turn rfl rfl (by decide) rfl fun cdv A outer s H E hr => ?_
  unfold B_turn
  exact (qss_cons (qs_set (i := 3) sc_turn.nd rfl (Or.inl rfl) (qe_call [] (ok_crossed T) (hr.mono (by decide)) (by rfl) T.m_crossed T.F_crossed.kp T.b_crossed .nil (fun _ _ _ => .nil) (qa_cons (qe_var 0 (pv 0)) (qa_cons (qe_var 1 (pv 1)) qa_nil))))
      (qss_one (qs_ret (qe_call [] (ok_sign T) (hr.mono (by decide)) (by rfl) T.m_sign T.F_sign.kp T.b_sign .nil (fun _ _ _ => .nil) (qa_cons (qe_op op_addQ lk_add (qe_op op_addQ lk_add (qe_op op_mulB lk_mul (qe_item (qe_var 3 (pv 3)) qe_int (fun _ _ => rfl)) (qe_item (qe_var 2 (pv 2)) qe_int (fun _ _ => rfl))) (qe_op op_mulB lk_mul (qe_item (qe_var 3 (pv 3)) qe_int (fun _ _ => rfl)) (qe_item (qe_var 2 (pv 2)) qe_int (fun _ _ => rfl)))) (qe_op op_mulB lk_mul (qe_item (qe_var 3 (pv 3)) qe_int (fun _ _ => rfl)) (qe_item (qe_var 2 (pv 2)) qe_int (fun _ _ => rfl)))) qa_nil)))))
theorem sc_forward : FnScope ["side"] ["side"] (defScope (top 10)) := ⟨rfl, rfl, rfl, by decide +kernel, rfl, by decide +kernel, by decide +kernel⟩
theorem ok_forward (T : Txt K mg t) : FnOk P w K mg base CX0 3 t.f_forward t.d_forward ["side"] (spD K F_forward) := by
  refine T.F_forward.okQ (n := 1) (m := 1) (B := B_forward) sc_forward rfl rfl (by decide) rfl fun cdv A outer s H E hr => ?_
  unfold B_forward
  exact (qss_cons (qs_if (qt_val (qe_call [] (ok_ahead T) (hr.mono (by decide)) (by rfl) T.m_ahead T.F_ahead.kp T.b_ahead .nil (fun _ _ _ => .nil) (qa_cons (qe_item (qe_var 0 (pv 0)) qe_int (fun _ _ => rfl)) (qa_cons (qe_item (qe_var 0 (pv 0)) qe_int (fun _ _ => rfl)) qa_nil)))) (qss_one (qs_ret (qe_var 0 (pv 0)))) qss_nil)
      (qss_one (qs_ret (qe_tup (qa_cons (qe_item (qe_var 0 (pv 0)) qe_int (fun _ _ => rfl)) (qa_cons (qe_item (qe_var 0 (pv 0)) qe_int (fun _ _ => rfl)) qa_nil))))))
theorem sc_on_side : FnScope ["p", "side", "ends"] ["p", "side"] (defScope (top 11)) := ⟨rfl, rfl, rfl, by decide +kernel, rfl, by decide +kernel, by decide +kernel⟩
theorem ok_on_side (T : Txt K mg t) : FnOk P w K mg base CX0 4 t.f_on_side t.d_on_side ["p", "side"] (spD K F_on_side) := by
  refine T.F_on_side.okQ (n := 2) (m := 3) (B := B_on_side) sc_on_side rfl rfl (by decide) rfl fun cdv A outer s H E hr => ?_
  unfold B_on_side
  exact (qss_cons (qs_if (qt_cmp (op_neQ hr.units) lk_ne (qe_call [] (ok_turn T) (hr.mono (by decide)) (by rfl) T.m_turn T.F_turn.kp T.b_turn .nil (fun _ _ _ => .nil) (qa_cons (qe_item (qe_var 1 (pv 1)) qe_int (fun _ _ => rfl)) (qa_cons (qe_item (qe_var 1 (pv 1)) qe_int (fun _ _ => rfl)) (qa_cons (qe_var 0 (pv 0)) qa_nil)))) qe_int (nomark _)) (qss_one (qs_ret qe_bl)) qss_nil)
      (qss_cons (qs_set (i := 2) sc_on_side.nd rfl (Or.inl rfl) (qe_call [] (ok_forward T) (hr.mono (by decide)) (by rfl) T.m_forward T.F_forward.kp T.b_forward .nil (fun _ _ _ => .nil) (qa_cons (qe_var 1 (pv 1)) qa_nil)))
      (qss_one (qs_ret (qe_and (qe_not (qe_call [] (ok_ahead T) (hr.mono (by decide)) (by rfl) T.m_ahead T.F_ahead.kp T.b_ahead .nil (fun _ _ _ => .nil) (qa_cons (qe_var 0 (pv 0)) (qa_cons (qe_item (qe_var 2 (pv 2)) qe_int (fun _ _ => rfl)) qa_nil)))) (qe_one (qe_not (qe_call [] (ok_ahead T) (hr.mono (by decide)) (by rfl) T.m_ahead T.F_ahead.kp T.b_ahead .nil (fun _ _ _ => .nil) (qa_cons (qe_item (qe_var 2 (pv 2)) qe_int (fun _ _ => rfl)) (qa_cons (qe_var 0 (pv 0)) qa_nil))))))))))
theorem sc_turns_to : FnScope ["side", "other"] ["side", "other"] (defScope (top 12)) := ⟨rfl, rfl, rfl, by decide +kernel, rfl, by decide +kernel, by decide +kernel⟩
theorem ok_turns_to (T : Txt K mg t) : FnOk P w K mg base CX0 3 t.f_turns_to t.d_turns_to ["side", "other"] (spD K F_turns_to) := by
  refine T.F_turns_to.okQ (n := 2) (m := 2) (B := B_turns_to) sc_turns_to rfl rfl (by decide) rfl fun cdv A outer s H E hr => ?_
  unfold B_turns_to
  exact (qss_one (qs_ret (qe_comp (N' := ["p", "side"]) (cap := [none, some 0]) (blk_mk (sc := defScope (top 12)) (NN := ["side", "other"]) rfl rfl rfl (by decide +kernel) (by decide +kernel) (by decide +kernel) (by decide +kernel)) rfl (qi_tup (qe_var 1 (pv 1))) (fun _ _ _ _ => qg_name (i := 0) (show List.Nodup (["p", "side"] : List Str) by decide +kernel) rfl (Or.inl rfl)) (fun _ _ _ _ => qifs_none) (fun _ _ _ _ => (qe_call [] (ok_turn T) (hr.mono (by decide)) (by rfl) T.m_turn T.F_turn.kp T.b_turn .nil (fun _ _ _ => .nil) (qa_cons (qe_item (qe_var 1 (pv 1)) qe_int (fun _ _ => rfl)) (qa_cons (qe_item (qe_var 1 (pv 1)) qe_int (fun _ _ => rfl)) (qa_cons (qe_var 0 (pv 0)) qa_nil))))))))
theorem sc_common_in_row : FnScope ["one", "other", "left", "right", "p", "q"] ["one", "other"] (defScope (top 13)) := ⟨rfl, rfl, rfl, by decide +kernel, rfl, by decide +kernel, by decide +kernel⟩
theorem ok_common_in_row (T : Txt K mg t) : FnOk P w K mg base CX0 4 t.f_common_in_row t.d_common_in_row ["one", "other"] (spD K F_common_in_row) := by
  refine T.F_common_in_row.okQ (n := 2) (m := 6) (B := B_common_in_row) sc_common_in_row rfl rfl (by decide) rfl fun cdv A outer s H E hr => ?_
  unfold B_common_in_row
  exact (qss_cons (qs_set (i := 2) sc_common_in_row.nd rfl (Or.inl rfl) (qe_call [] (ok_forward T) (hr.mono (by decide)) (by rfl) T.m_forward T.F_forward.kp T.b_forward .nil (fun _ _ _ => .nil) (qa_cons (qe_var 0 (pv 0)) qa_nil)))
      (qss_cons (qs_set (i := 3) sc_common_in_row.nd rfl (Or.inl rfl) (qe_call [] (ok_forward T) (hr.mono (by decide)) (by rfl) T.m_forward T.F_forward.kp T.b_forward .nil (fun _ _ _ => .nil) (qa_cons (qe_var 1 (pv 1)) qa_nil)))
      (qss_cons (qs_set (i := 4) sc_common_in_row.nd rfl (Or.inl rfl) (qe_ifExp (qt_val (qe_call [] (ok_ahead T) (hr.mono (by decide)) (by rfl) T.m_ahead T.F_ahead.kp T.b_ahead .nil (fun _ _ _ => .nil) (qa_cons (qe_item (qe_var 2 (pv 2)) qe_int (fun _ _ => rfl)) (qa_cons (qe_item (qe_var 3 (pv 3)) qe_int (fun _ _ => rfl)) qa_nil)))) (qe_item (qe_var 3 (pv 3)) qe_int (fun _ _ => rfl)) (qe_item (qe_var 2 (pv 2)) qe_int (fun _ _ => rfl))))
      (qss_cons (qs_set (i := 5) sc_common_in_row.nd rfl (Or.inl rfl) (qe_ifExp (qt_val (qe_call [] (ok_ahead T) (hr.mono (by decide)) (by rfl) T.m_ahead T.F_ahead.kp T.b_ahead .nil (fun _ _ _ => .nil) (qa_cons (qe_item (qe_var 2 (pv 2)) qe_int (fun _ _ => rfl)) (qa_cons (qe_item (qe_var 3 (pv 3)) qe_int (fun _ _ => rfl)) qa_nil)))) (qe_item (qe_var 2 (pv 2)) qe_int (fun _ _ => rfl)) (qe_item (qe_var 3 (pv 3)) qe_int (fun _ _ => rfl))))
      (qss_cons (qs_if (qt_cmp (op_eqQ hr.units) lk_eq (qe_var 4 (pv 4)) (qe_var 5 (pv 5)) (nomark _)) (qss_one (qs_ret (qe_tup (qa_cons qe_str (qa_cons (qe_var 4 (pv 4)) qa_nil))))) qss_nil)
      (qss_one (qs_ret (qe_ifExp (qt_val (qe_call [] (ok_ahead T) (hr.mono (by decide)) (by rfl) T.m_ahead T.F_ahead.kp T.b_ahead .nil (fun _ _ _ => .nil) (qa_cons (qe_var 4 (pv 4)) (qa_cons (qe_var 5 (pv 5)) qa_nil)))) (qe_tup (qa_cons qe_str (qa_cons (qe_var 4 (pv 4)) (qa_cons (qe_var 5 (pv 5)) qa_nil)))) qe_non))))))))
theorem sc_crossing : FnScope ["one", "other", "meet"] ["one", "other"] (defScope (top 14)) := ⟨rfl, rfl, rfl, by decide +kernel, rfl, by decide +kernel, by decide +kernel⟩
theorem ok_crossing (T : Txt K mg t) : FnOk P w K mg base CX0 3 t.f_crossing t.d_crossing ["one", "other"] (spD K F_crossing) := by
  refine T.F_crossing.okQ (n := 2) (m := 3) (B := B_crossing) sc_crossing rfl rfl (by decide) rfl fun cdv A outer s H E hr => ?_
  unfold B_crossing
  exact (qss_cons (qs_set (i := 2) sc_crossing.nd rfl (Or.inl rfl) (qe_call [] (ok_crossed T) (hr.mono (by decide)) (by rfl) T.m_crossed T.F_crossed.kp T.b_crossed .nil (fun _ _ _ => .nil) (qa_cons (qe_call [] (ok_crossed T) (hr.mono (by decide)) (by rfl) T.m_crossed T.F_crossed.kp T.b_crossed .nil (fun _ _ _ => .nil) (qa_cons (qe_item (qe_var 0 (pv 0)) qe_int (fun _ _ => rfl)) (qa_cons (qe_item (qe_var 0 (pv 0)) qe_int (fun _ _ => rfl)) qa_nil))) (qa_cons (qe_call [] (ok_crossed T) (hr.mono (by decide)) (by rfl) T.m_crossed T.F_crossed.kp T.b_crossed .nil (fun _ _ _ => .nil) (qa_cons (qe_item (qe_var 1 (pv 1)) qe_int (fun _ _ => rfl)) (qa_cons (qe_item (qe_var 1 (pv 1)) qe_int (fun _ _ => rfl)) qa_nil))) qa_nil))))
      (qss_one (qs_ret (qe_call [] (ok_spot T) (hr.mono (by decide)) (by rfl) T.m_spot T.F_spot.kp T.b_spot .nil (fun _ _ _ => .nil) (qa_cons (qe_item (qe_var 2 (pv 2)) qe_int (fun _ _ => rfl)) (qa_cons (qe_item (qe_var 2 (pv 2)) qe_int (fun _ _ => rfl)) (qa_cons (qe_item (qe_var 2 (pv 2)) qe_int (fun _ _ => rfl)) qa_nil)))))))
theorem sc_common : FnScope ["one", "other", "turns", "back"] ["one", "other"] (defScope (top 15)) := ⟨rfl, rfl, rfl, by decide +kernel, rfl, by decide +kernel, by decide +kernel⟩
theorem ok_common (T : Txt K mg t) : FnOk P w K mg base CX0 5 t.f_common t.d_common ["one", "other"] (spD K F_common) := by
  refine T.F_common.okQ (n := 2) (m := 4) (B := B_common) sc_common rfl rfl (by decide) rfl fun cdv A outer s H E hr => ?_
  unfold B_common
  exact (qss_cons (qs_set (i := 2) sc_common.nd rfl (Or.inl rfl) (qe_call [] (ok_turns_to T) (hr.mono (by decide)) (by rfl) T.m_turns_to T.F_turns_to.kp T.b_turns_to .nil (fun _ _ _ => .nil) (qa_cons (qe_var 0 (pv 0)) (qa_cons (qe_var 1 (pv 1)) qa_nil))))
      (qss_cons (qs_if (qt_cmp (op_eqQ hr.units) lk_eq (qe_var 2 (pv 2)) (qe_lst (qa_cons qe_int (qa_cons qe_int qa_nil))) (nomark _)) (qss_one (qs_ret (qe_call [] (ok_common_in_row T) (hr.mono (by decide)) (by rfl) T.m_common_in_row T.F_common_in_row.kp T.b_common_in_row .nil (fun _ _ _ => .nil) (qa_cons (qe_var 0 (pv 0)) (qa_cons (qe_var 1 (pv 1)) qa_nil))))) qss_nil)
      (qss_cons (qs_set (i := 3) sc_common.nd rfl (Or.inl rfl) (qe_call [] (ok_turns_to T) (hr.mono (by decide)) (by rfl) T.m_turns_to T.F_turns_to.kp T.b_turns_to .nil (fun _ _ _ => .nil) (qa_cons (qe_var 1 (pv 1)) (qa_cons (qe_var 0 (pv 0)) qa_nil))))
      (qss_cons (qs_if (PW.pt (qw_or (qt_cmp op_gt lk_gt (qe_op op_mulB lk_mul (qe_item (qe_var 2 (pv 2)) qe_int (fun _ _ => rfl)) (qe_item (qe_var 2 (pv 2)) qe_int (fun _ _ => rfl))) qe_int (nomark _)) (qw_or1 (qt_cmp op_gt lk_gt (qe_op op_mulB lk_mul (qe_item (qe_var 3 (pv 3)) qe_int (fun _ _ => rfl)) (qe_item (qe_var 3 (pv 3)) qe_int (fun _ _ => rfl))) qe_int (nomark _))))) (qss_one (qs_ret qe_non)) qss_nil)
      (qss_one (qs_ret (qe_tup (qa_cons qe_str (qa_cons (qe_call [] (ok_crossing T) (hr.mono (by decide)) (by rfl) T.m_crossing T.F_crossing.kp T.b_crossing .nil (fun _ _ _ => .nil) (qa_cons (qe_var 0 (pv 0)) (qa_cons (qe_var 1 (pv 1)) qa_nil))) qa_nil)))))))))
theorem sc_law_pool : FnScope ["_law_script", "_law_k", "_law_cell", "_law_mixed", "_law_total", "_law_j", "_law_more", "_law_own"] ["_law_script", "_law_k"] (defScope (top 17)) := ⟨rfl, rfl, rfl, by decide +kernel, rfl, by decide +kernel, by decide +kernel⟩
theorem ok_law_pool (T : Txt K mg t) : FnOk P w K mg base CX0 1 t.f_law_pool t.d_law_pool ["_law_script", "_law_k"] (spD K F_law_pool) := by
  refine T.F_law_pool.okQ (n := 2) (m := 8) (B := B_law_pool) sc_law_pool rfl rfl (by decide) rfl fun cdv A outer s H E hr => ?_
  unfold B_law_pool
  exact (qss_cons (qs_set (i := 2) sc_law_pool.nd rfl (Or.inl rfl) qe_int)
      (qss_cons (qs_if (qt_cmp op_lt lk_lt (qe_var 1 (pv 1)) (qe_callB call_len_seq lk_len (by rfl) T.z_len bt_len (qa_cons (qe_var 0 (pv 0)) qa_nil)) (nomark _)) (qss_one (qs_set (i := 2) sc_law_pool.nd rfl (Or.inl rfl) (qe_item (qe_var 0 (pv 0)) (qe_var 1 (pv 1)) (fun _ _ => rfl)))) qss_nil)
      (qss_cons (qs_set (i := 3) sc_law_pool.nd rfl (Or.inl rfl) (qe_op op_addQ lk_add (qe_op op_addQ lk_add (qe_op op_modN lk_mod (qe_callB call_abs lk_abs (by rfl) T.z_abs bt_abs (qa_cons (qe_var 2 (pv 2)) qa_nil)) qe_int) (qe_op op_mulB lk_mul qe_int (qe_var 1 (pv 1)))) qe_int))
      (qss_cons (qs_set (i := 4) sc_law_pool.nd rfl (Or.inl rfl) qe_int)
      (qss_cons (qs_for PassesOwn.never rfl (qi_range1 (by rfl) T.z_range (qa_cons qe_int qa_nil)) (qg_name (i := 5) sc_law_pool.nd rfl (Or.inl rfl)) (qss_cons (qs_set (i := 3) sc_law_pool.nd rfl (Or.inl rfl) (qe_op op_addQ lk_add (qe_op op_mulB lk_mul (qe_var 3 (pv 3)) qe_int) (qe_op op_mulB lk_mul qe_int (qe_op op_addQ lk_add (qe_op op_addQ lk_add (qe_var 1 (pv 1)) (qe_var 5 (pv 5))) qe_int))))
      (qss_cons (qs_set (i := 3) sc_law_pool.nd rfl (Or.inl rfl) (qe_op op_modN lk_mod (qe_var 3 (pv 3)) qe_int))
      (qss_cons (qs_set (i := 6) sc_law_pool.nd rfl (Or.inl rfl) (qe_op op_mulB lk_mul (qe_op op_fdivB lk_fdiv (qe_var 3 (pv 3)) qe_int) (qe_op op_addQ lk_add (qe_op op_addQ lk_add (qe_op op_modN lk_mod (qe_var 3 (pv 3)) qe_int) (qe_op op_mulB lk_mul qe_int (qe_var 5 (pv 5)))) qe_int)))
      (qss_one (qs_set (i := 4) sc_law_pool.nd rfl (Or.inl rfl) (qe_op op_addQ lk_add (qe_op op_mulB lk_mul (qe_var 4 (pv 4)) qe_int) (qe_op op_modN lk_mod (qe_var 6 (pv 6)) qe_int))))))))
      (qss_cons (qs_set (i := 7) sc_law_pool.nd rfl (Or.inl rfl) (qe_op op_mulB lk_mul (qe_callB call_abs lk_abs (by rfl) T.z_abs bt_abs (qa_cons (qe_var 2 (pv 2)) qa_nil)) (qe_callTy call_int1 lk_intB (by rfl) T.z_int bt_int (qa_cons (qe_and (qe_cmp op_gt lk_gt (qe_callB call_len_seq lk_len (by rfl) T.z_len bt_len (qa_cons (qe_var 0 (pv 0)) qa_nil)) qe_int (nomark _)) (qe_one (qe_cmp (op_eqQ hr.units) lk_eq (qe_op op_modN lk_mod (qe_item (qe_var 0 (pv 0)) qe_int (fun _ _ => rfl)) qe_int) qe_int (nomark _)))) qa_nil))))
      (qss_one (qs_ret (qe_lst (qa_cons (qe_var 7 (pv 7)) (qa_cons (qe_var 4 (pv 4)) qa_nil)))))))))))
theorem sc_law_digit : FnScope ["_law_pool_here", "_law_many", "_law_at", "_law_digit_here"] ["_law_pool_here", "_law_many"] (defScope (top 18)) := ⟨rfl, rfl, rfl, by decide +kernel, rfl, by decide +kernel, by decide +kernel⟩
theorem ok_law_digit (T : Txt K mg t) : FnOk P w K mg base CX0 1 t.f_law_digit t.d_law_digit ["_law_pool_here", "_law_many"] (spD K F_law_digit) := by
  refine T.F_law_digit.okQ (n := 2) (m := 4) (B := B_law_digit) sc_law_digit rfl rfl (by decide) rfl fun cdv A outer s H E hr => ?_
  unfold B_law_digit
  exact (qss_cons (qs_set (i := 2) sc_law_digit.nd rfl (Or.inl rfl) (qe_callTy call_int1 lk_intB (by rfl) T.z_int bt_int (qa_cons (qe_cmp (op_eqQ hr.units) lk_eq (qe_item (qe_var 0 (pv 0)) qe_int (fun _ _ => rfl)) qe_int (nomark _)) qa_nil)))
      (qss_cons (qs_set (i := 3) sc_law_digit.nd rfl (Or.inl rfl) (qe_op op_modN lk_mod (qe_item (qe_var 0 (pv 0)) (qe_var 2 (pv 2)) (fun _ _ => rfl)) (qe_var 1 (pv 1))))
      (qss_cons (qs_asg (qe_op op_fdivB lk_fdiv (qe_item (qe_var 0 (pv 0)) (qe_var 2 (pv 2)) (fun _ _ => rfl)) (qe_var 1 (pv 1))) (qg_put (qe_var 0 (pv 0)) (qe_var 2 (pv 2))))
      (qss_one (qs_ret (qe_var 3 (pv 3)))))))
theorem sc_law_drawn : FnScope ["_law_pool_here", "_law_pick"] ["_law_pool_here"] (defScope (top 19)) := ⟨rfl, rfl, rfl, by decide +kernel, rfl, by decide +kernel, by decide +kernel⟩
theorem ok_law_drawn (T : Txt K mg t) : FnOk P w K mg base CX0 2 t.f_law_drawn t.d_law_drawn ["_law_pool_here"] (spD K F_law_drawn) := by
  refine T.F_law_drawn.okQ (n := 1) (m := 2) (B := B_law_drawn) sc_law_drawn rfl rfl (by decide) rfl fun cdv A outer s H E hr => ?_
  unfold B_law_drawn
  exact (qss_cons (qs_set (i := 1) sc_law_drawn.nd rfl (Or.inl rfl) (qe_call [] (ok_law_digit T) (hr.mono (by decide)) (by rfl) T.m_law_digit T.F_law_digit.kp T.b_law_digit .nil (fun _ _ _ => .nil) (qa_cons (qe_var 0 (pv 0)) (qa_cons qe_int qa_nil))))
      (qss_cons (qs_if (qt_cmp op_lt lk_lt (qe_var 1 (pv 1)) qe_int (nomark _)) (qss_one (qs_ret (qe_op op_sub lk_sub (qe_call [] (ok_law_digit T) (hr.mono (by decide)) (by rfl) T.m_law_digit T.F_law_digit.kp T.b_law_digit .nil (fun _ _ _ => .nil) (qa_cons (qe_var 0 (pv 0)) (qa_cons qe_int qa_nil))) qe_int))) qss_nil)
      (qss_cons (qs_if (qt_cmp (op_eqQ hr.units) lk_eq (qe_var 1 (pv 1)) qe_int (nomark _)) (qss_one (qs_ret (qe_op op_sub lk_sub (qe_call [] (ok_law_digit T) (hr.mono (by decide)) (by rfl) T.m_law_digit T.F_law_digit.kp T.b_law_digit .nil (fun _ _ _ => .nil) (qa_cons (qe_var 0 (pv 0)) (qa_cons qe_int qa_nil))) qe_int))) qss_nil)
      (qss_cons (qs_if (qt_cmp (op_eqQ hr.units) lk_eq (qe_var 1 (pv 1)) qe_int (nomark _)) (qss_one (qs_ret (qe_op op_mulB lk_mul (qe_op op_sub lk_sub qe_int (qe_call [] (ok_law_digit T) (hr.mono (by decide)) (by rfl) T.m_law_digit T.F_law_digit.kp T.b_law_digit .nil (fun _ _ _ => .nil) (qa_cons (qe_var 0 (pv 0)) (qa_cons qe_int qa_nil)))) (qe_op op_sub lk_sub qe_int (qe_op op_mulB lk_mul qe_int (qe_call [] (ok_law_digit T) (hr.mono (by decide)) (by rfl) T.m_law_digit T.F_law_digit.kp T.b_law_digit .nil (fun _ _ _ => .nil) (qa_cons (qe_var 0 (pv 0)) (qa_cons qe_int qa_nil)))))))) qss_nil)
      (qss_one (qs_ret (qe_op op_sub lk_sub (qe_call [] (ok_law_digit T) (hr.mono (by decide)) (by rfl) T.m_law_digit T.F_law_digit.kp T.b_law_digit .nil (fun _ _ _ => .nil) (qa_cons (qe_var 0 (pv 0)) (qa_cons (qe_op op_addQ lk_add (qe_op op_mulB lk_mul qe_int (qe_op op_pow lk_pow qe_int qe_int)) qe_int) qa_nil))) (qe_op op_pow lk_pow qe_int qe_int))))))))
theorem sc_law_below : FnScope ["_law_pool_here", "_law_pick"] ["_law_pool_here"] (defScope (top 20)) := ⟨rfl, rfl, rfl, by decide +kernel, rfl, by decide +kernel, by decide +kernel⟩
theorem ok_law_below (T : Txt K mg t) : FnOk P w K mg base CX0 2 t.f_law_below t.d_law_below ["_law_pool_here"] (spD K F_law_below) := by
  refine T.F_law_below.okQ (n := 1) (m := 2) (B := B_law_below) sc_law_below rfl rfl (by decide) rfl fun cdv A outer s H E hr => ?_
  unfold B_law_below
  exact (qss_cons (qs_set (i := 1) sc_law_below.nd rfl (Or.inl rfl) (qe_call [] (ok_law_digit T) (hr.mono (by decide)) (by rfl) T.m_law_digit T.F_law_digit.kp T.b_law_digit .nil (fun _ _ _ => .nil) (qa_cons (qe_var 0 (pv 0)) (qa_cons qe_int qa_nil))))
      (qss_one (qs_ret (qe_op op_addQ lk_add qe_int (qe_call [] (ok_law_digit T) (hr.mono (by decide)) (by rfl) T.m_law_digit T.F_law_digit.kp T.b_law_digit .nil (fun _ _ _ => .nil) (qa_cons (qe_var 0 (pv 0)) (qa_cons (qe_item (qe_lst (qa_cons qe_int (qa_cons qe_int (qa_cons qe_int (qa_cons qe_int (qa_cons (qe_op op_pow lk_pow qe_int qe_int) qa_nil)))))) (qe_var 1 (pv 1)) (fun _ _ => rfl)) qa_nil)))))))
theorem sc_law_shared : FnScope ["_law_a", "_law_b"] ["_law_a", "_law_b"] (defScope (top 21)) := ⟨rfl, rfl, rfl, by decide +kernel, rfl, by decide +kernel, by decide +kernel⟩
theorem ok_law_shared (T : Txt K mg t) : FnOk P w K mg base CX0 1 t.f_law_shared t.d_law_shared ["_law_a", "_law_b"] (spD K F_law_shared) := by
  refine T.F_law_shared.okQ (n := 2) (m := 2) (B := B_law_shared) sc_law_shared rfl rfl (by decide) rfl fun cdv A outer s H E hr => ?_
  unfold B_law_shared
  exact (qss_cons (qs_set (i := 0) sc_law_shared.nd rfl (Or.inl rfl) (qe_callB call_abs lk_abs (by rfl) T.z_abs bt_abs (qa_cons (qe_var 0 (pv 0)) qa_nil)))
      (qss_cons (qs_set (i := 1) sc_law_shared.nd rfl (Or.inl rfl) (qe_callB call_abs lk_abs (by rfl) T.z_abs bt_abs (qa_cons (qe_var 1 (pv 1)) qa_nil)))
      (qss_cons (qs_while PassesOwn.never (qt_cmp op_gt lk_gt (qe_var 1 (pv 1)) qe_int (nomark _)) (qss_one (qs_par2 (i := 0) (j := 1) rfl sc_law_shared.nd rfl rfl (by decide) rfl rfl (qa_cons (qe_var 1 (pv 1)) (qa_cons (qe_op op_modN lk_mod (qe_var 0 (pv 0)) (qe_var 1 (pv 1))) qa_nil)) (by rfl))))
      (qss_one (qs_ret (qe_var 0 (pv 0)))))))
theorem sc_law_lowest : FnScope ["_law_x", "_law_y", "_law_w", "_law_part"] ["_law_x", "_law_y", "_law_w"] (defScope (top 22)) := ⟨rfl, rfl, rfl, by decide +kernel, rfl, by decide +kernel, by decide +kernel⟩
theorem ok_law_lowest (T : Txt K mg t) : FnOk P w K mg base CX0 2 t.f_law_lowest t.d_law_lowest ["_law_x", "_law_y", "_law_w"] (spD K F_law_lowest) := by
  refine T.F_law_lowest.okQ (n := 3) (m := 4) (B := B_law_lowest) sc_law_lowest rfl rfl (by decide) rfl fun cdv A outer s H E hr => ?_
  unfold B_law_lowest
  exact (qss_cons (qs_if (qt_cmp op_lt lk_lt (qe_var 2 (pv 2)) qe_int (nomark _)) (qss_one (qs_par3 (i := 0) (j := 1) (l := 2) rfl sc_law_lowest.nd rfl rfl rfl (by decide) (by decide) (by decide) rfl rfl rfl (qa_cons (qe_op op_sub lk_sub qe_int (qe_var 0 (pv 0))) (qa_cons (qe_op op_sub lk_sub qe_int (qe_var 1 (pv 1))) (qa_cons (qe_op op_sub lk_sub qe_int (qe_var 2 (pv 2))) qa_nil))) (by rfl))) qss_nil)
      (qss_cons (qs_set (i := 3) sc_law_lowest.nd rfl (Or.inl rfl) (qe_call [] (ok_law_shared T) (hr.mono (by decide)) (by rfl) T.m_law_shared T.F_law_shared.kp T.b_law_shared .nil (fun _ _ _ => .nil) (qa_cons (qe_call [] (ok_law_shared T) (hr.mono (by decide)) (by rfl) T.m_law_shared T.F_law_shared.kp T.b_law_shared .nil (fun _ _ _ => .nil) (qa_cons (qe_var 0 (pv 0)) (qa_cons (qe_var 1 (pv 1)) qa_nil))) (qa_cons (qe_var 2 (pv 2)) qa_nil))))
      (qss_one (qs_ret (qe_tup (qa_cons (qe_op op_fdivB lk_fdiv (qe_var 0 (pv 0)) (qe_var 3 (pv 3))) (qa_cons (qe_op op_fdivB lk_fdiv (qe_var 1 (pv 1)) (qe_var 3 (pv 3))) (qa_cons (qe_op op_fdivB lk_fdiv (qe_var 2 (pv 2)) (qe_var 3 (pv 3))) qa_nil))))))))
theorem sc_law_spot : FnScope ["_law_pool_here", "_law_pick"] ["_law_pool_here"] (defScope (top 23)) := ⟨rfl, rfl, rfl, by decide +kernel, rfl, by decide +kernel, by decide +kernel⟩
theorem ok_law_spot (T : Txt K mg t) : FnOk P w K mg base CX0 3 t.f_law_spot t.d_law_spot ["_law_pool_here"] (spD K F_law_spot) := by
  refine T.F_law_spot.okQ (n := 1) (m := 2) (B := B_law_spot) sc_law_spot rfl rfl (by decide) rfl fun cdv A outer s H E hr => ?_
  unfold B_law_spot
  exact (qss_cons (qs_set (i := 1) sc_law_spot.nd rfl (Or.inl rfl) (qe_call [] (ok_law_digit T) (hr.mono (by decide)) (by rfl) T.m_law_digit T.F_law_digit.kp T.b_law_digit .nil (fun _ _ _ => .nil) (qa_cons (qe_var 0 (pv 0)) (qa_cons qe_int qa_nil))))
      (qss_cons (qs_if (qt_cmp (op_eqQ hr.units) lk_eq (qe_var 1 (pv 1)) qe_int (nomark _)) (qss_one (qs_ret (qe_call [] (ok_law_lowest T) (hr.mono (by decide)) (by rfl) T.m_law_lowest T.F_law_lowest.kp T.b_law_lowest .nil (fun _ _ _ => .nil) (qa_cons (qe_call [] (ok_law_drawn T) (hr.mono (by decide)) (by rfl) T.m_law_drawn T.F_law_drawn.kp T.b_law_drawn .nil (fun _ _ _ => .nil) (qa_cons (qe_var 0 (pv 0)) qa_nil)) (qa_cons (qe_call [] (ok_law_drawn T) (hr.mono (by decide)) (by rfl) T.m_law_drawn T.F_law_drawn.kp T.b_law_drawn .nil (fun _ _ _ => .nil) (qa_cons (qe_var 0 (pv 0)) qa_nil)) (qa_cons (qe_call [] (ok_law_below T) (hr.mono (by decide)) (by rfl) T.m_law_below T.F_law_below.kp T.b_law_below .nil (fun _ _ _ => .nil) (qa_cons (qe_var 0 (pv 0)) qa_nil)) qa_nil)))))) qss_nil)
      (qss_one (qs_ret (qe_call [] (ok_law_lowest T) (hr.mono (by decide)) (by rfl) T.m_law_lowest T.F_law_lowest.kp T.b_law_lowest .nil (fun _ _ _ => .nil) (qa_cons (qe_call [] (ok_law_digit T) (hr.mono (by decide)) (by rfl) T.m_law_digit T.F_law_digit.kp T.b_law_digit .nil (fun _ _ _ => .nil) (qa_cons (qe_var 0 (pv 0)) (qa_cons (qe_op op_addQ lk_add qe_int (qe_op op_mulB lk_mul qe_int (qe_var 1 (pv 1)))) qa_nil))) (qa_cons (qe_call [] (ok_law_digit T) (hr.mono (by decide)) (by rfl) T.m_law_digit T.F_law_digit.kp T.b_law_digit .nil (fun _ _ _ => .nil) (qa_cons (qe_var 0 (pv 0)) (qa_cons (qe_op op_addQ lk_add qe_int (qe_op op_mulB lk_mul qe_int (qe_var 1 (pv 1)))) qa_nil))) (qa_cons (qe_item (qe_lst (qa_cons qe_int (qa_cons qe_int (qa_cons qe_int qa_nil)))) (qe_call [] (ok_law_digit T) (hr.mono (by decide)) (by rfl) T.m_law_digit T.F_law_digit.kp T.b_law_digit .nil (fun _ _ _ => .nil) (qa_cons (qe_var 0 (pv 0)) (qa_cons qe_int qa_nil))) (fun _ _ => rfl)) qa_nil))))))))
theorem sc_law_unlike : FnScope ["_law_p", "_law_some", "_law_k"] ["_law_p", "_law_some"] (defScope (top 24)) := ⟨rfl, rfl, rfl, by decide +kernel, rfl, by decide +kernel, by decide +kernel⟩
theorem ok_law_unlike (T : Txt K mg t) : FnOk P w K mg base CX0 3 t.f_law_unlike t.d_law_unlike ["_law_p", "_law_some"] (spD K F_law_unlike) := by
  refine T.F_law_unlike.okQ (n := 2) (m := 3) (B := B_law_unlike) sc_law_unlike rfl rfl (by decide) rfl fun cdv A outer s H E hr => ?_
  unfold B_law_unlike
  exact (qss_cons (qs_for PassesOwn.never rfl (qi_range1 (by rfl) T.z_range (qa_cons (qe_op op_addQ lk_add (qe_callB call_len_seq lk_len (by rfl) T.z_len bt_len (qa_cons (qe_var 1 (pv 1)) qa_nil)) qe_int) qa_nil)) (qg_name (i := 2) sc_law_unlike.nd rfl (Or.inl rfl)) (qss_one (qs_if (qt_cmp (op_inQ hr.units) lk_in (qe_var 0 (pv 0)) (qe_var 1 (pv 1)) (by with_unfolding_all rfl)) (qss_one (qs_set (i := 0) sc_law_unlike.nd rfl (Or.inl rfl) (qe_call [] (ok_law_lowest T) (hr.mono (by decide)) (by rfl) T.m_law_lowest T.F_law_lowest.kp T.b_law_lowest .nil (fun _ _ _ => .nil) (qa_cons (qe_op op_addQ lk_add (qe_item (qe_var 0 (pv 0)) qe_int (fun _ _ => rfl)) (qe_item (qe_var 0 (pv 0)) qe_int (fun _ _ => rfl))) (qa_cons (qe_item (qe_var 0 (pv 0)) qe_int (fun _ _ => rfl)) (qa_cons (qe_item (qe_var 0 (pv 0)) qe_int (fun _ _ => rfl)) qa_nil)))))) qss_nil)))
      (qss_one (qs_ret (qe_var 0 (pv 0)))))
theorem sc_law_between : FnScope ["_law_pool_here", "_law_a", "_law_b", "_law_n", "_law_d", "_law_x", "_law_y"] ["_law_pool_here", "_law_a", "_law_b"] (defScope (top 25)) := ⟨rfl, rfl, rfl, by decide +kernel, rfl, by decide +kernel, by decide +kernel⟩
theorem ok_law_between (T : Txt K mg t) : FnOk P w K mg base CX0 3 t.f_law_between t.d_law_between ["_law_pool_here", "_law_a", "_law_b"] (spD K F_law_between) := by
  refine T.F_law_between.okQ (n := 3) (m := 7) (B := B_law_between) sc_law_between rfl rfl (by decide) rfl fun cdv A outer s H E hr => ?_
  unfold B_law_between
  exact (qss_cons (qs_set (i := 3) sc_law_between.nd rfl (Or.inl rfl) (qe_op op_sub lk_sub (qe_call [] (ok_law_digit T) (hr.mono (by decide)) (by rfl) T.m_law_digit T.F_law_digit.kp T.b_law_digit .nil (fun _ _ _ => .nil) (qa_cons (qe_var 0 (pv 0)) (qa_cons qe_int qa_nil))) qe_int))
      (qss_cons (qs_set (i := 4) sc_law_between.nd rfl (Or.inl rfl) (qe_op op_addQ lk_add qe_int (qe_call [] (ok_law_digit T) (hr.mono (by decide)) (by rfl) T.m_law_digit T.F_law_digit.kp T.b_law_digit .nil (fun _ _ _ => .nil) (qa_cons (qe_var 0 (pv 0)) (qa_cons qe_int qa_nil)))))
      (qss_cons (qs_set (i := 5) sc_law_between.nd rfl (Or.inl rfl) (qe_op op_addQ lk_add (qe_op op_mulB lk_mul (qe_op op_mulB lk_mul (qe_item (qe_var 1 (pv 1)) qe_int (fun _ _ => rfl)) (qe_item (qe_var 2 (pv 2)) qe_int (fun _ _ => rfl))) (qe_op op_sub lk_sub (qe_var 4 (pv 4)) (qe_var 3 (pv 3)))) (qe_op op_mulB lk_mul (qe_op op_mulB lk_mul (qe_item (qe_var 2 (pv 2)) qe_int (fun _ _ => rfl)) (qe_item (qe_var 1 (pv 1)) qe_int (fun _ _ => rfl))) (qe_var 3 (pv 3)))))
      (qss_cons (qs_set (i := 6) sc_law_between.nd rfl (Or.inl rfl) (qe_op op_addQ lk_add (qe_op op_mulB lk_mul (qe_op op_mulB lk_mul (qe_item (qe_var 1 (pv 1)) qe_int (fun _ _ => rfl)) (qe_item (qe_var 2 (pv 2)) qe_int (fun _ _ => rfl))) (qe_op op_sub lk_sub (qe_var 4 (pv 4)) (qe_var 3 (pv 3)))) (qe_op op_mulB lk_mul (qe_op op_mulB lk_mul (qe_item (qe_var 2 (pv 2)) qe_int (fun _ _ => rfl)) (qe_item (qe_var 1 (pv 1)) qe_int (fun _ _ => rfl))) (qe_var 3 (pv 3)))))
      (qss_one (qs_ret (qe_call [] (ok_law_lowest T) (hr.mono (by decide)) (by rfl) T.m_law_lowest T.F_law_lowest.kp T.b_law_lowest .nil (fun _ _ _ => .nil) (qa_cons (qe_var 5 (pv 5)) (qa_cons (qe_var 6 (pv 6)) (qa_cons (qe_op op_mulB lk_mul (qe_op op_mulB lk_mul (qe_item (qe_var 1 (pv 1)) qe_int (fun _ _ => rfl)) (qe_item (qe_var 2 (pv 2)) qe_int (fun _ _ => rfl))) (qe_var 4 (pv 4))) qa_nil))))))))))
theorem sc_law_lone : FnScope ["_law_x", "_law_y", "_law_w"] ["_law_x", "_law_y", "_law_w"] (defScope (top 26)) := ⟨rfl, rfl, rfl, by decide +kernel, rfl, by decide +kernel, by decide +kernel⟩
theorem ok_law_lone (T : Txt K mg t) : FnOk P w K mg base CX0 3 t.f_law_lone t.d_law_lone ["_law_x", "_law_y", "_law_w"] (spD K F_law_lone) := by
  refine T.F_law_lone.okQ (n := 3) (m := 3) (B := B_law_lone) sc_law_lone rfl rfl (by decide) rfl fun cdv A outer s H E hr => ?_
  unfold B_law_lone
  exact (qss_one (qs_ret (qe_tup (qa_cons qe_str (qa_cons (qe_call [] (ok_law_lowest T) (hr.mono (by decide)) (by rfl) T.m_law_lowest T.F_law_lowest.kp T.b_law_lowest .nil (fun _ _ _ => .nil) (qa_cons (qe_var 0 (pv 0)) (qa_cons (qe_var 1 (pv 1)) (qa_cons (qe_var 2 (pv 2)) qa_nil)))) qa_nil)))))
theorem sc_law_in_row : FnScope ["_law_mine", "_law_theirs", "_law_w", "_law_low", "_law_high"] ["_law_mine", "_law_theirs", "_law_w"] (defScope (top 27)) := ⟨rfl, rfl, rfl, by decide +kernel, rfl, by decide +kernel, by decide +kernel⟩
theorem ok_law_in_row (T : Txt K mg t) : FnOk P w K mg base CX0 4 t.f_law_in_row t.d_law_in_row ["_law_mine", "_law_theirs", "_law_w"] (spD K F_law_in_row) := by
  refine T.F_law_in_row.okQ (n := 3) (m := 5) (B := B_law_in_row) sc_law_in_row rfl rfl (by decide) rfl fun cdv A outer s H E hr => ?_
  unfold B_law_in_row
  exact (qss_cons (qs_set (i := 3) sc_law_in_row.nd rfl (Or.inl rfl) (qe_callB (call_max2T rfl hr.units) lk_max2T (by rfl) T.z_max bt_max (qa_cons (qe_item (qe_var 0 (pv 0)) qe_int (fun _ _ => rfl)) (qa_cons (qe_item (qe_var 1 (pv 1)) qe_int (fun _ _ => rfl)) qa_nil))))
      (qss_cons (qs_set (i := 4) sc_law_in_row.nd rfl (Or.inl rfl) (qe_callB (call_min2T rfl hr.units) lk_min2T (by rfl) T.z_min bt_min (qa_cons (qe_item (qe_var 0 (pv 0)) qe_int (fun _ _ => rfl)) (qa_cons (qe_item (qe_var 1 (pv 1)) qe_int (fun _ _ => rfl)) qa_nil))))
      (qss_cons (qs_if (qt_cmp (op_gtT hr.units) lk_gtT (qe_var 3 (pv 3)) (qe_var 4 (pv 4)) (nomark _)) (qss_one (qs_ret qe_non)) qss_nil)
      (qss_cons (qs_if (qt_cmp (op_eqQ hr.units) lk_eq (qe_var 3 (pv 3)) (qe_var 4 (pv 4)) (nomark _)) (qss_one (qs_ret (qe_call [] (ok_law_lone T) (hr.mono (by decide)) (by rfl) T.m_law_lone T.F_law_lone.kp T.b_law_lone .nil (fun _ _ _ => .nil) (qa_cons (qe_item (qe_var 3 (pv 3)) qe_int (fun _ _ => rfl)) (qa_cons (qe_item (qe_var 3 (pv 3)) qe_int (fun _ _ => rfl)) (qa_cons (qe_var 2 (pv 2)) qa_nil)))))) qss_nil)
      (qss_one (qs_ret (qe_tup (qa_cons qe_str (qa_cons (qe_call [] (ok_law_lowest T) (hr.mono (by decide)) (by rfl) T.m_law_lowest T.F_law_lowest.kp T.b_law_lowest .nil (fun _ _ _ => .nil) (qa_cons (qe_item (qe_var 3 (pv 3)) qe_int (fun _ _ => rfl)) (qa_cons (qe_item (qe_var 3 (pv 3)) qe_int (fun _ _ => rfl)) (qa_cons (qe_var 2 (pv 2)) qa_nil)))) (qa_cons (qe_call [] (ok_law_lowest T) (hr.mono (by decide)) (by rfl) T.m_law_lowest T.F_law_lowest.kp T.b_law_lowest .nil (fun _ _ _ => .nil) (qa_cons (qe_item (qe_var 4 (pv 4)) qe_int (fun _ _ => rfl)) (qa_cons (qe_item (qe_var 4 (pv 4)) qe_int (fun _ _ => rfl)) (qa_cons (qe_var 2 (pv 2)) qa_nil)))) qa_nil))))))))))
theorem sc_law_across : FnScope ["_law_a", "_law_b"] ["_law_a", "_law_b"] (defScope (top 28)) := ⟨rfl, rfl, rfl, by decide +kernel, rfl, by decide +kernel, by decide +kernel⟩
theorem ok_law_across (T : Txt K mg t) : FnOk P w K mg base CX0 1 t.f_law_across t.d_law_across ["_law_a", "_law_b"] (spD K F_law_across) := by
  refine T.F_law_across.okQ (n := 2) (m := 2) (B := B_law_across) sc_law_across rfl rfl (by decide) rfl fun cdv A outer s H E hr => ?_
  unfold B_law_across
  exact (qss_one (qs_ret (qe_op op_sub lk_sub (qe_op op_mulB lk_mul (qe_item (qe_var 0 (pv 0)) qe_int (fun _ _ => rfl)) (qe_item (qe_var 1 (pv 1)) qe_int (fun _ _ => rfl))) (qe_op op_mulB lk_mul (qe_item (qe_var 0 (pv 0)) qe_int (fun _ _ => rfl)) (qe_item (qe_var 1 (pv 1)) qe_int (fun _ _ => rfl))))))
theorem sc_law_shares : FnScope ["_law_one", "_law_other", "_law_w", "_law_a", "_law_b", "_law_c", "_law_d", "_law_along_one", "_law_along_other", "_law_way", "_law_whole", "_law_mine", "_law_theirs"] ["_law_one", "_law_other"] (defScope (top 29)) := ⟨rfl, rfl, rfl, by decide +kernel, rfl, by decide +kernel, by decide +kernel⟩
theorem ok_law_shares (T : Txt K mg t) : FnOk P w K mg base CX0 5 t.f_law_shares t.d_law_shares ["_law_one", "_law_other"] (spD K F_law_shares) := by
  refine T.F_law_shares.okQ (n := 2) (m := 13) (B := B_law_shares) sc_law_shares rfl rfl (by decide) rfl fun cdv A outer s H E hr => ?_
  unfold B_law_shares
  exact (qss_cons (qs_set (i := 2) sc_law_shares.nd rfl (Or.inr rfl) (qe_op op_mulB lk_mul (qe_op op_mulB lk_mul (qe_op op_mulB lk_mul (qe_item (qe_item (qe_var 0 (pv 0)) qe_int (fun _ _ => rfl)) qe_int (fun _ _ => rfl)) (qe_item (qe_item (qe_var 0 (pv 0)) qe_int (fun _ _ => rfl)) qe_int (fun _ _ => rfl))) (qe_item (qe_item (qe_var 1 (pv 1)) qe_int (fun _ _ => rfl)) qe_int (fun _ _ => rfl))) (qe_item (qe_item (qe_var 1 (pv 1)) qe_int (fun _ _ => rfl)) qe_int (fun _ _ => rfl))))
      (qss_cons (qs_asg (qe_comp (N' := ["_law_p", "_law_w"]) (cap := [none, some 2]) (blk_mk (sc := defScope (top 29)) (NN := ["_law_one", "_law_other", "_law_w", "_law_a", "_law_b", "_law_c", "_law_d", "_law_along_one", "_law_along_other", "_law_way", "_law_whole", "_law_mine", "_law_theirs"]) rfl rfl rfl (by decide +kernel) (by decide +kernel) (by decide +kernel) (by decide +kernel)) rfl (qi_tup (qe_op op_addQ lk_add (qe_var 0 (pv 0)) (qe_var 1 (pv 1)))) (fun _ _ _ _ => qg_name (i := 0) (show List.Nodup (["_law_p", "_law_w"] : List Str) by decide +kernel) rfl (Or.inl rfl)) (fun _ _ _ _ => qifs_none) (fun _ _ _ _ => (qe_tup (qa_cons (qe_op op_mulB lk_mul (qe_item (qe_var 0 (pv 0)) qe_int (fun _ _ => rfl)) (qe_op op_fdivB lk_fdiv (qe_var 1 (pv 1)) (qe_item (qe_var 0 (pv 0)) qe_int (fun _ _ => rfl)))) (qa_cons (qe_op op_mulB lk_mul (qe_item (qe_var 0 (pv 0)) qe_int (fun _ _ => rfl)) (qe_op op_fdivB lk_fdiv (qe_var 1 (pv 1)) (qe_item (qe_var 0 (pv 0)) qe_int (fun _ _ => rfl)))) qa_nil))))) (qg_unl rfl (qgs_cons (qg_name (i := 3) sc_law_shares.nd rfl (Or.inl rfl)) (qgs_cons (qg_name (i := 4) sc_law_shares.nd rfl (Or.inl rfl)) (qgs_cons (qg_name (i := 5) sc_law_shares.nd rfl (Or.inl rfl)) (qgs_cons (qg_name (i := 6) sc_law_shares.nd rfl (Or.inl rfl)) qgs_nil))))))
      (qss_cons (qs_set (i := 7) sc_law_shares.nd rfl (Or.inl rfl) (qe_tup (qa_cons (qe_op op_sub lk_sub (qe_item (qe_var 4 (pv 4)) qe_int (fun _ _ => rfl)) (qe_item (qe_var 3 (pv 3)) qe_int (fun _ _ => rfl))) (qa_cons (qe_op op_sub lk_sub (qe_item (qe_var 4 (pv 4)) qe_int (fun _ _ => rfl)) (qe_item (qe_var 3 (pv 3)) qe_int (fun _ _ => rfl))) qa_nil))))
      (qss_cons (qs_set (i := 8) sc_law_shares.nd rfl (Or.inl rfl) (qe_tup (qa_cons (qe_op op_sub lk_sub (qe_item (qe_var 6 (pv 6)) qe_int (fun _ _ => rfl)) (qe_item (qe_var 5 (pv 5)) qe_int (fun _ _ => rfl))) (qa_cons (qe_op op_sub lk_sub (qe_item (qe_var 6 (pv 6)) qe_int (fun _ _ => rfl)) (qe_item (qe_var 5 (pv 5)) qe_int (fun _ _ => rfl))) qa_nil))))
      (qss_cons (qs_set (i := 9) sc_law_shares.nd rfl (Or.inl rfl) (qe_tup (qa_cons (qe_op op_sub lk_sub (qe_item (qe_var 5 (pv 5)) qe_int (fun _ _ => rfl)) (qe_item (qe_var 3 (pv 3)) qe_int (fun _ _ => rfl))) (qa_cons (qe_op op_sub lk_sub (qe_item (qe_var 5 (pv 5)) qe_int (fun _ _ => rfl)) (qe_item (qe_var 3 (pv 3)) qe_int (fun _ _ => rfl))) qa_nil))))
      (qss_cons (qs_set (i := 10) sc_law_shares.nd rfl (Or.inl rfl) (qe_call [] (ok_law_across T) (hr.mono (by decide)) (by rfl) T.m_law_across T.F_law_across.kp T.b_law_across .nil (fun _ _ _ => .nil) (qa_cons (qe_var 7 (pv 7)) (qa_cons (qe_var 8 (pv 8)) qa_nil))))
      (qss_cons (qs_set (i := 11) sc_law_shares.nd rfl (Or.inl rfl) (qe_call [] (ok_law_across T) (hr.mono (by decide)) (by rfl) T.m_law_across T.F_law_across.kp T.b_law_across .nil (fun _ _ _ => .nil) (qa_cons (qe_var 9 (pv 9)) (qa_cons (qe_var 8 (pv 8)) qa_nil))))
      (qss_cons (qs_set (i := 12) sc_law_shares.nd rfl (Or.inl rfl) (qe_call [] (ok_law_across T) (hr.mono (by decide)) (by rfl) T.m_law_across T.F_law_across.kp T.b_law_across .nil (fun _ _ _ => .nil) (qa_cons (qe_var 9 (pv 9)) (qa_cons (qe_var 7 (pv 7)) qa_nil))))
      (qss_cons (qs_if (PW.pt (qw_and (qt_cmp (op_eqQ hr.units) lk_eq (qe_var 10 (pv 10)) qe_int (nomark _)) (qw_and1 (qt_cmp (op_eqQ hr.units) lk_eq (qe_var 12 (pv 12)) qe_int (nomark _))))) (qss_one (qs_ret (qe_call [] (ok_law_in_row T) (hr.mono (by decide)) (by rfl) T.m_law_in_row T.F_law_in_row.kp T.b_law_in_row .nil (fun _ _ _ => .nil) (qa_cons (qe_callB (call_sorted2 hr.units) lk_sorted2 (by rfl) T.z_sorted bt_sorted (qa_cons (qe_lst (qa_cons (qe_var 3 (pv 3)) (qa_cons (qe_var 4 (pv 4)) qa_nil))) qa_nil)) (qa_cons (qe_callB (call_sorted2 hr.units) lk_sorted2 (by rfl) T.z_sorted bt_sorted (qa_cons (qe_lst (qa_cons (qe_var 5 (pv 5)) (qa_cons (qe_var 6 (pv 6)) qa_nil))) qa_nil)) (qa_cons (qe_var 2 (pv 2)) qa_nil)))))) qss_nil)
      (qss_cons (qs_if (qt_cmp op_lt lk_lt (qe_var 10 (pv 10)) qe_int (nomark _)) (qss_one (qs_par3 (i := 10) (j := 11) (l := 12) rfl sc_law_shares.nd rfl rfl rfl (by decide) (by decide) (by decide) rfl rfl rfl (qa_cons (qe_op op_sub lk_sub qe_int (qe_var 10 (pv 10))) (qa_cons (qe_op op_sub lk_sub qe_int (qe_var 11 (pv 11))) (qa_cons (qe_op op_sub lk_sub qe_int (qe_var 12 (pv 12))) qa_nil))) (by rfl))) qss_nil)
      (qss_cons (qs_if (PW.pt (qw_or (qt_cmp (op_eqQ hr.units) lk_eq (qe_var 10 (pv 10)) qe_int (nomark _)) (qw_or (qt_not (qt_chain op_le lk_le op_le lk_le qe_int (qe_var 11 (pv 11)) (qe_var 10 (pv 10)))) (qw_or1 (qt_not (qt_chain op_le lk_le op_le lk_le qe_int (qe_var 12 (pv 12)) (qe_var 10 (pv 10)))))))) (qss_one (qs_ret qe_non)) qss_nil)
      (qss_one (qs_ret (qe_call [] (ok_law_lone T) (hr.mono (by decide)) (by rfl) T.m_law_lone T.F_law_lone.kp T.b_law_lone .nil (fun _ _ _ => .nil) (qa_cons (qe_op op_addQ lk_add (qe_op op_mulB lk_mul (qe_item (qe_var 3 (pv 3)) qe_int (fun _ _ => rfl)) (qe_var 10 (pv 10))) (qe_op op_mulB lk_mul (qe_item (qe_var 7 (pv 7)) qe_int (fun _ _ => rfl)) (qe_var 11 (pv 11)))) (qa_cons (qe_op op_addQ lk_add (qe_op op_mulB lk_mul (qe_item (qe_var 3 (pv 3)) qe_int (fun _ _ => rfl)) (qe_var 10 (pv 10))) (qe_op op_mulB lk_mul (qe_item (qe_var 7 (pv 7)) qe_int (fun _ _ => rfl)) (qe_var 11 (pv 11)))) (qa_cons (qe_op op_mulB lk_mul (qe_var 2 (pv 2)) (qe_var 10 (pv 10))) qa_nil)))))))))))))))))
theorem sc_law_second : FnScope ["_law_pool_here", "_law_a", "_law_b", "_law_pick", "_law_c", "_law_d", "_law_p"] ["_law_pool_here", "_law_a", "_law_b"] (defScope (top 30)) := ⟨rfl, rfl, rfl, by decide +kernel, rfl, by decide +kernel, by decide +kernel⟩
theorem ok_law_second (T : Txt K mg t) : FnOk P w K mg base CX0 4 t.f_law_second t.d_law_second ["_law_pool_here", "_law_a", "_law_b"] (spD K F_law_second) := by
  refine T.F_law_second.okQ (n := 3) (m := 7) (B := B_law_second) sc_law_second rfl rfl (by decide) rfl fun cdv A outer s H E hr => ?_
  unfold B_law_second
  exact (qss_cons (qs_set (i := 3) sc_law_second.nd rfl (Or.inl rfl) (qe_call [] (ok_law_digit T) (hr.mono (by decide)) (by rfl) T.m_law_digit T.F_law_digit.kp T.b_law_digit .nil (fun _ _ _ => .nil) (qa_cons (qe_var 0 (pv 0)) (qa_cons qe_int qa_nil))))
      (qss_cons (qs_set (i := 4) sc_law_second.nd rfl (Or.inl rfl) (qe_call [] (ok_law_spot T) (hr.mono (by decide)) (by rfl) T.m_law_spot T.F_law_spot.kp T.b_law_spot .nil (fun _ _ _ => .nil) (qa_cons (qe_var 0 (pv 0)) qa_nil)))
      (qss_cons (qs_set (i := 5) sc_law_second.nd rfl (Or.inl rfl) (qe_call [] (ok_law_spot T) (hr.mono (by decide)) (by rfl) T.m_law_spot T.F_law_spot.kp T.b_law_spot .nil (fun _ _ _ => .nil) (qa_cons (qe_var 0 (pv 0)) qa_nil)))
      (qss_cons (qs_if (qt_cmp (op_eqQ hr.units) lk_eq (qe_var 3 (pv 3)) qe_int (nomark _)) (qss_one (qs_set (i := 4) sc_law_second.nd rfl (Or.inl rfl) (qe_call [] (ok_law_between T) (hr.mono (by decide)) (by rfl) T.m_law_between T.F_law_between.kp T.b_law_between .nil (fun _ _ _ => .nil) (qa_cons (qe_var 0 (pv 0)) (qa_cons (qe_var 1 (pv 1)) (qa_cons (qe_var 2 (pv 2)) qa_nil)))))) qss_nil)
      (qss_cons (qs_if (qt_cmp (op_eqQ hr.units) lk_eq (qe_var 3 (pv 3)) qe_int (nomark _)) (qss_cons (qs_set (i := 4) sc_law_second.nd rfl (Or.inl rfl) (qe_call [] (ok_law_between T) (hr.mono (by decide)) (by rfl) T.m_law_between T.F_law_between.kp T.b_law_between .nil (fun _ _ _ => .nil) (qa_cons (qe_var 0 (pv 0)) (qa_cons (qe_var 1 (pv 1)) (qa_cons (qe_var 2 (pv 2)) qa_nil)))))
      (qss_one (qs_set (i := 5) sc_law_second.nd rfl (Or.inl rfl) (qe_call [] (ok_law_between T) (hr.mono (by decide)) (by rfl) T.m_law_between T.F_law_between.kp T.b_law_between .nil (fun _ _ _ => .nil) (qa_cons (qe_var 0 (pv 0)) (qa_cons (qe_var 1 (pv 1)) (qa_cons (qe_var 2 (pv 2)) qa_nil))))))) qss_nil)
      (qss_cons (qs_if (qt_cmp (op_eqQ hr.units) lk_eq (qe_var 3 (pv 3)) qe_int (nomark _)) (qss_one (qs_set (i := 4) sc_law_second.nd rfl (Or.inl rfl) (qe_item (qe_lst (qa_cons (qe_var 1 (pv 1)) (qa_cons (qe_var 2 (pv 2)) qa_nil))) (qe_call [] (ok_law_digit T) (hr.mono (by decide)) (by rfl) T.m_law_digit T.F_law_digit.kp T.b_law_digit .nil (fun _ _ _ => .nil) (qa_cons (qe_var 0 (pv 0)) (qa_cons qe_int qa_nil))) (fun _ _ => rfl)))) qss_nil)
      (qss_cons (qs_if (qt_cmp (op_eqQ hr.units) lk_eq (qe_var 3 (pv 3)) qe_int (nomark _)) (qss_one (qs_asg (qe_item (qe_lst (qa_cons (qe_tup (qa_cons (qe_var 1 (pv 1)) (qa_cons (qe_var 2 (pv 2)) qa_nil))) (qa_cons (qe_tup (qa_cons (qe_var 2 (pv 2)) (qa_cons (qe_var 1 (pv 1)) qa_nil))) qa_nil))) (qe_call [] (ok_law_digit T) (hr.mono (by decide)) (by rfl) T.m_law_digit T.F_law_digit.kp T.b_law_digit .nil (fun _ _ _ => .nil) (qa_cons (qe_var 0 (pv 0)) (qa_cons qe_int qa_nil))) (fun _ _ => rfl)) (qg_tup rfl (qgs_cons (qg_name (i := 4) sc_law_second.nd rfl (Or.inl rfl)) (qgs_cons (qg_name (i := 5) sc_law_second.nd rfl (Or.inl rfl)) qgs_nil))))) qss_nil)
      (qss_cons (qs_if (qt_cmp (op_eqQ hr.units) lk_eq (qe_var 3 (pv 3)) qe_int (nomark _)) (qss_cons (qs_set (i := 6) sc_law_second.nd rfl (Or.inl rfl) (qe_call [] (ok_law_between T) (hr.mono (by decide)) (by rfl) T.m_law_between T.F_law_between.kp T.b_law_between .nil (fun _ _ _ => .nil) (qa_cons (qe_var 0 (pv 0)) (qa_cons (qe_var 1 (pv 1)) (qa_cons (qe_var 2 (pv 2)) qa_nil)))))
      (qss_one (qs_set (i := 5) sc_law_second.nd rfl (Or.inl rfl) (qe_call [] (ok_law_lowest T) (hr.mono (by decide)) (by rfl) T.m_law_lowest T.F_law_lowest.kp T.b_law_lowest .nil (fun _ _ _ => .nil) (qa_cons (qe_op op_sub lk_sub (qe_op op_mulB lk_mul (qe_op op_mulB lk_mul qe_int (qe_item (qe_var 6 (pv 6)) qe_int (fun _ _ => rfl))) (qe_item (qe_var 4 (pv 4)) qe_int (fun _ _ => rfl))) (qe_op op_mulB lk_mul (qe_item (qe_var 4 (pv 4)) qe_int (fun _ _ => rfl)) (qe_item (qe_var 6 (pv 6)) qe_int (fun _ _ => rfl)))) (qa_cons (qe_op op_sub lk_sub (qe_op op_mulB lk_mul (qe_op op_mulB lk_mul qe_int (qe_item (qe_var 6 (pv 6)) qe_int (fun _ _ => rfl))) (qe_item (qe_var 4 (pv 4)) qe_int (fun _ _ => rfl))) (qe_op op_mulB lk_mul (qe_item (qe_var 4 (pv 4)) qe_int (fun _ _ => rfl)) (qe_item (qe_var 6 (pv 6)) qe_int (fun _ _ => rfl)))) (qa_cons (qe_op op_mulB lk_mul (qe_item (qe_var 6 (pv 6)) qe_int (fun _ _ => rfl)) (qe_item (qe_var 4 (pv 4)) qe_int (fun _ _ => rfl))) qa_nil))))))) qss_nil)
      (qss_one (qs_ret (qe_tup (qa_cons (qe_var 4 (pv 4)) (qa_cons (qe_call [] (ok_law_unlike T) (hr.mono (by decide)) (by rfl) T.m_law_unlike T.F_law_unlike.kp T.b_law_unlike .nil (fun _ _ _ => .nil) (qa_cons (qe_var 5 (pv 5)) (qa_cons (qe_lst (qa_cons (qe_var 4 (pv 4)) qa_nil)) qa_nil))) qa_nil)))))))))))))
theorem sc_law_right : FnScope ["_law_one", "_law_other", "_law_due", "_law_found"] ["_law_one", "_law_other", "_law_due"] (defScope (top 31)) := ⟨rfl, rfl, rfl, by decide +kernel, rfl, by decide +kernel, by decide +kernel⟩
theorem ok_law_right (T : Txt K mg t) : FnOk P w K mg base CX0 6 t.f_law_right t.d_law_right ["_law_one", "_law_other", "_law_due"] (spD K F_law_right) := by
  refine T.F_law_right.okQ (n := 3) (m := 4) (B := B_law_right) sc_law_right rfl rfl (by decide) rfl fun cdv A outer s H E hr => ?_
  unfold B_law_right
  exact (qss_cons (qs_set (i := 3) sc_law_right.nd rfl (Or.inl rfl) (qe_call [] (ok_common T) (hr.mono (by decide)) (by rfl) T.m_common T.F_common.kp T.b_common .nil (fun _ _ _ => .nil) (qa_cons (qe_var 0 (pv 0)) (qa_cons (qe_var 1 (pv 1)) qa_nil))))
      (qss_cons (qs_if (PW.pt (qw_or (qt_cmp (op_neQ hr.units) lk_ne (qe_var 3 (pv 3)) (qe_var 2 (pv 2)) (nomark _)) (qw_or1 (PW.pt (qw_and (qt_cmp op_notN lk_notN (qe_var 2 (pv 2)) qe_non (nomark _)) (qw_and1 (qt_not (qt_val (qe_callB call_isinst lk_isinst (by rfl) T.z_isinstance bt_isinstance (qa_cons (qe_var 3 (pv 3)) (qa_cons (qe_c (.ty "tuple") (pe_bltn (v := .ty "tuple") (by rfl) T.z_tuple bt_tuple rfl) fun _ _ _ => .ty "tuple") qa_nil))))))))))) (qss_one (qs_ret qe_bl)) qss_nil)
      (qss_cons (qs_if (qt_cmp op_isN lk_isN (qe_var 2 (pv 2)) qe_non (nomark _)) (qss_one (qs_ret qe_bl)) qss_nil)
      (qss_one (qs_ret (qe_callB (call_allQ rfl) lk_all (by rfl) T.z_all bt_all (qa_cons (qe_comp (N' := ["_law_p", "_law_one", "_law_other"]) (cap := [none, some 0, some 1]) (blk_mk (sc := defScope (top 31)) (NN := ["_law_one", "_law_other", "_law_due", "_law_found"]) rfl rfl rfl (by decide +kernel) (by decide +kernel) (by decide +kernel) (by decide +kernel)) rfl (qi_tup (qe_slice (qe_var 3 (pv 3)) (qo_some qe_int) qo_none)) (fun _ _ _ _ => qg_name (i := 0) (show List.Nodup (["_law_p", "_law_one", "_law_other"] : List Str) by decide +kernel) rfl (Or.inl rfl)) (fun _ _ _ _ => qifs_none) (fun _ _ _ _ => (qe_and (qe_cmp op_isT lk_isT (qe_call [] (ok_on_side T) (hr.mono (by decide)) (by rfl) T.m_on_side T.F_on_side.kp T.b_on_side .nil (fun _ _ _ => .nil) (qa_cons (qe_var 0 (pv 0)) (qa_cons (qe_var 1 (pv 1)) qa_nil))) qe_bl (nomark _)) (qe_one (qe_cmp op_isT lk_isT (qe_call [] (ok_on_side T) (hr.mono (by decide)) (by rfl) T.m_on_side T.F_on_side.kp T.b_on_side .nil (fun _ _ _ => .nil) (qa_cons (qe_var 0 (pv 0)) (qa_cons (qe_var 2 (pv 2)) qa_nil))) qe_bl (nomark _)))))) qa_nil)))))))
theorem sc_law : FnScope ["_law_script", "_law_k", "_law_pool_here", "_law_a", "_law_b", "_law_c", "_law_d", "_law_due"] ["_law_script"] (defScope (top 32)) := ⟨rfl, rfl, rfl, by decide +kernel, rfl, by decide +kernel, by decide +kernel⟩
theorem ok_law (T : Txt K mg t) : FnOk P w K mg base CX0 7 t.f_law t.d_law ["_law_script"] (spD K F_law) := by
  refine T.F_law.okQ (n := 1) (m := 8) (B := B_law) sc_law rfl rfl (by decide) rfl fun cdv A outer s H E hr => ?_
  unfold B_law
  exact (qss_cons (qs_for PassesOwn.never rfl (qi_range1 (by rfl) T.z_range (qa_cons (qe_callB (call_max2 rfl) lk_max2 (by rfl) T.z_max bt_max (qa_cons qe_int (qa_cons (qe_callB call_len_seq lk_len (by rfl) T.z_len bt_len (qa_cons (qe_slice (qe_var 0 (pv 0)) (qo_some qe_int) (qo_some qe_int)) qa_nil)) qa_nil))) qa_nil)) (qg_name (i := 1) sc_law.nd rfl (Or.inl rfl)) (qss_cons (qs_set (i := 2) sc_law.nd rfl (Or.inl rfl) (qe_call [] (ok_law_pool T) (hr.mono (by decide)) (by rfl) T.m_law_pool T.F_law_pool.kp T.b_law_pool .nil (fun _ _ _ => .nil) (qa_cons (qe_var 0 (pv 0)) (qa_cons (qe_op op_addQ lk_add qe_int (qe_var 1 (pv 1))) qa_nil))))
      (qss_cons (qs_set (i := 3) sc_law.nd rfl (Or.inl rfl) (qe_call [] (ok_law_spot T) (hr.mono (by decide)) (by rfl) T.m_law_spot T.F_law_spot.kp T.b_law_spot .nil (fun _ _ _ => .nil) (qa_cons (qe_var 2 (pv 2)) qa_nil)))
      (qss_cons (qs_set (i := 4) sc_law.nd rfl (Or.inl rfl) (qe_call [] (ok_law_unlike T) (hr.mono (by decide)) (by rfl) T.m_law_unlike T.F_law_unlike.kp T.b_law_unlike .nil (fun _ _ _ => .nil) (qa_cons (qe_call [] (ok_law_spot T) (hr.mono (by decide)) (by rfl) T.m_law_spot T.F_law_spot.kp T.b_law_spot .nil (fun _ _ _ => .nil) (qa_cons (qe_var 2 (pv 2)) qa_nil)) (qa_cons (qe_lst (qa_cons (qe_var 3 (pv 3)) qa_nil)) qa_nil))))
      (qss_cons (qs_asg (qe_call [] (ok_law_second T) (hr.mono (by decide)) (by rfl) T.m_law_second T.F_law_second.kp T.b_law_second .nil (fun _ _ _ => .nil) (qa_cons (qe_var 2 (pv 2)) (qa_cons (qe_var 3 (pv 3)) (qa_cons (qe_var 4 (pv 4)) qa_nil)))) (qg_tup rfl (qgs_cons (qg_name (i := 5) sc_law.nd rfl (Or.inl rfl)) (qgs_cons (qg_name (i := 6) sc_law.nd rfl (Or.inl rfl)) qgs_nil))))
      (qss_cons (qs_set (i := 7) sc_law.nd rfl (Or.inl rfl) (qe_call [] (ok_law_shares T) (hr.mono (by decide)) (by rfl) T.m_law_shares T.F_law_shares.kp T.b_law_shares .nil (fun _ _ _ => .nil) (qa_cons (qe_tup (qa_cons (qe_var 3 (pv 3)) (qa_cons (qe_var 4 (pv 4)) qa_nil))) (qa_cons (qe_tup (qa_cons (qe_var 5 (pv 5)) (qa_cons (qe_var 6 (pv 6)) qa_nil))) qa_nil))))
      (qss_cons (qs_if (PW.pt (qw_or (qt_not (qt_val (qe_call [] (ok_law_right T) (hr.mono (by decide)) (by rfl) T.m_law_right T.F_law_right.kp T.b_law_right .nil (fun _ _ _ => .nil) (qa_cons (qe_tup (qa_cons (qe_var 3 (pv 3)) (qa_cons (qe_var 4 (pv 4)) qa_nil))) (qa_cons (qe_tup (qa_cons (qe_var 5 (pv 5)) (qa_cons (qe_var 6 (pv 6)) qa_nil))) (qa_cons (qe_var 7 (pv 7)) qa_nil)))))) (qw_or1 (qt_not (qt_val (qe_call [] (ok_law_right T) (hr.mono (by decide)) (by rfl) T.m_law_right T.F_law_right.kp T.b_law_right .nil (fun _ _ _ => .nil) (qa_cons (qe_tup (qa_cons (qe_var 5 (pv 5)) (qa_cons (qe_var 6 (pv 6)) qa_nil))) (qa_cons (qe_tup (qa_cons (qe_var 3 (pv 3)) (qa_cons (qe_var 4 (pv 4)) qa_nil))) (qa_cons (qe_var 7 (pv 7)) qa_nil))))))))) (qss_one (qs_ret qe_bl)) qss_nil)
      (qss_one (qs_if (PW.pt (qw_or (qt_not (qt_val (qe_call [] (ok_law_right T) (hr.mono (by decide)) (by rfl) T.m_law_right T.F_law_right.kp T.b_law_right .nil (fun _ _ _ => .nil) (qa_cons (qe_tup (qa_cons (qe_var 4 (pv 4)) (qa_cons (qe_var 3 (pv 3)) qa_nil))) (qa_cons (qe_tup (qa_cons (qe_var 5 (pv 5)) (qa_cons (qe_var 6 (pv 6)) qa_nil))) (qa_cons (qe_var 7 (pv 7)) qa_nil)))))) (qw_or1 (qt_not (qt_val (qe_call [] (ok_law_right T) (hr.mono (by decide)) (by rfl) T.m_law_right T.F_law_right.kp T.b_law_right .nil (fun _ _ _ => .nil) (qa_cons (qe_tup (qa_cons (qe_var 6 (pv 6)) (qa_cons (qe_var 5 (pv 5)) qa_nil))) (qa_cons (qe_tup (qa_cons (qe_var 4 (pv 4)) (qa_cons (qe_var 3 (pv 3)) qa_nil))) (qa_cons (qe_var 7 (pv 7)) qa_nil))))))))) (qss_one (qs_ret qe_bl)) qss_nil)))))))))
      (qss_one (qs_ret qe_bl)))
end
theorem txt_mk {K : PySem.W.Frag} {h : Heap} {mg : Str → Option Value} (X : K.In h) (G : h.Ns mainGlobals mg)
    {f0 : Addr} {od0 an0 : Option Addr} {sl0 : Array (Option Value)} {oc0 kV0 dc0 pm0 cd0 ct0 : Value}
    {f1 : Addr} {od1 an1 : Option Addr} {sl1 : Array (Option Value)} {oc1 kV1 dc1 pm1 cd1 ct1 : Value}
    {td1 : Addr} {tc1 : Value} {tdd1 : Option Addr} {tn1 : Nat} {tk1 : Tok} {tsl1 : Array (Option Value)}
    {f2 : Addr} {od2 an2 : Option Addr} {sl2 : Array (Option Value)} {oc2 kV2 dc2 pm2 cd2 ct2 : Value}
    {f3 : Addr} {od3 an3 : Option Addr} {sl3 : Array (Option Value)} {oc3 kV3 dc3 pm3 cd3 ct3 : Value}
    {f4 : Addr} {od4 an4 : Option Addr} {sl4 : Array (Option Value)} {oc4 kV4 dc4 pm4 cd4 ct4 : Value}
    {f5 : Addr} {od5 an5 : Option Addr} {sl5 : Array (Option Value)} {oc5 kV5 dc5 pm5 cd5 ct5 : Value}
    {f6 : Addr} {od6 an6 : Option Addr} {sl6 : Array (Option Value)} {oc6 kV6 dc6 pm6 cd6 ct6 : Value}
    {f7 : Addr} {od7 an7 : Option Addr} {sl7 : Array (Option Value)} {oc7 kV7 dc7 pm7 cd7 ct7 : Value}
    {f8 : Addr} {od8 an8 : Option Addr} {sl8 : Array (Option Value)} {oc8 kV8 dc8 pm8 cd8 ct8 : Value}
    {f9 : Addr} {od9 an9 : Option Addr} {sl9 : Array (Option Value)} {oc9 kV9 dc9 pm9 cd9 ct9 : Value}
    {f10 : Addr} {od10 an10 : Option Addr} {sl10 : Array (Option Value)} {oc10 kV10 dc10 pm10 cd10 ct10 : Value}
    {f11 : Addr} {od11 an11 : Option Addr} {sl11 : Array (Option Value)} {oc11 kV11 dc11 pm11 cd11 ct11 : Value}
    {f12 : Addr} {od12 an12 : Option Addr} {sl12 : Array (Option Value)} {oc12 kV12 dc12 pm12 cd12 ct12 : Value}
    {f13 : Addr} {od13 an13 : Option Addr} {sl13 : Array (Option Value)} {oc13 kV13 dc13 pm13 cd13 ct13 : Value}
    {f14 : Addr} {od14 an14 : Option Addr} {sl14 : Array (Option Value)} {oc14 kV14 dc14 pm14 cd14 ct14 : Value}
    {f15 : Addr} {od15 an15 : Option Addr} {sl15 : Array (Option Value)} {oc15 kV15 dc15 pm15 cd15 ct15 : Value}
    {f16 : Addr} {od16 an16 : Option Addr} {sl16 : Array (Option Value)} {oc16 kV16 dc16 pm16 cd16 ct16 : Value}
    {f17 : Addr} {od17 an17 : Option Addr} {sl17 : Array (Option Value)} {oc17 kV17 dc17 pm17 cd17 ct17 : Value}
    {f18 : Addr} {od18 an18 : Option Addr} {sl18 : Array (Option Value)} {oc18 kV18 dc18 pm18 cd18 ct18 : Value}
    {f19 : Addr} {od19 an19 : Option Addr} {sl19 : Array (Option Value)} {oc19 kV19 dc19 pm19 cd19 ct19 : Value}
    {f20 : Addr} {od20 an20 : Option Addr} {sl20 : Array (Option Value)} {oc20 kV20 dc20 pm20 cd20 ct20 : Value}
    {f21 : Addr} {od21 an21 : Option Addr} {sl21 : Array (Option Value)} {oc21 kV21 dc21 pm21 cd21 ct21 : Value}
    {f22 : Addr} {od22 an22 : Option Addr} {sl22 : Array (Option Value)} {oc22 kV22 dc22 pm22 cd22 ct22 : Value}
    {f23 : Addr} {od23 an23 : Option Addr} {sl23 : Array (Option Value)} {oc23 kV23 dc23 pm23 cd23 ct23 : Value}
    {f24 : Addr} {od24 an24 : Option Addr} {sl24 : Array (Option Value)} {oc24 kV24 dc24 pm24 cd24 ct24 : Value}
    {f25 : Addr} {od25 an25 : Option Addr} {sl25 : Array (Option Value)} {oc25 kV25 dc25 pm25 cd25 ct25 : Value}
    {f26 : Addr} {od26 an26 : Option Addr} {sl26 : Array (Option Value)} {oc26 kV26 dc26 pm26 cd26 ct26 : Value}
    {f27 : Addr} {od27 an27 : Option Addr} {sl27 : Array (Option Value)} {oc27 kV27 dc27 pm27 cd27 ct27 : Value}
    {f28 : Addr} {od28 an28 : Option Addr} {sl28 : Array (Option Value)} {oc28 kV28 dc28 pm28 cd28 ct28 : Value}
    (a0 : PySem.W.nsIn K mainGlobals "divisor" = some (some (.ref f0)))
    (l0 : K.lookup f0 = some ⟨oc0, od0, .func (PySem.W.fnOf "divisor" "divisor" (defArgs (top 1)) (defBody (top 1)) (defScope (top 1)) .none kV0 dc0 pm0 an0 cd0 ct0), sl0⟩)
    (c0 : PySem.W.codeIn K cd0 "divisor" = true) (k0 : PySem.W.keepIn K (.ref f0) = true)
    (a1 : PySem.W.nsIn K mainGlobals "spot" = some (some (.ref f1)))
    (l1 : K.lookup f1 = some ⟨oc1, od1, .func (PySem.W.fnOf "spot" "spot" (defArgs (top 3)) (defBody (top 3)) (defScope (top 3)) (.ref td1) kV1 dc1 pm1 an1 cd1 ct1), sl1⟩)
    (c1 : PySem.W.codeIn K cd1 "spot" = true) (k1 : PySem.W.keepIn K (.ref f1) = true)
    (dl1 : K.lookup td1 = some ⟨tc1, tdd1, .seq #[Value.int 1 tk1] tn1, tsl1⟩)
    (a2 : PySem.W.nsIn K mainGlobals "is_below" = some (some (.ref f2)))
    (l2 : K.lookup f2 = some ⟨oc2, od2, .func (PySem.W.fnOf "is_below" "is_below" (defArgs (top 4)) (defBody (top 4)) (defScope (top 4)) .none kV2 dc2 pm2 an2 cd2 ct2), sl2⟩)
    (c2 : PySem.W.codeIn K cd2 "is_below" = true) (k2 : PySem.W.keepIn K (.ref f2) = true)
    (a3 : PySem.W.nsIn K mainGlobals "ahead" = some (some (.ref f3)))
    (l3 : K.lookup f3 = some ⟨oc3, od3, .func (PySem.W.fnOf "ahead" "ahead" (defArgs (top 5)) (defBody (top 5)) (defScope (top 5)) .none kV3 dc3 pm3 an3 cd3 ct3), sl3⟩)
    (c3 : PySem.W.codeIn K cd3 "ahead" = true) (k3 : PySem.W.keepIn K (.ref f3) = true)
    (a4 : PySem.W.nsIn K mainGlobals "crossed" = some (some (.ref f4)))
    (l4 : K.lookup f4 = some ⟨oc4, od4, .func (PySem.W.fnOf "crossed" "crossed" (defArgs (top 6)) (defBody (top 6)) (defScope (top 6)) .none kV4 dc4 pm4 an4 cd4 ct4), sl4⟩)
    (c4 : PySem.W.codeIn K cd4 "crossed" = true) (k4 : PySem.W.keepIn K (.ref f4) = true)
    (a5 : PySem.W.nsIn K mainGlobals "sign" = some (some (.ref f5)))
    (l5 : K.lookup f5 = some ⟨oc5, od5, .func (PySem.W.fnOf "sign" "sign" (defArgs (top 7)) (defBody (top 7)) (defScope (top 7)) .none kV5 dc5 pm5 an5 cd5 ct5), sl5⟩)
    (c5 : PySem.W.codeIn K cd5 "sign" = true) (k5 : PySem.W.keepIn K (.ref f5) = true)
    (a6 : PySem.W.nsIn K mainGlobals "turn" = some (some (.ref f6)))
    (l6 : K.lookup f6 = some ⟨oc6, od6, .func (PySem.W.fnOf "turn" "turn" (defArgs (top 8)) (defBody (top 8)) (defScope (top 8)) .none kV6 dc6 pm6 an6 cd6 ct6), sl6⟩)
    (c6 : PySem.W.codeIn K cd6 "turn" = true) (k6 : PySem.W.keepIn K (.ref f6) = true)
    (a7 : PySem.W.nsIn K mainGlobals "forward" = some (some (.ref f7)))
    (l7 : K.lookup f7 = some ⟨oc7, od7, .func (PySem.W.fnOf "forward" "forward" (defArgs (top 10)) (defBody (top 10)) (defScope (top 10)) .none kV7 dc7 pm7 an7 cd7 ct7), sl7⟩)
    (c7 : PySem.W.codeIn K cd7 "forward" = true) (k7 : PySem.W.keepIn K (.ref f7) = true)
    (a8 : PySem.W.nsIn K mainGlobals "on_side" = some (some (.ref f8)))
    (l8 : K.lookup f8 = some ⟨oc8, od8, .func (PySem.W.fnOf "on_side" "on_side" (defArgs (top 11)) (defBody (top 11)) (defScope (top 11)) .none kV8 dc8 pm8 an8 cd8 ct8), sl8⟩)
    (c8 : PySem.W.codeIn K cd8 "on_side" = true) (k8 : PySem.W.keepIn K (.ref f8) = true)
    (a9 : PySem.W.nsIn K mainGlobals "turns_to" = some (some (.ref f9)))
    (l9 : K.lookup f9 = some ⟨oc9, od9, .func (PySem.W.fnOf "turns_to" "turns_to" (defArgs (top 12)) (defBody (top 12)) (defScope (top 12)) .none kV9 dc9 pm9 an9 cd9 ct9), sl9⟩)
    (c9 : PySem.W.codeIn K cd9 "turns_to" = true) (k9 : PySem.W.keepIn K (.ref f9) = true)
    (a10 : PySem.W.nsIn K mainGlobals "common_in_row" = some (some (.ref f10)))
    (l10 : K.lookup f10 = some ⟨oc10, od10, .func (PySem.W.fnOf "common_in_row" "common_in_row" (defArgs (top 13)) (defBody (top 13)) (defScope (top 13)) .none kV10 dc10 pm10 an10 cd10 ct10), sl10⟩)
    (c10 : PySem.W.codeIn K cd10 "common_in_row" = true) (k10 : PySem.W.keepIn K (.ref f10) = true)
    (a11 : PySem.W.nsIn K mainGlobals "crossing" = some (some (.ref f11)))
    (l11 : K.lookup f11 = some ⟨oc11, od11, .func (PySem.W.fnOf "crossing" "crossing" (defArgs (top 14)) (defBody (top 14)) (defScope (top 14)) .none kV11 dc11 pm11 an11 cd11 ct11), sl11⟩)
    (c11 : PySem.W.codeIn K cd11 "crossing" = true) (k11 : PySem.W.keepIn K (.ref f11) = true)
    (a12 : PySem.W.nsIn K mainGlobals "common" = some (some (.ref f12)))
    (l12 : K.lookup f12 = some ⟨oc12, od12, .func (PySem.W.fnOf "common" "common" (defArgs (top 15)) (defBody (top 15)) (defScope (top 15)) .none kV12 dc12 pm12 an12 cd12 ct12), sl12⟩)
    (c12 : PySem.W.codeIn K cd12 "common" = true) (k12 : PySem.W.keepIn K (.ref f12) = true)
    (a13 : PySem.W.nsIn K mainGlobals "_law_pool" = some (some (.ref f13)))
    (l13 : K.lookup f13 = some ⟨oc13, od13, .func (PySem.W.fnOf "_law_pool" "_law_pool" (defArgs (top 17)) (defBody (top 17)) (defScope (top 17)) .none kV13 dc13 pm13 an13 cd13 ct13), sl13⟩)
    (c13 : PySem.W.codeIn K cd13 "_law_pool" = true) (k13 : PySem.W.keepIn K (.ref f13) = true)
    (a14 : PySem.W.nsIn K mainGlobals "_law_digit" = some (some (.ref f14)))
    (l14 : K.lookup f14 = some ⟨oc14, od14, .func (PySem.W.fnOf "_law_digit" "_law_digit" (defArgs (top 18)) (defBody (top 18)) (defScope (top 18)) .none kV14 dc14 pm14 an14 cd14 ct14), sl14⟩)
    (c14 : PySem.W.codeIn K cd14 "_law_digit" = true) (k14 : PySem.W.keepIn K (.ref f14) = true)
    (a15 : PySem.W.nsIn K mainGlobals "_law_drawn" = some (some (.ref f15)))
    (l15 : K.lookup f15 = some ⟨oc15, od15, .func (PySem.W.fnOf "_law_drawn" "_law_drawn" (defArgs (top 19)) (defBody (top 19)) (defScope (top 19)) .none kV15 dc15 pm15 an15 cd15 ct15), sl15⟩)
    (c15 : PySem.W.codeIn K cd15 "_law_drawn" = true) (k15 : PySem.W.keepIn K (.ref f15) = true)
    (a16 : PySem.W.nsIn K mainGlobals "_law_below" = some (some (.ref f16)))
    (l16 : K.lookup f16 = some ⟨oc16, od16, .func (PySem.W.fnOf "_law_below" "_law_below" (defArgs (top 20)) (defBody (top 20)) (defScope (top 20)) .none kV16 dc16 pm16 an16 cd16 ct16), sl16⟩)
    (c16 : PySem.W.codeIn K cd16 "_law_below" = true) (k16 : PySem.W.keepIn K (.ref f16) = true)
    (a17 : PySem.W.nsIn K mainGlobals "_law_shared" = some (some (.ref f17)))
    (l17 : K.lookup f17 = some ⟨oc17, od17, .func (PySem.W.fnOf "_law_shared" "_law_shared" (defArgs (top 21)) (defBody (top 21)) (defScope (top 21)) .none kV17 dc17 pm17 an17 cd17 ct17), sl17⟩)
    (c17 : PySem.W.codeIn K cd17 "_law_shared" = true) (k17 : PySem.W.keepIn K (.ref f17) = true)
    (a18 : PySem.W.nsIn K mainGlobals "_law_lowest" = some (some (.ref f18)))
    (l18 : K.lookup f18 = some ⟨oc18, od18, .func (PySem.W.fnOf "_law_lowest" "_law_lowest" (defArgs (top 22)) (defBody (top 22)) (defScope (top 22)) .none kV18 dc18 pm18 an18 cd18 ct18), sl18⟩)
    (c18 : PySem.W.codeIn K cd18 "_law_lowest" = true) (k18 : PySem.W.keepIn K (.ref f18) = true)
    (a19 : PySem.W.nsIn K mainGlobals "_law_spot" = some (some (.ref f19)))
    (l19 : K.lookup f19 = some ⟨oc19, od19, .func (PySem.W.fnOf "_law_spot" "_law_spot" (defArgs (top 23)) (defBody (top 23)) (defScope (top 23)) .none kV19 dc19 pm19 an19 cd19 ct19), sl19⟩)
    (c19 : PySem.W.codeIn K cd19 "_law_spot" = true) (k19 : PySem.W.keepIn K (.ref f19) = true)
    (a20 : PySem.W.nsIn K mainGlobals "_law_unlike" = some (some (.ref f20)))
    (l20 : K.lookup f20 = some ⟨oc20, od20, .func (PySem.W.fnOf "_law_unlike" "_law_unlike" (defArgs (top 24)) (defBody (top 24)) (defScope (top 24)) .none kV20 dc20 pm20 an20 cd20 ct20), sl20⟩)
    (c20 : PySem.W.codeIn K cd20 "_law_unlike" = true) (k20 : PySem.W.keepIn K (.ref f20) = true)
    (a21 : PySem.W.nsIn K mainGlobals "_law_between" = some (some (.ref f21)))
    (l21 : K.lookup f21 = some ⟨oc21, od21, .func (PySem.W.fnOf "_law_between" "_law_between" (defArgs (top 25)) (defBody (top 25)) (defScope (top 25)) .none kV21 dc21 pm21 an21 cd21 ct21), sl21⟩)
    (c21 : PySem.W.codeIn K cd21 "_law_between" = true) (k21 : PySem.W.keepIn K (.ref f21) = true)
    (a22 : PySem.W.nsIn K mainGlobals "_law_lone" = some (some (.ref f22)))
    (l22 : K.lookup f22 = some ⟨oc22, od22, .func (PySem.W.fnOf "_law_lone" "_law_lone" (defArgs (top 26)) (defBody (top 26)) (defScope (top 26)) .none kV22 dc22 pm22 an22 cd22 ct22), sl22⟩)
    (c22 : PySem.W.codeIn K cd22 "_law_lone" = true) (k22 : PySem.W.keepIn K (.ref f22) = true)
    (a23 : PySem.W.nsIn K mainGlobals "_law_in_row" = some (some (.ref f23)))
    (l23 : K.lookup f23 = some ⟨oc23, od23, .func (PySem.W.fnOf "_law_in_row" "_law_in_row" (defArgs (top 27)) (defBody (top 27)) (defScope (top 27)) .none kV23 dc23 pm23 an23 cd23 ct23), sl23⟩)
    (c23 : PySem.W.codeIn K cd23 "_law_in_row" = true) (k23 : PySem.W.keepIn K (.ref f23) = true)
    (a24 : PySem.W.nsIn K mainGlobals "_law_across" = some (some (.ref f24)))
    (l24 : K.lookup f24 = some ⟨oc24, od24, .func (PySem.W.fnOf "_law_across" "_law_across" (defArgs (top 28)) (defBody (top 28)) (defScope (top 28)) .none kV24 dc24 pm24 an24 cd24 ct24), sl24⟩)
    (c24 : PySem.W.codeIn K cd24 "_law_across" = true) (k24 : PySem.W.keepIn K (.ref f24) = true)
    (a25 : PySem.W.nsIn K mainGlobals "_law_shares" = some (some (.ref f25)))
    (l25 : K.lookup f25 = some ⟨oc25, od25, .func (PySem.W.fnOf "_law_shares" "_law_shares" (defArgs (top 29)) (defBody (top 29)) (defScope (top 29)) .none kV25 dc25 pm25 an25 cd25 ct25), sl25⟩)
    (c25 : PySem.W.codeIn K cd25 "_law_shares" = true) (k25 : PySem.W.keepIn K (.ref f25) = true)
    (a26 : PySem.W.nsIn K mainGlobals "_law_second" = some (some (.ref f26)))
    (l26 : K.lookup f26 = some ⟨oc26, od26, .func (PySem.W.fnOf "_law_second" "_law_second" (defArgs (top 30)) (defBody (top 30)) (defScope (top 30)) .none kV26 dc26 pm26 an26 cd26 ct26), sl26⟩)
    (c26 : PySem.W.codeIn K cd26 "_law_second" = true) (k26 : PySem.W.keepIn K (.ref f26) = true)
    (a27 : PySem.W.nsIn K mainGlobals "_law_right" = some (some (.ref f27)))
    (l27 : K.lookup f27 = some ⟨oc27, od27, .func (PySem.W.fnOf "_law_right" "_law_right" (defArgs (top 31)) (defBody (top 31)) (defScope (top 31)) .none kV27 dc27 pm27 an27 cd27 ct27), sl27⟩)
    (c27 : PySem.W.codeIn K cd27 "_law_right" = true) (k27 : PySem.W.keepIn K (.ref f27) = true)
    (a28 : PySem.W.nsIn K mainGlobals "law" = some (some (.ref f28)))
    (l28 : K.lookup f28 = some ⟨oc28, od28, .func (PySem.W.fnOf "law" "law" (defArgs (top 32)) (defBody (top 32)) (defScope (top 32)) .none kV28 dc28 pm28 an28 cd28 ct28), sl28⟩)
    (c28 : PySem.W.codeIn K cd28 "law" = true) (k28 : PySem.W.keepIn K (.ref f28) = true)
    (z_abs : PySem.W.nsIn K mainGlobals "abs" = some none)
    (z_all : PySem.W.nsIn K mainGlobals "all" = some none)
    (z_int : PySem.W.nsIn K mainGlobals "int" = some none)
    (z_isinstance : PySem.W.nsIn K mainGlobals "isinstance" = some none)
    (z_len : PySem.W.nsIn K mainGlobals "len" = some none)
    (z_max : PySem.W.nsIn K mainGlobals "max" = some none)
    (z_min : PySem.W.nsIn K mainGlobals "min" = some none)
    (z_range : PySem.W.nsIn K mainGlobals "range" = some none)
    (z_sorted : PySem.W.nsIn K mainGlobals "sorted" = some none)
    (z_tuple : PySem.W.nsIn K mainGlobals "tuple" = some none)
    : ∃ t, Txt K mg t ∧ (∀ (s : Shared) (v : Value), BindsTo s t.d_law ⟨[v], []⟩ [("_law_script", v)]) := by
  have F0 := fun_mk (st := top 1) l0 c0 k0
  have b0 := F0.binds (ps := ["n", "m"]) fun _ _ _ _ _ _ us hl => match us, hl with | [_, _], _ => rfl
  have F1 := fund_mk (st := top 3) l1 c1 k1
  have b1 : Binds K (PySem.W.fnOf "spot" "spot" (defArgs (top 3)) (defBody (top 3)) (defScope (top 3)) (.ref td1) kV1 dc1 pm1 an1 cd1 ct1) ["x", "y", "w"] [] := fun s us kin hl => by
    obtain ⟨_, _, _, rfl⟩ := len3' hl
    exact BindsTo.of_defaults rfl (kin _ _ dl1) rfl rfl rfl
  have e1 : Binds K (PySem.W.fnOf "spot" "spot" (defArgs (top 3)) (defBody (top 3)) (defScope (top 3)) (.ref td1) kV1 dc1 pm1 an1 cd1 ct1) ["x", "y", "w"] [Value.int 1 tk1] := fun s us kin hl => by
    obtain ⟨_, _, rfl⟩ := len2 hl
    exact BindsTo.of_defaults rfl (kin _ _ dl1) rfl rfl rfl
  have F2 := fun_mk (st := top 4) l2 c2 k2
  have b2 := F2.binds (ps := ["p", "q"]) fun _ _ _ _ _ _ us hl => match us, hl with | [_, _], _ => rfl
  have F3 := fun_mk (st := top 5) l3 c3 k3
  have b3 := F3.binds (ps := ["p", "q"]) fun _ _ _ _ _ _ us hl => match us, hl with | [_, _], _ => rfl
  have F4 := fun_mk (st := top 6) l4 c4 k4
  have b4 := F4.binds (ps := ["p", "q"]) fun _ _ _ _ _ _ us hl => match us, hl with | [_, _], _ => rfl
  have F5 := fun_mk (st := top 7) l5 c5 k5
  have b5 := F5.binds (ps := ["n"]) fun _ _ _ _ _ _ us hl => match us, hl with | [_], _ => rfl
  have F6 := fun_mk (st := top 8) l6 c6 k6
  have b6 := F6.binds (ps := ["a", "b", "c"]) fun _ _ _ _ _ _ us hl => match us, hl with | [_, _, _], _ => rfl
  have F7 := fun_mk (st := top 10) l7 c7 k7
  have b7 := F7.binds (ps := ["side"]) fun _ _ _ _ _ _ us hl => match us, hl with | [_], _ => rfl
  have F8 := fun_mk (st := top 11) l8 c8 k8
  have b8 := F8.binds (ps := ["p", "side"]) fun _ _ _ _ _ _ us hl => match us, hl with | [_, _], _ => rfl
  have F9 := fun_mk (st := top 12) l9 c9 k9
  have b9 := F9.binds (ps := ["side", "other"]) fun _ _ _ _ _ _ us hl => match us, hl with | [_, _], _ => rfl
  have F10 := fun_mk (st := top 13) l10 c10 k10
  have b10 := F10.binds (ps := ["one", "other"]) fun _ _ _ _ _ _ us hl => match us, hl with | [_, _], _ => rfl
  have F11 := fun_mk (st := top 14) l11 c11 k11
  have b11 := F11.binds (ps := ["one", "other"]) fun _ _ _ _ _ _ us hl => match us, hl with | [_, _], _ => rfl
  have F12 := fun_mk (st := top 15) l12 c12 k12
  have b12 := F12.binds (ps := ["one", "other"]) fun _ _ _ _ _ _ us hl => match us, hl with | [_, _], _ => rfl
  have F13 := fun_mk (st := top 17) l13 c13 k13
  have b13 := F13.binds (ps := ["_law_script", "_law_k"]) fun _ _ _ _ _ _ us hl => match us, hl with | [_, _], _ => rfl
  have F14 := fun_mk (st := top 18) l14 c14 k14
  have b14 := F14.binds (ps := ["_law_pool_here", "_law_many"]) fun _ _ _ _ _ _ us hl => match us, hl with | [_, _], _ => rfl
  have F15 := fun_mk (st := top 19) l15 c15 k15
  have b15 := F15.binds (ps := ["_law_pool_here"]) fun _ _ _ _ _ _ us hl => match us, hl with | [_], _ => rfl
  have F16 := fun_mk (st := top 20) l16 c16 k16
  have b16 := F16.binds (ps := ["_law_pool_here"]) fun _ _ _ _ _ _ us hl => match us, hl with | [_], _ => rfl
  have F17 := fun_mk (st := top 21) l17 c17 k17
  have b17 := F17.binds (ps := ["_law_a", "_law_b"]) fun _ _ _ _ _ _ us hl => match us, hl with | [_, _], _ => rfl
  have F18 := fun_mk (st := top 22) l18 c18 k18
  have b18 := F18.binds (ps := ["_law_x", "_law_y", "_law_w"]) fun _ _ _ _ _ _ us hl => match us, hl with | [_, _, _], _ => rfl
  have F19 := fun_mk (st := top 23) l19 c19 k19
  have b19 := F19.binds (ps := ["_law_pool_here"]) fun _ _ _ _ _ _ us hl => match us, hl with | [_], _ => rfl
  have F20 := fun_mk (st := top 24) l20 c20 k20
  have b20 := F20.binds (ps := ["_law_p", "_law_some"]) fun _ _ _ _ _ _ us hl => match us, hl with | [_, _], _ => rfl
  have F21 := fun_mk (st := top 25) l21 c21 k21
  have b21 := F21.binds (ps := ["_law_pool_here", "_law_a", "_law_b"]) fun _ _ _ _ _ _ us hl => match us, hl with | [_, _, _], _ => rfl
  have F22 := fun_mk (st := top 26) l22 c22 k22
  have b22 := F22.binds (ps := ["_law_x", "_law_y", "_law_w"]) fun _ _ _ _ _ _ us hl => match us, hl with | [_, _, _], _ => rfl
  have F23 := fun_mk (st := top 27) l23 c23 k23
  have b23 := F23.binds (ps := ["_law_mine", "_law_theirs", "_law_w"]) fun _ _ _ _ _ _ us hl => match us, hl with | [_, _, _], _ => rfl
  have F24 := fun_mk (st := top 28) l24 c24 k24
  have b24 := F24.binds (ps := ["_law_a", "_law_b"]) fun _ _ _ _ _ _ us hl => match us, hl with | [_, _], _ => rfl
  have F25 := fun_mk (st := top 29) l25 c25 k25
  have b25 := F25.binds (ps := ["_law_one", "_law_other"]) fun _ _ _ _ _ _ us hl => match us, hl with | [_, _], _ => rfl
  have F26 := fun_mk (st := top 30) l26 c26 k26
  have b26 := F26.binds (ps := ["_law_pool_here", "_law_a", "_law_b"]) fun _ _ _ _ _ _ us hl => match us, hl with | [_, _, _], _ => rfl
  have F27 := fun_mk (st := top 31) l27 c27 k27
  have b27 := F27.binds (ps := ["_law_one", "_law_other", "_law_due"]) fun _ _ _ _ _ _ us hl => match us, hl with | [_, _, _], _ => rfl
  have F28 := fun_mk (st := top 32) l28 c28 k28
  have b28 := F28.binds (ps := ["_law_script"]) fun _ _ _ _ _ _ us hl => match us, hl with | [_], _ => rfl
  exact ⟨⟨f0, _, f1, _, tk1, f2, _, f3, _, f4, _, f5, _, f6, _, f7, _, f8, _, f9, _, f10, _, f11, _, f12, _, f13, _, f14, _, f15, _, f16, _, f17, _, f18, _, f19, _, f20, _, f21, _, f22, _, f23, _, f24, _, f25, _, f26, _, f27, _, f28, _⟩, ⟨F0, PySem.W.mg_of X G a0, b0, F1, PySem.W.mg_of X G a1, b1, e1, F2, PySem.W.mg_of X G a2, b2, F3, PySem.W.mg_of X G a3, b3, F4, PySem.W.mg_of X G a4, b4, F5, PySem.W.mg_of X G a5, b5, F6, PySem.W.mg_of X G a6, b6, F7, PySem.W.mg_of X G a7, b7, F8, PySem.W.mg_of X G a8, b8, F9, PySem.W.mg_of X G a9, b9, F10, PySem.W.mg_of X G a10, b10, F11, PySem.W.mg_of X G a11, b11, F12, PySem.W.mg_of X G a12, b12, F13, PySem.W.mg_of X G a13, b13, F14, PySem.W.mg_of X G a14, b14, F15, PySem.W.mg_of X G a15, b15, F16, PySem.W.mg_of X G a16, b16, F17, PySem.W.mg_of X G a17, b17, F18, PySem.W.mg_of X G a18, b18, F19, PySem.W.mg_of X G a19, b19, F20, PySem.W.mg_of X G a20, b20, F21, PySem.W.mg_of X G a21, b21, F22, PySem.W.mg_of X G a22, b22, F23, PySem.W.mg_of X G a23, b23, F24, PySem.W.mg_of X G a24, b24, F25, PySem.W.mg_of X G a25, b25, F26, PySem.W.mg_of X G a26, b26, F27, PySem.W.mg_of X G a27, b27, F28, PySem.W.mg_of X G a28, b28, PySem.W.mg_none_of X G z_abs, PySem.W.mg_none_of X G z_all, PySem.W.mg_none_of X G z_int, PySem.W.mg_none_of X G z_isinstance, PySem.W.mg_none_of X G z_len, PySem.W.mg_none_of X G z_max, PySem.W.mg_none_of X G z_min, PySem.W.mg_none_of X G z_range, PySem.W.mg_none_of X G z_sorted, PySem.W.mg_none_of X G z_tuple⟩, fun s v => .of_eq rfl⟩
theorem walk {l : PySem.W.OpenLaw} {q : Program} {loose : List Str} {XP : (Str → Option Value) → Heap → Prop} {YP : World → Heap → Prop} {d : DefRec} {K : Params → PySem.W.Frag} (hn : l.most = some 63) (hdf : d.params.defaults = [])
    (hY : ∀ (w : World) (h : Heap), YP w h → (K w.params).In h)
    (F : ∀ (w : World) (mg : Str → Option Value) (fa : Addr) (h : Heap), (K w.params).In h → h.Ns mainGlobals mg → mg d.name = some (.ref fa) →
      ∃ fd : FuncData, (∀ (s : Shared) (u : Value), BindsTo s fd ⟨[u], []⟩ [("_law_script", u)]) ∧ ∀ base : Heap, (K w.params).In base → base.Ns mainGlobals mg → FnOk l.prog w (K w.params) mg base CX0 7 fa fd ["_law_script"] (spD (K w.params) F_law)) :
    PySem.W.WalkO q loose XP YP l.row.toRowW d [] (fun f vs => PySem.call f vs) :=
  L2.walk_of (n := 63) (k := 7) (x := "_law_script") (CX := fun _ => CX0) (sp := fun w => spD (K w.params) F_law) hn (by decide) hdf ⟨rfl, by decide, by decide⟩ hY F (fun _ _ a ns hl hO hS => let ⟨_, h⟩ := law_true ns hl; law_sp hO hS h) fun _ _ _ _ _ z => z
end Law
open PySem PySem.W PyProof.Rows
set_option maxRecDepth 100000 in
set_option maxHeartbeats 0 in
theorem PySem.Challenge.cw_sheetlay_k15_what_is_common_holds : PySem.Challenge.rw_sheetlay_k15_what_is_common.Holds := by
  w_on; o_law; k_head; (case hw => w_witness2)
  k_fill
  refine Law.walk (l := PySem.Challenge.rw_sheetlay_k15_what_is_common) rfl rfl (fun w h Y => PySem.W.kIn_of Y) ?F
  case F =>
    intro w mg fa h KX G hmg
    have TT : ∃ t, Law.Txt (L2.KOf KX) mg t ∧ (∀ (s : Shared) (v : Value), BindsTo s t.d_law ⟨[v], []⟩ [("_law_script", v)]) := by
      dsimp only [L2.KOf]
      refine' Law.txt_mk KX G ?a0 ?l0 ?c0 ?k0 ?a1 ?l1 ?c1 ?k1 ?dl1 ?a2 ?l2 ?c2 ?k2 ?a3 ?l3 ?c3 ?k3 ?a4 ?l4 ?c4 ?k4 ?a5 ?l5 ?c5 ?k5 ?a6 ?l6 ?c6 ?k6 ?a7 ?l7 ?c7 ?k7 ?a8 ?l8 ?c8 ?k8 ?a9 ?l9 ?c9 ?k9 ?a10 ?l10 ?c10 ?k10 ?a11 ?l11 ?c11 ?k11 ?a12 ?l12 ?c12 ?k12 ?a13 ?l13 ?c13 ?k13 ?a14 ?l14 ?c14 ?k14 ?a15 ?l15 ?c15 ?k15 ?a16 ?l16 ?c16 ?k16 ?a17 ?l17 ?c17 ?k17 ?a18 ?l18 ?c18 ?k18 ?a19 ?l19 ?c19 ?k19 ?a20 ?l20 ?c20 ?k20 ?a21 ?l21 ?c21 ?k21 ?a22 ?l22 ?c22 ?k22 ?a23 ?l23 ?c23 ?k23 ?a24 ?l24 ?c24 ?k24 ?a25 ?l25 ?c25 ?k25 ?a26 ?l26 ?c26 ?k26 ?a27 ?l27 ?c27 ?k27 ?a28 ?l28 ?c28 ?k28 ?z_abs ?z_all ?z_int ?z_isinstance ?z_len ?z_max ?z_min ?z_range ?z_sorted ?z_tuple
      (case a0 => k_is)
      (case l0 => k_is)
      (case c0 => k_is)
      (case k0 => k_is)
      (case a1 => k_is)
      (case l1 => k_is)
      (case c1 => k_is)
      (case k1 => k_is)
      (case dl1 => k_is)
      (case a2 => k_is)
      (case l2 => k_is)
      (case c2 => k_is)
      (case k2 => k_is)
      (case a3 => k_is)
      (case l3 => k_is)
      (case c3 => k_is)
      (case k3 => k_is)
      (case a4 => k_is)
      (case l4 => k_is)
      (case c4 => k_is)
      (case k4 => k_is)
      (case a5 => k_is)
      (case l5 => k_is)
      (case c5 => k_is)
      (case k5 => k_is)
      (case a6 => k_is)
      (case l6 => k_is)
      (case c6 => k_is)
      (case k6 => k_is)
      (case a7 => k_is)
      (case l7 => k_is)
      (case c7 => k_is)
      (case k7 => k_is)
      (case a8 => k_is)
      (case l8 => k_is)
      (case c8 => k_is)
      (case k8 => k_is)
      (case a9 => k_is)
      (case l9 => k_is)
      (case c9 => k_is)
      (case k9 => k_is)
      (case a10 => k_is)
      (case l10 => k_is)
      (case c10 => k_is)
      (case k10 => k_is)
      (case a11 => k_is)
      (case l11 => k_is)
      (case c11 => k_is)
      (case k11 => k_is)
      (case a12 => k_is)
      (case l12 => k_is)
      (case c12 => k_is)
      (case k12 => k_is)
      (case a13 => k_is)
      (case l13 => k_is)
      (case c13 => k_is)
      (case k13 => k_is)
      (case a14 => k_is)
      (case l14 => k_is)
      (case c14 => k_is)
      (case k14 => k_is)
      (case a15 => k_is)
      (case l15 => k_is)
      (case c15 => k_is)
      (case k15 => k_is)
      (case a16 => k_is)
      (case l16 => k_is)
      (case c16 => k_is)
      (case k16 => k_is)
      (case a17 => k_is)
      (case l17 => k_is)
      (case c17 => k_is)
      (case k17 => k_is)
      (case a18 => k_is)
      (case l18 => k_is)
      (case c18 => k_is)
      (case k18 => k_is)
      (case a19 => k_is)
      (case l19 => k_is)
      (case c19 => k_is)
      (case k19 => k_is)
      (case a20 => k_is)
      (case l20 => k_is)
      (case c20 => k_is)
      (case k20 => k_is)
      (case a21 => k_is)
      (case l21 => k_is)
      (case c21 => k_is)
      (case k21 => k_is)
      (case a22 => k_is)
      (case l22 => k_is)
      (case c22 => k_is)
      (case k22 => k_is)
      (case a23 => k_is)
      (case l23 => k_is)
      (case c23 => k_is)
      (case k23 => k_is)
      (case a24 => k_is)
      (case l24 => k_is)
      (case c24 => k_is)
      (case k24 => k_is)
      (case a25 => k_is)
      (case l25 => k_is)
      (case c25 => k_is)
      (case k25 => k_is)
      (case a26 => k_is)
      (case l26 => k_is)
      (case c26 => k_is)
      (case k26 => k_is)
      (case a27 => k_is)
      (case l27 => k_is)
      (case c27 => k_is)
      (case k27 => k_is)
      (case a28 => k_is)
      (case l28 => k_is)
      (case c28 => k_is)
      (case k28 => k_is)
      (case z_abs => k_is)
      (case z_all => k_is)
      (case z_int => k_is)
      (case z_isinstance => k_is)
      (case z_len => k_is)
      (case z_max => k_is)
      (case z_min => k_is)
      (case z_range => k_is)
      (case z_sorted => k_is)
      (case z_tuple => k_is)
    obtain ⟨t, T, hb⟩ := TT
    have e0 := hmg.symm.trans T.m_law
    cases e0
    exact ⟨_, hb, fun base _ _ => Law.ok_law T⟩

