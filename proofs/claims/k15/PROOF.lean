import PyProof.Rows.All
import Wide.All
import OpenK.AllK
import Wide.FinOn
import Lean
import PyProof.EqAt
import PyProof.EqKinds
import PyProof.TupleCall
import PySem.Challenge.RW_onestep_k15_refused_sizes
set_option Elab.async false
set_option linter.all false
set_option maxRecDepth 100000
/-! THE HAND LAYER, for ints, bools, texts, own classes, LISTS and tuples (index, slices, in, append, pop ..), calls, loops. Paste it whole ahead of your own text; what your proof does not reach may be deleted. -/
namespace L2
open PySem PySem.Spec PyProof.Rows
/-- a key: an int or a str -/
abbrev Key := Sum Int Str
def keyIs : Key → Value → Bool
  | .inl k, v => Value.isInt k v
  | .inr x, v => Value.isStrOf x v
def keyH (w : World) : Key → Int
  | .inl k => hashInt k
  | .inr x => hashStr w x
theorem keyIs_shape : ∀ {k : Key} {v : Value}, keyIs k v = true → (∃ i t, k = Sum.inl i ∧ v = Value.int i t) ∨ (∃ x t, k = Sum.inr x ∧ v = Value.str x t)
  | .inl i, v, h => by
    obtain ⟨t, e⟩ := Value.isInt_shape (k := i) (v := v) h
    exact .inl ⟨i, t, rfl, e⟩
  | .inr x, v, h => by
    obtain ⟨t, e⟩ := Value.isStrOf_shape (x := x) (v := v) h
    exact .inr ⟨x, t, rfl, e⟩
theorem key_ll (a b : Int) : decide ((Sum.inl a : Key) = Sum.inl b) = (a == b) := by
  by_cases e : a = b
  · subst e; simp
  · have h : ¬ (Sum.inl a : Key) = Sum.inl b := fun q => e (Sum.inl.inj q)
    rw [decide_eq_false h]
    exact (beq_eq_false_iff_ne.mpr e).symm
theorem key_rr (a b : Str) : decide ((Sum.inr a : Key) = Sum.inr b) = decide (a = b) := by
  by_cases e : a = b
  · subst e; simp
  · have h : ¬ (Sum.inr a : Key) = Sum.inr b := fun q => e (Sum.inr.inj q)
    rw [decide_eq_false h, decide_eq_false e]
theorem key_lr (a : Int) (b : Str) : decide ((Sum.inl a : Key) = Sum.inr b) = false := decide_eq_false (fun q => nomatch q)
theorem key_rl (a : Str) (b : Int) : decide ((Sum.inr a : Key) = Sum.inl b) = false := decide_eq_false (fun q => nomatch q)
def mixKind (prog : Program) (w : World) : PySem.KeyKind prog w Key where
  is := keyIs
  hash := keyH w
  inj := fun v a b ha hb => by
    rcases keyIs_shape ha with ⟨i, t, rfl, rfl⟩ | ⟨x, t, rfl, rfl⟩
    · rcases keyIs_shape hb with ⟨j, u, rfl, e⟩ | ⟨y, u, rfl, e⟩
      · injection e with e1 _; rw [e1]
      · exact nomatch e
    · rcases keyIs_shape hb with ⟨j, u, rfl, e⟩ | ⟨y, u, rfl, e⟩
      · exact nomatch e
      · injection e with e1 _; rw [e1]
  byValue := fun k v h => by
    rcases keyIs_shape h with ⟨i, t, rfl, rfl⟩ | ⟨x, t, rfl, rfl⟩ <;> rfl
  pyHash := fun hv h => by
    rcases keyIs_shape hv with ⟨i, t, rfl, rfl⟩ | ⟨x, t, rfl, rfl⟩
    · exact wpAny_pyHash_int h
    · exact wpAny_pyHash_str h
  eqBool := fun hu hv h => by
    rcases keyIs_shape hu with ⟨i, t, rfl, rfl⟩ | ⟨x, t, rfl, rfl⟩
    · rcases keyIs_shape hv with ⟨j, u, rfl, rfl⟩ | ⟨y, u, rfl, rfl⟩
      · rw [key_ll] at h; exact wpAny_eqBool_int h
      · rw [key_lr] at h; exact SeqAt.EqAt.int_str i t y u _ _ _ _ h
    · rcases keyIs_shape hv with ⟨j, u, rfl, rfl⟩ | ⟨y, u, rfl, rfl⟩
      · rw [key_rl] at h; exact SeqAt.EqAt.str_int x t j u _ _ _ _ h
      · rw [key_rr] at h; exact wpAny_eqBool_str h
  «strs» := fun k x t v h => by
    rcases keyIs_shape h with ⟨i, u, rfl, e⟩ | ⟨y, u, rfl, e⟩
    · exact nomatch e
    · injection e with e1 _
      subst e1
      cases v <;> rfl
end L2
namespace L2
open PySem PySem.Spec PyProof.Rows
/-- a value, without the heap -/
inductive V where
  | non | bl (b : Bool) | int (i : Int) | str (x : Str) | byt (b : Array UInt8) | flt (b : UInt64) | ref (a : Addr) | ty (n : String)
  deriving DecidableEq
def RelV : V → Value → Prop
  | .non, u => u = Value.none
  | .bl b, u => u = Value.bool b
  | .int i, u => ∃ t, u = Value.int i t
  | .str x, u => ∃ t, u = Value.str x t
  | .byt b, u => ∃ t, u = Value.bytes b t
  | .flt b, u => ∃ t, u = Value.float b t
  | .ref a, u => u = Value.ref a
  | .ty n, u => u = Value.type n
abbrev Vals : List V → List Value → Prop := Paired RelV
theorem Vals.length {xs : List V} {us : List Value} (r : Vals xs us) : xs.length = us.length := Paired.length r
theorem Vals.get : ∀ {xs : List V} {us : List Value} {i : Nat} {x : V}, Vals xs us → xs[i]? = some x → ∃ u, us[i]? = some u ∧ RelV x u
  | _, _, _, _, .nil, e => by simp at e
  | _, _, 0, _, .cons r _, e => by simp at e; subst e; exact ⟨_, rfl, r⟩
  | _, _, i + 1, x, .cons _ t, e => by
    obtain ⟨u, h1, h2⟩ := Vals.get (i := i) (x := x) t (by simpa using e)
    exact ⟨u, by simpa using h1, h2⟩
theorem Vals.set {x : V} {u : Value} (r : RelV x u) : ∀ {xs : List V} {us : List Value} (i : Nat), Vals xs us → Vals (xs.set i x) (us.set i u)
  | _, _, _, .nil => .nil
  | _, _, 0, .cons _ t => .cons r t
  | _, _, i + 1, .cons q t => .cons q (Vals.set r i t)
theorem Vals.append : ∀ {xs ys : List V} {us ws : List Value}, Vals xs us → Vals ys ws → Vals (xs ++ ys) (us ++ ws)
  | _, _, _, _, .nil, s => s
  | _, _, _, _, .cons r t, s => .cons r (Vals.append t s)
theorem Vals.take : ∀ {xs : List V} {us : List Value} (n : Nat), Vals xs us → Vals (xs.take n) (us.take n)
  | _, _, 0, _ => .nil
  | _, _, _ + 1, .nil => .nil
  | _, _, n + 1, .cons r t => .cons r (Vals.take n t)
theorem Vals.drop : ∀ {xs : List V} {us : List Value} (n : Nat), Vals xs us → Vals (xs.drop n) (us.drop n)
  | _, _, 0, r => r
  | _, _, _ + 1, .nil => .nil
  | _, _, n + 1, .cons _ t => Vals.drop n t
def RelO : Option V → Option Value → Prop
  | some v, some u => RelV v u
  | none, none => True
  | _, _ => False
def KV {κ : Type} : List (κ × V) → List (κ × Value) → Prop := Paired fun (p : κ × V) (q : κ × Value) => p.1 = q.1 ∧ RelV p.2 q.2
/-- a key of a dict (00_mix): an int or a text -/
def kV : Key → V
  | .inl i => .int i
  | .inr x => .str x
/-- what stands at a tracked address -/
inductive HO where
  /-- a list -/
  | lst (xs : List V)
  /-- a tuple (never changes) -/
  | tup (xs : List V)
  /-- a dict whose keys are ints and texts; one whose keys are tuples of ints and texts (the empty one is both) -/
  | dK (kvs : List (Key × V)) | dT (kvs : List (List Key × V))
  /-- a set of ints: its members, its size -/
  | set (S : Int → Bool) (n : Nat)
  /-- an instance of the class at C, its dict at dx, its attributes -/
  | ins (C dx : Addr) (fs : List (Str × V))
  /-- the dict of the instance at x -/
  | own (x : Addr)
  /-- the dict of an exception -/
  | xd (fs : List (Str × V))
  /-- a bound method, f of x -/
  | met (f x : Addr)
  /-- a range object lo, lo + 1, .. below hi -/
  | rng (lo hi : Int)
  /-- a thing that is known to the object (the script; a dict while a loop walks it): read, never written while it is so -/
  | frz (o : Obj) (u : HO)
  /-- a code object's table -/
  | tbl (ps : Array Value)
  /-- any other thing, by what is true of its one object (a def of one's own: SetO a S n := HO.ext fun h => ..) -/
  | ext (φ : Heap → Prop)
abbrev Hp := Addr → Option HO
def upd (H : Hp) (a : Addr) (o : HO) : Hp := fun b => if b = a then some o else H b
theorem upd_same {H : Hp} {a : Addr} {o : HO} : upd H a o a = some o := by unfold upd; rw [if_pos rfl]
theorem upd_ne {H : Hp} {a b : Addr} {o : HO} (h : b ≠ a) : upd H a o b = H b := by unfold upd; rw [if_neg h]
theorem upd_upd {H : Hp} {a : Addr} {o u : HO} : upd (upd H a o) a u = upd H a u := by
  funext b; unfold upd; split <;> rfl
theorem ne_of_none {H : Hp} {a b : Addr} {o : HO} (h : H a = some o) (h' : H b = none) : a ≠ b := by
  intro e; subst e; rw [h] at h'; cases h'
section
variable (P : Program) (w : World)
def ObjOk (H : Hp) (h : Heap) (a : Addr) : HO → Prop
  | .lst xs => xs.length ≤ sizeLine ∧ ∃ (its : List Value) (n : Nat), Vals xs its ∧ h.get? a = some { cls := .type "list", data := .seq its.toArray n }
  | .tup xs => xs.length ≤ sizeLine ∧ ∃ its : List Value, Vals xs its ∧ IsTup h a its.toArray
  | .dK kvs => kvs.length ≤ sizeLine ∧ (a == sysModules) = false ∧ ∃ vs, KV kvs vs ∧ h.DictOf (mixKind P w) a vs
  | .dT kvs => kvs.length ≤ sizeLine ∧ (a == sysModules) = false ∧ ∃ xs : List (List Key × Addr × Value),
      Paired (fun (p : List Key × V) (q : List Key × Addr × Value) => p.1 = q.1 ∧ H q.2.1 = some (.tup (p.1.map kV)) ∧ RelV p.2 q.2.2) kvs xs ∧
      ∃ o es ep, h.get? a = some o ∧ o.ExactDict ∧ o.data = .dict es ep ∧ es.toList = xs.map (entryOfKey (tupleKind (mixKind P w))) ∧ (xs.map (·.1)).Nodup
  | .set S n => h.SetOf (intKind P w) a S n
  | .ins C dx fs => H dx = some (.own a) ∧ fs.length ≤ 1000 ∧ dx ≠ a ∧ h.get? a = some (PySem.W.instObj C dx) ∧
      ∃ mA, h.Ns1 dx mA ∧ (∀ f, RelO (fs.lookup f) (mA f)) ∧ PySem.Within mA (fs.map (·.1))
  | .own _ => ∃ o, h.get? a = some o
  | .xd fs => ∃ mA, h.Ns1 a mA ∧ ∀ f, RelO (fs.lookup f) (mA f)
  | .rng lo hi => ∃ t u v, h.get? a = some { cls := .type "range", data := .fields #[.int lo t, .int hi u, .int 1 v] }
  | .frz o u => h.get? a = some o ∧ ObjOk H h a u
  | .tbl ps => h.get? a = some { cls := .none, data := .fields ps }
  | .met f x => h.get? a = some (PySem.W.methodObj (.ref f) (.ref x))
  | .ext φ => φ h ∧ (∃ o, h.get? a = some o) ∧ ∀ h1 h2 : Heap, φ h1 → (∀ o, h1.get? a = some o → h2.get? a = some o) → φ h2
/-- the abstract heap is held -/
def HOk (H : Hp) (h : Heap) : Prop := ∀ a o, H a = some o → ObjOk P w H h a o
end
section
variable {P : Program} {w : World} {H H' : Hp} {h h' : Heap} {a : Addr} {o : HO}
theorem ObjOk.lt (x : ObjOk P w H h a o) : a < h.objs.size := by
  cases o with
  | lst xs => obtain ⟨_, _, _, _, e⟩ := x; exact Heap.lt_size e
  | tup xs => obtain ⟨_, _, _, p⟩ := x; exact p.lt
  | dK kvs => obtain ⟨_, _, _, _, o, _, _, e, _⟩ := x; exact Heap.lt_size e
  | dT kvs => obtain ⟨_, _, _, _, o, _, _, e, _⟩ := x; exact Heap.lt_size e
  | set S n => obtain ⟨o, _, _, _, e, _⟩ := x; exact Heap.lt_size e
  | ins C dx fs => obtain ⟨_, _, _, e, _⟩ := x; exact Heap.lt_size e
  | own y => obtain ⟨_, e⟩ := x; exact Heap.lt_size e
  | xd fs => obtain ⟨_, ⟨_, _, _, e, _⟩, _⟩ := x; exact Heap.lt_size e
  | rng lo hi => obtain ⟨_, _, _, e⟩ := x; exact Heap.lt_size e
  | frz ob u => obtain ⟨e, _⟩ := x; exact Heap.lt_size e
  | tbl ps => exact Heap.lt_size (show h.get? a = some _ from x)
  | met f y => exact Heap.lt_size (show h.get? a = some _ from x)
  | ext φ => obtain ⟨_, ⟨_, e⟩, _⟩ := x; exact Heap.lt_size e
theorem Paired.mapP {α β : Type} {F G : α → β → Prop} : ∀ {l₁ : List α} {l₂ : List β}, Paired F l₁ l₂ → (∀ a b, F a b → G a b) → Paired G l₁ l₂
  | _, _, .nil, _ => .nil
  | _, _, .cons r t, f => .cons (f _ _ r) (Paired.mapP t f)
theorem Paired.imp' {α β : Type} {F G : α → β → Prop} (f : ∀ a b, F a b → G a b) {l₁ : List α} {l₂ : List β} (r : Paired F l₁ l₂) : Paired G l₁ l₂ := Paired.mapP r f
/-- what an object's description leans on: its own object, its own dict, the tuples -/
theorem ObjOk.stay (x : ObjOk P w H h a o) (k : ∀ b u, (b = a ∨ H b = some (.own a)) → h.get? b = some u → h'.get? b = some u)
    (ho : ∀ b, H b = some (.own a) → H' b = some (.own a)) (ht : ∀ b xs, H b = some (.tup xs) → H' b = some (.tup xs)) : ObjOk P w H' h' a o := by
  induction o with
  | lst xs => obtain ⟨z, its, n, r, e⟩ := x; exact ⟨z, its, n, r, k _ _ (.inl rfl) e⟩
  | tup xs => obtain ⟨z, its, r, ob, e, c⟩ := x; exact ⟨z, its, r, ob, k _ _ (.inl rfl) e, c⟩
  | dK kvs => obtain ⟨z, y, vs, r, ob, es, ep, e, c⟩ := x; exact ⟨z, y, vs, r, ob, es, ep, k _ _ (.inl rfl) e, c⟩
  | dT kvs =>
    obtain ⟨z, y, xs, r, ob, es, ep, e, c⟩ := x
    exact ⟨z, y, xs, Paired.mapP r fun p q z => ⟨z.1, ht _ _ z.2.1, z.2.2⟩, ob, es, ep, k _ _ (.inl rfl) e, c⟩
  | set S n => obtain ⟨ob, es, ep, t, e, c⟩ := x; exact ⟨ob, es, ep, t, k _ _ (.inl rfl) e, c⟩
  | ins C dx fs =>
    obtain ⟨d, z, ne, e, mA, ⟨od, es, ep, e2, c⟩, r⟩ := x
    exact ⟨ho _ d, z, ne, k _ _ (.inl rfl) e, mA, ⟨od, es, ep, k _ _ (.inr d) e2, c⟩, r⟩
  | own y => obtain ⟨ob, e⟩ := x; exact ⟨ob, k _ _ (.inl rfl) e⟩
  | xd fs => obtain ⟨mA, ⟨od, es, ep, e, c⟩, r⟩ := x; exact ⟨mA, ⟨od, es, ep, k _ _ (.inl rfl) e, c⟩, r⟩
  | rng lo hi => obtain ⟨t, u, v, e⟩ := x; exact ⟨t, u, v, k _ _ (.inl rfl) e⟩
  | frz ob u ih => obtain ⟨e, q⟩ := x; exact ⟨k _ _ (.inl rfl) e, ih q⟩
  | tbl ps =>
    have e : h.get? a = some { cls := .none, data := .fields ps } := x
    show h'.get? a = some { cls := .none, data := .fields ps }
    exact k a _ (.inl rfl) e
  | met f y =>
    have e : h.get? a = some (PySem.W.methodObj (.ref f) (.ref y)) := x
    show h'.get? a = some (PySem.W.methodObj (.ref f) (.ref y))
    exact k a _ (.inl rfl) e
  | ext φ => obtain ⟨p, ⟨o, e⟩, st⟩ := x; exact ⟨st _ _ p fun o q => k _ _ (.inl rfl) q, ⟨o, k _ _ (.inl rfl) e⟩, st⟩
theorem HOk.lt (x : HOk P w H h) (e : H a = some o) : a < h.objs.size := (x a o e).lt
theorem HOk.fresh (x : HOk P w H h) (e : h.objs.size ≤ a) : H a = none := by
  cases q : H a with
  | none => rfl
  | some u => exact absurd (Nat.lt_of_lt_of_le (x.lt q) e) (Nat.lt_irrefl _)
/-- every object of the heap is kept -/
theorem HOk.kept (x : HOk P w H h) (k : ∀ b u, h.get? b = some u → h'.get? b = some u) : HOk P w H h' := fun a o e =>
  (x a o e).stay (fun b u _ q => k b u q) (fun _ q => q) fun _ _ q => q
/-- a new object is laid and tracked -/
theorem HOk.laid (x : HOk P w H h) (k : ∀ b u, h.get? b = some u → h'.get? b = some u) (hp : h.objs.size ≤ a) (new : ObjOk P w (upd H a o) h' a o) : HOk P w (upd H a o) h' := fun b u e => by
  have hn := x.fresh hp
  by_cases hb : b = a
  · subst hb; rw [upd_same] at e; cases e; exact new
  · rw [upd_ne hb] at e
    exact (x b u e).stay (fun c v _ q => k c v q) (fun c q => by rw [upd_ne (ne_of_none q hn)]; exact q) fun c xs q => by rw [upd_ne (ne_of_none q hn)]; exact q
end
/-- what may be read as u: it is u, or a known u -/
def Rd (H : Hp) (a : Addr) (u : HO) : Prop := H a = some u ∨ ∃ o, H a = some (.frz o u)
theorem Rd.of {H : Hp} {a : Addr} {u : HO} (h : H a = some u) : Rd H a u := .inl h
theorem Rd.ok {P : Program} {w : World} {H : Hp} {h : Heap} {a : Addr} {u : HO} (r : Rd H a u) (x : HOk P w H h) : ObjOk P w H h a u := by
  rcases r with r | ⟨o, r⟩
  · exact x a u r
  · obtain ⟨_, q⟩ := x a _ r
    exact q
/-- what may be written -/
def Mut : Option HO → Prop
  | some (.lst _) => True
  | some (.dK _) => True
  | some (.dT _) => True
  | some (.set _ _) => True
  | some (.ins _ _ _) => True
  | some (.ext _) => True
  | _ => False
section
variable {P : Program} {w : World} {H : Hp} {h h' : Heap} {x e : Addr} {o' : HO}
/-- the object at e is changed: x itself, or the dict of the instance x -/
theorem HOk.write (ok : HOk P w H h) (mu : Mut (H x)) (he : e = x ∨ H e = some (.own x)) (k : ∀ b u, b ≠ e → h.get? b = some u → h'.get? b = some u) (heo : ∃ u, h'.get? e = some u)
    (new : ObjOk P w (upd H x o') h' x o') : HOk P w (upd H x o') h' := fun b u q => by
  have nown : ∀ c y, H c = some (.own y) → c ≠ x := fun c y r z => by subst z; rw [r] at mu; exact mu
  have ntup : ∀ c xs, H c = some (.tup xs) → c ≠ x := fun c xs r z => by subst z; rw [r] at mu; exact mu
  by_cases hb : b = x
  · subst hb; rw [upd_same] at q; cases q; exact new
  · rw [upd_ne hb] at q
    by_cases hbe : b = e
    · have q' : H b = some (.own x) := by
        rcases he with z | z
        · exact absurd (hbe.trans z) hb
        · rw [hbe]; exact z
      rw [q] at q'; cases q'
      obtain ⟨v, hv⟩ := heo
      exact ⟨v, by rw [hbe]; exact hv⟩
    · refine (ok b u q).stay (fun c v hc r => k c v ?_ r) (fun c r => by rw [upd_ne (nown c b r)]; exact r) fun c xs r => by rw [upd_ne (ntup c xs r)]; exact r
      rcases hc with rfl | hc
      · exact hbe
      · rintro rfl
        rcases he with z | z
        · exact nown c b hc z
        · rw [hc] at z; cases z; exact hb rfl
end
/-! ### kept unless tracked; of the frames at fs (the callers') the slots may change (an exception that passes writes there); of the records at ex (iterators) nothing is said -/
structure Un (fs ex : List Addr) (H H' : Hp) (h h' : Heap) : Prop where
  keep : ∀ b o, h.get? b = some o → H b = none → b ∉ fs → b ∉ ex → h'.get? b = some o
  slot : ∀ b o, h.get? b = some o → H b = none → b ∈ fs → b ∉ ex → ∃ sl, h'.get? b = some { o with slots := sl }
  free : ∀ b o, h.get? b = some o → H b = none → b ∉ ex → H' b = none
  there : ∀ b o, h.get? b = some o → b ∉ ex → ∃ o', h'.get? b = some o'
  tups : ∀ b xs, H b = some (.tup xs) → H' b = some (.tup xs)
  frzs : ∀ b o u, H b = some (.frz o u) → H' b = some (.frz o u)
  tbls : ∀ b ps, H b = some (.tbl ps) → ∃ more, H' b = some (.tbl (ps ++ more))
section
variable {fs fs' ex ex' : List Addr} {H H1 H2 : Hp} {h h1 h2 h' : Heap} {a x e : Addr} {o : HO}
theorem Un.any (u : Un fs ex H H1 h h1) {b : Addr} {ob : Obj} (q : h.get? b = some ob) (n : H b = none) (hx : b ∉ ex) : ∃ sl, h1.get? b = some { ob with slots := sl } := by
  by_cases hb : b ∈ fs
  · exact u.slot b ob q n hb hx
  · exact ⟨ob.slots, u.keep b ob q n hb hx⟩
theorem Un.trans (a : Un fs ex H H1 h h1) (b : Un fs ex H1 H2 h1 h2) : Un fs ex H H2 h h2 where
  keep := fun c ob q n hc hx => b.keep c ob (a.keep c ob q n hc hx) (a.free c ob q n hx) hc hx
  slot := fun c ob q n hc hx => by
    obtain ⟨sl, e1⟩ := a.slot c ob q n hc hx
    obtain ⟨sl', e2⟩ := b.slot c _ e1 (a.free c ob q n hx) hc hx
    exact ⟨sl', e2⟩
  free := fun c ob q n hx => by
    obtain ⟨o', e1⟩ := a.there c ob q hx
    exact b.free c o' e1 (a.free c ob q n hx) hx
  there := fun c ob q hx => by
    obtain ⟨o', e1⟩ := a.there c ob q hx
    exact b.there c o' e1 hx
  tups := fun c xs q => b.tups c xs (a.tups c xs q)
  frzs := fun c ob xs q => b.frzs c ob xs (a.frzs c ob xs q)
  tbls := fun c ps q => by
    obtain ⟨m1, e1⟩ := a.tbls c ps q
    obtain ⟨m2, e2⟩ := b.tbls c _ e1
    exact ⟨m1 ++ m2, by rw [e2, Array.append_assoc]⟩
theorem Un.kept (k : ∀ b u, h.get? b = some u → h'.get? b = some u) : Un fs ex H H h h' :=
  ⟨fun b ob q _ _ _ => k b ob q, fun b ob q _ _ _ => ⟨ob.slots, k b ob q⟩, fun _ _ _ n _ => n, fun b ob q _ => ⟨ob, k b ob q⟩, fun _ _ q => q, fun _ _ _ q => q, fun _ ps q => ⟨#[], by rw [q]; simp⟩⟩
theorem Un.refl : Un fs ex H H h h := Un.kept fun _ _ q => q
theorem Un.laid (k : ∀ b u, h.get? b = some u → h'.get? b = some u) (hp : h.objs.size ≤ a) (hn : H a = none) : Un fs ex H (upd H a o) h h' where
  keep := fun b u q _ _ _ => k b u q
  slot := fun b u q _ _ _ => ⟨u.slots, k b u q⟩
  free := fun b u q n _ => by rw [upd_ne (Nat.ne_of_lt (Nat.lt_of_lt_of_le (Heap.lt_size q) hp))]; exact n
  there := fun b u q _ => ⟨u, k b u q⟩
  tups := fun b xs q => by rw [upd_ne (ne_of_none q hn)]; exact q
  frzs := fun b u xs q => by rw [upd_ne (ne_of_none q hn)]; exact q
  tbls := fun b ps q => ⟨#[], by rw [upd_ne (ne_of_none q hn), q]; simp⟩
theorem Un.write (mu : Mut (H x)) (he : e = x ∨ H e = some (.own x)) (k : ∀ b u, b ≠ e → h.get? b = some u → h'.get? b = some u) (heo : ∃ u, h'.get? e = some u) : Un fs ex H (upd H x o) h h' := by
  have hx : ∀ b, H b = none → b ≠ x := fun b n z => by subst z; rw [n] at mu; exact mu
  have hb : ∀ b, H b = none → b ≠ e := fun b n z => by
    subst z
    rcases he with r | r
    · exact hx b n r
    · rw [n] at r; cases r
  have hm : ∀ b u, H b = some u → ¬ Mut (some u) → b ≠ x := fun b u q nm z => by subst z; rw [q] at mu; exact nm mu
  refine ⟨fun b u q n _ _ => k b u (hb b n) q, fun b u q n _ _ => ⟨u.slots, k b u (hb b n) q⟩, fun b u q n _ => by rw [upd_ne (hx b n)]; exact n, fun b u q _ => ?_,
    fun b xs q => by rw [upd_ne (hm b _ q fun z => z)]; exact q, fun b u xs q => by rw [upd_ne (hm b _ q fun z => z)]; exact q, fun b ps q => ⟨#[], by rw [upd_ne (hm b _ q fun z => z), q]; simp⟩⟩
  by_cases hbe : b = e
  · subst hbe; exact heo
  · exact ⟨u, k b u hbe q⟩
theorem Un.mono (u : Un fs ex H H1 h h1) (hs : ∀ b ∈ fs, b ∈ fs') (hx : ∀ b ∈ ex, b ∈ ex') : Un fs' ex' H H1 h h1 :=
  ⟨fun b ob q n hb he => u.keep b ob q n (fun z => hb (hs b z)) fun z => he (hx b z), fun _ _ q n _ he => u.any q n fun z => he (hx _ z), fun b ob q n he => u.free b ob q n fun z => he (hx b z), fun b ob q he => u.there b ob q fun z => he (hx b z), u.tups, u.frzs, u.tbls⟩
end
/-! ### the heap without what is tracked -/
def trk (h : Heap) (H : Hp) : List Addr := (List.range h.objs.size).filter fun a => (H a).isSome
def hidT (h : Heap) (H : Hp) : Heap := PySem.W.hideAll h (trk h H)
theorem hidT_size (h : Heap) (H : Hp) : (hidT h H).objs.size = h.objs.size := PySem.W.hideAll_size _ _
theorem hidT_get {h : Heap} {H : Hp} {b : Addr} {o : Obj} (e : h.get? b = some o) (n : H b = none) : (hidT h H).get? b = some o :=
  PySem.W.hideAll_get _ e fun hm => by
    have q : (H b).isSome = true := (List.mem_filter.mp hm).2
    rw [n] at q; simp at q
theorem of_hidT {h : Heap} {H : Hp} {b : Addr} {o : Obj} (e : (hidT h H).get? b = some o) : h.get? b = some o ∧ H b = none := by
  have e' : h.get? b = some o := PySem.W.of_hideAll (trk h H) e
  refine ⟨e', ?_⟩
  cases q : H b with
  | none => rfl
  | some x =>
    have hm : b ∈ trk h H := List.mem_filter.mpr ⟨List.mem_range.mpr (Heap.lt_size e'), by simp [q]⟩
    have z : (hidT h H).get? b = none := PySem.W.hideAll_none (trk h H) hm
    rw [z] at e; cases e
/-! ### OpenK's ledger, filled with every new object but one -/
def allNews (g h : Heap) (L : Addr) : List (Addr × Obj) := (List.range h.objs.size).filterMap fun a => if a = L ∨ (g.get? a).isSome = true then none else (h.get? a).map fun o => (a, o)
def rest (g h : Heap) (L d : Addr) : List (Addr × Obj) := (allNews g h L).filter fun p => decide (p.1 ≠ d)
end L2
namespace L2
open PySem PySem.Spec PyProof.Rows
/-- the module's facts, over the base: the heap at the law's entry without what is tracked there -/
structure Mod (K : PySem.W.Frag) (mg : Str → Option Value) (base : Heap) : Prop where
  kin : K.In base
  glob : base.Ns mainGlobals mg
  blt : ∃ mb, base.Ns builtinsNs mb ∧ ∀ x : Str, x ≠ "__name__" → mb x = bootBuiltins x
  nolimit : base.NoLimit
/-- the context: a def's body (or a comprehension's block) running. base: fixed through the whole law; s₀, H₀: the entry; outer: the frames whose slots others may change (a def's callers); stack: all frames that run;
   ex: iterators that were made ahead of the entry and are walked here (a comprehension's); fn: the names whose cells were made at the entry (a def: all; a comprehension's block: its own); calm: not within an except suite; pn: pins that every state bears; xe: what is wanted of an exception that leaves the code -/
structure Cx where
  prog : Program
  w : World
  K : PySem.W.Frag
  mg : Str → Option Value
  base : Heap
  A : Around
  N : List Str
  s₀ : Shared
  H₀ : Hp
  env : Env
  outer : List Env
  stack : List Env
  ex : List Addr
  fn : Str → Bool
  calm : Bool
  pn : List (Addr × Obj)
  xe : Value → Shared → Prop
/-- the callers' frames -/
def frs (l : List Env) : List Addr := l.filterMap (·.frame)
abbrev Cx.fs (X : Cx) : List Addr := frs X.outer
def Vis (sc : Scope) (x : Str) : Prop := sc.names.lookup x = some .local ∨ sc.names.lookup x = some .cell ∨ sc.names.lookup x = some .free
def Loc (sc : Scope) (x : Str) : Prop := sc.names.lookup x = some .local ∨ sc.names.lookup x = some .cell
def Look (env : Env) (h : Heap) (m : Str → Option Value) (x : Str) (u : Value) : Prop :=
  (env.kindOf x = some .local ∧ m x = some u) ∨ ((env.kindOf x = some .cell ∨ env.kindOf x = some .free) ∧ ∃ c, env.cells.lookup x = some c ∧ h.IsCell c (some u))
structure Cx.Ok (X : Cx) : Prop where
  mod : Mod X.K X.mg X.base
  kind : X.env.scope.kind = .function
  glob : X.env.globals = mainGlobals
  blt : X.env.builtins = builtinsNs
  above : X.s₀.heap.objs.size ≤ X.env.locals
  inj : ∀ x y c, X.env.cells.lookup x = some c → X.env.cells.lookup y = some c → x = y
  has : ∀ x, (X.env.kindOf x = some .cell ∨ X.env.kindOf x = some .free) → ∃ c, X.env.cells.lookup x = some c
  cab : ∀ x c, X.fn x = true → X.env.cells.lookup x = some c → X.s₀.heap.objs.size ≤ c
  hd : X.calm = true → X.A.handled = none
  frames : X.A.frames = some X.stack
  stk : X.stack = X.outer ∨ (X.stack = X.env :: X.outer ∧ X.env.frame = some X.env.locals)
  exf : ∀ b ∈ X.ex, b ≠ X.env.locals ∧ ∀ x c, X.env.cells.lookup x = some c → c ≠ b
  bs : ∀ b o, X.base.get? b = some o → X.s₀.heap.get? b = some o ∧ X.H₀ b = none
  bsz : X.base.objs.size ≤ X.s₀.heap.objs.size
  noex : ∀ b o, X.base.get? b = some o → b ∉ X.ex
  exfs : ∀ b ∈ X.ex, b ∉ X.fs
  funs : X.s₀.heap.FunFrames X.base X.outer
  frf : ∀ b ∈ X.fs, X.H₀ b = none
structure Inv (X : Cx) (pins : List (Addr × Obj)) (σ : List (Option V)) (H : Hp) (s : Shared) : Prop where
  ok : X.Ok
  os : s.os = X.s₀.os
  bare : AllBare s.gens
  base : Un X.fs X.ex X.H₀ H X.s₀.heap s.heap
  loc : ∃ m, s.heap.Ns X.env.locals m ∧ ∀ (i : Nat) (x : Str) (v : V), X.N[i]? = some x → σ[i]? = some (some v) → Vis X.env.scope x → ∃ u, RelV v u ∧ Look X.env s.heap m x u
  cell : ∀ x c, X.env.cells.lookup x = some c → ∃ v, s.heap.IsCell c v
  free : H X.env.locals = none
  freeC : ∀ x c, X.env.cells.lookup x = some c → H c = none
  pin : ∀ p ∈ X.pn ++ pins, s.heap.get? p.1 = some p.2 ∧ H p.1 = none ∧ p.1 ≠ X.env.locals ∧ p.1 ∉ X.fs ∧ ∀ v, p.2.data ≠ .cell v
  hok : HOk X.prog X.w H s.heap
  len : σ.length = X.N.length
section
variable {X : Cx} {pins : List (Addr × Obj)} {σ : List (Option V)} {H H' : Hp} {s : Shared} {h' : Heap}
theorem Cx.Ok.nofr (ok : X.Ok) {b : Addr} {o : Obj} (e : X.base.get? b = some o) : b ∉ X.fs := fun hb => by
  have := (ok.funs.mem hb).1
  rw [e] at this; cases this
theorem Inv.bs (I : Inv X pins σ H s) : ∀ b o, X.base.get? b = some o → s.heap.get? b = some o ∧ H b = none := fun b o e =>
  ⟨I.base.keep b o (I.ok.bs b o e).1 (I.ok.bs b o e).2 (I.ok.nofr e) (I.ok.noex b o e), I.base.free b o (I.ok.bs b o e).1 (I.ok.bs b o e).2 (I.ok.noex b o e)⟩
theorem Inv.bk (I : Inv X pins σ H s) : ∀ b o, X.base.get? b = some o → s.heap.get? b = some o := fun b o e => (I.bs b o e).1
theorem Inv.mod (I : Inv X pins σ H s) : Mod X.K X.mg X.base := I.ok.mod
theorem Inv.kIn (I : Inv X pins σ H s) : X.K.In s.heap := I.ok.mod.kin.keeps I.bk
theorem Inv.nolimit (I : Inv X pins σ H s) : s.heap.NoLimit := I.ok.mod.nolimit.keeps I.bk
/-- the frame over the base: for OpenK's rules (K.In X.base is I.mod.kin) -/
theorem Inv.fr (I : Inv X pins σ H s) : ∃ m, Fr X.base X.env.locals s.heap m :=
  let ⟨m, hn, _⟩ := I.loc
  ⟨m, hn, I.bk, Nat.le_trans I.ok.bsz I.ok.above⟩
theorem Inv.lt (I : Inv X pins σ H s) : X.env.locals < s.heap.objs.size := let ⟨_, hn, _⟩ := I.loc; hn.lt
theorem Inv.sz (I : Inv X pins σ H s) : X.s₀.heap.objs.size ≤ s.heap.objs.size := Nat.le_trans I.ok.above (Nat.le_of_lt I.lt)
theorem Inv.nofs (I : Inv X pins σ H s) {a : Addr} (h : s.heap.objs.size ≤ a) : a ∉ X.fs := fun hb => by
  obtain ⟨_, o, ho, _⟩ := I.ok.funs.mem hb
  exact absurd (Nat.lt_of_lt_of_le (Heap.lt_size ho) (Nat.le_trans I.sz h)) (Nat.lt_irrefl _)
theorem Inv.cne (I : Inv X pins σ H s) : ∀ x c, X.env.cells.lookup x = some c → c ≠ X.env.locals := fun x c e z => by
  obtain ⟨v, o, ho, hd⟩ := I.cell x c e
  obtain ⟨m, ⟨o', es, ep, ho', hd', _⟩, _⟩ := I.loc
  rw [z, ho'] at ho; cases ho; rw [hd'] at hd; cases hd
theorem Inv.funs (I : Inv X pins σ H s) : s.heap.FunFrames X.base X.outer := by
  have all : ∀ (l : List Env), (∀ b ∈ frs l, b ∈ X.fs) → X.s₀.heap.FunFrames X.base l → s.heap.FunFrames X.base l := by
    intro l
    induction l with
    | nil => intro _ _; trivial
    | cons env r ih =>
      intro hs hl
      obtain ⟨hk, ⟨L, o, hf, hn, ho, hd⟩, hr⟩ := hl
      have hL : L ∈ X.fs := hs L (by unfold frs; rw [List.filterMap_cons, hf]; exact List.mem_cons_self)
      obtain ⟨sl, e⟩ := I.base.slot L o ho (I.ok.frf L hL) hL fun z => I.ok.exfs L z hL
      exact ⟨hk, ⟨L, _, hf, hn, e, hd⟩, ih (fun b hb => hs b (by unfold frs; rw [List.filterMap_cons, hf]; exact List.mem_cons_of_mem _ hb)) hr⟩
  exact all X.outer (fun _ hb => hb) I.ok.funs
/-- the frames that run, for a call -/
theorem Inv.stack (I : Inv X pins σ H s) : s.heap.FunFrames X.base X.stack := by
  rcases I.ok.stk with e | ⟨e, hf⟩
  · rw [e]; exact I.funs
  · rw [e]
    obtain ⟨m, hn, _⟩ := I.loc
    refine .cons (by rw [I.ok.kind]; decide) hf hn ?_ I.funs
    exact Heap.get?_none_of_le (Nat.le_trans I.ok.bsz I.ok.above)
theorem Inv.stkSub (I : Inv X pins σ H s) : ∀ b ∈ frs X.stack, b ∈ X.env.locals :: X.fs := fun b hb => by
  rcases I.ok.stk with e | ⟨e, hf⟩
  · rw [e] at hb; exact List.mem_cons_of_mem _ hb
  · rw [e] at hb
    unfold frs at hb
    rw [List.filterMap_cons, hf] at hb
    exact hb
theorem Inv.stkFree (I : Inv X pins σ H s) : ∀ b ∈ frs X.stack, H b = none := fun b hb => by
  rcases List.mem_cons.mp (I.stkSub b hb) with e | hb
  · rw [e]; exact I.free
  · obtain ⟨_, o, ho, _⟩ := I.ok.funs.mem hb
    exact I.base.free b o ho (I.ok.frf b hb) fun z => I.ok.exfs b z hb
/-- THE STEP: the untracked objects but the frame and the records at ch are kept (the callers' frames up to slots), the frame's map is kept, the new abstract heap is held -/
theorem Inv.step {g' : Array GenState} {t' : Nat} {d' : Drawn} {ch : List Addr} (I : Inv X pins σ H s)
    (hch : ∀ b ∈ ch, (b ∈ X.ex ∨ X.s₀.heap.objs.size ≤ b) ∧ b ≠ X.env.locals ∧ (∀ x c, X.env.cells.lookup x = some c → c ≠ b) ∧ ∀ p ∈ X.pn ++ pins, p.1 ≠ b)
    (keep : ∀ b o, b ≠ X.env.locals → b ∉ X.fs → b ∉ ch → s.heap.get? b = some o → H b = none → h'.get? b = some o)
    (slot : ∀ b o, b ≠ X.env.locals → b ∈ X.fs → b ∉ ch → s.heap.get? b = some o → H b = none → ∃ sl, h'.get? b = some { o with slots := sl }) (free : ∀ b o, b ∉ ch → s.heap.get? b = some o → H b = none → H' b = none)
    (there : ∀ b o, b ∉ ch → s.heap.get? b = some o → ∃ o', h'.get? b = some o')
    (tups : ∀ b xs, H b = some (.tup xs) → H' b = some (.tup xs)) (frzs : ∀ b o u, H b = some (.frz o u) → H' b = some (.frz o u)) (tbls : ∀ b ps, H b = some (.tbl ps) → ∃ more, H' b = some (.tbl (ps ++ more)))
    (ns : ∀ m, s.heap.Ns X.env.locals m → h'.Ns X.env.locals m) (hok : HOk X.prog X.w H' h') (hg : AllBare g') :
    Inv X pins σ H' { s with heap := h', gens := g', drawn := d', toks := t' } := by
  have neL : ∀ b o, X.s₀.heap.get? b = some o → b ≠ X.env.locals := fun b o e => Nat.ne_of_lt (Nat.lt_of_lt_of_le (Heap.lt_size e) I.ok.above)
  have neC : ∀ b o, X.s₀.heap.get? b = some o → b ∉ X.ex → b ∉ ch := fun b o e hx hb => by
    rcases (hch b hb).1 with z | z
    · exact hx z
    · exact absurd (Nat.lt_of_lt_of_le (Heap.lt_size e) z) (Nat.lt_irrefl _)
  have cellK : ∀ x c, X.env.cells.lookup x = some c → ∀ v, s.heap.IsCell c v → h'.IsCell c v := fun x c e v ⟨o, ho, hd⟩ => by
    have nch : c ∉ ch := fun z => (hch c z).2.2.1 x c e rfl
    by_cases hc : c ∈ X.fs
    · obtain ⟨sl, q⟩ := slot c o (I.cne x c e) hc nch ho (I.freeC x c e)
      exact ⟨_, q, hd⟩
    · exact ⟨o, keep c o (I.cne x c e) hc nch ho (I.freeC x c e), hd⟩
  refine ⟨I.ok, I.os, hg, ⟨fun b o e n hb hx => ?_, fun b o e n hb hx => ?_, fun b o e n hx => ?_, fun b o e hx => ?_, fun b xs e => tups b xs (I.base.tups b xs e), fun b o xs e => frzs b o xs (I.base.frzs b o xs e), fun b ps e => ?_⟩, ?_, fun x c e => ?_, ?_, fun x c e => ?_, fun p hp => ?_, hok, I.len⟩
  · exact keep b o (neL b o e) hb (neC b o e hx) (I.base.keep b o e n hb hx) (I.base.free b o e n hx)
  · obtain ⟨sl, e1⟩ := I.base.slot b o e n hb hx
    obtain ⟨sl', e2⟩ := slot b _ (neL b o e) hb (neC b o e hx) e1 (I.base.free b o e n hx)
    exact ⟨sl', e2⟩
  · obtain ⟨o', e1⟩ := I.base.there b o e hx
    exact free b o' (neC b o e hx) e1 (I.base.free b o e n hx)
  · obtain ⟨o', e1⟩ := I.base.there b o e hx
    exact there b o' (neC b o e hx) e1
  · obtain ⟨m1, e1⟩ := I.base.tbls b ps e
    obtain ⟨m2, e2⟩ := tbls b _ e1
    exact ⟨m1 ++ m2, by rw [e2, Array.append_assoc]⟩
  · obtain ⟨m, hn, hl⟩ := I.loc
    refine ⟨m, ns m hn, fun i x v e1 e2 e3 => ?_⟩
    obtain ⟨u, r, l⟩ := hl i x v e1 e2 e3
    refine ⟨u, r, ?_⟩
    rcases l with l | ⟨k, c, e, z⟩
    · exact .inl l
    · exact .inr ⟨k, c, e, cellK x c e _ z⟩
  · obtain ⟨v, z⟩ := I.cell x c e
    exact ⟨v, cellK x c e v z⟩
  · obtain ⟨m, ⟨o, _, _, ho, _⟩, _⟩ := I.loc
    exact free _ o (fun z => (hch _ z).2.1 rfl) ho I.free
  · obtain ⟨v, o, ho, hd⟩ := I.cell x c e
    exact free c o (fun z => (hch c z).2.2.1 x c e rfl) ho (I.freeC x c e)
  · obtain ⟨e, n, ne, nf, d⟩ := I.pin p hp
    have nch : p.1 ∉ ch := fun z => (hch p.1 z).2.2.2 p hp rfl
    exact ⟨keep p.1 p.2 ne nf nch e n, free p.1 p.2 nch e n, ne, nf, d⟩
/-- .. where the frame's own object is kept too -/
theorem Inv.un {t' : Nat} (I : Inv X pins σ H s) (u : Un X.fs [] H H' s.heap h') (hok : HOk X.prog X.w H' h') : Inv X pins σ H' { s with heap := h', toks := t' } := by
  obtain ⟨m, ⟨o, es, ep, ho, r⟩, _⟩ := id I.loc
  obtain ⟨sl, hL⟩ := u.any ho I.free (by simp)
  exact I.step (g' := s.gens) (d' := s.drawn) (ch := []) (fun _ z => nomatch z) (fun b o _ hb _ e n => u.keep b o e n hb (by simp)) (fun b o _ hb _ e n => u.slot b o e n hb (by simp)) (fun b o _ e n => u.free b o e n (by simp)) (fun b o _ e => u.there b o e (by simp)) u.tups u.frzs u.tbls (fun m' hm => by
    obtain ⟨o', es', ep', ho', r'⟩ := hm
    rw [ho] at ho'; cases ho'
    exact ⟨_, es', ep', hL, r'⟩) hok I.bare
/-- behind a call (or a comprehension's block): the slots of this frame may have changed too, the records at ch may have turned -/
theorem Inv.call {g' : Array GenState} {t' : Nat} {d' : Drawn} {ch : List Addr} (I : Inv X pins σ H s) (u : Un (frs X.stack) ch H H' s.heap h') (hok : HOk X.prog X.w H' h') (hg : AllBare g')
    (hch : ∀ b ∈ ch, (b ∈ X.ex ∨ X.s₀.heap.objs.size ≤ b) ∧ b ≠ X.env.locals ∧ (∀ x c, X.env.cells.lookup x = some c → c ≠ b) ∧ ∀ p ∈ X.pn ++ pins, p.1 ≠ b) :
    Inv X pins σ H' { s with heap := h', gens := g', drawn := d', toks := t' } := by
  obtain ⟨m, ⟨o, es, ep, ho, r⟩, _⟩ := id I.loc
  obtain ⟨sl, hL⟩ := u.any ho I.free fun z => (hch _ z).2.1 rfl
  exact I.step (ch := ch) hch (fun b o hL hb hc e n => u.keep b o e n (fun z => (List.mem_cons.mp (I.stkSub b z)).elim hL hb) hc) (fun b o _ _ hc e n => u.any e n hc) (fun b o hc e n => u.free b o e n hc) (fun b o hc e => u.there b o e hc) u.tups u.frzs u.tbls (fun m' hm => by
    obtain ⟨o', es', ep', ho', r'⟩ := hm
    rw [ho] at ho'; cases ho'
    exact ⟨_, es', ep', hL, r'⟩) hok hg
/-- an untracked record of ours (an iterator) has turned -/
theorem Inv.turned {t' : Nat} {it : Addr} (I : Inv X pins σ H s) (k : ∀ b o, b ≠ it → s.heap.get? b = some o → h'.get? b = some o) (hn : H it = none) (hL : it ≠ X.env.locals)
    (h1 : it ∈ X.ex ∨ X.s₀.heap.objs.size ≤ it) (h2 : ∀ x c, X.env.cells.lookup x = some c → c ≠ it) (h3 : ∀ p ∈ X.pn ++ pins, p.1 ≠ it) : Inv X pins σ H { s with heap := h', toks := t' } := by
  have nit : ∀ b u, H b = some u → b ≠ it := fun b u e z => by rw [z, hn] at e; cases e
  refine I.step (g' := s.gens) (d' := s.drawn) (ch := [it]) (fun b hb => ?_) (fun b o _ _ hc e _ => k b o (fun z => hc (by simp [z])) e) (fun b o _ _ hc e _ => ⟨o.slots, k b o (fun z => hc (by simp [z])) e⟩) (fun _ _ _ _ n => n)
    (fun b o hc e => ⟨o, k b o (fun z => hc (by simp [z])) e⟩) (fun _ _ e => e) (fun _ _ _ e => e) (fun b ps e => ⟨#[], by rw [e]; simp⟩) (fun m hm => ?_) (fun b u e => ?_) I.bare
  · have e : b = it := by simpa using hb
    subst e
    exact ⟨h1, hL, h2, h3⟩
  · obtain ⟨o, es, ep, ho, r⟩ := hm
    exact ⟨o, es, ep, k _ o (Ne.symm hL) ho, r⟩
  · refine (I.hok b u e).stay (fun c v hc q => k c v ?_ q) (fun _ q => q) fun _ _ q => q
    rcases hc with z | z
    · rw [z]; exact nit b u e
    · exact nit c _ z
theorem Inv.tok (I : Inv X pins σ H s) (t : Nat) : Inv X pins σ H { s with toks := t } := I.un (h' := s.heap) (t' := t) Un.refl I.hok
/-- all objects kept -/
theorem Inv.kept {t' : Nat} (I : Inv X pins σ H s) (k : ∀ b u, s.heap.get? b = some u → h'.get? b = some u) : Inv X pins σ H { s with heap := h', toks := t' } := I.un (Un.kept k) (I.hok.kept k)
/-- a new object laid and tracked -/
theorem Inv.laid {a : Addr} {o : HO} {t' : Nat} (I : Inv X pins σ H s) (k : ∀ b u, s.heap.get? b = some u → h'.get? b = some u) (hp : s.heap.objs.size ≤ a) (new : ObjOk X.prog X.w (upd H a o) h' a o) :
    Inv X pins σ (upd H a o) { s with heap := h', toks := t' } := I.un (Un.laid k hp (I.hok.fresh hp)) (I.hok.laid k hp new)
/-- an object written -/
theorem Inv.write {x e : Addr} {o : HO} {t' : Nat} (I : Inv X pins σ H s) (mu : Mut (H x)) (he : e = x ∨ H e = some (.own x)) (k : ∀ b u, b ≠ e → s.heap.get? b = some u → h'.get? b = some u) (heo : ∃ u, h'.get? e = some u)
    (new : ObjOk X.prog X.w (upd H x o) h' x o) : Inv X pins σ (upd H x o) { s with heap := h', toks := t' } := I.un (Un.write mu he k heo) (I.hok.write mu he k heo new)
theorem Inv.pins_of {pins' : List (Addr × Obj)} (I : Inv X pins σ H s) (h : ∀ p ∈ pins', s.heap.get? p.1 = some p.2 ∧ H p.1 = none ∧ p.1 ≠ X.env.locals ∧ p.1 ∉ X.fs ∧ ∀ v, p.2.data ≠ .cell v) : Inv X pins' σ H s :=
  ⟨I.ok, I.os, I.bare, I.base, I.loc, I.cell, I.free, I.freeC, fun p hp => (List.mem_append.mp hp).elim (fun z => I.pin p (List.mem_append_left _ z)) (h p), I.hok, I.len⟩
theorem nodup_ix {N : List Str} (hN : N.Nodup) {i j : Nat} {x : Str} (a : N[i]? = some x) (b : N[j]? = some x) : i = j := by
  obtain ⟨h1, e1⟩ := List.getElem?_eq_some_iff.mp a
  obtain ⟨h2, e2⟩ := List.getElem?_eq_some_iff.mp b
  exact (List.getElem_inj hN).mp (e1.trans e2.symm)
/-- a name is stored; what changed -/
theorem store_ok2 {M : Model} {A : Around} {E : Value → Shared → Prop} {i : Nat} {x : Str} {v : V} {u : Value} {Q : Unit → Shared → Prop} (I : Inv X pins σ H s) (hN : X.N.Nodup) (hi : X.N[i]? = some x) (hx : Loc X.env.scope x) (r : RelV v u)
    (h : ∀ s', Inv X pins (σ.set i (some v)) H s' → (∃ a, Heap.SameBut a s.heap s'.heap ∧ (a = X.env.locals ∨ X.env.cells.lookup x = some a)) → Q () s') (hf : X.fn x = true ∨ X.env.scope.names.lookup x = some .local := by first | exact .inl rfl | exact .inr rfl | assumption) : wpAny M A (storeName X.env x u) Q E s := by
  obtain ⟨m, hn, hl⟩ := id I.loc
  have hcls : (X.env.scope.kind == .class || (X.env.scope.kind == .module && X.env.locals != X.env.globals)) = false := by rw [I.ok.kind]; rfl
  have hiσ : i < σ.length := by rw [I.len]; exact (List.getElem?_eq_some_iff.mp hi).1
  have cne := I.cne
  have tracked : ∀ {a : Addr} {h' : Heap}, (∃ o, s.heap.get? a = some o ∧ H a = none) → Heap.SameBut a s.heap h' → HOk X.prog X.w H h' := fun {a h'} ha hs b ob e => by
    obtain ⟨_, _, hfree⟩ := ha
    refine (I.hok b ob e).stay (fun c w' hc q => (hs.2 c ?_).trans q) (fun _ q => q) fun _ _ q => q
    rintro rfl
    rcases hc with rfl | hc
    · rw [hfree] at e; cases e
    · rw [hfree] at hc; cases hc
  rcases hx with hk | hk
  · refine wpAny_storeName_local hk hn (fun h' hn' hs => ?_) hcls
    obtain ⟨oL, _, _, hoL, _⟩ := id hn
    refine h _ ⟨I.ok, I.os, I.bare, ⟨fun b o e n hb hx => ?_, fun b o e n hb hx => ?_, I.base.free, fun b o e hx => ?_, I.base.tups, I.base.frzs, I.base.tbls⟩, ⟨_, hn', fun j y v' e1 e2 e3 => ?_⟩, fun y c e => ?_, I.free, I.freeC, fun p hp => ?_, tracked ⟨oL, hoL, I.free⟩ hs, by simpa using I.len⟩ ⟨_, hs, .inl rfl⟩
    · exact (hs.2 b (Nat.ne_of_lt (Nat.lt_of_lt_of_le (Heap.lt_size e) I.ok.above))).trans (I.base.keep b o e n hb hx)
    · obtain ⟨sl, e1⟩ := I.base.slot b o e n hb hx
      exact ⟨sl, (hs.2 b (Nat.ne_of_lt (Nat.lt_of_lt_of_le (Heap.lt_size e) I.ok.above))).trans e1⟩
    · obtain ⟨o', e1⟩ := I.base.there b o e hx
      exact ⟨o', (hs.2 b (Nat.ne_of_lt (Nat.lt_of_lt_of_le (Heap.lt_size e) I.ok.above))).trans e1⟩
    · by_cases hj : j = i
      · subst hj
        rw [hi] at e1; cases e1
        rw [List.getElem?_set_self hiσ] at e2
        cases e2
        exact ⟨u, r, .inl ⟨hk, by simp⟩⟩
      · rw [List.getElem?_set_ne (Ne.symm hj)] at e2
        obtain ⟨u', r', q⟩ := hl j y v' e1 e2 e3
        refine ⟨u', r', ?_⟩
        rcases q with ⟨k, e⟩ | ⟨k, c, e, z⟩
        · refine .inl ⟨k, ?_⟩
          have : y ≠ x := fun e => hj (nodup_ix hN e1 (e ▸ hi))
          simp [this, e]
        · exact .inr ⟨k, c, e, z.sameBut hs (cne y c e)⟩
    · obtain ⟨w', z⟩ := I.cell y c e
      exact ⟨w', z.sameBut hs (cne y c e)⟩
    · obtain ⟨e, n, ne, nf, d⟩ := I.pin p hp
      exact ⟨(hs.2 p.1 ne).trans e, n, ne, nf, d⟩
  · have hfn : X.fn x = true := by
      rcases hf with z | z
      · exact z
      · rw [z] at hk; cases hk
    obtain ⟨c, hc⟩ := I.ok.has x (.inl hk)
    obtain ⟨w', z⟩ := I.cell x c hc
    refine wpAny_storeName_cell I.ok.kind hk hc z (fun h' hc' hs => ?_)
    obtain ⟨oc, hoc, hocd⟩ := id z
    refine h { s with heap := h' } ⟨I.ok, I.os, I.bare, ⟨fun b o e n hb hx => ?_, fun b o e n hb hx => ?_, I.base.free, fun b o e hx => ?_, I.base.tups, I.base.frzs, I.base.tbls⟩, ⟨m, hn.sameBut hs (Ne.symm (cne x c hc)), fun j y v' e1 e2 e3 => ?_⟩, fun y c' e => ?_, I.free, I.freeC, fun p hp => ?_, tracked ⟨oc, hoc, I.freeC x c hc⟩ hs, by simpa using I.len⟩ ⟨c, hs, .inr hc⟩
    · exact (hs.2 b (Nat.ne_of_lt (Nat.lt_of_lt_of_le (Heap.lt_size e) (I.ok.cab x c hfn hc)))).trans (I.base.keep b o e n hb hx)
    · obtain ⟨sl, e1⟩ := I.base.slot b o e n hb hx
      exact ⟨sl, (hs.2 b (Nat.ne_of_lt (Nat.lt_of_lt_of_le (Heap.lt_size e) (I.ok.cab x c hfn hc)))).trans e1⟩
    · obtain ⟨o', e1⟩ := I.base.there b o e hx
      exact ⟨o', (hs.2 b (Nat.ne_of_lt (Nat.lt_of_lt_of_le (Heap.lt_size e) (I.ok.cab x c hfn hc)))).trans e1⟩
    · by_cases hj : j = i
      · subst hj
        rw [hi] at e1; cases e1
        rw [List.getElem?_set_self hiσ] at e2
        cases e2
        exact ⟨u, r, .inr ⟨.inl hk, c, hc, hc'⟩⟩
      · rw [List.getElem?_set_ne (Ne.symm hj)] at e2
        obtain ⟨u', r', q⟩ := hl j y v' e1 e2 e3
        refine ⟨u', r', ?_⟩
        rcases q with q | ⟨k, c', e, z'⟩
        · exact .inl q
        · refine .inr ⟨k, c', e, z'.sameBut hs ?_⟩
          rintro rfl
          exact hj (nodup_ix hN e1 (I.ok.inj _ _ _ e hc ▸ hi))
    · by_cases hcc : c' = c
      · subst hcc; exact ⟨_, hc'⟩
      · obtain ⟨w2, z2⟩ := I.cell y c' e
        exact ⟨w2, z2.sameBut hs hcc⟩
    · obtain ⟨e, n, ne, nf, d⟩ := I.pin p hp
      refine ⟨(hs.2 p.1 ?_).trans e, n, ne, nf, d⟩
      intro q
      rw [q, hoc] at e
      have q' : oc = p.2 := Option.some.inj e
      exact d w' (by rw [← q']; exact hocd)
theorem store_ok {M : Model} {A : Around} {E : Value → Shared → Prop} {i : Nat} {x : Str} {v : V} {u : Value} {Q : Unit → Shared → Prop} (I : Inv X pins σ H s) (hN : X.N.Nodup) (hi : X.N[i]? = some x) (hx : Loc X.env.scope x) (r : RelV v u)
    (h : ∀ s', Inv X pins (σ.set i (some v)) H s' → Q () s') (hf : X.fn x = true ∨ X.env.scope.names.lookup x = some .local := by first | exact .inl rfl | exact .inr rfl | assumption) : wpAny M A (storeName X.env x u) Q E s :=
  store_ok2 I hN hi hx r (fun s' I' _ => h s' I') hf
/-- behind a call or a block, the state as it is -/
theorem Inv.call' {s' : Shared} {ch : List Addr} (I : Inv X pins σ H s) (ho : s'.os = s.os) (u : Un (frs X.stack) ch H H' s.heap s'.heap) (hok : HOk X.prog X.w H' s'.heap) (hg : AllBare s'.gens)
    (hch : ∀ b ∈ ch, (b ∈ X.ex ∨ X.s₀.heap.objs.size ≤ b) ∧ b ≠ X.env.locals ∧ (∀ x c, X.env.cells.lookup x = some c → c ≠ b) ∧ ∀ p ∈ X.pn ++ pins, p.1 ≠ b) : Inv X pins σ H' s' := by
  obtain ⟨h', g', d', t', o'⟩ := s'
  have e : o' = s.os := ho
  subst e
  exact I.call (g' := g') (t' := t') (d' := d') u hok hg hch
end
/-! ### the judgements -/
/-- an exception: its class, its own dict's address (where it has one), the abstract heap behind it -/
abbrev XK := Value → Option Addr → Hp → Prop
abbrev St := List (Option V)
abbrev VK := V → Hp → Prop
/-- an expression's reading; a test's; an argument list's -/
abbrev TE := St → Hp → VK → Prop
abbrev TT := St → Hp → (Bool → Hp → Prop) → Prop
abbrev TA := St → Hp → (List V → Hp → Prop) → Prop
/-- what is wanted behind a statement -/
structure Ends where
  nx : St → Hp → Prop
  rt : VK
  bk : St → Hp → Prop := fun _ _ => False
  ct : St → Hp → Prop := fun _ _ => False
abbrev TS := Ends → St → Hp → Prop
def EP (X : Cx) (pins : List (Addr × Obj)) (σ : St) (Q : VK) (u : Value) (s' : Shared) : Prop := ∃ v H', Inv X pins σ H' s' ∧ RelV v u ∧ Q v H'
def TP (X : Cx) (pins : List (Addr × Obj)) (σ : St) (Q : Bool → Hp → Prop) (b : Bool) (s' : Shared) : Prop := ∃ H', Inv X pins σ H' s' ∧ Q b H'
def AP (X : Cx) (pins : List (Addr × Obj)) (σ : St) (Q : List V → Hp → Prop) (us : List Value) (s' : Shared) : Prop := ∃ vs H', Inv X pins σ H' s' ∧ Vals vs us ∧ Q vs H'
def SP (X : Cx) (pins : List (Addr × Obj)) (D : Ends) (f : Flow) (s' : Shared) : Prop :=
  match f with
  | .next => ∃ σ' H', Inv X pins σ' H' s' ∧ D.nx σ' H'
  | .brk => ∃ σ' H', Inv X pins σ' H' s' ∧ D.bk σ' H'
  | .cont => ∃ σ' H', Inv X pins σ' H' s' ∧ D.ct σ' H'
  | .ret u => ∃ v σ' H', Inv X pins σ' H' s' ∧ RelV v u ∧ D.rt v H'
def PE (X : Cx) (e : Expr) (t : TE) : Prop :=
  ∀ (pins : List (Addr × Obj)) (s : Shared) (σ : St) (H : Hp) (Q : VK), Inv X pins σ H s → t σ H Q → wpAny (model X.prog X.w) X.A (eval e X.env) (EP X pins σ Q) X.xe s
def PT (X : Cx) (e : Expr) (t : TT) : Prop :=
  ∀ (pins : List (Addr × Obj)) (s : Shared) (σ : St) (H : Hp) (Q : Bool → Hp → Prop), Inv X pins σ H s → t σ H Q → wpAny (model X.prog X.w) X.A (isTrue e X.env (eval e X.env)) (TP X pins σ Q) X.xe s
/-- a test whatever its 'whole' is (and, or) -/
def PW (X : Cx) (e : Expr) (t : TT) : Prop :=
  ∀ (whole : Sem Value) (pins : List (Addr × Obj)) (s : Shared) (σ : St) (H : Hp) (Q : Bool → Hp → Prop), Inv X pins σ H s → t σ H Q → wpAny (model X.prog X.w) X.A (isTrue e X.env whole) (TP X pins σ Q) X.xe s
theorem PW.pt {X : Cx} {e : Expr} {t : TT} (h : PW X e t) : PT X e t := h _
/-- an argument list (no star), from the left -/
def PA (X : Cx) (es : List Expr) (t : TA) : Prop :=
  ∀ (pos : Pos) (pins : List (Addr × Obj)) (s : Shared) (σ : St) (H : Hp) (Q : List V → Hp → Prop), Inv X pins σ H s → t σ H Q → wpAny (model X.prog X.w) X.A (spliced (backTo pos (starEach es X.env))) (AP X pins σ Q) X.xe s
def PS (X : Cx) (st : Stmt) (t : TS) : Prop :=
  ∀ (pins : List (Addr × Obj)) (s : Shared) (σ : St) (H : Hp) (D : Ends), Inv X pins σ H s → t D σ H → wpAny (model X.prog X.w) X.A (exec st X.env) (SP X pins D) X.xe s
def PSs (X : Cx) (st : List Stmt) (t : TS) : Prop :=
  ∀ (pins : List (Addr × Obj)) (s : Shared) (σ : St) (H : Hp) (D : Ends), Inv X pins σ H s → t D σ H → wpAny (model X.prog X.w) X.A (execs st X.env) (SP X pins D) X.xe s
/-- weaken the end -/
theorem thn {α : Type} {t : Sem α} {Q Q' : α → Shared → Prop} {M : Model} {A : Around} {E : Value → Shared → Prop} {s : Shared} (h : wpAny M A t Q E s) (hQ : ∀ a s, Q a s → Q' a s) : wpAny M A t Q' E s := wpAny_mono h hQ fun _ _ x => x
end L2
namespace L2
open PySem PySem.Spec PyProof.Rows
section
variable {X : Cx}
/-! ### names and constants -/
def tVar (i : Nat) : TE := fun σ H Q => ∃ v, σ[i]? = some (some v) ∧ Q v H
def tC (v : V) : TE := fun _ H Q => Q v H
theorem pe_var {i : Nat} {x : Str} {pos : Pos} (hN : X.N[i]? = some x) (hv : Vis X.env.scope x) (hd : (x == ("__debug__" : Str)) = false := by decide) (hcd : (x == ("__classdict__" : Str)) = false := by decide) : PE X (.Name x pos) (tVar i) := by
  intro pins s σ H Q I h
  obtain ⟨v, e, h⟩ := h
  obtain ⟨m, hn, hl⟩ := I.loc
  obtain ⟨u, r, l⟩ := hl i x v hN e hv
  have fin : EP X pins σ Q u s := ⟨v, H, I, r, h⟩
  rcases l with ⟨hk, hm⟩ | ⟨hk, c, hc, hcell⟩
  · exact wpAny_Name (wpAny_loadName_local I.ok.kind hk hn hm fin) hd
  · rcases hk with hk | hk
    · exact wpAny_Name (wpAny_loadName_cell I.ok.kind hk hc hcell fin) hd
    · exact wpAny_Name (wpAny_loadName_free I.ok.kind hk hc hcell fin hcd) hd
theorem pe_int {i j pos} : PE X (.Constant (.int i) j pos) (tC (.int i)) := fun _ _ _ H _ I h => wpAny_Constant_int ⟨.int i, H, I.tok _, ⟨_, rfl⟩, h⟩
theorem pe_bl {b j pos} : PE X (.Constant (.bool b) j pos) (tC (.bl b)) := fun _ _ _ H _ I h => Constant_bool ⟨.bl b, H, I, rfl, h⟩
theorem pe_str {x j pos} : PE X (.Constant (.str x) j pos) (tC (.str x)) := fun _ _ _ H _ I h => Calls.Constant_str ⟨.str x, H, I.tok _, ⟨_, rfl⟩, h⟩
/-- a global name of the def -/
def Gl (X : Cx) (x : Str) : Prop := X.env.kindOf x = some .globalImplicit
theorem ld_glob {E : Value → Shared → Prop} {pins : List (Addr × Obj)} {s : Shared} {σ : St} {H : Hp} {x : Str} {u : Value} {pos : Pos} {Q : Value → Shared → Prop} (I : Inv X pins σ H s) (hg : Gl X x) (hm : X.mg x = some u) (h : Q u s)
    (hd : (x == ("__debug__" : Str)) = false := by decide) : wpAny (model X.prog X.w) X.A (eval (.Name x pos) X.env) Q E s :=
  Calls.Name_function_global I.ok.kind hg (Calls.loadGlobal_global (by rw [I.ok.glob]; exact I.mod.glob.keeps I.bk) hm h) hd
theorem ld_blt {E : Value → Shared → Prop} {pins : List (Addr × Obj)} {s : Shared} {σ : St} {H : Hp} {x : Str} {u : Value} {pos : Pos} {Q : Value → Shared → Prop} (I : Inv X pins σ H s) (hg : Gl X x) (hm : X.mg x = none) (hv : bootBuiltins x = some u) (h : Q u s)
    (hn : x ≠ "__name__" := by decide) (hd : (x == ("__debug__" : Str)) = false := by decide) : wpAny (model X.prog X.w) X.A (eval (.Name x pos) X.env) Q E s := by
  obtain ⟨mb, h1, h2⟩ := I.mod.blt
  exact Calls.Name_function_global I.ok.kind hg (Calls.loadGlobal_builtin (by rw [I.ok.glob]; exact I.mod.glob.keeps I.bk) hm (by rw [I.ok.blt]; exact h1.keeps I.bk) ((h2 x hn).trans hv) h) hd
/-- a module's constant, a class, a function, as a value -/
theorem pe_glob {x : Str} {v : V} {u : Value} {pos : Pos} (hg : Gl X x) (hm : X.mg x = some u) (r : RelV v u) (hd : (x == ("__debug__" : Str)) = false := by decide) : PE X (.Name x pos) (tC v) :=
  fun _ _ _ H _ I h => ld_glob I hg hm ⟨v, H, I, r, h⟩ hd
theorem pe_bltn {x : Str} {v : V} {u : Value} {pos : Pos} (hg : Gl X x) (hm : X.mg x = none) (hv : bootBuiltins x = some u) (r : RelV v u) (hn : x ≠ "__name__" := by decide) (hd : (x == ("__debug__" : Str)) = false := by decide) : PE X (.Name x pos) (tC v) :=
  fun _ _ _ H _ I h => ld_blt I hg hm hv ⟨v, H, I, r, h⟩ hn hd
/-! ### arithmetic -/
variable {a b : Expr} {ta tb : TE} {pos : Pos}
/-! ### comparisons -/
/-- a comparison as a value, as a test -/
def tB (t : TE) : TT := fun σ H Q => t σ H fun x H1 => ∃ c, x = .bl c ∧ Q c H1
/-- an expression whose value is a bool, as a test -/
theorem pt_val {e : Expr} {t : TE} (h : PE X e t) (he : ∀ whole, isTrue e X.env whole = (do let v ← whole; standAt e.pos; holding [v] (truthy v)) := by intro _; rfl) : PT X e (tB t) := by
  intro pins s σ H Q I hw
  refine isTrue_plain (thn (h pins s σ H _ I hw) fun v s1 ⟨x, H1, I1, r1, q1⟩ => ?_) (he _)
  obtain ⟨d, rfl, q⟩ := q1
  cases r1
  exact wpAny_truthy_bool ⟨H1, I1, q⟩
/-! ### and, or, not -/
variable {tA tB' : TT} {rest : List Expr}
def tOr (t u : TT) : TT := fun σ H Q => t σ H fun c H1 => if c = true then Q true H1 else u σ H1 Q
def tNot (t : TT) : TT := fun σ H Q => t σ H fun c H1 => Q (!c) H1
theorem pw_or1 (ha : PT X a tA) : PW X (.BoolOp .Or [a] pos) tA := by
  intro wh pins s σ H Q I h
  refine isTrue_or (thn (ha pins s σ H Q I h) fun c s1 e => ?_)
  cases c with
  | false => exact isTrue_or_nil e
  | true => exact e
theorem pw_or (ha : PT X a tA) (hb : PW X (.BoolOp .Or (b :: rest) pos) tB') : PW X (.BoolOp .Or (a :: b :: rest) pos) (tOr tA tB') := by
  intro wh pins s σ H Q I h
  refine isTrue_or (thn (ha pins s σ H _ I h) fun c s1 ⟨H1, I1, q1⟩ => ?_)
  cases c with
  | true => exact ⟨H1, I1, q1⟩
  | false => exact hb wh pins s1 σ H1 Q I1 q1
theorem pt_not (ha : PT X a tA) : PT X (.UnaryOp .Not a pos) (tNot tA) := by
  intro pins s σ H Q I h
  exact isTrue_not (ha pins s σ H (fun c H1 => Q (!c) H1) I h)
/-- a if t else b -/
def tIf (t : TT) (ta tb : TE) : TE := fun σ H Q => t σ H fun c H1 => if c = true then ta σ H1 Q else tb σ H1 Q
theorem pe_ifExp {c : Expr} (hc : PT X c tA) (ha : PE X a ta) (hb : PE X b tb) : PE X (.IfExp c a b pos) (tIf tA ta tb) := by
  intro pins s σ H Q I h
  refine wpAny_IfExp (thn (hc pins s σ H _ I h) fun d s1 ⟨H1, I1, q1⟩ => ?_)
  cases d with
  | true => exact ha pins s1 σ H1 Q I1 q1
  | false => exact hb pins s1 σ H1 Q I1 q1
end
end L2
namespace L2
open PySem PySem.Spec PyProof.Rows
/-! ### a list, a tuple that is read: tracked, frozen, or an object of the module -/
def SqL (K : PySem.W.Frag) (H : Hp) (a : Addr) (xs : List V) : Prop :=
  Rd H a (.lst xs) ∨
    ∃ (o : Obj) (its : Array Value) (n : Nat), K.lookup a = some o ∧ o.cls = .type "list" ∧ o.dict = none ∧ o.data = .seq its n ∧ its.size ≤ sizeLine ∧ Vals xs its.toList
def SqT (K : PySem.W.Frag) (H : Hp) (a : Addr) (xs : List V) : Prop :=
  Rd H a (.tup xs) ∨
    ∃ (o : Obj) (its : Array Value) (n : Nat), K.lookup a = some o ∧ o.cls = .type "tuple" ∧ o.data = .seq its n ∧ its.size ≤ sizeLine ∧ Vals xs its.toList
def absV : Value → Option V
  | .none => some .non
  | .bool b => some (.bl b)
  | .int i _ => some (.int i)
  | .str x _ => some (.str x)
  | .bytes b _ => some (.byt b)
  | .float b _ => some (.flt b)
  | .ref a => some (.ref a)
  | .type n => some (.ty n)
  | _ => none
theorem RelV.abs {x : V} {u : Value} (r : RelV x u) : absV u = some x := by
  cases x with
  | non => cases r; rfl
  | bl _ => cases r; rfl
  | int _ => obtain ⟨t, rfl⟩ := r; rfl
  | str _ => obtain ⟨t, rfl⟩ := r; rfl
  | byt _ => obtain ⟨t, rfl⟩ := r; rfl
  | flt _ => obtain ⟨t, rfl⟩ := r; rfl
  | ref _ => cases r; rfl
  | ty _ => cases r; rfl
theorem RelV.inj {x y : V} {u : Value} (r : RelV x u) (q : RelV y u) : x = y := Option.some.inj (r.abs.symm.trans q.abs)
theorem Vals.inj : ∀ {xs ys : List V} {us : List Value}, Vals xs us → Vals ys us → xs = ys
  | _, _, _, .nil, .nil => rfl
  | _, _, _, .cons r t, .cons r' t' => by rw [r.inj r', Vals.inj t t']
section
variable {X : Cx} {pins : List (Addr × Obj)} {σ : St} {H : Hp} {s : Shared} {a : Addr} {xs ys : List V}
theorem SqL.of {K : PySem.W.Frag} (h : H a = some (.lst xs)) : SqL K H a xs := .inl (.inl h)
theorem SqT.of {K : PySem.W.Frag} (h : H a = some (.tup xs)) : SqT K H a xs := .inl (.inl h)
theorem Inv.list (I : Inv X pins σ H s) (h : SqL X.K H a xs) : ∃ its : List Value, Vals xs its ∧ PlainL s.heap a its.toArray ∧ xs.length ≤ sizeLine := by
  rcases h with h | ⟨o, its, n, hk, hc, hd, hs, hz, r⟩
  · obtain ⟨z, its, n, r, e⟩ := h.ok I.hok
    exact ⟨its, r, ⟨_, n, e, rfl, rfl, rfl⟩, z⟩
  · refine ⟨its.toList, r, ⟨o, n, I.kIn a o hk, hc, hd, by simpa using hs⟩, ?_⟩
    have e := r.length
    simp only [Array.length_toList] at e
    omega
theorem Inv.tuple (I : Inv X pins σ H s) (h : SqT X.K H a xs) : ∃ its : List Value, Vals xs its ∧ IsTup s.heap a its.toArray ∧ xs.length ≤ sizeLine := by
  rcases h with h | ⟨o, its, n, hk, hc, hs, hz, r⟩
  · obtain ⟨z, its, r, p⟩ := h.ok I.hok
    exact ⟨its, r, p, z⟩
  · refine ⟨its.toList, r, ⟨o, I.kIn a o hk, hc, n, by simpa using hs⟩, ?_⟩
    have e := r.length
    simp only [Array.length_toList] at e
    omega
theorem Inv.list_inj (I : Inv X pins σ H s) (h : SqL X.K H a xs) (h' : SqL X.K H a ys) : xs = ys := by
  obtain ⟨its, r, ⟨o, n, e, _, _, d⟩, _⟩ := I.list h
  obtain ⟨its', r', ⟨o', n', e', _, _, d'⟩, _⟩ := I.list h'
  rw [e] at e'; cases e'
  rw [d] at d'
  injection d' with d1 _
  have : its = its' := by simpa using congrArg Array.toList d1
  subst this
  exact r.inj r'
end
/-! ### another wish about exceptions -/
abbrev Cx.wish (X : Cx) (E : Value → Shared → Prop) : Cx := { X with xe := E }
/-- no exception leaves -/
abbrev Cx.nox (X : Cx) : Cx := X.wish fun _ _ => False
theorem Cx.Ok.wish {X : Cx} (ok : X.Ok) (E : Value → Shared → Prop) : (X.wish E).Ok :=
  ⟨ok.mod, ok.kind, ok.glob, ok.blt, ok.above, ok.inj, ok.has, ok.cab, ok.hd, ok.frames, ok.stk, ok.exf, ok.bs, ok.bsz, ok.noex, ok.exfs, ok.funs, ok.frf⟩
theorem Cx.Ok.unwish {X : Cx} {E : Value → Shared → Prop} (ok : (X.wish E).Ok) : X.Ok :=
  ⟨ok.mod, ok.kind, ok.glob, ok.blt, ok.above, ok.inj, ok.has, ok.cab, ok.hd, ok.frames, ok.stk, ok.exf, ok.bs, ok.bsz, ok.noex, ok.exfs, ok.funs, ok.frf⟩
section
variable {X : Cx} {pins : List (Addr × Obj)} {σ : St} {H : Hp} {s : Shared} {E : Value → Shared → Prop}
theorem Inv.wish (I : Inv X pins σ H s) (E : Value → Shared → Prop) : Inv (X.wish E) pins σ H s := ⟨I.ok.wish E, I.os, I.bare, I.base, I.loc, I.cell, I.free, I.freeC, I.pin, I.hok, I.len⟩
theorem Inv.unwish (I : Inv (X.wish E) pins σ H s) : Inv X pins σ H s := ⟨I.ok.unwish, I.os, I.bare, I.base, I.loc, I.cell, I.free, I.freeC, I.pin, I.hok, I.len⟩
theorem SP.unwish {D : Ends} {f : Flow} {s' : Shared} (h : SP (X.wish E) pins D f s') : SP X pins D f s' := by
  cases f with
  | next => obtain ⟨σ', H', I, q⟩ := h; exact ⟨σ', H', I.unwish, q⟩
  | brk => obtain ⟨σ', H', I, q⟩ := h; exact ⟨σ', H', I.unwish, q⟩
  | cont => obtain ⟨σ', H', I, q⟩ := h; exact ⟨σ', H', I.unwish, q⟩
  | ret u => obtain ⟨v, σ', H', I, r, q⟩ := h; exact ⟨v, σ', H', I.unwish, r, q⟩
theorem PE.nox {e : Expr} {t : TE} (h : PE X.nox e t) : PE X e t := fun pins s σ H Q I hw =>
  wpAny_mono (h pins s σ H Q (I.wish _) hw) (fun _ _ ⟨v, H', I', r, q⟩ => ⟨v, H', I'.unwish, r, q⟩) fun _ _ z => False.elim z
theorem PT.nox {e : Expr} {t : TT} (h : PT X.nox e t) : PT X e t := fun pins s σ H Q I hw =>
  wpAny_mono (h pins s σ H Q (I.wish _) hw) (fun _ _ ⟨H', I', q⟩ => ⟨H', I'.unwish, q⟩) fun _ _ z => False.elim z
theorem PSs.nox {st : List Stmt} {t : TS} (h : PSs X.nox st t) : PSs X st t := fun pins s σ H D I hw =>
  wpAny_mono (h pins s σ H D (I.wish _) hw) (fun _ _ q => q.unwish) fun _ _ z => False.elim z
end
/-! ### blocks and small statements -/
section
variable {X : Cx} {st : Stmt} {rest : List Stmt} {t u : TS} {e : Expr} {te : TE} {pos : Pos}
def tNext : TS := fun D σ H => D.nx σ H
def tSeq (t u : TS) : TS := fun D σ H => t { D with nx := u D } σ H
theorem pss_nil : PSs X [] tNext := fun _ _ σ H _ I h => wpAny_execs_nil ⟨σ, H, I, h⟩
theorem pss_cons (h1 : PS X st t) (h2 : PSs X rest u) : PSs X (st :: rest) (tSeq t u) := by
  intro pins s σ H D I h
  refine wpAny_execs_cons (thn (h1 pins s σ H { D with nx := u D } I h) fun f s1 q => ?_)
  cases f with
  | next =>
    obtain ⟨σ', H', I', q⟩ := q
    exact h2 pins s1 σ' H' D I' q
  | ret v => exact q
  | brk => exact q
  | cont => exact q
theorem pss_one (h1 : PS X st t) : PSs X [st] t := by
  intro pins s σ H D I h
  refine wpAny_execs_cons (thn (h1 pins s σ H D I h) fun f s1 q => ?_)
  cases f with
  | next => exact wpAny_execs_nil q
  | ret v => exact q
  | brk => exact q
  | cont => exact q
/-- in a def's body nothing is shown -/
theorem Inv.quiet {pins : List (Addr × Obj)} {σ : St} {H : Hp} {s : Shared} (I : Inv X pins σ H s) : interactive X.env = false := by simp [interactive, I.ok.kind]
/-- an expression whose value is dropped -/
def tDrop (te : TE) : TS := fun D σ H => te σ H fun _ H1 => D.nx σ H1
theorem ps_expr (he : PE X e te) (hs : swapsWith e none pos.line X.env = pure false := by rfl) : PS X (.Expr e pos) (tDrop te) := by
  intro pins s σ H D I h
  exact wpAny_Expr_any (thn (he pins s σ H _ I h) fun v s1 ⟨x, H1, I1, r1, q1⟩ => ⟨σ, H1, I1, q1⟩) I.quiet hs
def tRet (te : TE) : TS := fun D σ H => te σ H D.rt
theorem ps_ret (he : PE X e te) : PS X (.Return (some e) pos) (tRet te) := by
  intro pins s σ H D I h
  exact wpAny_Return_some (thn (he pins s σ H _ I h) fun v s1 ⟨x, H1, I1, r1, q1⟩ => ⟨x, σ, H1, I1, r1, q1⟩)
def tIfS (c : TT) (t u : TS) : TS := fun D σ H => c σ H fun b H1 => if b = true then t D σ H1 else u D σ H1
theorem ps_if {c : Expr} {a b : List Stmt} {tc : TT} (hc : PT X c tc) (ha : PSs X a t) (hb : PSs X b u) : PS X (.If c a b pos) (tIfS tc t u) := by
  intro pins s σ H D I h
  refine wpAny_If (thn (hc pins s σ H _ I h) fun d s1 ⟨H1, I1, q1⟩ => ?_)
  cases d with
  | true => exact ha pins s1 σ H1 D I1 q1
  | false => exact hb pins s1 σ H1 D I1 q1
/-- code that the proof never comes to -/
def tNever : TS := fun _ _ _ => False
theorem ps_never : PS X st tNever := fun _ _ _ _ _ _ h => h.elim
theorem pss_never {sts : List Stmt} : PSs X sts tNever := fun _ _ _ _ _ _ h => h.elim
end
/-! ### targets -/
abbrev TG := V → St → Hp → (St → Hp → Prop) → Prop
abbrev TGs := List V → St → Hp → (St → Hp → Prop) → Prop
def PG (X : Cx) (target : Expr) (t : TG) : Prop :=
  ∀ (pins : List (Addr × Obj)) (s : Shared) (σ : St) (H : Hp) (v : V) (u : Value) (Q : St → Hp → Prop), Inv X pins σ H s → RelV v u → t v σ H Q →
    wpAny (model X.prog X.w) X.A (assign target X.env u) (fun _ s' => ∃ σ' H', Inv X pins σ' H' s' ∧ Q σ' H') X.xe s
/-- several targets, one after another -/
def PGs (X : Cx) (ts : List Expr) (t : TGs) : Prop :=
  ∀ (pins : List (Addr × Obj)) (s : Shared) (σ : St) (H : Hp) (vs : List V) (us : List Value) (Q : St → Hp → Prop), Inv X pins σ H s → Vals vs us → t vs σ H Q →
    wpAny (model X.prog X.w) X.A (assignInOrder ((assignEach ts X.env).map (·.2)) us) (fun _ s' => ∃ σ' H', Inv X pins σ' H' s' ∧ Q σ' H') X.xe s
section
variable {X : Cx} {pos : Pos}
def gName (i : Nat) : TG := fun v σ H Q => Q (σ.set i (some v)) H
theorem pg_name {i : Nat} {x : Str} (hN : X.N.Nodup) (hi : X.N[i]? = some x) (hx : Loc X.env.scope x) (hf : X.fn x = true ∨ X.env.scope.names.lookup x = some .local := by first | exact .inl rfl | exact .inr rfl | assumption) : PG X (.Name x pos) (gName i) := by
  intro pins s σ H v u Q I r h
  exact wpAny_assign_Name (store_ok I hN hi hx r (fun s' I' => ⟨_, H, I', h⟩) hf)
def gNil : TGs := fun vs σ H Q => vs = [] ∧ Q σ H
def gCons (t : TG) (u : TGs) : TGs := fun vs σ H Q => ∃ v r, vs = v :: r ∧ t v σ H fun σ' H' => u r σ' H' Q
theorem pgs_nil : PGs X [] gNil := by
  intro pins s σ H vs us Q I r h
  obtain ⟨e, h⟩ := h
  subst e
  cases r
  exact assignInOrder_nil ⟨σ, H, I, h⟩
theorem pgs_cons {e : Expr} {es : List Expr} {t : TG} {u : TGs} (h1 : PG X e t) (h2 : PGs X es u)
    (hs : (assignEach (e :: es) X.env).map (·.2) = assign e X.env :: (assignEach es X.env).map (·.2) := by rfl) : PGs X (e :: es) (gCons t u) := by
  intro pins s σ H vs us Q I r h
  obtain ⟨v, vr, e1, h⟩ := h
  subst e1
  cases r with
  | cons r rr =>
    rw [hs]
    refine assignInOrder_cons (thn (h1 pins s σ H _ _ _ I r h) fun _ s1 ⟨σ1, H1, I1, q1⟩ => ?_)
    exact h2 pins s1 σ1 H1 _ _ Q I1 rr q1
/-- (a, b, ..) = a tuple of that length -/
def gTup (K : PySem.W.Frag) (n : Nat) (t : TGs) : TG := fun v σ H Q => ∃ a xs, v = .ref a ∧ SqT K H a xs ∧ xs.length = n ∧ t xs σ H Q
theorem pg_tup {es : List Expr} {k : Nat} {t : TGs} {n : Nat} (hc : X.calm = true) (h : PGs X es t)
    (hn : (assignEach es X.env).length = n := by rfl) (hst : (assignEach es X.env).findIdx? (·.1) = none := by rfl) : PG X (.Tuple es k pos) (gTup X.K n t) := by
  intro pins s σ H v u Q I r hw
  obtain ⟨a, xs, e1, hq, hl, hw⟩ := hw
  subst e1
  cases r
  obtain ⟨its, rv, ht, hz⟩ := I.tuple hq
  refine assign_Tuple_tuple (I.ok.hd hc) ht (by simp [hn, ← hl, rv.length]) hst fun h' hx => ?_
  have I1 : Inv X pins σ H { s with heap := h' } := I.kept (t' := s.toks) fun b o e => hx b o (Nat.ne_of_lt (Heap.lt_size e)) e
  exact h pins _ σ H xs _ Q I1 (by simpa using rv) hw
/-- target = value -/
def tAsg (te : TE) (g : TG) : TS := fun D σ H => te σ H fun x H1 => g x σ H1 D.nx
/-- name = value -/
theorem ps_set {i : Nat} {x : Str} {e : Expr} {te : TE} {pos' : Pos} (hN : X.N.Nodup) (hi : X.N[i]? = some x) (hx : Loc X.env.scope x) (he : PE X e te) (hs : swapsWith e (some (.Name x pos')) pos.line X.env = pure false := by rfl) (hf : X.fn x = true ∨ X.env.scope.names.lookup x = some .local := by first | exact .inl rfl | exact .inr rfl | assumption) :
    PS X (.Assign [.Name x pos'] e pos) (tAsg te (gName i)) := by
  intro pins s σ H D I h
  refine wpAny_Assign_Name (thn (he pins s σ H _ I h) fun v s1 ⟨y, H1, I1, r1, q1⟩ => ?_) hs
  exact store_ok I1 hN hi hx r1 (fun s2 I2 => ⟨_, H1, I2, q1⟩) hf
end
/-! ### while -/
section
variable {X : Cx} {pos : Pos}
end
/-! ### what a loop or a comprehension walks -/
/-- at turn i: it yields x (the heap may grow), or it stops -/
structure It where
  go : Nat → Hp → Prop
  yld : Nat → Hp → V → Hp → Prop
  stop : Nat → Hp → Prop
/-- the iterator's own objects may turn: they are not the frame's, not pinned, younger than the entry (or a comprehension's own) -/
def FpOk (X : Cx) (pins : List (Addr × Obj)) (H : Hp) (b : Addr) : Prop :=
  H b = none ∧ b ≠ X.env.locals ∧ b ∉ X.fs ∧ (b ∈ X.ex ∨ X.s₀.heap.objs.size ≤ b) ∧ (∀ x c, X.env.cells.lookup x = some c → c ≠ b) ∧ ∀ p ∈ X.pn ++ pins, p.1 ≠ b
theorem Inv.fpOk {X : Cx} {pins : List (Addr × Obj)} {σ : St} {H H' : Hp} {s : Shared} {b : Addr} (I : Inv X pins σ H s) (hb : s.heap.objs.size ≤ b) (hn : H' b = none) : FpOk X pins H' b := by
  refine ⟨hn, Nat.ne_of_gt (Nat.lt_of_lt_of_le I.lt hb), I.nofs hb, .inr (Nat.le_trans I.sz hb), fun x c e z => ?_, fun p hp z => ?_⟩
  · obtain ⟨v, q⟩ := I.cell x c e
    exact absurd (Nat.lt_of_lt_of_le q.lt (by rw [z]; exact hb)) (Nat.lt_irrefl _)
  · exact absurd (Nat.lt_of_lt_of_le (Heap.lt_size (I.pin p hp).1) (by rw [z]; exact hb)) (Nat.lt_irrefl _)
structure Turn (P : Program) (w : World) (K : PySem.W.Frag) (tg : Expr) (J : It) (fp : List Addr) (it : Addr) (tn : Nat → Heap → Prop) : Prop where
  mem : it ∈ fp
  obj : ∀ i h, tn i h → ∀ b ∈ fp, ∃ o, h.get? b = some o ∧ ∀ v, o.data ≠ .cell v
  keep : ∀ i h h', tn i h → (∀ b ∈ fp, ∀ o, h.get? b = some o → h'.get? b = some o) → tn i h'
  item : ∀ (X : Cx), X.prog = P → X.w = w → X.K = K → X.calm = true → ∀ (i : Nat) (pins : List (Addr × Obj)) (s : Shared) (σ : St) (H : Hp) (E : Value → Shared → Prop), Inv X pins σ H s → (∀ b ∈ fp, FpOk X pins H b) → tn i s.heap → J.go i H →
    wpAny (model P w) X.A (pyNext (.ref it)) (fun r s1 => ∃ u, r = some u ∧
      wpAny (model P w) X.A (letOwnedTupleGo tg (.ref it) u) (fun _ s2 => ∃ x H', Inv X pins σ H' s2 ∧ RelV x u ∧ J.yld i H x H' ∧ tn (i + 1) s2.heap ∧ ∀ b ∈ fp, H' b = none) E s1) E s
  done : ∀ (X : Cx), X.prog = P → X.w = w → X.K = K → X.calm = true → ∀ (i : Nat) (pins : List (Addr × Obj)) (s : Shared) (σ : St) (H : Hp) (E : Value → Shared → Prop), Inv X pins σ H s → (∀ b ∈ fp, FpOk X pins H b) → tn i s.heap → J.stop i H →
    wpAny (model P w) X.A (pyNext (.ref it)) (fun r s1 => r = none ∧ Inv X pins σ H s1) E s
  self : ∀ (A : Around) (i : Nat) (s : Shared) (Q : Value → Shared → Prop) (E : Value → Shared → Prop), tn i s.heap → Q (.ref it) s → wpAny (model P w) A (pyIter (.ref it)) Q E s
abbrev TI := St → Hp → (It → Hp → Prop) → Prop
/-- an iterator has come -/
def PIE (X : Cx) (pins : List (Addr × Obj)) (σ : St) (tg : Expr) (R : It → Hp → Prop) (itv : Value) (s2 : Shared) : Prop :=
  ∃ (it : Addr) (fp : List Addr) (tn : Nat → Heap → Prop) (J : It) (H' : Hp), itv = .ref it ∧ Inv X pins σ H' s2 ∧ Turn X.prog X.w X.K tg J fp it tn ∧ tn 0 s2.heap ∧ (∀ b ∈ fp, FpOk X pins H' b) ∧ R J H'
def PI (X : Cx) (tg iter : Expr) (wi : TI) : Prop :=
  ∀ (pins : List (Addr × Obj)) (s : Shared) (σ : St) (H : Hp) (R : It → Hp → Prop), Inv X pins σ H s → wi σ H R →
    wpAny (model X.prog X.w) X.A (eval iter X.env) (fun v s1 => wpAny (model X.prog X.w) X.A (pyIter v) (PIE X pins σ tg R) X.xe s1) X.xe s
/-- the step ahead of the store is nothing for an iterator that keeps no tuple -/
theorem go_of {M : Model} {A : Around} {E : Value → Shared → Prop} {s : Shared} {tg : Expr} {it : Addr} {u : Value} {o : Obj} {n : String} {vs : Array Value} {Q : Unit → Shared → Prop} (ho : s.heap.get? it = some o) (hc : o.cls = .type n) (hd : o.data = .fields vs)
    (hn : ["enumerate", "zip", "dict_itemiterator", "dict_reverseitemiterator", "odict_iterator", "itertools.zip_longest", "itertools.pairwise"].contains n = false) (hQ : Q () s) : wpAny M A (letOwnedTupleGo tg (.ref it) u) Q E s := by
  unfold letOwnedTupleGo
  cases tg <;> first
    | exact wpAny_pure hQ
    | (cases u <;> first
        | exact wpAny_pure hQ
        | (refine wpAny_bind (wpAny_load ho ?_)
           rw [hc, hd]
           show wpAny M A (if (["enumerate", "zip", "dict_itemiterator", "dict_reverseitemiterator", "odict_iterator", "itertools.zip_longest", "itertools.pairwise"].contains n && vs[0]? == some (rawInt _)) = true then _ else _) Q E s
           rw [if_neg (by intro h; rw [hn, Bool.false_and] at h; cases h)]
           exact wpAny_pure hQ))
/-- the list at a, as it stands at each turn (a loop may append to it) -/
def Itl (K : PySem.W.Frag) (a : Addr) : It :=
  ⟨fun i H => ∃ xs x, SqL K H a xs ∧ xs[i]? = some x, fun i H x H' => H' = H ∧ ∀ xs, SqL K H a xs → xs[i]? = some x, fun i H => ∃ xs, SqL K H a xs ∧ xs.length ≤ i⟩
/-- lo, lo + 1, .. (n of them) -/
def Itr (lo : Int) (n : Nat) : It := ⟨fun i _ => i < n, fun i H x H' => H' = H ∧ x = .int (lo + i), fun i _ => n ≤ i⟩
theorem turn_list {P : Program} {w : World} {K : PySem.W.Frag} {tg : Expr} (a it : Addr) : Turn P w K tg (Itl K a) [it] it (fun i h => h.IsListIter it a i) where
  mem := by simp
  obj := fun i h st b hb => by
    have e : b = it := by simpa using hb
    subst e
    obtain ⟨o, e, c, d⟩ := st
    exact ⟨o, e, fun v z => by rw [d] at z; cases z⟩
  keep := fun i h h' st k => st.at fun o e => k it (by simp) o e
  item := by
    intro X hP hw hK hc i pins s σ H E I hf st hg
    subst hP hw hK
    obtain ⟨xs, x, hq, hx⟩ := hg
    obtain ⟨its, rv, p, hz⟩ := I.list hq
    obtain ⟨u, hu, ru⟩ := rv.get hx
    obtain ⟨f0, f1, f2, f3, f4, f5⟩ := hf it (by simp)
    refine wpAny_pyNext_list_item st p.isList (x := u) (by simpa using hu) fun h' st' sb => ?_
    have I1 : Inv X pins σ H { s with heap := h' } := I.turned (t' := s.toks) (fun b o hb e => (sb.2 b hb).trans e) f0 f1 f3 f4 f5
    obtain ⟨o, e, c, d⟩ := id st'
    exact ⟨u, rfl, go_of (s := { s with heap := h' }) e c d (by decide) ⟨x, H, I1, ru, ⟨rfl, fun ys hy => by rw [I.list_inj hy hq]; exact hx⟩, st', fun b hb => (hf b hb).1⟩⟩
  done := by
    intro X hP hw hK hc i pins s σ H E I hf st hg
    subst hP hw hK
    obtain ⟨xs, hq, hx⟩ := hg
    obtain ⟨its, rv, p, hz⟩ := I.list hq
    obtain ⟨f0, f1, f2, f3, f4, f5⟩ := hf it (by simp)
    have hl := rv.length
    exact wpAny_pyNext_list_end (I.ok.hd hc) st p.isList (by simp; omega) fun h' eb => ⟨rfl, I.turned (t' := s.toks) (fun b o hb e => eb b o hb e) f0 f1 f3 f4 f5⟩
  self := fun _ _ _ _ _ st h => wpAny_pyIter_listiter st h
theorem turn_range {P : Program} {w : World} {K : PySem.W.Frag} {tg : Expr} (it : Addr) (lo : Int) (n : Nat) : Turn P w K tg (Itr lo n) [it] it (fun i h => IsRangeIter h it (lo + (i : Nat) * 1) ((n : Int) - (i : Nat)) 1) where
  mem := by simp
  obj := fun i h st b hb => by
    have e : b = it := by simpa using hb
    subst e
    exact ⟨_, st, fun v z => by
      have z' : Data.fields _ = Data.cell v := z
      cases z'⟩
  keep := fun i h h' st k => k it (by simp) _ st
  item := by
    intro X hP hw hK hc i pins s σ H E I hf st hg
    subst hP hw hK
    obtain ⟨f0, f1, f2, f3, f4, f5⟩ := hf it (by simp)
    have W := Walks.range (prog := X.prog) (w := X.w) (I.ok.hd hc) it lo 1 n
    refine W.item i s _ _ hg st fun v h' tk hv st' kk => ?_
    obtain ⟨t, rfl⟩ := hv
    have I1 : Inv X pins σ H { s with heap := h', toks := tk } := I.turned (fun b o hb e => kk b o (by simpa using hb) e) f0 f1 f3 f4 f5
    refine ⟨_, rfl, go_of (s := { s with heap := h', toks := tk }) (n := "range_iterator") st' rfl rfl (by decide) ⟨.int (lo + i), H, I1, ⟨t, ?_⟩, ⟨rfl, rfl⟩, st', fun b hb => (hf b hb).1⟩⟩
    rw [Int.mul_one]
  done := by
    intro X hP hw hK hc i pins s σ H E I hf st hg
    subst hP hw hK
    obtain ⟨f0, f1, f2, f3, f4, f5⟩ := hf it (by simp)
    exact wpAny_pyNext_range_end (I.ok.hd hc) st (by have : n ≤ i := hg; omega) fun h' eb => ⟨rfl, I.turned (t' := s.toks) (fun b o hb e => eb b o hb e) f0 f1 f3 f4 f5⟩
  self := fun _ _ _ _ _ st h => wpAny_pyIter_rangeiter st h
end L2
namespace L2
open PySem PySem.Spec PyProof.Rows
section
variable {X : Cx} {tg : Expr}
def iList (K : PySem.W.Frag) (tl : TE) : TI := fun σ H R => tl σ H fun x H1 => ∃ a, x = .ref a ∧ (∃ xs, SqL K H1 a xs) ∧ R (Itl K a) H1
theorem pi_list {l : Expr} {tl : TE} (hl : PE X l tl) : PI X tg l (iList X.K tl) := by
  intro pins s σ H R I h
  refine thn (hl pins s σ H _ I h) fun v s1 ⟨x, H1, I1, r1, q1⟩ => ?_
  obtain ⟨a, e, ⟨xs, hq⟩, q⟩ := q1
  subst e
  cases r1
  obtain ⟨its, rv, p, hz⟩ := I1.list hq
  refine wpAny_pyIter_list p.isList ?_
  refine ⟨s1.heap.objs.size, [s1.heap.objs.size], _, _, H1, rfl, I1.kept (t' := s1.toks) fun b o e => Heap.get?_push_of_some _ e, turn_list a _, ⟨_, Heap.get?_push_size _ rfl, rfl, rfl⟩, fun b hb => ?_, q⟩
  have e : b = s1.heap.objs.size := by simpa using hb
  subst e
  exact I1.fpOk (Nat.le_refl _) (I1.hok.fresh (Nat.le_refl _))
/-- a range object just made, walked -/
theorem range_it {pins : List (Addr × Obj)} {σ : St} {H : Hp} {s : Shared} {R : It → Hp → Prop} {E : Value → Shared → Prop} {lo hi : Int} {t u v : Tok} {tk : Nat} (I : Inv X pins σ H s) (h1 : -(2 ^ 62) ≤ lo) (h2 : lo < 2 ^ 62) (h3 : -(2 ^ 62) ≤ hi) (h4 : hi < 2 ^ 62)
    (q : R (Itr lo (hi - lo).toNat) H) : wpAny (model X.prog X.w) X.A (pyIter (.ref s.heap.objs.size)) (PIE X pins σ tg R) E { s with heap := s.heap.push { cls := .type "range", data := .fields #[.int lo t, .int hi u, .int 1 v] }, toks := tk } := by
  refine wpAny_pyIter_range (IsRange.new ..) (small_one h1 h2 h3 h4) ?_
  have I1 : Inv X pins σ H { s with heap := s.heap.push { cls := .type "range", data := .fields #[.int lo t, .int hi u, .int 1 v] }, toks := tk } := I.kept fun b o e => Heap.get?_push_of_some _ e
  refine ⟨(s.heap.push { cls := .type "range", data := .fields #[.int lo t, .int hi u, .int 1 v] }).objs.size, [(s.heap.push { cls := .type "range", data := .fields #[.int lo t, .int hi u, .int 1 v] }).objs.size], _, _, H, rfl,
    I1.kept (t' := tk) fun b o e => Heap.get?_push_of_some _ e, turn_range _ lo (hi - lo).toNat, ?_, fun b hb => ?_, q⟩
  · have e1 : lo + ((0 : Nat) : Int) * 1 = lo := by simp
    have e2 : (((hi - lo).toNat : Nat) : Int) - ((0 : Nat) : Int) = Builtin.Range.rangeSize lo hi 1 := by rw [rangeSize_one]; split <;> omega
    show IsRangeIter _ _ (lo + ((0 : Nat) : Int) * 1) ((((hi - lo).toNat : Nat) : Int) - ((0 : Nat) : Int)) 1
    rw [e1, e2]
    exact Heap.get?_push_size _ rfl
  · have e : b = (s.heap.push { cls := .type "range", data := .fields #[.int lo t, .int hi u, .int 1 v] }).objs.size := by simpa using hb
    subst e
    exact I1.fpOk (Nat.le_refl _) (I1.hok.fresh (Nat.le_refl _))
def iRng1 (ta : TA) : TI := fun σ H R => ta σ H fun vs H1 => ∃ j : Int, vs = [.int j] ∧ -(2 ^ 62) ≤ j ∧ j < 2 ^ 62 ∧ R (Itr 0 j.toNat) H1
def iRng2 (ta : TA) : TI := fun σ H R => ta σ H fun vs H1 => ∃ i j : Int, vs = [.int i, .int j] ∧ (-(2 ^ 62) ≤ i ∧ i < 2 ^ 62 ∧ -(2 ^ 62) ≤ j ∧ j < 2 ^ 62) ∧ R (Itr i (j - i).toNat) H1
theorem pi_range1 {a : Expr} {ta : TA} {p pos : Pos} (hg : Gl X "range") (hm : X.mg "range" = none) (ha : PA X [a] ta) (hs : starEach [a] X.env = [(false, eval a X.env)] := by rfl) : PI X tg (.Call (.Name "range" p) [a] [] pos) (iRng1 ta) := by
  intro pins s σ H R I h
  refine Call_ (ld_blt I hg hm boot_range (PyProof.Rows.callWith_type1 (thn (ha pos pins s σ H _ I h) fun us s1 ⟨vs, H1, I1, r1, q1⟩ => ?_) hs rfl))
  obtain ⟨j, e, q1, q2, q⟩ := q1
  subst e
  cases r1 with
  | cons r rr =>
    cases rr
    obtain ⟨t, rfl⟩ := r
    exact call_range_1 (range_it I1 (by omega) (by omega) q1 q2 (by simpa using q))
theorem pi_range2 {a b : Expr} {ta : TA} {p pos : Pos} (hg : Gl X "range") (hm : X.mg "range" = none) (ha : PA X [a, b] ta) (hs : starEach [a, b] X.env = [(false, eval a X.env), (false, eval b X.env)] := by rfl) (hs2 : starEach [b] X.env = [(false, eval b X.env)] := by rfl) :
    PI X tg (.Call (.Name "range" p) [a, b] [] pos) (iRng2 ta) := by
  intro pins s σ H R I h
  refine Call_ (ld_blt I hg hm boot_range (PyProof.Rows.callWith_type1 (thn (ha pos pins s σ H _ I h) fun us s1 ⟨vs, H1, I1, r1, q1⟩ => ?_) (by rw [hs, hs2]) (by rw [hs2]; rfl)))
  obtain ⟨i, j, e, ⟨q1, q2, q3, q4⟩, q⟩ := q1
  subst e
  cases r1 with
  | cons r rr =>
    cases rr with
    | cons r' rr =>
      cases rr
      obtain ⟨t, rfl⟩ := r
      obtain ⟨t', rfl⟩ := r'
      exact call_range_2 (range_it I1 q1 q2 q3 q4 q)
/-! ### for -/
/-- W: the invariant by the turn and a measure; N: what the body is to reach -/
def tFor (wi : TI) (g : TG) (tb : TS) : TS := fun D σ H => wi σ H fun J H1 => ∃ W : Nat → Nat → St → Hp → Prop, (∃ m, W 0 m σ H1) ∧ ∀ i m σ H, W i m σ H →
  (J.stop i H ∧ D.nx σ H) ∨ (J.go i H ∧ ∃ N : St → Hp → Prop, (∀ σ' H', N σ' H' → ∃ m', m' < m ∧ W (i + 1) m' σ' H') ∧ ∀ x H', J.yld i H x H' → g x σ H' fun σ2 H2 => tb { D with nx := N, ct := N, bk := D.nx } σ2 H2)
/-- the records at fp as they stand -/
def pinsAt (fp : List Addr) (h : Heap) : List (Addr × Obj) := fp.filterMap fun b => (h.get? b).map fun o => (b, o)
theorem mem_pinsAt {fp : List Addr} {h : Heap} {b : Addr} {o : Obj} (hb : b ∈ fp) (e : h.get? b = some o) : (b, o) ∈ pinsAt fp h := List.mem_filterMap.mpr ⟨b, hb, by rw [e]; rfl⟩
theorem of_pinsAt {fp : List Addr} {h : Heap} {p : Addr × Obj} (hp : p ∈ pinsAt fp h) : p.1 ∈ fp ∧ h.get? p.1 = some p.2 := by
  obtain ⟨b, hb, e⟩ := List.mem_filterMap.mp hp
  cases q : h.get? b with
  | none => rw [q] at e; cases e
  | some o =>
    rw [q] at e
    have e' : (b, o) = p := Option.some.inj e
    subst e'
    exact ⟨hb, q⟩
theorem Inv.pinned {pins : List (Addr × Obj)} {σ : St} {H : Hp} {s : Shared} {fp : List Addr} (I : Inv X pins σ H s) (hf : ∀ b ∈ fp, FpOk X pins H b) (ho : ∀ b ∈ fp, ∃ o, s.heap.get? b = some o ∧ ∀ v, o.data ≠ .cell v) : Inv X (pins ++ pinsAt fp s.heap) σ H s :=
  I.pins_of fun p hp => (List.mem_append.mp hp).elim (fun z => I.pin p (List.mem_append_right _ z)) fun z => by
    obtain ⟨hb, e⟩ := of_pinsAt z
    obtain ⟨f0, f1, f2, _⟩ := hf p.1 hb
    obtain ⟨o, e', d⟩ := ho p.1 hb
    rw [e] at e'; cases e'
    exact ⟨e, f0, f1, f2, d⟩
theorem Inv.unpinned {pins pl : List (Addr × Obj)} {σ : St} {H : Hp} {s : Shared} (I : Inv X (pins ++ pl) σ H s) : Inv X pins σ H s := I.pins_of fun p hp => I.pin p (List.mem_append_right _ (List.mem_append_left _ hp))
theorem ps_for {iter : Expr} {body : List Stmt} {wi : TI} {g : TG} {tb : TS} {pos : Pos} (hp : PassesOwn (model X.prog X.w) X.A X.env X.xe) (hc : X.calm = true) (hi : PI X tg iter wi) (hg : PG X tg g) (hb : PSs X body tb)
    (hs : ∀ x, foldedSetIterable iter X.env x = pure x := by intro _; rfl) : PS X (.For tg iter body [] pos) (tFor wi g tb) := by
  intro pins s σ H D I h
  refine wpAny_For (thn (hi pins s σ H _ I h) fun v s1 h1 => thn h1 fun itv s2 h2 => ?_) hs
  obtain ⟨it, fp, tn, J, H2, e, I2, T, st2, f2, W, ⟨m0, w0⟩, turn⟩ := h2
  subst e
  -- what stays true of the iterator's objects through the loop
  have stat : ∀ {H' : Hp}, (∀ b ∈ fp, H' b = none) → ∀ b ∈ fp, FpOk X pins H' b := fun hn b hb => ⟨hn b hb, (f2 b hb).2⟩
  refine codeAny_forLoop_any (fun n s' => ∃ i σ' H', Inv X pins σ' H' s' ∧ tn i s'.heap ∧ (∀ b ∈ fp, H' b = none) ∧ W i n σ' H') ?_ m0 ⟨0, σ, H2, I2, st2, fun b hb => (f2 b hb).1, w0⟩
  rintro n s3 ⟨i, σ3, H3, I3, st3, fr3, w3⟩
  rcases turn i n σ3 H3 w3 with ⟨stop, qn⟩ | ⟨go, N, hN, step⟩
  · refine wpAny_passesOwn hp (thn (T.done X rfl rfl rfl hc i pins s3 σ3 H3 X.xe I3 (stat fr3) st3 stop) fun r s4 ⟨hr, I4⟩ => ?_)
    subst hr
    exact wpAny_execs_nil ⟨σ3, H3, I4, qn⟩
  · refine wpAny_passesOwn hp (thn (T.item X rfl rfl rfl hc i pins s3 σ3 H3 X.xe I3 (stat fr3) st3 go) fun r s4 ⟨u, hr, h4⟩ => ?_)
    subst hr
    refine wpAny_passesOwn hp (thn h4 fun _ s5 ⟨x, H5, I5, r5, y5, st5, fr5⟩ => ?_)
    have I5' := I5.pinned (stat fr5) (T.obj _ _ st5)
    refine wpAny_passesOwn hp (thn (hg _ s5 σ3 H5 x u _ I5' r5 (step x H5 y5)) fun _ s6 ⟨σ6, H6, I6, q6⟩ => ?_)
    refine wpAny_passesOwn hp (thn (hb _ s6 σ6 H6 _ I6 q6) fun f s7 q7 => ?_)
    have again : ∀ {σ7 : St} {H7 : Hp}, Inv X (pins ++ pinsAt fp s5.heap) σ7 H7 s7 → N σ7 H7 → ∃ m, m < n ∧ ∃ i σ' H', Inv X pins σ' H' s7 ∧ tn i s7.heap ∧ (∀ b ∈ fp, H' b = none) ∧ W i m σ' H' := fun {σ7 H7} I7 n7 => by
      obtain ⟨m', hm, w7⟩ := hN σ7 H7 n7
      refine ⟨m', hm, i + 1, σ7, H7, I7.unpinned, T.keep _ _ _ st5 fun b hb o e => (I7.pin (b, o) (List.mem_append_right _ (List.mem_append_right _ (mem_pinsAt hb e)))).1, fun b hb => ?_, w7⟩
      obtain ⟨o, e, d⟩ := T.obj _ _ st5 b hb
      exact (I7.pin (b, o) (List.mem_append_right _ (List.mem_append_right _ (mem_pinsAt hb e)))).2.1
    cases f with
    | next => obtain ⟨σ7, H7, I7, n7⟩ := q7; exact again I7 n7
    | cont => obtain ⟨σ7, H7, I7, n7⟩ := q7; exact again I7 n7
    | brk => obtain ⟨σ7, H7, I7, q7⟩ := q7; exact ⟨σ7, H7, I7.unpinned, q7⟩
    | ret v => obtain ⟨x7, σ7, H7, I7, r7, q7⟩ := q7; exact ⟨x7, σ7, H7, I7.unpinned, r7, q7⟩
end
/-! ### the forms one uses -/
/-- over a list that the body leaves as it is -/
theorem for_list {K : PySem.W.Frag} {a : Addr} {xs : List V} {g : TG} {tb : TS} {D : Ends} {σ : St} {H : Hp} (Pv : Nat → St → Hp → Prop) (h0 : Pv 0 σ H) (hl : ∀ i σ H, i ≤ xs.length → Pv i σ H → SqL K H a xs)
    (hs : ∀ i x σ H, xs[i]? = some x → Pv i σ H → g x σ H fun σ2 H2 => tb { D with nx := Pv (i + 1), ct := Pv (i + 1), bk := D.nx } σ2 H2) (hd : ∀ σ H, Pv xs.length σ H → D.nx σ H) :
    ∃ W : Nat → Nat → St → Hp → Prop, (∃ m, W 0 m σ H) ∧ ∀ i m σ H, W i m σ H →
      ((Itl K a).stop i H ∧ D.nx σ H) ∨ ((Itl K a).go i H ∧ ∃ N : St → Hp → Prop, (∀ σ' H', N σ' H' → ∃ m', m' < m ∧ W (i + 1) m' σ' H') ∧ ∀ x H', (Itl K a).yld i H x H' → g x σ H' fun σ2 H2 => tb { D with nx := N, ct := N, bk := D.nx } σ2 H2) := by
  refine ⟨fun i m σ H => m = xs.length - i ∧ i ≤ xs.length ∧ Pv i σ H, ⟨xs.length, by simp, Nat.zero_le _, h0⟩, ?_⟩
  rintro i m σ H ⟨rfl, hi, p⟩
  have q := hl i σ H hi p
  by_cases hlt : i < xs.length
  · refine .inr ⟨⟨xs, xs[i], q, by simp [hlt]⟩, Pv (i + 1), fun σ' H' p' => ⟨xs.length - (i + 1), by omega, rfl, hlt, p'⟩, fun x H' y => ?_⟩
    obtain ⟨e, y⟩ := y
    subst e
    exact hs i x σ _ (y xs q) p
  · have e : i = xs.length := by omega
    subst e
    exact .inl ⟨⟨xs, q, Nat.le_refl _⟩, hd σ H p⟩
theorem for_range {lo : Int} {n : Nat} {g : TG} {tb : TS} {D : Ends} {σ : St} {H : Hp} (Pv : Nat → St → Hp → Prop) (h0 : Pv 0 σ H)
    (hs : ∀ i σ H, i < n → Pv i σ H → g (.int (lo + i)) σ H fun σ2 H2 => tb { D with nx := Pv (i + 1), ct := Pv (i + 1), bk := D.nx } σ2 H2) (hd : ∀ σ H, Pv n σ H → D.nx σ H) :
    ∃ W : Nat → Nat → St → Hp → Prop, (∃ m, W 0 m σ H) ∧ ∀ i m σ H, W i m σ H →
      ((Itr lo n).stop i H ∧ D.nx σ H) ∨ ((Itr lo n).go i H ∧ ∃ N : St → Hp → Prop, (∀ σ' H', N σ' H' → ∃ m', m' < m ∧ W (i + 1) m' σ' H') ∧ ∀ x H', (Itr lo n).yld i H x H' → g x σ H' fun σ2 H2 => tb { D with nx := N, ct := N, bk := D.nx } σ2 H2) := by
  refine ⟨fun i m σ H => m = n - i ∧ i ≤ n ∧ Pv i σ H, ⟨n, by simp, Nat.zero_le _, h0⟩, ?_⟩
  rintro i m σ H ⟨rfl, hi, p⟩
  by_cases hlt : i < n
  · refine .inr ⟨hlt, Pv (i + 1), fun σ' H' p' => ⟨n - (i + 1), by omega, rfl, hlt, p'⟩, fun x H' y => ?_⟩
    obtain ⟨e, y⟩ := y
    subst e y
    exact hs i σ _ hlt p
  · have e : i = n := by omega
    subst e
    exact .inl ⟨Nat.le_refl _, hd σ H p⟩
end L2
namespace L2
open PySem PySem.Spec PyProof.Rows
abbrev R2 := V → V → Hp → VK → Prop
/-- a two-place operation on values: f is binaryOp op, inplaceOp op or compareOp op -/
def OpR (X : Cx) (f : Value → Value → Sem Value) (r : R2) : Prop :=
  ∀ (pins : List (Addr × Obj)) (s : Shared) (σ : St) (H : Hp) (x y : V) (v u : Value) (Q : VK), Inv X pins σ H s → RelV x v → RelV y u → r x y H Q →
    wpAny (model X.prog X.w) X.A (f v u) (EP X pins σ Q) X.xe s
/-- a one-place operation -/
def UnR (X : Cx) (f : Value → Sem Value) (r : V → Hp → VK → Prop) : Prop :=
  ∀ (pins : List (Addr × Obj)) (s : Shared) (σ : St) (H : Hp) (x : V) (v : Value) (Q : VK), Inv X pins σ H s → RelV x v → r x H Q →
    wpAny (model X.prog X.w) X.A (f v) (EP X pins σ Q) X.xe s
/-- a call of a value that is known (a builtin, a type) with values -/
def CallR (X : Cx) (f : Value) (r : List V → Hp → VK → Prop) : Prop :=
  ∀ (pins : List (Addr × Obj)) (s : Shared) (σ : St) (H : Hp) (xs : List V) (us : List Value) (Q : VK), Inv X pins σ H s → Vals xs us → r xs H Q →
    wpAny (model X.prog X.w) X.A (call f us) (EP X pins σ Q) X.xe s
def tOp (r : R2) (ta tb : TE) : TE := fun σ H Q => ta σ H fun x H1 => tb σ H1 fun y H2 => r x y H2 Q
def tUn (r : V → Hp → VK → Prop) (ta : TE) : TE := fun σ H Q => ta σ H fun x H1 => r x H1 Q
/-- ints in, under C, and a value out -/
def rI (C : Int → Int → Prop) (g : Int → Int → V) : R2 := fun x y H Q => ∃ i j, x = .int i ∧ y = .int j ∧ C i j ∧ Q (g i j) H
def rI0 (g : Int → Int → V) : R2 := fun x y H Q => ∃ i j, x = .int i ∧ y = .int j ∧ Q (g i j) H
def rU (g : Int → V) : V → Hp → VK → Prop := fun x H Q => ∃ i, x = .int i ∧ Q (g i) H
section
variable {X : Cx} {a b c : Expr} {ta tb tc : TE} {pos : Pos}
theorem binT (ha : PE X a ta) (hb : PE X b tb) {pins : List (Addr × Obj)} {s : Shared} {σ : St} {H : Hp} {R : V → V → Hp → Prop} (I : Inv X pins σ H s)
    (h : ta σ H fun x H1 => tb σ H1 fun y H2 => R x y H2) {Q : Value → Shared → Prop} {f : Value → Value → Sem Value}
    (hf : ∀ v u s2 x y H2, Inv X pins σ H2 s2 → RelV x v → RelV y u → R x y H2 → wpAny (model X.prog X.w) X.A (f v u) Q X.xe s2) :
    wpAny (model X.prog X.w) X.A (eval a X.env) (fun v s₁ => wpAny (model X.prog X.w) X.A (eval b X.env) (fun u s₂ => wpAny (model X.prog X.w) X.A (f v u) Q X.xe s₂) X.xe s₁) X.xe s := by
  refine thn (ha pins s σ H _ I h) fun v s1 ⟨x, H1, I1, r1, q1⟩ => ?_
  refine thn (hb pins s1 σ H1 _ I1 q1) fun u s2 ⟨y, H2, I2, r2, q2⟩ => ?_
  exact hf v u s2 x y H2 I2 r1 r2 q2
theorem pe_op {op : Operator} {r : R2} (ho : OpR X (binaryOp op) r) (ha : PE X a ta) (hb : PE X b tb) : PE X (.BinOp a op b pos) (tOp r ta tb) := by
  intro pins s σ H Q I h
  exact wpAny_BinOp (binT ha hb I h fun v u s2 x y H2 I2 rx ry q => ho pins s2 σ H2 x y v u Q I2 rx ry q)
theorem pe_un {op : UnaryOp} {r : V → Hp → VK → Prop} (ho : UnR X (unaryOp op) r) (ha : PE X a ta) : PE X (.UnaryOp op a pos) (tUn r ta) := by
  intro pins s σ H Q I h
  exact UnaryOp_ (thn (ha pins s σ H _ I h) fun v s1 ⟨x, H1, I1, r1, q1⟩ => ho pins s1 σ H1 x v Q I1 r1 q1)
/-! ### ints -/
theorem opI {f : Value → Value → Sem Value} {C : Int → Int → Prop} {g : Int → Int → Int}
    (rule : ∀ (i j : Int) (t u : Tok) (s : Shared) (Q : Value → Shared → Prop) (E : Value → Shared → Prop), C i j → Q (.int (g i j) s.toks) { s with toks := s.toks + 1 } → wpAny (model X.prog X.w) X.A (f (.int i t) (.int j u)) Q E s) :
    OpR X f (rI C fun i j => .int (g i j)) := by
  intro pins s σ H x y v u Q I rx ry h
  obtain ⟨i, j, rfl, rfl, hc, q⟩ := h
  obtain ⟨t, rfl⟩ := rx
  obtain ⟨t', rfl⟩ := ry
  exact rule i j t t' s _ _ hc ⟨.int (g i j), H, I.tok _, ⟨_, rfl⟩, q⟩
theorem opI0 {f : Value → Value → Sem Value} {g : Int → Int → Int}
    (rule : ∀ (i j : Int) (t u : Tok) (s : Shared) (Q : Value → Shared → Prop) (E : Value → Shared → Prop), Q (.int (g i j) s.toks) { s with toks := s.toks + 1 } → wpAny (model X.prog X.w) X.A (f (.int i t) (.int j u)) Q E s) :
    OpR X f (rI0 fun i j => .int (g i j)) := by
  intro pins s σ H x y v u Q I rx ry h
  obtain ⟨i, j, rfl, rfl, q⟩ := h
  obtain ⟨t, rfl⟩ := rx
  obtain ⟨t', rfl⟩ := ry
  exact rule i j t t' s _ _ ⟨.int (g i j), H, I.tok _, ⟨_, rfl⟩, q⟩
theorem opB0 {f : Value → Value → Sem Value} {g : Int → Int → Bool}
    (rule : ∀ (i j : Int) (t u : Tok) (s : Shared) (Q : Value → Shared → Prop) (E : Value → Shared → Prop), Q (.bool (g i j)) s → wpAny (model X.prog X.w) X.A (f (.int i t) (.int j u)) Q E s) :
    OpR X f (rI0 fun i j => .bl (g i j)) := by
  intro pins s σ H x y v u Q I rx ry h
  obtain ⟨i, j, rfl, rfl, q⟩ := h
  obtain ⟨t, rfl⟩ := rx
  obtain ⟨t', rfl⟩ := ry
  exact rule i j t t' s _ _ ⟨.bl (g i j), H, I, rfl, q⟩
def CDiv (i j : Int) : Prop := 0 < j ∧ j < 1073741824
def CPow (i j : Int) : Prop := 0 ≤ j ∧ j ≤ 1000000 ∧ i.natAbs < 2 ^ 64
def CMul (i j : Int) : Prop := (-(2 ^ 64) < i ∧ i < 2 ^ 64) ∨ (-(2 ^ 64) < j ∧ j < 2 ^ 64)
theorem CMul.ok {i j : Int} (h : CMul i j) : IntMulOk i j := by
  rcases h with ⟨h1, h2⟩ | ⟨h1, h2⟩
  · exact .of_left (intBits_le_64 h1 h2)
  · exact .of_right (intBits_le_64 h1 h2)
theorem op_add : OpR X (binaryOp .Add) (rI0 fun i j => .int (i + j)) := opI0 fun _ _ _ _ _ _ _ q => add_int q
theorem op_sub : OpR X (binaryOp .Sub) (rI0 fun i j => .int (i - j)) := opI0 fun _ _ _ _ _ _ _ q => sub_int q
theorem op_mul : OpR X (binaryOp .Mult) (rI CMul fun i j => .int (i * j)) := opI fun _ _ _ _ _ _ _ hc q => mul_int q hc.ok
/-- // by a positive divisor -/
theorem op_fdiv : OpR X (binaryOp .FloorDiv) (rI CDiv fun i j => .int (i / j)) := opI fun i j _ _ _ _ _ hc q => by
  have h1 : (0 : Int) < j := hc.1
  have h2 : j < 1073741824 := hc.2
  exact floordiv_int (by omega) (by rw [Int.fdiv_eq_ediv_of_nonneg i (by omega)]; exact q) (.inl (PyProof.noPylong_small (by omega)))
/-- % by a positive divisor of any size -/
theorem op_mod : OpR X (binaryOp .Mod) (rI (fun _ j => 0 < j) fun i j => .int (i % j)) := opI fun i j _ _ _ _ _ hc q => by
  have h1 : (0 : Int) < j := hc
  exact mod_int' (by omega) (by rw [Int.fmod_eq_emod_of_nonneg i (by omega)]; exact q)
theorem op_pow : OpR X (binaryOp .Pow) (rI CPow fun i j => .int (i ^ j.toNat)) := opI fun _ _ _ _ _ _ _ hc q => pow_int_small hc.1 hc.2.1 hc.2.2 q
theorem unI {f : Value → Sem Value} {g : Int → Int}
    (rule : ∀ (i : Int) (t : Tok) (s : Shared) (Q : Value → Shared → Prop) (E : Value → Shared → Prop), Q (.int (g i) s.toks) { s with toks := s.toks + 1 } → wpAny (model X.prog X.w) X.A (f (.int i t)) Q E s) :
    UnR X f (rU fun i => .int (g i)) := by
  intro pins s σ H x v Q I rx h
  obtain ⟨i, rfl, q⟩ := h
  obtain ⟨t, rfl⟩ := rx
  exact rule i t s _ _ ⟨.int (g i), H, I.tok _, ⟨_, rfl⟩, q⟩
theorem un_neg : UnR X (unaryOp .USub) (rU fun i => .int (-i)) := unI fun _ _ _ _ _ q => neg_int q
/-! ### bools among ints: n += (a < b) -/
end
/-! ### comparisons -/
/-- the scalars that == tells apart as data does -/
def scal : V → V → Bool
  | .non, .non => true | .non, .int _ => true | .int _, .non => true | .non, .bl _ => true | .bl _, .non => true | .non, .str _ => true | .str _, .non => true
  | .int _, .int _ => true | .bl _, .bl _ => true | .str _, .str _ => true | .byt _, .byt _ => true
  | .int _, .str _ => true | .str _, .int _ => true | .bl _, .str _ => true | .str _, .bl _ => true
  | _, _ => false
def rEq : R2 := fun x y H Q => scal x y = true ∧ Q (.bl (decide (x = y))) H
def rNe : R2 := fun x y H Q => scal x y = true ∧ Q (.bl (!decide (x = y))) H
theorem dec_int {i j : Int} : decide (V.int i = V.int j) = (i == j) := by
  rw [Bool.eq_iff_iff]
  simp
theorem dec_bl {i j : Bool} : decide (V.bl i = V.bl j) = (i == j) := by
  rw [Bool.eq_iff_iff]
  simp
theorem dec_str {i j : Str} : decide (V.str i = V.str j) = (i == j) := by
  rw [Bool.eq_iff_iff]
  simp
theorem dec_byt {i j : Array UInt8} : decide (V.byt i = V.byt j) = (i.toList == j.toList) := by
  rw [Bool.eq_iff_iff]
  cases i
  cases j
  simp
section
variable {X : Cx} {a b c : Expr} {ta tb tc : TE} {pos : Pos}
theorem fin_bl {pins : List (Addr × Obj)} {σ : St} {H : Hp} {s : Shared} {Q : VK} {k k' : Bool} (I : Inv X pins σ H s) (q : Q (.bl k) H) (e : k = k') : EP X pins σ Q (.bool k') s := by
  subst e
  exact ⟨.bl k, H, I, rfl, q⟩
theorem op_eq : OpR X (compareOp .Eq) rEq := by
  intro pins s σ H x y v u Q I rx ry h
  obtain ⟨hs, q⟩ := h
  cases x with
  | non =>
    cases rx
    cases y with
    | non => cases ry; exact PySem.EqNone.eq_none_none (fin_bl I q (by simp))
    | bl j => cases ry; exact PySem.EqNone.eq_none_bool (fin_bl I q (by simp))
    | int j => obtain ⟨t', rfl⟩ := ry; exact PySem.EqNone.eq_none_int (fin_bl I q (by simp))
    | str j => obtain ⟨t', rfl⟩ := ry; exact PySem.EqNone.eq_none_str (fin_bl I q (by simp))
    | _ => exact absurd (show false = true from hs) Bool.false_ne_true
  | bl i =>
    cases rx
    cases y with
    | non => cases ry; exact PySem.EqNone.eq_bool_none (fin_bl I q (by simp))
    | bl j => cases ry; exact eq_bool (fin_bl I q dec_bl)
    | str j => obtain ⟨t', rfl⟩ := ry; exact PySem.EqMixed.eq_bool_str (fin_bl I q (by simp))
    | _ => exact absurd (show false = true from hs) Bool.false_ne_true
  | int i =>
    obtain ⟨t, rfl⟩ := rx
    cases y with
    | non => cases ry; exact PySem.EqNone.eq_int_none (fin_bl I q (by simp))
    | int j => obtain ⟨t', rfl⟩ := ry; exact eq_int (fin_bl I q dec_int)
    | str j => obtain ⟨t', rfl⟩ := ry; exact PySem.EqMixed.eq_int_str (fin_bl I q (by simp))
    | _ => exact absurd (show false = true from hs) Bool.false_ne_true
  | str i =>
    obtain ⟨t, rfl⟩ := rx
    cases y with
    | non => cases ry; exact PySem.EqNone.eq_str_none (fin_bl I q (by simp))
    | bl j => cases ry; exact PySem.EqMixed.eq_str_bool (fin_bl I q (by simp))
    | int j => obtain ⟨t', rfl⟩ := ry; exact PySem.EqMixed.eq_str_int (fin_bl I q (by simp))
    | str j => obtain ⟨t', rfl⟩ := ry; exact eq_str (fin_bl I q dec_str)
    | _ => exact absurd (show false = true from hs) Bool.false_ne_true
  | byt i =>
    obtain ⟨t, rfl⟩ := rx
    cases y with
    | byt j => obtain ⟨t', rfl⟩ := ry; exact PySem.W.eq_bytes (fin_bl I q dec_byt)
    | _ => exact absurd (show false = true from hs) Bool.false_ne_true
  | _ => cases y <;> exact absurd (show false = true from hs) Bool.false_ne_true
theorem op_ne : OpR X (compareOp .NotEq) rNe := by
  intro pins s σ H x y v u Q I rx ry h
  obtain ⟨hs, q⟩ := h
  cases x with
  | non =>
    cases rx
    cases y with
    | non => cases ry; exact PySem.EqNone.ne_none_none (fin_bl I q (by simp))
    | bl j => cases ry; exact PySem.EqNone.ne_none_bool (fin_bl I q (by simp))
    | int j => obtain ⟨t', rfl⟩ := ry; exact PySem.EqNone.ne_none_int (fin_bl I q (by simp))
    | str j => obtain ⟨t', rfl⟩ := ry; exact PySem.EqNone.ne_none_str (fin_bl I q (by simp))
    | _ => exact absurd (show false = true from hs) Bool.false_ne_true
  | bl i =>
    cases rx
    cases y with
    | non => cases ry; exact PySem.EqNone.ne_bool_none (fin_bl I q (by simp))
    | bl j => cases ry; exact ne_bool (fin_bl I q (congrArg not dec_bl))
    | str j => obtain ⟨t', rfl⟩ := ry; exact PySem.EqMixed.ne_bool_str (fin_bl I q (by simp))
    | _ => exact absurd (show false = true from hs) Bool.false_ne_true
  | int i =>
    obtain ⟨t, rfl⟩ := rx
    cases y with
    | non => cases ry; exact PySem.EqNone.ne_int_none (fin_bl I q (by simp))
    | int j => obtain ⟨t', rfl⟩ := ry; exact ne_int (fin_bl I q (congrArg not dec_int))
    | str j => obtain ⟨t', rfl⟩ := ry; exact PySem.EqMixed.ne_int_str (fin_bl I q (by simp))
    | _ => exact absurd (show false = true from hs) Bool.false_ne_true
  | str i =>
    obtain ⟨t, rfl⟩ := rx
    cases y with
    | non => cases ry; exact PySem.EqNone.ne_str_none (fin_bl I q (by simp))
    | bl j => cases ry; exact PySem.EqMixed.ne_str_bool (fin_bl I q (by simp))
    | int j => obtain ⟨t', rfl⟩ := ry; exact PySem.EqMixed.ne_str_int (fin_bl I q (by simp))
    | str j => obtain ⟨t', rfl⟩ := ry; exact ne_str (fin_bl I q (congrArg not dec_str))
    | _ => exact absurd (show false = true from hs) Bool.false_ne_true
  | byt i =>
    obtain ⟨t, rfl⟩ := rx
    cases y with
    | byt j => obtain ⟨t', rfl⟩ := ry; exact PySem.W.ne_bytes (fin_bl I q (congrArg not dec_byt))
    | _ => exact absurd (show false = true from hs) Bool.false_ne_true
  | _ => cases y <;> exact absurd (show false = true from hs) Bool.false_ne_true
theorem op_lt : OpR X (compareOp .Lt) (rI0 fun i j => .bl (decide (i < j))) := opB0 fun _ _ _ _ _ _ _ q => lt_int q
theorem op_le : OpR X (compareOp .LtE) (rI0 fun i j => .bl (decide (i ≤ j))) := opB0 fun _ _ _ _ _ _ _ q => le_int q
theorem op_gt : OpR X (compareOp .Gt) (rI0 fun i j => .bl (decide (j < i))) := opB0 fun _ _ _ _ _ _ _ q => gt_int q
theorem op_ge : OpR X (compareOp .GtE) (rI0 fun i j => .bl (decide (j ≤ i))) := opB0 fun _ _ _ _ _ _ _ q => ge_int q
theorem nomark (b : Expr) {op : CmpOp} (h : op ≠ .In := by decide) (h2 : op ≠ .NotIn := by decide) : behindInMarks op b = false := by
  have e1 : (op == CmpOp.In) = false := by cases op <;> first | rfl | exact absurd rfl h
  have e2 : (op == CmpOp.NotIn) = false := by cases op <;> first | rfl | exact absurd rfl h2
  cases b <;> simp [behindInMarks, e1, e2]
/-- a reading of a value as a test -/
def tTest (t : TE) : TT := fun σ H Q => t σ H fun x H' => ∃ k, x = .bl k ∧ Q k H'
theorem pt_cmpR {op : CmpOp} {r : R2} (ho : OpR X (compareOp op) r) (ha : PE X a ta) (hb : PE X b tb) (hm : behindInMarks op b = false) : PT X (.Compare a [op] [b] pos) (tTest (tOp r ta tb)) := by
  intro pins s σ H Q I h
  refine wpAny_isTrue_Compare1 (thn (ha pins s σ H _ I h) fun v s1 ⟨x, H1, I1, r1, q1⟩ => thn (hb pins s1 σ H1 _ I1 q1) fun u s2 ⟨y, H2, I2, r2, q2⟩ =>
    thn (ho pins s2 σ H2 x y v u _ I2 r1 r2 q2) fun c s3 ⟨z, H3, I3, r3, k, e, q3⟩ => ?_) hm
  subst e
  cases r3
  exact wpAny_truthy_bool ⟨H3, I3, q3⟩
/-- a op1 b op2 c -/
def tChain (r r' : R2) (ta tb tc : TE) : TE := fun σ H Q => ta σ H fun x H1 => tb σ H1 fun y H2 => r x y H2 fun z H3 => ∃ k, z = .bl k ∧
  (if k = true then tc σ H3 fun w' H4 => r' y w' H4 Q else Q (.bl false) H3)
theorem pt_chain {op op' : CmpOp} {r r' : R2} (ho : OpR X (compareOp op) r) (ho' : OpR X (compareOp op') r') (ha : PE X a ta) (hb : PE X b tb) (hc : PE X c tc)
    (hm : lastMarks [op, op'] [b, c] = false := by with_unfolding_all rfl) : PT X (.Compare a [op, op'] [b, c] pos) (tTest (tChain r r' ta tb tc)) := by
  intro pins s σ H Q I h
  refine isTrue_chain (thn (ha pins s σ H _ I h) fun v s1 ⟨x, H1, I1, r1, q1⟩ => test_link (thn (hb pins s1 σ H1 _ I1 q1) fun u s2 ⟨y, H2, I2, r2, q2⟩ =>
    thn (ho pins s2 σ H2 x y v u _ I2 r1 r2 q2) fun d s3 ⟨z, H3, I3, r3, k, e, q3⟩ => ?_)) hm
  subst e
  cases r3
  refine wpAny_truthy_bool ?_
  cases k with
  | false =>
    obtain ⟨k', e', q'⟩ := q3
    cases e'
    exact ite_ff ⟨H3, I3, q'⟩
  | true =>
    refine ite_tt (test_last (thn (hc pins s3 σ H3 _ I3 q3) fun w' s4 ⟨z', H4, I4, r4, q4⟩ => thn (ho' pins s4 σ H4 y z' u w' _ I4 r2 r4 q4) fun d' s5 ⟨z2, H5, I5, r5, k2, e2, q5⟩ => ?_))
    subst e2
    cases r5
    exact wpAny_truthy_bool ⟨H5, I5, q5⟩
/-! ### truth -/
theorem line63 : (sizeLine : Nat) < 2 ^ 63 := by rw [sizeLine_eq]; decide
/-! ### strs and bytes -/
/-! ### scalar builtins, by CallR -/
theorem vals1 {x : V} {us : List Value} (r : Vals [x] us) : ∃ u, us = [u] ∧ RelV x u := by
  cases r with
  | cons r1 r2 => cases r2; exact ⟨_, rfl, r1⟩
theorem vals2 {x y : V} {us : List Value} (r : Vals [x, y] us) : ∃ u w', us = [u, w'] ∧ RelV x u ∧ RelV y w' := by
  cases r with
  | cons r1 r2 =>
    cases r2 with
    | cons r3 r4 => cases r4; exact ⟨_, _, rfl, r1, r3⟩
end
end L2
namespace L2
open PySem PySem.Spec PyProof.Rows
/-! ### an instance, its attributes a map -/
structure ObjM (h : Heap) (x dx C : Addr) (mA : Str → Option Value) : Prop where
  obj : h.get? x = some (PySem.W.instObj C dx)
  ns : h.Ns1 dx mA
  ne : dx ≠ x
theorem lookIn_ns {h : Heap} {dx : Addr} {mA : Str → Option Value} (n : h.Ns1 dx mA) : ∃ od, h.get? dx = some od ∧ ∀ name, PySem.W.lookIn name od = some (mA name) := by
  obtain ⟨o, es, ep, ho, hd, hk, _, hm⟩ := n
  refine ⟨o, ho, fun name => ?_⟩
  have e := hm name
  unfold nsFind findBy at e
  rw [← Array.find?_toList] at e
  unfold PySem.W.lookIn
  rw [hd]
  dsimp only
  split
  · rename_i y q
    rw [q] at e
    exact congrArg some e
  · rename_i q
    rw [q] at e
    have a : es.toList.any (·.refKey) = false := by
      rw [List.any_eq_false]
      intro y hy
      obtain ⟨z, t, hkey⟩ := hk y (Array.mem_toList_iff.mp hy)
      simp [DictEntry.refKey, hkey]
    have a' : ¬ es.toList.any (·.refKey) = true := by rw [a]; exact Bool.false_ne_true
    rw [if_neg a']
    exact congrArg some e
theorem ObjM.look {h : Heap} {x dx C : Addr} {mA : Str → Option Value} (I : ObjM h x dx C mA) : ∃ od, PySem.W.InstAt h x (PySem.W.instObj C dx) C (some od) ∧ ∀ name, PySem.W.lookIn name od = some (mA name) :=
  let ⟨od, ho, hl⟩ := lookIn_ns I.ns
  ⟨od, ⟨I.obj, rfl, rfl, ho⟩, hl⟩
section
variable {prog : Program} {w : World} {A : Around} {E : Value → Shared → Prop} {s : Shared} {K : PySem.W.Frag} {x dx C f : Addr} {mA : Str → Option Value} {name : Str} {v : Value}
theorem set_map {ns : List Str} {Q : Unit → Shared → Prop} (X : K.In s.heap) (I : ObjM s.heap x dx C mA)
    (hs : PySem.W.findIn K (.ref C) "__setattr__" = some (some (.builtin "object.__setattr__"))) (hp : PySem.W.plainOver K C = true) (ht : PySem.W.takerIn K C name = some none) (hh : PySem.W.hasDictIn K C = true)
    (hw : PySem.Within mA ns) (hsz : ns.length ≤ sizeLine)
    (h : ∀ h', ObjM h' x dx C (fun y => if y = name then some v else mA y) → Heap.SameBut dx s.heap h' → Q () { s with heap := h', toks := s.toks + 2 }) :
    wpAny (model prog w) A (setAttr (.ref x) name v) Q E s := by
  obtain ⟨od, J, hl⟩ := I.look
  refine PySem.W.set_plain X J hs (PySem.W.osa_open (s := { s with toks := s.toks + 1 }) (r := none) X J hp ht fun b => ?_)
  obtain ⟨cd, hc, hd'⟩ := PySem.W.any_some hh
  have hx : s.heap.get? x = some ⟨.ref C, some dx, .plain, #[]⟩ := I.obj
  refine wpAny_bind (wpAny_pure (wpAny_bind (wpAny_bind (wpAny_loadPart hx (wpAny_bind (PySem.W.Looks.here (s := { s with toks := s.toks + 1 }) (PySem.W.looks_clsIn X hc) ?_))))))
  rw [hd']
  refine wpAny_pure (a := some dx) (wpAny_bind (wpAny_pure (wpAny_bind ?_)))
  refine wpAny_nsSet1 (s := { s with toks := s.toks + 1 }) I.ns fun h' hn2 hs2 => ?_
  obtain ⟨oD, esD, epD, hoD, hdD, hcD⟩ := hn2.count (PySem.Within.cons name v hw)
  refine wpAny_bind (wpAny_lookBehind hoD (by rw [hdD]; exact pastItsLine_dict (Nat.le_trans hcD (by rw [List.length_cons]; omega))) ?_)
  exact wpAny_pure (h _ ⟨(hs2.2 _ (Ne.symm I.ne)).trans I.obj, hn2, I.ne⟩ hs2)
/-- C(..): the dict at the heap's end, the instance behind it; then its __init__ -/
theorem make_map {R : Result → Shared → Prop} {vs : List Value} {kw : List (Str × Value)} (X : K.In s.heap) (hm : PySem.W.makesIn K C = true)
    (hi : PySem.W.findIn K (.ref C) "__init__" = some (some (.ref f))) (hf : PySem.W.typeIn K (.ref f) = some (.type "function"))
    (h : codeAny (model prog w) (A.under (.builtin "type.__call__" ⟨.ref C :: vs, kw⟩)) (.call (.ref f) ⟨.ref (s.heap.objs.size + 1) :: vs, kw⟩) (PySem.W.InitBack (s.heap.objs.size + 1) R)
      { s with heap := (s.heap.push PySem.W.emptyDict).push (PySem.W.instObj C s.heap.objs.size) }) :
    codeAny (model prog w) A (.call (.ref C) ⟨vs, kw⟩) R s := by
  obtain ⟨hh, g, d, t, os⟩ := s
  exact PySem.W.make_core (PySem.W.makes_of X hm) (PySem.W.looks_findIn X hi) (fun self => PySem.W.bind_fn X self hf) (.inl rfl) h
end
/-! ### the attributes as a list of pairs -/
def putF (f : Str) (v : V) : List (Str × V) → List (Str × V)
  | [] => [(f, v)]
  | (g, x) :: r => if g = f then (g, v) :: r else (g, x) :: putF f v r
theorem lookup_putF (f g : Str) (v : V) : ∀ fs : List (Str × V), (putF f v fs).lookup g = if g = f then some v else fs.lookup g
  | [] => by
    show List.lookup g [(f, v)] = _
    by_cases h : g = f
    · have hb : (g == f) = true := beq_iff_eq.mpr h
      simp only [List.lookup, hb, if_pos h]
    · have hb : (g == f) = false := beq_eq_false_iff_ne.mpr h
      simp only [List.lookup, hb, if_neg h]
  | (k, x) :: r => by
    have ih := lookup_putF f g v r
    rw [show putF f v ((k, x) :: r) = (if k = f then (k, v) :: r else (k, x) :: putF f v r) from rfl]
    by_cases hk : k = f
    · rw [if_pos hk]
      by_cases h : g = k
      · have hb : (g == k) = true := beq_iff_eq.mpr h
        simp only [List.lookup, hb, if_pos (h.trans hk)]
      · have hb : (g == k) = false := beq_eq_false_iff_ne.mpr h
        simp only [List.lookup, hb, if_neg (fun e : g = f => h (e.trans hk.symm))]
    · rw [if_neg hk]
      by_cases h : g = k
      · have hb : (g == k) = true := beq_iff_eq.mpr h
        simp only [List.lookup, hb, if_neg (fun e : g = f => hk (h.symm.trans e))]
      · have hb : (g == k) = false := beq_eq_false_iff_ne.mpr h
        simp only [List.lookup, hb]
        exact ih
theorem keys_putF (f : Str) (v : V) : ∀ fs : List (Str × V), f ∈ (putF f v fs).map (·.1) ∧ ∀ g, g ∈ fs.map (·.1) → g ∈ (putF f v fs).map (·.1)
  | [] => ⟨by simp [putF], fun g h => by simp at h⟩
  | (k, x) :: r => by
    obtain ⟨i1, i2⟩ := keys_putF f v r
    rw [show putF f v ((k, x) :: r) = (if k = f then (k, v) :: r else (k, x) :: putF f v r) from rfl]
    by_cases hk : k = f
    · rw [if_pos hk]
      subst hk
      exact ⟨by simp, fun g h => by simpa using h⟩
    · rw [if_neg hk]
      refine ⟨?_, fun g h => ?_⟩
      · rw [List.map_cons]
        exact List.mem_cons_of_mem _ i1
      · rw [List.map_cons] at h ⊢
        rcases List.mem_cons.mp h with e | e
        · exact List.mem_cons.mpr (.inl e)
        · exact List.mem_cons_of_mem _ (i2 g e)
theorem length_putF (f : Str) (v : V) : ∀ fs : List (Str × V), (putF f v fs).length ≤ fs.length + 1
  | [] => by simp [putF]
  | (k, x) :: r => by
    have ih := length_putF f v r
    rw [show putF f v ((k, x) :: r) = (if k = f then (k, v) :: r else (k, x) :: putF f v r) from rfl]
    by_cases hk : k = f
    · rw [if_pos hk, List.length_cons, List.length_cons]; omega
    · rw [if_neg hk, List.length_cons, List.length_cons]; omega
section
variable {P : Program} {w : World} {H H' : Hp} {h h' : Heap} {a C dx : Addr} {fs fs' : List (Str × V)}
theorem ins_get (hok : HOk P w H h) (e : H a = some (.ins C dx fs)) : ∃ mA, ObjM h a dx C mA ∧ (∀ f, RelO (fs.lookup f) (mA f)) ∧ PySem.Within mA (fs.map (·.1)) ∧ fs.length ≤ 1000 ∧ H dx = some (.own a) := by
  obtain ⟨d, z, ne, ob, mA, n, r, q⟩ := (show ObjOk P w H h a (.ins C dx fs) from hok a _ e)
  exact ⟨mA, ⟨ob, n, ne⟩, r, q, z, d⟩
end
/-! ### what of the text a class must have -/
structure Cls (K : PySem.W.Frag) (C : Addr) : Prop where
  pg : PySem.W.plainGet K C Str.empty = true
  hd : PySem.W.hasDictIn K C = true
  po : PySem.W.plainOver K C = true
  sa : PySem.W.findIn K (.ref C) "__setattr__" = some (some (.builtin "object.__setattr__"))
theorem Cls.get {K : PySem.W.Frag} {C : Addr} (c : Cls K C) (f : Str) : PySem.W.plainGet K C f = true := c.pg
/-- no class of it has the name -/
def NoAttr (K : PySem.W.Frag) (C : Addr) (f : Str) : Prop := PySem.W.findIn K (.ref C) f = some none
theorem NoAttr.taker {K : PySem.W.Frag} {C : Addr} {f : Str} (n : NoAttr K C f) : PySem.W.takerIn K C f = some none := by
  unfold PySem.W.takerIn
  rw [show PySem.W.findIn K (.ref C) f = some none from n]
  rfl
/-- a constant of the class -/
structure Con (K : PySem.W.Frag) (C : Addr) (f : Str) (v : V) (u : Value) : Prop where
  at_ : PySem.W.findIn K (.ref C) f = some (some u)
  rel : RelV v u
  get : PySem.W.specialIn K u "__get__" = some none
  cp : PySem.W.copiedNames.contains f = false
/-- a method: a plain def of the class or of one above it -/
structure Meth (K : PySem.W.Frag) (C : Addr) (m : Str) (f : Addr) : Prop where
  at_ : PySem.W.findIn K (.ref C) m = some (some (.ref f))
  fn : PySem.W.isFn K (.ref f) = true
  kp : PySem.W.keepIn K (.ref f) = true
section
variable {X : Cx} {pins : List (Addr × Obj)} {σ : St} {H : Hp} {s : Shared} {a C dx : Addr} {fs : List (Str × V)} {f : Str} {v : V} {A : Around} {E : Value → Shared → Prop}
theorem setattr_ok {y : V} {u : Value} {Q : Unit → Shared → Prop} (I : Inv X pins σ H s) (e : H a = some (.ins C dx fs)) (c : Cls X.K C) (n : NoAttr X.K C f) (hl : fs.length < 1000) (ry : RelV y u)
    (h : ∀ s', Inv X pins σ (upd H a (.ins C dx (putF f y fs))) s' → Q () s') : wpAny (model X.prog X.w) A (setAttr (.ref a) f u) Q E s := by
  obtain ⟨mA, O, r, wi, _, ho⟩ := ins_get I.hok e
  have hz : (fs.map (·.1)).length ≤ sizeLine := by rw [List.length_map, sizeLine_eq]; omega
  refine set_map I.kIn O c.sa c.po n.taker c.hd wi hz fun h' O' sb => h _ ?_
  have hd : ∃ o, h'.get? dx = some o := let ⟨o, _, _, e', _⟩ := O'.ns; ⟨o, e'⟩
  refine I.write (x := a) (e := dx) (by rw [e]; exact True.intro) (.inr ho) (fun b q hb z => (sb.2 b hb).trans z) hd ?_
  refine ⟨by rw [upd_ne O.ne]; exact ho, ?_, O.ne, O'.obj, _, O'.ns, fun g => ?_, fun g hg => ?_⟩
  · have := length_putF f y fs; omega
  · show RelO ((putF f y fs).lookup g) (if g = f then some u else mA g)
    rw [lookup_putF]
    by_cases q : g = f
    · rw [if_pos q, if_pos q]; exact ry
    · rw [if_neg q, if_neg q]; exact r g
  · by_cases q : g = f
    · rw [q]; exact (keys_putF f y fs).1
    · refine (keys_putF f y fs).2 g (wi g fun z => hg ?_)
      show (if g = f then some u else mA g) = none
      rw [if_neg q]; exact z
/-- a new instance, tracked, without attributes -/
theorem Inv.made (I : Inv X pins σ H s) : Inv X pins σ (upd (upd H s.heap.objs.size (.own (s.heap.objs.size + 1))) (s.heap.objs.size + 1) (.ins C s.heap.objs.size []))
    { s with heap := (s.heap.push PySem.W.emptyDict).push (PySem.W.instObj C s.heap.objs.size) } := by
  have e1 : (s.heap.push PySem.W.emptyDict).get? s.heap.objs.size = some PySem.W.emptyDict := Heap.get?_push_size s.heap rfl
  have e2 : ((s.heap.push PySem.W.emptyDict).push (PySem.W.instObj C s.heap.objs.size)).get? (s.heap.objs.size + 1) = some (PySem.W.instObj C s.heap.objs.size) := by
    have := Heap.get?_push_size (s.heap.push PySem.W.emptyDict) (o := PySem.W.instObj C s.heap.objs.size) rfl
    rwa [Heap.size_push] at this
  have e3 : (s.heap.push PySem.W.emptyDict).Ns s.heap.objs.size (fun _ => none) := ⟨PySem.W.emptyDict, #[], _, e1, rfl, (fun e he => absurd he (by simp)), fun _ => rfl⟩
  have I1 := I.laid (a := s.heap.objs.size) (o := .own (s.heap.objs.size + 1)) (h' := s.heap.push PySem.W.emptyDict) (t' := s.toks) (fun b u q => Heap.get?_push_of_some _ q) (Nat.le_refl _) ⟨_, e1⟩
  refine I1.laid (a := s.heap.objs.size + 1) (o := .ins C s.heap.objs.size []) (t' := s.toks) (fun b u q => Heap.get?_push_of_some _ q) (Nat.le_of_eq (Heap.size_push _ _)) ?_
  have ne : s.heap.objs.size ≠ s.heap.objs.size + 1 := Nat.ne_of_lt (Nat.lt_succ_self _)
  refine ⟨by rw [upd_ne ne, upd_same], Nat.zero_le _, ne, e2, fun _ => none, (Heap.Ns1.of_empty e3).at fun o q => Heap.get?_push_of_some _ q, fun _ => True.intro, fun y hy => absurd rfl hy⟩
end
/-! ### readings and rules -/
/-- e.f = value -/
def sFld (K : PySem.W.Frag) (ta tv : TE) (f : Str) : TS := fun D σ H => tv σ H fun y H1 => ta σ H1 fun x H2 => ∃ a C dx fs, x = .ref a ∧ H2 a = some (.ins C dx fs) ∧ Cls K C ∧ NoAttr K C f ∧ fs.length < 1000 ∧
  D.nx σ (upd H2 a (.ins C dx (putF f y fs)))
section
variable {X : Cx} {o e value : Expr} {f : Str} {pos pos' tpos : Pos} {ta tv : TE}
theorem ps_fld (ha : PE X o ta) (hv : PE X value tv) (hs : swapsWith value (some (.Attribute o f pos')) pos.line X.env = pure false) : PS X (.Assign [.Attribute o f pos'] value pos) (sFld X.K ta tv f) := by
  intro pins s σ H D I h
  refine plainObj_wpAny_Assign_Attribute (thn (hv pins s σ H _ I h) fun u s1 ⟨y, H1, I1, ry, q⟩ => thn (ha pins s1 σ H1 _ I1 q) fun ov s2 ⟨x, H2, I2, rx, a, C, dx, fs, ex, ea, c, n, l, q2⟩ => ?_) hs
  subst ex
  obtain rfl : ov = Value.ref a := rx
  exact setattr_ok I2 ea c n l ry fun s3 I3 => ⟨σ, _, I3, q2⟩
end
/-! ### isinstance -/
section
variable {X : Cx} {pins : List (Addr × Obj)} {σ : St} {H : Hp} {s : Shared} {A : Around} {E : Value → Shared → Prop} {Q : Value → Shared → Prop} {c : Value} {b : Bool}
/-- the type of a value, as the fragment's deciders take it; for an instance its class -/
inductive TyOf (K : PySem.W.Frag) (H : Hp) : V → Value → Prop where
  | non : TyOf K H .non (.type "NoneType")
  | bl (x : Bool) : TyOf K H (.bl x) (.type "bool")
  | int (i : Int) : TyOf K H (.int i) (.type "int")
  | str (x : Str) : TyOf K H (.str x) (.type "str")
  | flt (x : UInt64) : TyOf K H (.flt x) (.type "float")
  | lst {a : Addr} {xs : List V} (e : H a = some (.lst xs)) : TyOf K H (.ref a) (.type "list")
  | frz {a : Addr} {o : Obj} {xs : List V} (e : H a = some (.frz o (.lst xs))) : TyOf K H (.ref a) (.type "list")
  | tup {a : Addr} {xs : List V} (e : H a = some (.tup xs)) : TyOf K H (.ref a) (.type "tuple")
  | dK {a : Addr} {kvs : List (Key × V)} (e : H a = some (.dK kvs)) : TyOf K H (.ref a) (.type "dict")
  | dT {a : Addr} {kvs : List (List Key × V)} (e : H a = some (.dT kvs)) : TyOf K H (.ref a) (.type "dict")
  | ins {a C dx : Addr} {fs : List (Str × V)} (e : H a = some (.ins C dx fs)) (cl : Cls K C) (ha : PySem.W.findIn K (.ref C) "__class__" = some (some (.builtin "object.__class__")))
      (hn : PySem.W.specialIn K (.builtin "object.__class__") "__get__" = some (some (.builtin "getset_descriptor.__get__"))) (htk : PySem.W.takesIn K (.builtin "object.__class__") = some true)
      (hm : PySem.W.mroIn K C (.type "object") = some true) : TyOf K H (.ref a) (.ref C)
end
end L2
namespace L2
open PySem PySem.Spec PyProof.Rows
/-! ### room -/
structure Room (k : Nat) (A : Around) : Prop where
  hd : A.handled = none
  dp : A.depth + 3 * k + 5 < recursionLimit
  un : A.units + 16 * k + 200 < cLine
theorem Room.mono {j k : Nat} {A : Around} (r : Room k A) (h : j ≤ k) : Room j A := ⟨r.hd, by have := r.dp; omega, by have := r.un; omega⟩
theorem Room.deeper {k : Nat} {A : Around} (r : Room (k + 1) A) (env : Env) : Room k (A.deeper env) :=
  ⟨r.hd, by have := r.dp; show A.depth + 1 + 3 * k + 5 < _; omega, by have := r.un; show A.units + 3 + 16 * k + 200 < _; omega⟩
theorem make_depth {A : Around} {C : Addr} {us : List Value} {kw : List (Str × Value)} : (A.under (.builtin "type.__call__" ⟨.ref C :: us, kw⟩)).depth = A.depth + 1 := by
  first | rfl | simp [Around.under, Code.weight, Code.isCreation, Code.isGuard, Code.isCaller, Code.frames, Code.isFrame, guardIds]
theorem make_units {A : Around} {C : Addr} {us : List Value} {kw : List (Str × Value)} : (A.under (.builtin "type.__call__" ⟨.ref C :: us, kw⟩)).units = A.units + 1 := by
  first | rfl | simp [Around.under, Code.cUnits, Code.frames, Code.isFrame]
theorem Room.make {k : Nat} {A : Around} (r : Room (k + 1) A) (C : Addr) (us : List Value) (kw : List (Str × Value)) : Room k (A.under (.builtin "type.__call__" ⟨.ref C :: us, kw⟩)) :=
  ⟨r.hd, by have := r.dp; rw [make_depth]; omega, by have := r.un; rw [make_units]; omega⟩
theorem Room.depth {k : Nat} {A : Around} (r : Room k A) : A.depth < recursionLimit := by have := r.dp; omega
theorem Room.units {k : Nat} {A : Around} (r : Room k A) : A.units + 64 < cLine := by have := r.un; omega
theorem Room.units0 {k : Nat} {A : Around} (r : Room k A) : A.units < cLine := by have := r.un; omega
/-! ### argument lists and displays -/
def tNil : TA := fun _ H Q => Q [] H
def tCons (ta : TE) (tr : TA) : TA := fun σ H Q => ta σ H fun x H1 => tr σ H1 fun xs H2 => Q (x :: xs) H2
section
variable {X : Cx} {e : Expr} {es : List Expr} {te : TE} {t : TA} {pos : Pos}
theorem pa_nil : PA X [] tNil := fun _ _ _ _ H Q I h => Calls.spliced_nil ⟨[], H, I, .nil, h⟩
theorem pa_cons (ha : PE X e te) (hr : PA X es t) (hs : starEach (e :: es) X.env = (false, eval e X.env) :: starEach es X.env := by rfl) : PA X (e :: es) (tCons te t) := by
  intro pos pins s σ H Q I h
  rw [hs]
  show wpAny _ _ (spliced ((false, eval e X.env) :: backTo pos (starEach es X.env))) _ _ s
  refine Calls.spliced_cons (thn (ha pins s σ H _ I h) fun u s1 ⟨x, H1, I1, r1, q1⟩ => ?_)
  exact thn (hr pos pins s1 σ H1 _ I1 q1) fun us s2 ⟨xs, H2, I2, r2, q2⟩ => ⟨x :: xs, H2, I2, .cons r1 r2, q2⟩
def tLst (t : TA) : TE := fun σ H Q => t σ H fun xs H1 => xs.length ≤ sizeLine ∧ ∀ p, H1 p = none → Q (.ref p) (upd H1 p (.lst xs))
theorem pe_lst (h : PA X es t) : PE X (.List es pos) (tLst t) := by
  intro pins s σ H Q I hq
  refine wpAny_List_spliced (thn (h pos pins s σ H _ I hq) fun us s1 ⟨xs, H1, I1, r, z, q⟩ => ⟨by rw [← r.length]; exact z, ?_⟩)
  have hf : H1 s1.heap.objs.size = none := I1.hok.fresh (Nat.le_refl _)
  refine ⟨.ref s1.heap.objs.size, upd H1 s1.heap.objs.size (.lst xs), I1.laid (t' := s1.toks) (fun b u e => Heap.get?_push_of_some _ e) (Nat.le_refl _) ?_, rfl, q _ hf⟩
  exact ⟨z, us, 0, r, Heap.get?_push_size _ rfl⟩
end
/-! ### what a def promises -/
/-- a def's promise: the bound arguments in the parameters' order, the heap, the wanted end, the wanted exception -/
abbrev Sp := List V → Hp → VK → XK → Prop
/-- how an exception lies behind a call (file 08 gives it): the callers' frames, abstract heap and state ahead of the call, the wish, the exception, the state -/
abbrev CXT := List Env → Hp → Shared → XK → Value → Shared → Prop
/-- the state at a call -/
structure Env0 (P : Program) (w : World) (K : PySem.W.Frag) (mg : Str → Option Value) (base : Heap) (A : Around) (outer : List Env) (s : Shared) (H : Hp) : Prop where
  frames : A.frames = some outer
  mod : Mod K mg base
  bs : ∀ b o, base.get? b = some o → s.heap.get? b = some o ∧ H b = none
  bsz : base.objs.size ≤ s.heap.objs.size
  funs : s.heap.FunFrames base outer
  frf : ∀ b ∈ frs outer, H b = none
  hok : HOk P w H s.heap
  bare : AllBare s.gens
/-- a call's end -/
def CE (outer : List Env) (P : Program) (w : World) (H : Hp) (s : Shared) (Q : VK) (u : Value) (s' : Shared) : Prop :=
  ∃ v H', s'.os = s.os ∧ AllBare s'.gens ∧ Un (frs outer) [] H H' s.heap s'.heap ∧ HOk P w H' s'.heap ∧ RelV v u ∧ Q v H'
def CR (CX : CXT) (outer : List Env) (P : Program) (w : World) (H : Hp) (s : Shared) (Q : VK) (E : XK) (r : Result) (s' : Shared) : Prop :=
  match r with
  | .ok (.ret u) => CE outer P w H s Q u s'
  | .ok _ => False
  | .error e => CX outer H s E e s'
structure FnOk (P : Program) (w : World) (K : PySem.W.Frag) (mg : Str → Option Value) (base : Heap) (CX : CXT) (k : Nat) (f : Addr) (fd : FuncData) (ps : List Str) (sp : Sp) : Prop where
  len : ∀ vs H Q E, sp vs H Q E → vs.length = ps.length
  run : ∀ (A : Around) (outer : List Env) (s : Shared) (H : Hp) (args : Args) (us : List Value) (vs : List V) (Q : VK) (E : XK), Room k A → Env0 P w K mg base A outer s H → BindsTo s fd args (ps.zip us) → Vals vs us → sp vs H Q E →
    codeAny (model P w) A (.call (.ref f) args) (CR CX outer P w H s Q E) s
theorem FnOk.mono {P : Program} {w : World} {K : PySem.W.Frag} {mg : Str → Option Value} {base : Heap} {CX : CXT} {j k : Nat} {f : Addr} {fd : FuncData} {ps : List Str} {sp : Sp} (F : FnOk P w K mg base CX j f fd ps sp) (h : j ≤ k) :
    FnOk P w K mg base CX k f fd ps sp := ⟨F.len, fun A outer s H args us vs Q E hr => F.run A outer s H args us vs Q E (hr.mono h)⟩
theorem Env0.make {P : Program} {w : World} {K : PySem.W.Frag} {mg : Str → Option Value} {base : Heap} {A : Around} {outer : List Env} {s : Shared} {H : Hp} (e : Env0 P w K mg base A outer s H) (C : Addr) (us : List Value) (kw : List (Str × Value)) :
    Env0 P w K mg base (A.under (.builtin "type.__call__" ⟨.ref C :: us, kw⟩)) outer s H := ⟨by first | exact e.frames | (simpa [Around.under, Code.envs, Code.isFrame, pushEnvs] using e.frames), e.mod, e.bs, e.bsz, e.funs, e.frf, e.hok, e.bare⟩
section
variable {X : Cx} {pins : List (Addr × Obj)} {σ : St} {H : Hp} {s s' : Shared}
/-- from a body: what a callee wants -/
theorem Inv.env0 (I : Inv X pins σ H s) : Env0 X.prog X.w X.K X.mg X.base X.A X.stack s H :=
  ⟨I.ok.frames, I.ok.mod, I.bs, Nat.le_trans I.ok.bsz I.sz, I.stack, I.stkFree, I.hok, I.bare⟩
/-- behind a call -/
theorem Inv.after {Q : VK} {u : Value} (I : Inv X pins σ H s) (h : CE X.stack X.prog X.w H s Q u s') : EP X pins σ Q u s' := by
  obtain ⟨v, H', os, bare, un, hok, r, q⟩ := h
  obtain ⟨hh, g, d, t, os'⟩ := s'
  obtain rfl : os' = s.os := os
  exact ⟨v, H', I.call (h' := hh) (g' := g) (d' := d) (t' := t) (ch := []) un hok bare (fun b z => absurd z (by simp)), r, q⟩
end
/-! ### calls -/
/-- f(..): the written arguments, then the defaults dvs; E: what is wanted of an exception -/
def tCall (sp : Sp) (dvs : List V) (E : XK) (t : TA) : TE := fun σ H Q => t σ H fun vs H1 => sp (vs ++ dvs) H1 Q E
/-- C(..): a new instance and its dict, then __init__ -/
def tMake (C : Addr) (sp : Sp) (dvs : List V) (E : XK) (t : TA) : TE := fun σ H Q => t σ H fun vs H1 => ∀ x dx, H1 x = none → H1 dx = none → dx ≠ x →
  sp (.ref x :: (vs ++ dvs)) (upd (upd H1 dx (.own x)) x (.ins C dx [])) (fun v H2 => v = .non ∧ Q (.ref x) H2) E
/-- how the parameters are bound: us the positional arguments, kw the keywords' values by name, ds the defaults that fill up -/
def Binds (K : PySem.W.Frag) (fd : FuncData) (ps : List Str) (ds : List Value) : Prop :=
  ∀ (s : Shared) (us : List Value), K.In s.heap → (us ++ ds).length = ps.length → BindsTo s fd ⟨us, []⟩ (ps.zip (us ++ ds))
/-- every parameter is given -/
theorem Binds.all {K : PySem.W.Frag} {fd : FuncData} {ps : List Str} (h : ∀ us : List Value, us.length = ps.length → bindArgs fd ⟨us, []⟩ = pure (ps.zip us)) : Binds K fd ps [] := fun s us _ hl => by
  rw [List.append_nil] at hl ⊢
  exact .of_eq (h us hl)
/-- an exception of a callee reaches what this body wants of exceptions -/
def Passes (CX : CXT) (X : Cx) (E : XK) : Prop := ∀ (pins : List (Addr × Obj)) (σ : St) (H : Hp) (s : Shared) (e : Value) (s' : Shared), Inv X pins σ H s → CX X.stack H s E e s' → X.xe e s'
section
variable {X : Cx} {CX : CXT} {k : Nat} {f C : Addr} {fd : FuncData} {ps : List Str} {sp : Sp} {dvs : List V} {ds : List Value} {E : XK} {x m : Str} {p pos apos : Pos} {e o : Expr} {es : List Expr} {ta : TE} {t : TA}
/-- the callee runs -/
theorem run_fn {pins : List (Addr × Obj)} {σ : St} {H : Hp} {s : Shared} {Q : VK} {us : List Value} {vs : List V} (F : FnOk X.prog X.w X.K X.mg X.base CX k f fd ps sp) (hr : Room k X.A) (hb : Binds X.K fd ps ds) (hd : Vals dvs ds) (hx : Passes CX X E)
    (I : Inv X pins σ H s) (r : Vals vs us) (h : sp (vs ++ dvs) H Q E) : wpAny (model X.prog X.w) X.A (call (.ref f) us) (EP X pins σ Q) X.xe s := by
  have r2 : Vals (vs ++ dvs) (us ++ ds) := r.append hd
  have hl : (us ++ ds).length = ps.length := by rw [← r2.length]; exact F.len _ _ _ _ h
  refine wpAny_call (codeAny_mono (F.run X.A X.stack s H ⟨us, []⟩ (us ++ ds) (vs ++ dvs) Q E hr I.env0 (hb s us I.kIn hl) r2 h) fun r s' hq => ?_)
  cases r with
  | error e => exact hx pins σ H s e s' I hq
  | ok fl =>
    cases fl with
    | ret u => exact I.after hq
    | next => exact False.elim hq
    | brk => exact False.elim hq
    | cont => exact False.elim hq
theorem pe_call (F : FnOk X.prog X.w X.K X.mg X.base CX k f fd ps sp) (hr : Room k X.A) (hg : Gl X x) (hm : X.mg x = some (.ref f)) (hk : PySem.W.keepIn X.K (.ref f) = true) (hb : Binds X.K fd ps ds) (hd : Vals dvs ds) (hx : Passes CX X E)
    (ha : PA X (e :: es) t) (hdb : (x == ("__debug__" : Str)) = false := by decide) (he : starEach (e :: es) X.env = (false, eval e X.env) :: starEach es X.env := by rfl) (hpl : (backTo pos (starEach es X.env)).any (·.1) = false := by rfl) :
    PE X (.Call (.Name x p) (e :: es) [] pos) (tCall sp dvs E t) := by
  intro pins s σ H Q I h
  refine wpAny_Call_Name_kw (ld_glob I hg hm ?_ hdb)
  refine PySem.W.callWith_K (h₀ := X.base) I.ok.mod.kin hk (thn (ha pos pins s σ H _ I h) fun us s1 ⟨vs, H1, I1, r, q⟩ => ⟨I1.kIn, ?_⟩) he hpl
  exact run_fn F hr hb hd hx I1 r q
/-- what a class must have to be made -/
structure Mk (K : PySem.W.Frag) (C f : Addr) : Prop where
  makes : PySem.W.makesIn K C = true
  init : PySem.W.findIn K (.ref C) "__init__" = some (some (.ref f))
  fn : PySem.W.isFn K (.ref f) = true
  kp : PySem.W.keepIn K (.ref C) = true
theorem run_make {pins : List (Addr × Obj)} {σ : St} {H : Hp} {s : Shared} {Q : VK} {us : List Value} {vs : List V} (M : Mk X.K C f) (F : FnOk X.prog X.w X.K X.mg X.base CX k f fd ps sp) (hr : Room (k + 1) X.A) (hb : Binds X.K fd ps ds) (hd : Vals dvs ds)
    (hx : Passes CX X E) (I : Inv X pins σ H s) (r : Vals vs us)
    (h : ∀ x dx, H x = none → H dx = none → dx ≠ x → sp (.ref x :: (vs ++ dvs)) (upd (upd H dx (.own x)) x (.ins C dx [])) (fun v H2 => v = .non ∧ Q (.ref x) H2) E) :
    wpAny (model X.prog X.w) X.A (call (.ref C) us) (EP X pins σ Q) X.xe s := by
  have hq := h (s.heap.objs.size + 1) s.heap.objs.size (I.hok.fresh (Nat.le_succ _)) (I.hok.fresh (Nat.le_refl _)) (Nat.ne_of_lt (Nat.lt_succ_self _))
  have I2 := Inv.made (C := C) I
  have r2 : Vals (V.ref (s.heap.objs.size + 1) :: (vs ++ dvs)) (Value.ref (s.heap.objs.size + 1) :: (us ++ ds)) := .cons rfl (r.append hd)
  have hl : (Value.ref (s.heap.objs.size + 1) :: us ++ ds).length = ps.length := by
    have e := r2.length
    rw [F.len _ _ _ _ hq] at e
    exact e.symm
  refine wpAny_call (make_map (f := f) I.kIn M.makes M.init (beq_iff_eq.mp M.fn) (codeAny_mono (F.run _ X.stack _ _ ⟨Value.ref (s.heap.objs.size + 1) :: us, []⟩ (Value.ref (s.heap.objs.size + 1) :: (us ++ ds)) _ _ E (hr.make C us [])
    (I2.env0.make C us []) (hb _ (Value.ref (s.heap.objs.size + 1) :: us) I2.kIn hl) r2 hq) fun r s' hq' => ?_))
  cases r with
  | error e => exact hx pins σ _ _ e s' I2 hq'
  | ok fl =>
    cases fl with
    | ret u =>
      obtain ⟨v, H', I3, rv, ev, q3⟩ := I2.after hq'
      subst ev
      exact ⟨rv, ⟨V.ref (s.heap.objs.size + 1), H', I3, rfl, q3⟩⟩
    | next => exact False.elim hq'
    | brk => exact False.elim hq'
    | cont => exact False.elim hq'
theorem pe_make (M : Mk X.K C f) (F : FnOk X.prog X.w X.K X.mg X.base CX k f fd ps sp) (hr : Room (k + 1) X.A) (hg : Gl X x) (hm : X.mg x = some (.ref C)) (hb : Binds X.K fd ps ds) (hd : Vals dvs ds) (hx : Passes CX X E)
    (ha : PA X (e :: es) t) (hdb : (x == ("__debug__" : Str)) = false := by decide) (he : starEach (e :: es) X.env = (false, eval e X.env) :: starEach es X.env := by rfl) (hpl : (backTo pos (starEach es X.env)).any (·.1) = false := by rfl) :
    PE X (.Call (.Name x p) (e :: es) [] pos) (tMake C sp dvs E t) := by
  intro pins s σ H Q I h
  refine wpAny_Call_Name_kw (ld_glob I hg hm ?_ hdb)
  refine PySem.W.callWith_K (h₀ := X.base) I.ok.mod.kin M.kp (thn (ha pos pins s σ H _ I h) fun us s1 ⟨vs, H1, I1, r, q⟩ => ⟨I1.kIn, ?_⟩) he hpl
  exact run_make M F hr hb hd hx I1 r q
end
/-! ### keywords -/
section
variable {X : Cx} {CX : CXT} {k : Nat} {f C : Addr} {fd : FuncData} {ps ks : List Str} {sp : Sp} {E : XK} {x m : Str} {p pos apos kpos : Pos} {e o : Expr} {es : List Expr} {kws : List Keyword} {te ta : TE} {t tk : TA} {nm : Option Str}
/-- how a call with keywords binds: g puts the positional values us and the keywords' values ws (names ks) in the parameters' order, defaults among them -/
structure KBinds (K : PySem.W.Frag) (fd : FuncData) (ps ks : List Str) (g : List Value → List Value → List Value) (gV : List V → List V → List V) : Prop where
  to : ∀ (s : Shared) (us ws : List Value), K.In s.heap → (g us ws).length = ps.length → BindsTo s fd ⟨us, ks.zip ws⟩ (ps.zip (g us ws))
  rel : ∀ {vs : List V} {us : List Value} {zs : List V} {ws : List Value}, Vals vs us → Vals zs ws → Vals (gV vs zs) (g us ws)
variable {g : List Value → List Value → List Value} {gV : List V → List V → List V}
end
/-! ### a def's body keeps its promise -/
/-- names: the parameters first -/
structure FnScope (N P : List Str) (sc : Scope) : Prop where
  kind : sc.kind = .function
  co : sc.isCoroutine = false
  gen : sc.isGenerator = false
  nd : N.Nodup
  pre : N.take P.length = P
  par : ∀ x ∈ P, sc.names.lookup x = some .local ∨ sc.names.lookup x = some .cell
  nofree : ∀ y ∈ sc.names, y.2 ≠ .free
theorem bindL_out {kindOf : Str → Option NameKind} {x : Str} : ∀ {binds : List (Str × Value)} {m : Str → Option Value}, (∀ v, (x, v) ∉ binds) → bindL kindOf binds m x = m x
  | [], _, _ => rfl
  | (n, v) :: r, m, h => by
    unfold bindL
    rw [bindL_out fun w hw => h w (List.mem_cons_of_mem _ hw)]
    split
    · have : x ≠ n := by rintro rfl; exact h v List.mem_cons_self
      simp [this]
    · rfl
theorem bindC_out {kindOf : Str → Option NameKind} {x : Str} : ∀ {binds : List (Str × Value)} {m : Str → Option Value}, (∀ v, (x, v) ∉ binds) → bindC kindOf binds m x = m x
  | [], _, _ => rfl
  | (n, v) :: r, m, h => by
    unfold bindC
    rw [bindC_out fun w hw => h w (List.mem_cons_of_mem _ hw)]
    split
    · rfl
    · have : x ≠ n := by rintro rfl; exact h v List.mem_cons_self
      simp [this]
theorem bindL_get {kindOf : Str → Option NameKind} {x : Str} {v : Value} : ∀ {P : List Str} {vs : List Value} {i : Nat} {m : Str → Option Value}, P.Nodup → P[i]? = some x → vs[i]? = some v → kindOf x = some .local →
    bindL kindOf (P.zip vs) m x = some v
  | [], _, _, _, _, h, _, _ => by simp at h
  | _ :: _, [], _, _, _, _, h, _ => by simp at h
  | p :: P, w :: vs, 0, m, nd, h1, h2, hk => by
    simp at h1 h2; subst h1; subst h2
    show bindL kindOf ((p, w) :: P.zip vs) m p = _
    unfold bindL
    rw [bindL_out fun v hv => (List.nodup_cons.mp nd).1 (List.of_mem_zip hv).1, if_pos hk]
    simp
  | p :: P, w :: vs, i + 1, m, nd, h1, h2, hk => by
    show bindL kindOf ((p, w) :: P.zip vs) m x = _
    unfold bindL
    exact bindL_get (i := i) (List.nodup_cons.mp nd).2 (by simpa using h1) (by simpa using h2) hk
theorem bindC_get {kindOf : Str → Option NameKind} {x : Str} {v : Value} : ∀ {P : List Str} {vs : List Value} {i : Nat} {m : Str → Option Value}, P.Nodup → P[i]? = some x → vs[i]? = some v → kindOf x ≠ some .local →
    bindC kindOf (P.zip vs) m x = some v
  | [], _, _, _, _, h, _, _ => by simp at h
  | _ :: _, [], _, _, _, _, h, _ => by simp at h
  | p :: P, w :: vs, 0, m, nd, h1, h2, hk => by
    simp at h1 h2; subst h1; subst h2
    show bindC kindOf ((p, w) :: P.zip vs) m p = _
    unfold bindC
    rw [bindC_out fun v hv => (List.nodup_cons.mp nd).1 (List.of_mem_zip hv).1, if_neg hk]
    simp
  | p :: P, w :: vs, i + 1, m, nd, h1, h2, hk => by
    show bindC kindOf ((p, w) :: P.zip vs) m x = _
    unfold bindC
    exact bindC_get (i := i) (List.nodup_cons.mp nd).2 (by simpa using h1) (by simpa using h2) hk
/-- the names' values at the entry -/
def start (N : List Str) (vs : List V) : St := vs.map some ++ List.replicate (N.length - vs.length) none
/-- the context of a def's body, at its entry; an exception leaves the frame, then lies as CX says -/
def cxOf (CX : CXT) (P : Program) (w : World) (K : PySem.W.Frag) (mg : Str → Option Value) (base : Heap) (N : List Str) (qual : Str) (scope : Scope) (f : Addr) (cd : Value) (A : Around) (outer : List Env) (s : Shared) (H : Hp) (E : XK) : Cx where
  prog := P
  w := w
  K := K
  mg := mg
  base := base
  A := A.deeper (envOfC qual scope s.heap.objs.size f cd)
  N := N
  s₀ := s
  H₀ := H
  env := envOfC qual scope s.heap.objs.size f cd
  outer := outer
  stack := envOfC qual scope s.heap.objs.size f cd :: outer
  ex := []
  calm := true
  fn := fun _ => true
  pn := []
  xe := fun e s' => wpAny (model P w) (A.deeper (envOfC qual scope s.heap.objs.size f cd)) (leaving (envOfC qual scope s.heap.objs.size f cd) e) (fun _ s'' => CX outer H s E e s'') (fun e' s'' => CX outer H s E e' s'') s'
theorem cell_has {sc : Scope} {n : Nat} {x : Str} (h : sc.names.lookup x = some .cell) : ∃ c, (cellsFrom n sc.names []).lookup x = some c := by
  have q := PySem.W.cellsFrom_some sc.names n [] (.inl h)
  exact Option.isSome_iff_exists.mp q
theorem inv_start {CX : CXT} {P : Program} {w : World} {K : PySem.W.Frag} {mg : Str → Option Value} {base : Heap} {N ps : List Str} {qual : Str} {scope : Scope} {f : Addr} {cd : Value} {A : Around} {outer : List Env} {s s1 : Shared} {H : Hp} {E : XK} {us : List Value} {vs : List V}
    (S : FnScope N ps scope) (hd : A.handled = none) (e0 : Env0 P w K mg base A outer s H) (hl : vs.length = ps.length) (r : Vals vs us)
    (x : InCallC s s.heap.objs.size (bindL (envOfC qual scope s.heap.objs.size f cd).kindOf (ps.zip us) fun _ => none) (cellsFrom (s.heap.objs.size + 1) scope.names []) (bindC (envOfC qual scope s.heap.objs.size f cd).kindOf (ps.zip us) fun _ => none) s1) :
    Inv (cxOf CX P w K mg base N qual scope f cd A outer s H E) [] (start N vs) H s1 := by
  have hpl : ps.length ≤ N.length := by have := congrArg List.length S.pre; rw [List.length_take] at this; omega
  obtain ⟨h1, tk, rfl, hk⟩ := x.done
  have noA : ∀ b : Addr, b ∉ (cxOf CX P w K mg base N qual scope f cd A outer s H E).ex := fun b z => absurd (show b ∈ ([] : List Addr) from z) (by simp)
  refine ⟨⟨e0.mod, S.kind, rfl, rfl, Nat.le_refl _, fun y z c h1 h2 => ?_, fun y hy => ?_, fun y c _ h => ?_, fun _ => hd, Around.frames_deeper e0.frames, .inr ⟨rfl, rfl⟩, fun b z => absurd z (noA b), e0.bs, e0.bsz, fun b _ _ => noA b, fun b z => absurd z (noA b), e0.funs, e0.frf⟩,
    rfl, e0.bare, Un.kept hk, ⟨_, x.toInCall.ns, fun i y v h1 h2 h3 => ?_⟩, fun y c h => ⟨_, x.cell y c h⟩, e0.hok.fresh (Nat.le_refl _), fun y c h => ?_, fun p hp => absurd (show p ∈ ([] : List (Addr × Obj)) from hp) (by simp), e0.hok.kept hk, ?_⟩
  · exact name_of_addr x.apart (PySem.mem_of_lookup h1) (PySem.mem_of_lookup h2)
  · have hy : scope.names.lookup y = some .cell ∨ scope.names.lookup y = some .free := hy
    rcases hy with hy | hy
    · exact cell_has hy
    · exact absurd rfl (S.nofree _ (PySem.mem_of_lookup hy))
  · exact Nat.le_of_lt (x.above y c (PySem.mem_of_lookup h))
  · have hi : i < vs.length := by
      unfold start at h2
      by_cases hi : i < vs.length
      · exact hi
      · rw [List.getElem?_append_right (by simpa using hi)] at h2
        rw [List.getElem?_replicate] at h2
        split at h2 <;> cases h2
    have ha : vs[i]? = some v := by
      unfold start at h2
      rw [List.getElem?_append_left (by simpa using hi), List.getElem?_map] at h2
      cases e : vs[i]? with
      | none => rw [e] at h2; cases h2
      | some a => rw [e] at h2; cases h2; rfl
    obtain ⟨u, hu, rv⟩ := r.get ha
    have hp : ps[i]? = some y := by
      rw [← S.pre, List.getElem?_take_of_lt (by omega)]; exact h1
    have ndP : ps.Nodup := by rw [← S.pre]; exact S.nd.sublist (List.take_sublist _ _)
    refine ⟨u, rv, ?_⟩
    rcases S.par y (List.mem_of_getElem? hp) with k | k
    · exact .inl ⟨k, bindL_get ndP hp hu k⟩
    · obtain ⟨c, e⟩ := cell_has (n := s.heap.objs.size + 1) k
      refine .inr ⟨.inl k, c, e, ?_⟩
      have q := x.cell y c e
      rw [bindC_get ndP hp hu (by show scope.names.lookup y ≠ _; rw [k]; decide)] at q
      exact q
  · exact e0.hok.fresh (Nat.le_of_lt (x.above y c (PySem.mem_of_lookup h)))
  · unfold start
    show _ = N.length
    rw [List.length_append, List.length_map, List.length_replicate]
    omega
/-- THE RULE: a def (or a method) of the text, by its body. The body's reading t is chosen for each entry; it is run at the parameters' values -/
theorem fn_of {CX : CXT} {P : Program} {w : World} {K : PySem.W.Frag} {mg : Str → Option Value} {base : Heap} {k : Nat} {f : Addr} {name qual : Str} {params : Arguments} {body : List Stmt} {scope : Scope} {dV kV doc pm cdv ct oc : Value} {an od : Option Addr}
    {osl : Array (Option Value)} {N ps : List Str} {sp : Sp} (lk : K.lookup f = some ⟨oc, od, .func (PySem.W.fnOf name qual params body scope dV kV doc pm an cdv ct), osl⟩) (hcd : PySem.W.codeIn K cdv qual = true) (S : FnScope N ps scope)
    (len : ∀ vs H Q E, sp vs H Q E → vs.length = ps.length)
    (hbody : ∀ (A : Around) (outer : List Env) (s : Shared) (H : Hp) (vs : List V) (Q : VK) (E : XK), Room k (A.deeper (envOfC qual scope s.heap.objs.size f cdv)) → sp vs H Q E →
      ∃ t, PSs (cxOf CX P w K mg base N qual scope f cdv A outer s H E) body t ∧ t { nx := fun _ H' => Q .non H', rt := Q } (start N vs) H) :
    FnOk P w K mg base CX (k + 1) f (PySem.W.fnOf name qual params body scope dV kV doc pm an cdv ct) ps sp := by
  refine ⟨len, fun A outer s H args us vs Q E hr e0 hb r hsp => ?_⟩
  have hl := len _ _ _ _ hsp
  have KX : K.In s.heap := e0.mod.kin.keeps fun b o e => (e0.bs b o e).1
  have lim : s.heap.NoLimit := e0.mod.nolimit.keeps fun b o e => (e0.bs b o e).1
  have hkind : ∀ y ∈ ps.zip us, scope.names.lookup y.1 = some .local ∨ (scope.names.lookup y.1 = some .cell ∧ ((cellsFrom (s.heap.objs.size + 1) scope.names []).lookup y.1).isSome = true) := fun ⟨n, v⟩ hy => by
    rcases S.par n (List.of_mem_zip hy).1 with q | q
    · exact .inl q
    · exact .inr ⟨q, PySem.W.cellsFrom_some _ _ _ (.inl q)⟩
  refine codeAny_call_function hr.depth (KX _ _ lk) rfl S.co S.gen rfl (PySem.W.codeRec_of KX hcd) (hb _ _ _ _ ?_)
  refine wpAny_newFunctionEnv_cells S.kind hkind fun env he s1 x => ?_
  subst he
  refine ⟨lim.keeps x.toInCall.keep, codeAny_func ?_⟩
  obtain ⟨t, ht, hq⟩ := hbody A outer s H vs Q E (hr.deeper _) hsp
  have I : Inv (cxOf CX P w K mg base N qual scope f cdv A outer s H E) [] (start N vs) H s1 := inv_start S hr.hd e0 hl r x
  refine wpAny_mono (ht [] s1 (start N vs) H _ I hq) (fun fl s' hs => ?_) fun e s' hs => hs
  have fin : ∀ {σ' : St} {H' : Hp} {v : V} {u : Value}, Inv (cxOf CX P w K mg base N qual scope f cdv A outer s H E) [] σ' H' s' → RelV v u → Q v H' → CE outer P w H s Q u s' :=
    fun {σ' H' v u} J rv q => ⟨v, H', J.os, J.bare, J.base, J.hok, rv, q⟩
  cases fl with
  | ret u =>
    obtain ⟨v, σ', H', J, rv, q⟩ := hs
    exact fin J rv q
  | next =>
    obtain ⟨σ', H', J, q⟩ := hs
    exact fin (v := V.non) (u := Value.none) J rfl q
  | brk =>
    obtain ⟨_, _, _, q⟩ := hs
    exact False.elim q
  | cont =>
    obtain ⟨_, _, _, q⟩ := hs
    exact False.elim q
end L2
namespace L2
open PySem PySem.Spec PyProof.Rows
section
variable {X : Cx} {x : Str} {p pos : Pos} {e : Expr} {es : List Expr} {t : TA} {id T : String} {r : List V → Hp → VK → Prop}
def tCB (r : List V → Hp → VK → Prop) (t : TA) : TE := fun σ H Q => t σ H fun vs H1 => r vs H1 Q
/-- f(e, ..), f a built-in function -/
theorem pe_callB (hc : CallR X (.builtin id) r) (hg : Gl X x) (hm : X.mg x = none) (hv : bootBuiltins x = some (.builtin id)) (ha : PA X (e :: es) t) (hn : x ≠ "__name__" := by decide) (hdb : (x == ("__debug__" : Str)) = false := by decide)
    (he : starEach (e :: es) X.env = (false, eval e X.env) :: starEach es X.env := by rfl) (hpl : (backTo pos (starEach es X.env)).any (·.1) = false := by rfl) : PE X (.Call (.Name x p) (e :: es) [] pos) (tCB r t) := by
  intro pins s σ H Q I h
  refine wpAny_Call_Name_kw (ld_blt I hg hm hv ?_ hn hdb)
  exact PyProof.Rows.callWith_builtin1 (thn (ha pos pins s σ H _ I h) fun us s1 ⟨vs, H1, I1, r1, q1⟩ => hc pins s1 σ H1 vs us Q I1 r1 q1) he hpl
end
end L2
namespace HT
open PySem PyProof.Rows
section
open PySem.SeqAt
open PySem.AutoSeq1 (wpAny_loadPart')
open PySem.MeetsSeq PySem.MeetsSeq2 PySem.MeetsSeq3
end
section
variable {prog : Program} {w : World} {A : Around} {E : Value → Shared → Prop} {s : Shared}
/-! ### t[a:b], not the whole -/
end
end HT
namespace L2
open PySem PySem.Spec PyProof.Rows
/-! ### the parts of a slice -/
abbrev TO := St → Hp → (Option Int → Hp → Prop) → Prop
section
variable {X : Cx} {e : Expr} {te : TE} {lo hi : Option Expr} {tl th : TO} {pos p2 : Pos}
/-! ### t < u, t + u -/
end
end L2
namespace L2
open PySem PySem.Spec PyProof.Rows
/-! ### places -/
/-- the place that an index of any sign means -/
def ixN (n : Nat) (i : Int) : Option Nat := if 0 ≤ i then (if i < n then some i.toNat else none) else if -(n : Int) ≤ i then some (i + n).toNat else none
def atI {α : Type} (xs : List α) (i : Int) : Option α := (ixN xs.length i).bind fun j => xs[j]?
theorem ixN_seq {n : Nat} {i : Int} {j : Nat} (h : ixN n i = some j) : seqIndex? i n = some j ∧ j < n ∧ -(n : Int) ≤ i ∧ i < n := by
  unfold ixN at h
  by_cases h0 : 0 ≤ i
  · rw [if_pos h0] at h
    by_cases h1 : i < n
    · rw [if_pos h1] at h
      have e : i.toNat = j := Option.some.inj h
      exact ⟨by rw [seqIndex_of h0 h1, e], by omega, by omega, h1⟩
    · rw [if_neg h1] at h; cases h
  · rw [if_neg h0] at h
    by_cases h1 : -(n : Int) ≤ i
    · rw [if_pos h1] at h
      have e : (i + n).toNat = j := Option.some.inj h
      exact ⟨by rw [seqIndex_neg (by omega) h1, e], by omega, h1, by omega⟩
    · rw [if_neg h1] at h; cases h
theorem atI_get {α : Type} {xs : List α} {i : Int} {v : α} (h : atI xs i = some v) : ∃ j, seqIndex? i xs.length = some j ∧ xs[j]? = some v ∧ j < xs.length ∧ -(xs.length : Int) ≤ i ∧ i < xs.length := by
  unfold atI at h
  cases e : ixN xs.length i with
  | none => rw [e] at h; cases h
  | some j =>
    rw [e] at h
    obtain ⟨h1, h2, h3, h4⟩ := ixN_seq e
    exact ⟨j, h1, h, h2, h3, h4⟩
theorem atI_nat {α : Type} {xs : List α} {j : Nat} {v : α} (h : xs[j]? = some v) : atI xs (j : Int) = some v := by
  have hj : j < xs.length := (List.getElem?_eq_some_iff.mp h).1
  have e : ixN xs.length (j : Int) = some j := by
    unfold ixN
    rw [if_pos (by omega), if_pos (by omega)]; simp
  unfold atI; rw [e]; exact h
/-! ### what may be subscripted -/
/-- what stands as an index of a plain subscript -/
def PlainIx (b : Expr) : Prop := ∀ o i, subscripted b false o i = operate [o, i] (getItem o i)
/-- a subscript by values -/
def IxR (X : Cx) (r : R2) : Prop :=
  ∀ (value slice : Expr) (pins : List (Addr × Obj)) (s : Shared) (σ : St) (H : Hp) (x y : V) (v u : Value) (Q : VK), Inv X pins σ H s → RelV x v → RelV y u → r x y H Q →
    subscripted slice false v u = operate [v, u] (getItem v u) → wpAny (model X.prog X.w) X.A (subscriptTail value slice v u) (EP X pins σ Q) X.xe s
/-- a call of a builtin's method by values: the receiver, the arguments -/
def MtR (X : Cx) (id : String) (r : V → List V → Hp → VK → Prop) : Prop :=
  ∀ (pins : List (Addr × Obj)) (s : Shared) (σ : St) (H : Hp) (x : V) (xs : List V) (v : Value) (us : List Value) (Q : VK), Inv X pins σ H s → RelV x v → Vals xs us → r x xs H Q →
    wpAny (model X.prog X.w) X.A (call (.builtin id) (v :: us)) (EP X pins σ Q) X.xe s
section
variable {X : Cx} {a b : Expr} {ta tb : TE} {pos : Pos}
/-- a[b] -/
theorem pe_ix {r : R2} (hr : IxR X r) (ha : PE X a ta) (hb : PE X b tb) (hs : PlainIx b) : PE X (.Subscript a b pos) (tOp r ta tb) := by
  intro pins s σ H Q I h
  exact Subscript_ (binT ha hb I h fun v u s2 x y H2 I2 rx ry q => hr a b pins s2 σ H2 x y v u Q I2 rx ry q (hs _ _))
def rIxL (K : PySem.W.Frag) : R2 := fun x y H Q => ∃ p xs i v, x = .ref p ∧ y = .int i ∧ SqL K H p xs ∧ atI xs i = some v ∧ Q v H
theorem ix_list : IxR X (rIxL X.K) := by
  intro value slice pins s σ H x y v u Q I rx ry h hs
  obtain ⟨p, xs, i, z, rfl, rfl, hq, he, q⟩ := h
  cases rx
  obtain ⟨t, rfl⟩ := ry
  obtain ⟨its, r, pl, hz⟩ := I.list hq
  obtain ⟨j, h1, h2, h3, h4, h5⟩ := atI_get he
  obtain ⟨w, ew, rw'⟩ := r.get h2
  have hl := r.length
  have hn := line63
  have fin : EP X pins σ Q w s := ⟨z, H, I, rw', q⟩
  by_cases h0 : 0 ≤ i
  · have hj : i.toNat = j := by
      rw [seqIndex_of h0 h5] at h1
      exact Option.some.inj h1
    exact item_listR pl.isList h0 (by omega) (by rw [hj]; simpa using ew) fin hs
  · have hj : (i + (its.toArray.size : Int)).toNat = j := by
      rw [seqIndex_neg (by omega) h4] at h1
      rw [List.size_toArray, ← hl]
      exact Option.some.inj h1
    exact subscriptTail_builtinR (x := w) pl.isList.typeIs slot_list_getitem.lookup
      (wpAny_getItem_list_neg (Q := fun r s' => r = w ∧ EP X pins σ Q r s') pl.isList (by omega) (by rw [List.size_toArray] <;> omega) (by omega) (by rw [hj]; simpa using ew) ⟨rfl, fin⟩) hs
/-! ### xs[i] = v, any sign -/
theorem Inv.lst {pins : List (Addr × Obj)} {σ : St} {H : Hp} {s : Shared} {p : Addr} {xs : List V} (I : Inv X pins σ H s) (h : H p = some (.lst xs)) :
    ∃ (its : List Value) (n : Nat), Vals xs its ∧ s.heap.get? p = some { cls := .type "list", data := .seq its.toArray n } ∧ xs.length ≤ sizeLine := by
  obtain ⟨z, its, n, r, e⟩ := I.hok p _ h
  exact ⟨its, n, r, e, z⟩
/-! ### slices -/
/-! ### in, not in: flat items -/
def flatV : V → Bool
  | .non => true
  | .bl _ => true
  | .int _ => true
  | .str _ => true
  | _ => false
/-- == of flat values -/
def eqV : V → V → Bool
  | .non, .non => true
  | .bl a, .bl b => a == b
  | .bl a, .int b => (if a then 1 else 0) == b
  | .int a, .bl b => a == (if b then 1 else 0)
  | .int a, .int b => a == b
  | .str a, .str b => a == b
  | _, _ => false
theorem eqAt_V {A : Around} {s : Shared} {y x : V} {u v : Value} (ry : RelV y u) (rx : RelV x v) (fy : flatV y = true) (fx : flatV x = true) : SeqAt.EqAt A s u v (eqV y x) := by
  cases y with
  | non =>
    cases ry
    cases x with
    | non => cases rx; exact SeqAt.EqAt.same _
    | bl b => cases rx; exact SeqAt.EqAt.none_bool b
    | int b => obtain ⟨t, rfl⟩ := rx; exact SeqAt.EqAt.none_int b t
    | str b => obtain ⟨t, rfl⟩ := rx; exact SeqAt.EqAt.none_str b t
    | _ => exact absurd (show false = true from fx) Bool.false_ne_true
  | bl a =>
    cases ry
    cases x with
    | non => cases rx; exact SeqAt.EqAt.bool_none a
    | bl b => cases rx; exact SeqAt.EqAt.bool_bool a b
    | int b => obtain ⟨t, rfl⟩ := rx; exact SeqAt.EqAt.bool_int a b t
    | str b => obtain ⟨t, rfl⟩ := rx; exact SeqAt.EqAt.bool_str a b t
    | _ => exact absurd (show false = true from fx) Bool.false_ne_true
  | int a =>
    obtain ⟨t', rfl⟩ := ry
    cases x with
    | non => cases rx; exact SeqAt.EqAt.int_none a t'
    | bl b => cases rx; exact SeqAt.EqAt.int_bool a t' b
    | int b => obtain ⟨t, rfl⟩ := rx; exact SeqAt.EqAt.int_int a t' b t
    | str b => obtain ⟨t, rfl⟩ := rx; exact SeqAt.EqAt.int_str a t' b t
    | _ => exact absurd (show false = true from fx) Bool.false_ne_true
  | str a =>
    obtain ⟨t', rfl⟩ := ry
    cases x with
    | non => cases rx; exact SeqAt.EqAt.str_none a t'
    | bl b => cases rx; exact SeqAt.EqAt.str_bool a t' b
    | int b => obtain ⟨t, rfl⟩ := rx; exact SeqAt.EqAt.str_int a t' b t
    | str b => obtain ⟨t, rfl⟩ := rx; exact SeqAt.EqAt.str_str a t' b t
    | _ => exact absurd (show false = true from fx) Bool.false_ne_true
  | _ => exact absurd (show false = true from fy) Bool.false_ne_true
/-- the items' answers, read off the values (a value's own answer does not lean on its token) -/
def eqU (x : V) (u : Value) : Bool := match u with
  | .none => eqV .non x
  | .bool b => eqV (.bl b) x
  | .int i _ => eqV (.int i) x
  | .str z _ => eqV (.str z) x
  | _ => false
theorem eqU_of {x y : V} {u : Value} (r : RelV y u) (f : flatV y = true) : eqU x u = eqV y x := by
  cases y with
  | non => cases r; rfl
  | bl b => cases r; rfl
  | int i => obtain ⟨t, rfl⟩ := r; rfl
  | str z => obtain ⟨t, rfl⟩ := r; rfl
  | _ => exact absurd (show false = true from f) Bool.false_ne_true
theorem any_eqU {x : V} : ∀ {xs : List V} {us : List Value}, Vals xs us → xs.all flatV = true → us.any (eqU x) = xs.any fun y => eqV y x
  | _, _, .nil, _ => rfl
  | y :: xs, u :: us, .cons r t, f => by
    rw [List.all_cons, Bool.and_eq_true] at f
    rw [List.any_cons, List.any_cons, eqU_of r f.1, any_eqU t f.2]
theorem mem_eqAt {A : Around} {s : Shared} {x : V} {v : Value} (rx : RelV x v) (fx : flatV x = true) : ∀ {xs : List V} {us : List Value}, Vals xs us → xs.all flatV = true → ∀ u ∈ us, SeqAt.EqAt A s u v (eqU x u)
  | _, _, .nil, _ => fun u hu => by cases hu
  | y :: xs, u :: us, .cons r t, f => fun u' hu => by
    rw [List.all_cons, Bool.and_eq_true] at f
    rcases List.mem_cons.mp hu with rfl | hu
    · rw [eqU_of r f.1]; exact eqAt_V r rx f.1 fx
    · exact mem_eqAt rx fx t f.2 u' hu
def inV (x : V) (xs : List V) : Bool := xs.any fun y => eqV y x
/-- x in a list or tuple of flat items -/
def rIn (K : PySem.W.Frag) (neg : Bool) : R2 := fun x y H Q => ∃ p xs, y = .ref p ∧ (SqL K H p xs ∨ SqT K H p xs) ∧ flatV x = true ∧ xs.all flatV = true ∧ Q (.bl (if neg then !inV x xs else inV x xs)) H
theorem op_in_seq : OpR X (compareOp .In) (rIn X.K false) := by
  intro pins s σ H x y v u Q I rx ry h
  obtain ⟨p, xs, rfl, hq, fx, fs, q⟩ := h
  cases ry
  rcases hq with hq | hq
  · obtain ⟨its, r, pl, hz⟩ := I.list hq
    refine SeqAt.in_listAt (eqU x) pl.isList (fun w hw => mem_eqAt rx fx r fs w (by simpa using hw)) ⟨.bl _, H, I, rfl, ?_⟩
    rw [show its.toArray.any (eqU x) = its.any (eqU x) by simp, any_eqU r fs]
    exact q
  · obtain ⟨its, r, pl, hz⟩ := I.tuple hq
    refine SeqAt.in_tupleAt (eqU x) pl (fun w hw => mem_eqAt rx fx r fs w (by simpa using hw)) ⟨.bl _, H, I, rfl, ?_⟩
    rw [show its.toArray.any (eqU x) = its.any (eqU x) by simp, any_eqU r fs]
    exact q
/-! ### len, list(x), tuple(x) of any list or tuple that is read -/
theorem call_len_seq : CallR X (.builtin "len") (fun xs H Q => ∃ p ys, xs = [.ref p] ∧ (SqL X.K H p ys ∨ SqT X.K H p ys) ∧ Q (.int ys.length) H) := by
  intro pins s σ H xs us Q I r h
  obtain ⟨p, ys, rfl, hq, q⟩ := h
  obtain ⟨u, rfl, rx⟩ := vals1 r
  cases rx
  have hn := line63
  rcases hq with hq | hq
  · obtain ⟨its, r', pl, hz⟩ := I.list hq
    have hlen := r'.length
    exact Calls.call_len_list pl.isList (by simp only [List.size_toArray] <;> omega) ⟨.int ys.length, H, I.tok _, ⟨s.toks + 1, by rw [List.size_toArray, hlen]⟩, q⟩
  · obtain ⟨its, r', pl, hz⟩ := I.tuple hq
    have hlen := r'.length
    exact len_tuple pl (by simp only [List.size_toArray] <;> omega) ⟨.int ys.length, H, I.tok _, ⟨s.toks + 1, by rw [List.size_toArray, hlen]⟩, q⟩
/-! ### the call of a builtin's method: o.m(..) -/
/-- the value is of that builtin type -/
def tyV (K : PySem.W.Frag) (T : String) (x : V) (H : Hp) : Prop := match x with
  | .str _ => T = "str"
  | .int _ => T = "int"
  | .ref p => (T = "list" ∧ ∃ xs, SqL K H p xs) ∨ (T = "tuple" ∧ ∃ o, K.lookup p = some o ∧ o.cls = .type "tuple" ∧ o.dict = none) ∨
      (T = "dict" ∧ ((∃ kvs, H p = some (.dK kvs)) ∨ ∃ kvs, H p = some (.dT kvs))) ∨ (T = "set" ∧ ∃ S n, H p = some (.set S n))
  | _ => False
theorem tyV_is {pins : List (Addr × Obj)} {σ : St} {H : Hp} {s : Shared} {T : String} {x : V} {v : Value} (I : Inv X pins σ H s) (r : RelV x v) (ty : tyV X.K T x H) :
    s.TypeIs v T ∧ ∀ a, v = .ref a → ∃ ob, s.heap.get? a = some ob ∧ ob.dict = none := by
  cases x with
  | str z =>
    obtain ⟨t, rfl⟩ := r
    cases (show T = "str" from ty)
    exact ⟨typeIs_str s z t, fun _ e => nomatch e⟩
  | int i =>
    obtain ⟨t, rfl⟩ := r
    cases (show T = "int" from ty)
    exact ⟨typeIs_int s i t, fun _ e => nomatch e⟩
  | ref p =>
    cases r
    rcases ty with ⟨rfl, xs, hq⟩ | ⟨rfl, o, hk, hc, hd⟩ | ⟨rfl, hk⟩ | ⟨rfl, S, n, hk⟩
    · obtain ⟨its, _, pl, _⟩ := I.list hq
      refine ⟨pl.isList.typeIs, fun a e => ?_⟩
      cases e
      obtain ⟨o, n, e, c, hd, _⟩ := pl
      exact ⟨o, e, hd⟩
    · refine ⟨⟨o, I.kIn p o hk, hc⟩, fun a e => ?_⟩
      cases e
      exact ⟨o, I.kIn _ o hk, hd⟩
    · have z : ∃ o, s.heap.get? p = some o ∧ o.ExactDict := by
        rcases hk with ⟨kvs, hk⟩ | ⟨kvs, hk⟩
        · obtain ⟨_, _, _, _, o, _, _, e, ex, _⟩ := I.hok p _ hk
          exact ⟨o, e, ex⟩
        · obtain ⟨_, _, _, _, o, _, _, e, ex, _⟩ := I.hok p _ hk
          exact ⟨o, e, ex⟩
      obtain ⟨o, e, ex⟩ := z
      refine ⟨⟨o, e, ex.1⟩, fun a e2 => ?_⟩
      cases e2
      exact ⟨o, e, ex.2.1⟩
    · obtain ⟨o, _, _, _, e, ex, _⟩ := I.hok p _ hk
      refine ⟨⟨o, e, ex.1⟩, fun a e2 => ?_⟩
      cases e2
      exact ⟨o, e, ex.2.1⟩
  | _ => exact False.elim ty
def tBM (K : PySem.W.Frag) (T : String) (r : V → List V → Hp → VK → Prop) (to : TE) (t : TA) : TE := fun σ H Q => to σ H fun x H1 => tyV K T x H1 ∧ t σ H1 fun xs H2 => r x xs H2 Q
variable {o e : Expr} {es : List Expr} {to : TE} {t : TA} {name : Str} {apos cpos : Pos} {T id : String} {r : V → List V → Hp → VK → Prop}
theorem pe_bm (pa : PlainAttrs T) (slot : Slot T name id) (hty : typeOf (.builtin id) = pure (.type "method_descriptor")) (hm : MtR X id r) (ho : PE X o to) (ha : PA X (e :: es) t)
    (hbase : attributeBase o name X.env (eval o X.env) = eval o X.env := by rfl)
    (hfew : ((backTo cpos (starEach (e :: es) X.env)).all (fun x => !x.1) && (backToKw cpos (keywordEach [] X.env)).all (fun x => x.1.isSome)
      && decide ((e :: es).length + ([] : List Keyword).length + (if ([] : List Keyword).isEmpty then 0 else 1) < 30)) = true := by rfl)
    (hline : (apos.endLine == cpos.line) = true := by rfl) (hs : starEach (e :: es) X.env = (false, eval e X.env) :: starEach es X.env := by rfl) (hplain : (backTo cpos (starEach es X.env)).any (·.1) = false := by rfl) :
    PE X (.Call (.Attribute o name apos) (e :: es) [] cpos) (tBM X.K T r to t) := by
  intro pins s σ H Q I h
  refine wpAny_Call_method_late hbase hfew hline rfl (thn (ho pins s σ H _ I h) fun v s1 ⟨x, H1, I1, r1, ty, q1⟩ => ?_)
  obtain ⟨h1, h2⟩ := tyV_is I1 r1 ty
  refine ⟨T, id, pa, slot, hty, h1, h2, ?_⟩
  have hA := ha cpos pins s1 σ H1 _ I1 q1
  rw [hs] at hA ⊢
  refine Calls.callWith_builtin (by show (false || (backTo cpos (starEach es X.env)).any (·.1)) = false; rw [hplain] <;> rfl) (Calls.evalArgs_plain ?_)
  exact thn hA fun us s2 ⟨vs, H2, I2, r2, q2⟩ => hm pins s2 σ H2 x vs v us Q I2 r1 r2 q2
/- xs.append(e), list.index on a module's tuple .. are MtR facts of 06m -/
end
end L2
namespace L2
open PySem PySem.Spec PyProof.Rows
def MtM (X : Cx) (id : String) (r : V → List V → Hp → VK → Prop) : Prop :=
  ∀ (pins : List (Addr × Obj)) (s : Shared) (σ : St) (H : Hp) (x : V) (xs : List V) (v : Value) (us : List Value) (Q : VK), Inv X pins σ H s → RelV x v → Vals xs us → r x xs H Q →
    wpAny (model X.prog X.w) X.A (call (.builtin id) (v :: us)) (EP X pins σ Q) X.xe s
/-! ### lists of values -/
theorem Vals.one : ∀ {x : V} {us : List Value}, Vals [x] us → ∃ u, us = [u] ∧ RelV x u
  | _, _, .cons r .nil => ⟨_, rfl, r⟩
theorem Vals.two : ∀ {x y : V} {us : List Value}, Vals [x, y] us → ∃ u v, us = [u, v] ∧ RelV x u ∧ RelV y v
  | _, _, _, .cons r (.cons q .nil) => ⟨_, _, rfl, r, q⟩
theorem Vals.reverse {xs : List V} {us : List Value} (h : Vals xs us) : Vals xs.reverse us.reverse := by
  induction h with
  | nil => exact .nil
  | cons r t ih => rw [List.reverse_cons, List.reverse_cons]; exact Vals.append ih (.cons r .nil)
section
variable {X : Cx} {pins : List (Addr × Obj)} {σ : St} {H : Hp} {s : Shared} {l b : Addr} {xs ys zs : List V}
/-! ### the two steps: a tracked list is rewritten, a new list is laid -/
theorem Inv.lset {its its' : List Value} {n : Nat} {f : Array Value → Array Value} {t' : Nat} (I : Inv X pins σ H s) (hH : H l = some (.lst xs))
    (e : s.heap.get? l = some { cls := .type "list", data := .seq its.toArray n }) (hf : f its.toArray = its'.toArray) (hv : Vals ys its') (hz : ys.length ≤ sizeLine) :
    Inv X pins σ (upd H l (.lst ys)) { s with heap := s.heap.update l (Obj.mapSeq f), toks := t' } := by
  have q := PySem.IsL.update e f
  rw [hf] at q
  refine I.write (x := l) (e := l) (by rw [hH]; exact trivial) (.inl rfl) (fun b' u hb hu => (Heap.get?_update_other s.heap (Obj.mapSeq f) (Ne.symm hb)).trans hu) ⟨_, q⟩ ?_
  exact ⟨hz, its', _, hv, q⟩
theorem Inv.lnew {its : List Value} {t' : Nat} (I : Inv X pins σ H s) (hv : Vals ys its) (hz : ys.length ≤ sizeLine) :
    Inv X pins σ (upd H s.heap.objs.size (.lst ys)) { s with heap := s.heap.push { cls := .type "list", data := .seq its.toArray }, toks := t' } :=
  I.laid (fun _ _ q => Heap.get?_push_of_some _ q) (Nat.le_refl _) ⟨hz, its, 0, hv, Heap.get?_push_size _ rfl⟩
theorem Inv.fresh (I : Inv X pins σ H s) : H s.heap.objs.size = none := I.hok.fresh (Nat.le_refl _)
theorem Inv.lstM (I : Inv X pins σ H s) (hH : H l = some (.lst xs)) : xs.length ≤ sizeLine ∧ ∃ (its : List Value) (n : Nat), Vals xs its ∧ xs.length = its.length ∧ s.heap.get? l = some { cls := .type "list", data := .seq its.toArray n } := by
  obtain ⟨z, its, n, r, e⟩ := I.hok l _ hH
  exact ⟨z, its, n, r, r.length, e⟩
end
section
variable {X : Cx}
/-! ### methods -/
def rAppend : V → List V → Hp → VK → Prop := fun x vs H Q => ∃ l xs y, x = .ref l ∧ vs = [y] ∧ H l = some (.lst xs) ∧ xs.length < sizeLine ∧ Q .non (upd H l (.lst (xs ++ [y])))
theorem mt_append : MtM X "list.append" rAppend := by
  intro pins s σ H x vs v us Q I rx rv h
  obtain ⟨l, xs, y, rfl, rfl, hH, hz, q⟩ := h
  cases rx
  obtain ⟨u, rfl, ru⟩ := rv.one
  obtain ⟨z, its, n, r, hl, e⟩ := I.lstM hH
  refine call_meets F.slot_list_append ⟨_, e, rfl⟩ F.entry_list_append (F.args_list_append_2 _ _) (PySem.list_append l its.toArray n u (by rw [List.size_toArray]; omega)) ⟨e, ?_⟩
  refine ⟨.non, _, I.lset (its' := its ++ [u]) hH e (by simp) (r.append (.cons ru .nil)) ?_, rfl, q⟩
  rw [List.length_append, List.length_singleton]
  omega
/-! ### list + list, list += list, list * int -/
/-! ### del xs[i] -/
end
/-! ### xs[a:b] = ys -/
section
variable {prog : Program} {w : World} {A : Around} {E : Value → Shared → Prop} {s : Shared}
end
section
variable {X : Cx}
end
end L2
namespace Att
open PySem PySem.W PySem.Calls PyProof.Rows
/-! ### the script -/
theorem ints_of_wellAll {P : Params} {h : Heap} : ∀ (ns : List Int) (vs : List Value), WellAll P h vs (ns.map WData.int) → IntsAre vs ns := by
  intro ns
  induction ns with
  | nil =>
    intro vs w
    rw [List.map_nil] at w
    cases w
    exact .nil
  | cons n ns ih =>
    intro vs w
    rw [List.map_cons] at w
    cases w with
    | cons a b =>
      cases a
      exact .cons _ _ (ih _ b)
theorem script_of {l : OpenLaw} {n : Nat} (hn : l.most = some n) {P : Params} {h : Heap} {args : List WData} {vals : List Value}
    (hpre : l.row.toRowW.claim.pre args = true) (hwl : WellAll P h vals args) :
    ∃ a vs ns, vals = [Value.ref a] ∧ args = [WData.list (ns.map WData.int)] ∧ h.get? a = some { cls := .type "list", data := .seq vs.toArray } ∧ IntsAre vs ns ∧ ns.length ≤ n := by
  have hsh : WShape.hasAll [] args [.list .int] = true := (pre_splitW hpre).1
  have hc : l.pre.holds [] { args := args } = true := (pre_splitW hpre).2
  obtain ⟨d, r, rfl, h1, h2⟩ := hasAllW_cons hsh
  obtain rfl := hasAllW_nil h2
  obtain ⟨xs, rfl, h3⟩ := hasW_list h1
  obtain ⟨ns, rfl⟩ := items_int h3
  have hlen : ns.length ≤ n := by
    unfold OpenLaw.pre at hc
    have h4 : (WTm.not (.lt (.lit (.int (n : Int))) (.len (.arg 0)))).holds [] { args := [.list (ns.map .int)] } = true := by
      have h4 := (holds_andW hc).1
      rw [hn] at h4
      exact h4
    have h5 := condW_of h4 (w_not (w_lt w_lit (w_len_list (w_arg rfl))))
    rw [List.length_map] at h5
    refine Nat.le_of_not_lt fun q => ?_
    have q' : (n : Int) < ((ns.length : Nat) : Int) := by omega
    first
      | (rw [decide_eq_true q'] at h5; exact absurd h5 (by decide))
      | (simp at h5; omega)
  cases hwl with
  | cons w1 w2 =>
    cases w2
    cases w1 with
    | list ho hall => exact ⟨_, _, ns, rfl, rfl, ho, ints_of_wellAll ns _ hall, hlen⟩
theorem post_true (l : OpenLaw) (args : List WData) : l.row.toRowW.claim.post args (.bool true) args = true :=
  postW_of (r := l.row.toRowW) (X := (true == true))
    (show WShape.has [] (.bool true) .bool = true by first | rfl | decide | simp [WShape.has, WShape.arms, WShape.armsAll])
    (show (WTm.eq .res (.lit (.bool true))).value [] { args := args, res := some (.bool true), after := args } = some (.bool (true == true)) from w_eq_bool (w_res rfl) w_lit) rfl
/-! ### the attachment: holds_open's last premise (the goal 'hc' behind k_head) from a wpAny of the law's body -/
/-- the same from a codeAny of the CALL (for a layer whose function contracts speak of calls) -/
theorem attach_call {l : OpenLaw} {n : Nat} {q : Program} {loose : List Str} {XP : (Str → Option Value) → Heap → Prop} {YP : World → Heap → Prop} {d : DefRec}
    (hn : l.most = some n) (hdf : d.params.defaults = [])
    (call : ∀ (w : World) (s₀ s₁ : Shared) (mg mb : Str → Option Value) (fa : Addr) (o : Obj) (pm cd doc : Value) (a : Addr) (vs : List Value) (ns : List Int),
      Ground q loose [] XP w s₀ mg mb s₁.heap → YP w s₁.heap →
      s₁.heap.get? fa = some o → o.data = .func (docDef d.name d.params d.body d.scope pm cd doc) → s₁.heap.CodeRec cd d.name → mg d.name = some (.ref fa) →
      s₁.heap.get? a = some { cls := .type "list", data := .seq vs.toArray } → IntsAre vs ns → ns.length ≤ n → s₁.gens = #[] →
      codeAny (model l.prog w) callerA (.call (.ref fa) ⟨[.ref a], []⟩) (fun r s' => r = .ok (.ret (.bool true)) ∧ OldK s₁.heap s'.heap ∧ s'.os = s₁.os ∧ AllBare s'.gens) s₁) :
    WalkO q loose XP YP l.row.toRowW d [] (fun f vs => PySem.call f vs) := by
  intro w s₀ s₁ mg mb G Y fa o pm cd doc dV kV ho hd hcd hD hmg hg args vals as hpre hlay hrd hwl hlo
  obtain rfl : dV = .none := Dflts.none hD hdf
  obtain rfl : kV = .none := Dflts.noKw hD
  obtain ⟨a, vs, ns, rfl, rfl, hobj, hints, hlen⟩ := script_of hn hpre hwl
  refine enter_call (codeAny_mono (call w s₀ s₁ mg mb fa o pm cd doc a vs ns G Y ho (fd_plain hd) hcd hmg hobj hints hlen hg) fun r s' hq => ?_)
  obtain ⟨rfl, h2, h3, h4⟩ := hq
  exact ⟨.inl ⟨.bool true, .bool true, [], rfl, fun _ => rfl, .bool true, post_true l _, fun _ => ⟨List.Pairwise.nil, fun _ hm => (nomatch hm)⟩⟩, h2, h3, h4⟩
/-! ### rules over ANY heap (no ledger) from facts about the written part K: the library's own take a ledger (News) for what they write -/
section
variable {prog : Program} {w : World} {A : Around} {E : Value → Shared → Prop} {s : Shared} {K : Frag}
/-! the whole heap as the ledger: makes every rule that writes through a ledger a rule over any heap -/
end
end Att
namespace L2
open PySem PySem.Spec PyProof.Rows
theorem vals_ints : ∀ {vs : List Value} {ns : List Int}, IntsAre vs ns → Vals (ns.map V.int) vs
  | _, _, .nil => .nil
  | _, _, .cons n t h => .cons ⟨t, rfl⟩ (vals_ints h)
/-- nothing is tracked but the script, known to the object (or it is an object of the module) -/
def Only (H : Hp) : Prop := ∀ b, H b = none ∨ ∃ o xs, H b = some (.frz o (.lst xs))
/-- THE HEAD: the law's promise, at the heap behind the top. F, the promise of the law's def, may use that base is part of the heap (so K.In base, base.Ns mainGlobals mg stand in Mod) -/
theorem law_call {P : Program} {w : World} {K : PySem.W.Frag} {mg mb : Str → Option Value} {CX : CXT} {k : Nat} {fa a : Addr} {fd : FuncData} {x : Str} {sp : Sp} {s₁ : Shared} {vs : List Value} {ns : List Int}
    (KX : K.In s₁.heap) (hns : s₁.heap.Ns mainGlobals mg) (hb : s₁.heap.Ns builtinsNs mb) (hbb : ∀ x : Str, x ≠ "__name__" → mb x = bootBuiltins x) (hlim : s₁.heap.NoLimit) (hg : s₁.gens = #[])
    (ha : s₁.heap.get? a = some { cls := .type "list", data := .seq vs.toArray }) (hi : IntsAre vs ns) (hl : ns.length ≤ sizeLine) (hr : Room k callerA)
    (F : ∀ base : Heap, K.In base → base.Ns mainGlobals mg → FnOk P w K mg base CX k fa fd [x] sp) (hbind : ∀ (s : Shared) (u : Value), BindsTo s fd ⟨[u], []⟩ [(x, u)])
    (hsp : ∀ H : Hp, Only H → SqL K H a (ns.map V.int) → sp [.ref a] H (fun v _ => v = .bl true) fun _ _ _ => False)
    (hCX : ∀ H e s', CX [] H s₁ (fun _ _ _ => False) e s' → False) :
    codeAny (model P w) callerA (.call (.ref fa) ⟨[.ref a], []⟩) (fun r s' => r = .ok (.ret (.bool true)) ∧ OldK s₁.heap s'.heap ∧ s'.os = s₁.os ∧ AllBare s'.gens) s₁ := by
  have rv := vals_ints hi
  have lenV := hi.length
  -- from an abstract heap in which nothing but the script may be tracked
  have core : ∀ H : Hp, Only H → SqL K H a (ns.map V.int) → HOk P w H s₁.heap → (∀ b, H b ≠ none → b = a) → (H a ≠ none → K.lookup a = none) →
      codeAny (model P w) callerA (.call (.ref fa) ⟨[.ref a], []⟩) (fun r s' => r = .ok (.ret (.bool true)) ∧ OldK s₁.heap s'.heap ∧ s'.os = s₁.os ∧ AllBare s'.gens) s₁ := by
    intro H hO hS hok hA hK
    have base_of : ∀ {b : Addr} {o : Obj}, s₁.heap.get? b = some o → H b = none → (hidT s₁.heap H).get? b = some o := fun e n => hidT_get e n
    have noA : ∀ {b : Addr} {o : Obj} {es : Array DictEntry} {ep : Nat}, s₁.heap.get? b = some o → o.data = .dict es ep → H b = none := fun {b o es ep} e d => by
      cases q : H b with
      | none => rfl
      | some u =>
        have e' : b = a := hA b (by rw [q]; simp)
        subst e'
        rw [ha] at e; cases e
        have d' : Data.seq vs.toArray _ = Data.dict es ep := d
        cases d'
    have nsK : ∀ {b : Addr} {m : Str → Option Value}, s₁.heap.Ns b m → (hidT s₁.heap H).Ns b m := fun {b m} ⟨o, es, ep, e, d, r⟩ => ⟨o, es, ep, base_of e (noA e d), d, r⟩
    have hKb : K.In (hidT s₁.heap H) := fun b o e => base_of (KX b o e) (by
      cases q : H b with
      | none => rfl
      | some u =>
        have e' : b = a := hA b (by rw [q]; simp)
        subst e'
        rw [hK (by rw [q]; simp)] at e; cases e)
    have hM : Mod K mg (hidT s₁.heap H) := ⟨hKb, nsK hns, ⟨mb, nsK hb, hbb⟩, let ⟨mc, h1, h2⟩ := hlim; ⟨mc, nsK h1, h2⟩⟩
    have e0 : Env0 P w K mg (hidT s₁.heap H) callerA [] s₁ H := ⟨rfl, hM, fun b o e => of_hidT e, Nat.le_of_eq (hidT_size _ _), trivial, fun b hb => absurd (show b ∈ ([] : List Addr) from hb) (by simp), hok, .of_eq hg⟩
    refine codeAny_mono ((F _ hKb (nsK hns)).run callerA [] s₁ H ⟨[.ref a], []⟩ [.ref a] [.ref a] _ _ hr e0 (hbind s₁ (.ref a)) (.cons rfl .nil) (hsp H hO hS)) fun r s' h => ?_
    cases r with
    | error e => exact (hCX H e s' h).elim
    | ok fl =>
      cases fl with
      | next => exact False.elim h
      | brk => exact False.elim h
      | cont => exact False.elim h
      | ret u =>
        obtain ⟨v, H', os, bare, un, hok', r', q⟩ := h
        have q' : v = .bl true := q
        subst q'
        obtain rfl : u = Value.bool true := r'
        refine ⟨rfl, OldK.of_keep fun b o e => ?_, os, bare⟩
        cases q : H b with
        | none => exact un.keep b o e q (by intro z; exact absurd (show b ∈ ([] : List Addr) from z) (by simp)) (by simp)
        | some u =>
          rcases hO b with z | ⟨ob, xs, z⟩
          · rw [q] at z; cases z
          · have z2 := un.frzs b ob _ z
            obtain ⟨e1, _⟩ := hok b _ z
            obtain ⟨e2, _⟩ := hok' b _ z2
            rw [e] at e1; cases e1
            exact e2
  cases hk : K.lookup a with
  | some o =>
    -- the script is one of the module's own objects
    have e := KX a o hk
    rw [ha] at e
    cases e
    refine core (fun _ => none) (fun _ => .inl rfl) (.inr ⟨_, vs.toArray, _, hk, rfl, rfl, rfl, by rw [List.size_toArray, lenV]; exact hl, by simpa using rv⟩) (fun b u z => by have z' : (none : Option HO) = some u := z; cases z') (fun b z => absurd rfl z) fun z => absurd rfl z
  | none =>
    refine core (fun b => if b = a then some (.frz { cls := .type "list", data := .seq vs.toArray } (.lst (ns.map V.int))) else none) (fun b => ?_) (.inl (.inr ⟨{ cls := .type "list", data := .seq vs.toArray }, if_pos rfl⟩)) (fun b u z => ?_) (fun b z => ?_) fun _ => hk
    · by_cases hb : b = a
      · exact .inr ⟨_, _, if_pos hb⟩
      · exact .inl (if_neg hb)
    · by_cases hb : b = a
      · have z' := (if_pos hb).symm.trans z
        cases z'
        subst hb
        exact ⟨ha, by rw [List.length_map]; exact hl, vs, _, rv, ha⟩
      · have z' := (if_neg hb).symm.trans z
        cases z'
    · by_cases hb : b = a
      · exact hb
      · exact absurd (if_neg hb) z
end L2
namespace L2
open PySem PySem.Spec PyProof.Rows
abbrev KOf {K : PySem.W.Frag} {h : Heap} (_ : K.In h) : PySem.W.Frag := K
/-- the goal that k_head leaves (case hc), from the law's promise. F gives the function object fd (K's own) once, then the promise over every base -/
theorem walk_of {l : PySem.W.OpenLaw} {n k : Nat} {q : Program} {loose : List Str} {XP : (Str → Option Value) → Heap → Prop} {YP : World → Heap → Prop} {d : DefRec} {K : Params → PySem.W.Frag} {CX : World → CXT} {sp : World → Sp} {x : Str}
    (hn : l.most = some n) (hn2 : n ≤ sizeLine) (hdf : d.params.defaults = []) (hr : Room k callerA)
    (hY : ∀ (w : World) (h : Heap), YP w h → (K w.params).In h)
    (F : ∀ (w : World) (mg : Str → Option Value) (fa : Addr) (h : Heap), (K w.params).In h → h.Ns mainGlobals mg → mg d.name = some (.ref fa) →
      ∃ fd : FuncData, (∀ (s : Shared) (u : Value), BindsTo s fd ⟨[u], []⟩ [(x, u)]) ∧
        ∀ base : Heap, (K w.params).In base → base.Ns mainGlobals mg → FnOk l.prog w (K w.params) mg base (CX w) k fa fd [x] (sp w))
    (hsp : ∀ (w : World) (H : Hp) (a : Addr) (ns : List Int), ns.length ≤ n → Only H → SqL (K w.params) H a (ns.map V.int) → sp w [.ref a] H (fun v _ => v = .bl true) fun _ _ _ => False)
    (hCX : ∀ (w : World) (H : Hp) (s : Shared) (e : Value) (s' : Shared), CX w [] H s (fun _ _ _ => False) e s' → False) :
    PySem.W.WalkO q loose XP YP l.row.toRowW d [] (fun f vs => PySem.call f vs) := by
  refine Att.attach_call hn hdf fun w s₀ s₁ mg mb fa o pm cd doc a vs ns G Y ho hd hcd hmg hobj hints hlen hg => ?_
  have KX := hY w _ Y
  obtain ⟨fd, hb, hF⟩ := F w mg fa _ KX G.T.g hmg
  exact law_call KX G.T.g G.T.b G.T.builtins G.T.nolimit hg hobj hints (Nat.le_trans hlen hn2) hr hF hb (fun H hO hS => hsp w H a ns hlen hO hS) fun H e s' => hCX w H s₁ e s'
end L2
/- THE LAST THEOREM (shape; LID, My.* are yours):
   My.Adr: a structure of the addresses that your layer names (classes, functions); My.Txt K t: a structure (Prop) of the equations over K;
   My.txt_mk : {K} {implicit addresses ..} (e1 : nsIn K mainGlobals "law" = some (some (.ref f))) (e2 : K.lookup f = some ⟨oc, od, .func (fnOf "law" "law" params body scope dV kV doc pm an cdv ct), sl⟩) (e3 : codeIn K cdv "law" = true) .. : ∃ t, My.Txt K t
set_option maxRecDepth 100000 in
set_option maxHeartbeats 0 in
theorem PySem.Challenge.cw_LID_holds : PySem.Challenge.rw_LID.Holds := by
  w_on; o_law; k_head; (case hw => w_witness2)
  k_fill
  refine L2.walk_of (l := PySem.Challenge.rw_LID) (n := 63) (k := 40) (x := "script") (CX := fun w => ..) (sp := fun _ => My.sp_law) rfl (by decide) rfl ⟨rfl, by decide, by decide⟩ (fun w h Y => PySem.W.kIn_of Y) ?F ?S ?C
  case F =>
    intro w mg fa h KX G hmg
    have T : ∃ t, My.Txt (L2.KOf KX) t := by
      dsimp only [L2.KOf]                          -- K must stand as «<heap const> w.params» for k_is
      refine' My.txt_mk ?e1 ?e2 ?e3 ..
      (case e1 => PySem.W.k_is)                    -- in the order: a name -> its address -> its object -> its parts
      (case e2 => PySem.W.k_is)
      ..
    obtain ⟨t, T⟩ := T
    have e0 := hmg.symm.trans (PySem.W.mg_of KX G T.law)
    cases e0                                       -- fa is the law's own address
    exact ⟨_, fun s u => .of_eq rfl, fun base kb nb => My.law_fn T kb nb⟩     -- if «.of_eq rfl» comes too early: refine' ⟨_, ?b, fun base kb nb => My.law_fn T kb nb⟩; exact fun s u => .of_eq rfl
  case S => exact fun w H a ns hl hO hS => ..
  case C => exact ..
(the tactic k_is has no namespace: write k_is) -/
/-! SHORT WORDS over the layer: a def of the text, its body, what a loop and a test want. -/
namespace L2
open PySem PySem.Spec PyProof.Rows
/-! ### the text by places -/
/-- the j-th statement of a class's body -/
def inClass (s : Stmt) (j : Nat) : Stmt := match s with
  | .ClassDef _ _ _ body _ _ _ _ _ _ _ => body.getD j (.Pass ⟨0, 0, 0, 0⟩)
  | _ => .Pass ⟨0, 0, 0, 0⟩
def defArgs (s : Stmt) : Arguments := match s with
  | .FunctionDef _ a _ _ _ _ _ _ _ _ => a
  | _ => { posonlyargs := [], args := [], vararg := none, kwonlyargs := [], kw_defaults := [], kwarg := none, defaults := [] }
def defBody (s : Stmt) : List Stmt := match s with
  | .FunctionDef _ _ b _ _ _ _ _ _ _ => b
  | _ => []
def defScope (s : Stmt) : Scope := match s with
  | .FunctionDef _ _ _ _ _ _ sc _ _ _ => sc
  | _ => { kind := .function, names := [], isGenerator := false, isCoroutine := false }
/-! ### no exception leaves a def -/
abbrev CX0 : CXT := fun _ _ _ _ _ _ => False
abbrev E0 : XK := fun _ _ _ => False
/-! ### a def (or method) of the text as it stands behind the top -/
structure Fun (K : PySem.W.Frag) (x qual : Str) (st : Stmt) (f : Addr) (fd : FuncData) : Prop where
  ex : ∃ (oc : Value) (od : Option Addr) (kV doc pm : Value) (an : Option Addr) (cdv ct : Value) (osl : Array (Option Value)),
    fd = PySem.W.fnOf x qual (defArgs st) (defBody st) (defScope st) .none kV doc pm an cdv ct ∧ K.lookup f = some ⟨oc, od, .func fd, osl⟩ ∧ PySem.W.codeIn K cdv qual = true
  kp : PySem.W.keepIn K (.ref f) = true
section
variable {P : Program} {w : World} {K : PySem.W.Frag} {mg : Str → Option Value} {base : Heap}
/-- THE RULE for a def: its body as a term of rules, and the reading of that term -/
theorem Fun.ok {x qual : Str} {st : Stmt} {f : Addr} {fd : FuncData} {N ps : List Str} {k : Nat} {sp : Sp} (F : Fun K x qual st f fd) (S : FnScope N ps (defScope st)) (len : ∀ vs H Q E, sp vs H Q E → vs.length = ps.length)
    (hbody : ∀ (cdv : Value) (A : Around) (outer : List Env) (s : Shared) (H : Hp) (vs : List V) (Q : VK) (E : XK), Room k (A.deeper (envOfC qual (defScope st) s.heap.objs.size f cdv)) → sp vs H Q E →
      ∃ t, PSs (cxOf CX0 P w K mg base N qual (defScope st) f cdv A outer s H E).nox (defBody st) t ∧ t { nx := fun _ H' => Q .non H', rt := Q } (start N vs) H) : FnOk P w K mg base CX0 (k + 1) f fd ps sp := by
  obtain ⟨oc, od, kV, doc, pm, an, cdv, ct, osl, rfl, lk, hcd⟩ := F.ex
  refine fn_of lk hcd S len fun A outer s H vs Q E hr hsp => ?_
  obtain ⟨t, h, q⟩ := hbody cdv A outer s H vs Q E hr hsp
  exact ⟨t, h.nox, q⟩
/-- how its arguments bind (no defaults): h is «fun _ _ _ _ _ _ us hl => match us, hl with | [_, _], _ => rfl», one _ a parameter -/
theorem Fun.binds {x qual : Str} {st : Stmt} {f : Addr} {fd : FuncData} {ps : List Str} (F : Fun K x qual st f fd)
    (h : ∀ (kV doc pm : Value) (an : Option Addr) (cdv ct : Value) (us : List Value), us.length = ps.length → bindArgs (PySem.W.fnOf x qual (defArgs st) (defBody st) (defScope st) .none kV doc pm an cdv ct) ⟨us, []⟩ = pure (ps.zip us)) : Binds K fd ps [] := by
  obtain ⟨oc, od, kV, doc, pm, an, cdv, ct, osl, rfl, lk, hcd⟩ := F.ex
  exact .all (h kV doc pm an cdv ct)
theorem fun_mk {x qual : Str} {st : Stmt} {f : Addr} {oc : Value} {od an : Option Addr} {osl : Array (Option Value)} {kV doc pm cdv ct : Value} (l : K.lookup f = some ⟨oc, od, .func (PySem.W.fnOf x qual (defArgs st) (defBody st) (defScope st) .none kV doc pm an cdv ct), osl⟩)
    (c : PySem.W.codeIn K cdv qual = true) (k : PySem.W.keepIn K (.ref f) = true) : Fun K x qual st f (PySem.W.fnOf x qual (defArgs st) (defBody st) (defScope st) .none kV doc pm an cdv ct) := ⟨⟨oc, od, kV, doc, pm, an, cdv, ct, osl, rfl, l, c⟩, k⟩
end
theorem small1000 {n : Nat} (h : n ≤ 1000) : n < sizeLine := Nat.lt_of_le_of_lt h (by decide)
/-! ### expressions in short: the name that stands in the i-th slot -/
section
variable {X : Cx}
theorem pv (i : Nat) {x : Str} {pos : Pos} (hN : X.N[i]? = some x := by rfl) (hv : Vis X.env.scope x := by first | exact Or.inl rfl | exact Or.inr (Or.inl rfl) | exact Or.inr (Or.inr rfl)) (hd : (x == ("__debug__" : Str)) = false := by decide)
    (hcd : (x == ("__classdict__" : Str)) = false := by decide) : PE X (.Name x pos) (tVar i) := pe_var hN hv hd hcd
end
/-! ### tests -/
theorem iteF {A B : Prop} (h : B) : if false = true then A else B := by
  rw [if_neg Bool.false_ne_true]
  exact h
theorem iteT {A B : Prop} (h : A) : if true = true then A else B := by
  rw [if_pos rfl]
  exact h
theorem ite2 {c A B : Prop} [Decidable c] (h1 : c → A) (h2 : ¬ c → B) : if c then A else B := by
  by_cases h : c
  · rw [if_pos h]
    exact h1 h
  · rw [if_neg h]
    exact h2 h
theorem iteNS {c A B : Prop} [Decidable c] (hc : c) (h : B) : if (!decide c) = true then A else B := by
  rw [decide_eq_true hc]
  exact iteF h
/-! ### heaps -/
/-- all that was tracked is as it was -/
def Same (H H' : Hp) : Prop := ∀ b o, H b = some o → H' b = some o
theorem Same.refl (H : Hp) : Same H H := fun _ _ h => h
theorem Same.trans {H H1 H2 : Hp} (a : Same H H1) (b : Same H1 H2) : Same H H2 := fun c o h => b c o (a c o h)
theorem Same.free {H H' : Hp} (e : Same H H') {l : Addr} (h : H' l = Option.none) : H l = Option.none := by
  cases q : H l with
  | none => rfl
  | some o =>
    rw [e l o q] at h
    cases h
theorem Same.seq {K : PySem.W.Frag} {H H' : Hp} {a : Addr} {xs : List V} (e : Same H H') (h : SqL K H a xs) : SqL K H' a xs := by
  rcases h with (h | ⟨o, h⟩) | h
  · exact .inl (.inl (e _ _ h))
  · exact .inl (.inr ⟨o, e _ _ h⟩)
  · exact .inr h
end L2
namespace Rw
/-- how many places -/
def two : Nat → Int
  | 0 => 1
  | n + 1 => 2 * two n
theorem two_pos : ∀ n, 0 < two n
  | 0 => by decide
  | n + 1 => by have := two_pos n; show 0 < 2 * two n; omega
theorem two_succ (n : Nat) : two (n + 1) = 2 * two n := rfl
/-- the row on a place -/
def gray : Nat → Int → List Bool
  | 0, _ => []
  | n + 1, p => if p < two n then gray n p ++ [false] else gray n (two (n + 1) - 1 - p) ++ [true]
theorem gray_len : ∀ (n : Nat) (p : Int), (gray n p).length = n
  | 0, _ => rfl
  | n + 1, p => by
    unfold gray
    split <;> simp [gray_len n]
/-- two rows of one length part at j alone -/
def Parts (a b : List Bool) (j : Nat) : Prop := a.length = b.length ∧ ∀ (i : Nat) (x y : Bool), a[i]? = some x → b[i]? = some y → ((x != y) = decide (i = j))
theorem Parts.symm {a b : List Bool} {j : Nat} (h : Parts a b j) : Parts b a j :=
  ⟨h.1.symm, fun i x y hx hy => by rw [← h.2 i y x hy hx]; cases x <;> cases y <;> rfl⟩
end Rw
namespace St
/-- how many sets -/
def many : Nat → Nat → Int
  | _, 0 => 1
  | 0, _ + 1 => 0
  | n + 1, k + 1 => many n (k + 1) + many n k
theorem many_zero (n : Nat) : many n 0 = 1 := by cases n <;> rfl
theorem many_succ (n k : Nat) : many (n + 1) (k + 1) = many n (k + 1) + many n k := rfl
theorem many_nn : ∀ n k, 0 ≤ many n k
  | n, 0 => by rw [many_zero]; decide
  | 0, _ + 1 => Int.le_refl _
  | n + 1, k + 1 => by
    have a := many_nn n (k + 1)
    have b := many_nn n k
    rw [many_succ]; omega
theorem many_pos : ∀ n k, k ≤ n → 0 < many n k
  | n, 0, _ => by rw [many_zero]; decide
  | 0, _ + 1, h => by omega
  | n + 1, k + 1, h => by
    have a := many_nn n (k + 1)
    have b := many_pos n k (by omega)
    rw [many_succ]; omega
/-- the set on a place -/
def setL : Nat → Nat → Int → List Int
  | _, 0, _ => []
  | 0, _ + 1, _ => []
  | n + 1, k + 1, p => if p < many n (k + 1) then setL n (k + 1) p else setL n k (many n k - 1 - (p - many n (k + 1))) ++ [(n : Int)]
theorem setL_zero (n : Nat) (p : Int) : setL n 0 p = [] := by cases n <;> rfl
theorem setL_lo {n k : Nat} {p : Int} (h : p < many n (k + 1)) : setL (n + 1) (k + 1) p = setL n (k + 1) p := by rw [setL, if_pos h]
theorem setL_hi {n k : Nat} {p : Int} (h : ¬ p < many n (k + 1)) : setL (n + 1) (k + 1) p = setL n k (many n k - 1 - (p - many n (k + 1))) ++ [(n : Int)] := by rw [setL, if_neg h]
theorem setL_len : ∀ (n k : Nat) (p : Int), 0 ≤ p → p < many n k → (setL n k p).length = k
  | n, 0, p, _, _ => by rw [setL_zero]; rfl
  | 0, k + 1, p, h0, h1 => by
    have : many 0 (k + 1) = 0 := rfl
    omega
  | n + 1, k + 1, p, h0, h1 => by
    have e := many_succ n k
    by_cases z : p < many n (k + 1)
    · rw [setL_lo z]; exact setL_len n (k + 1) p h0 z
    · rw [setL_hi z, List.length_append, setL_len n k _ (by omega) (by omega)]
      rfl
/-- rising -/
def Up (l : List Int) : Prop := l.Pairwise (· < ·)
/-- two rising lists with the same members are one -/
theorem up_ext : ∀ {a b : List Int}, Up a → Up b → (∀ x, x ∈ a ↔ x ∈ b) → a = b
  | [], [], _, _, _ => rfl
  | [], y :: b, _, _, h => by have := (h y).mpr List.mem_cons_self; cases this
  | x :: a, [], _, _, h => by have := (h x).mp List.mem_cons_self; cases this
  | x :: a, y :: b, ha, hb, h => by
    obtain ⟨ha1, ha2⟩ := List.pairwise_cons.mp ha
    obtain ⟨hb1, hb2⟩ := List.pairwise_cons.mp hb
    have e : x = y := by
      rcases List.mem_cons.mp ((h x).mp List.mem_cons_self) with q | q
      · exact q
      · rcases List.mem_cons.mp ((h y).mpr List.mem_cons_self) with r | r
        · exact r.symm
        · have := hb1 x q
          have := ha1 y r
          omega
    subst e
    refine congrArg (x :: ·) (up_ext ha2 hb2 fun z => ⟨fun hz => ?_, fun hz => ?_⟩)
    · rcases List.mem_cons.mp ((h z).mp (List.mem_cons_of_mem _ hz)) with q | q
      · have := ha1 z hz; omega
      · exact q
    · rcases List.mem_cons.mp ((h z).mpr (List.mem_cons_of_mem _ hz)) with q | q
      · have := hb1 z hz; omega
      · exact q
/-- 0, 1, .., k - 1 -/
def upto : Nat → List Int
  | 0 => []
  | k + 1 => upto k ++ [(k : Int)]
theorem upto_mem : ∀ (k : Nat) (x : Int), x ∈ upto k ↔ 0 ≤ x ∧ x < (k : Int)
  | 0, x => by constructor; intro h; cases h; intro h; omega
  | k + 1, x => by
    show x ∈ upto k ++ [(k : Int)] ↔ _
    rw [List.mem_append, upto_mem k x]
    simp
    omega
theorem upto_len : ∀ k, (upto k).length = k
  | 0 => rfl
  | k + 1 => by show (upto k ++ [(k : Int)]).length = _; rw [List.length_append, upto_len k]; rfl
/-- one goes, one comes -/
structure Ex (s s' : List Int) (g c : Int) : Prop where
  inn : g ∈ s
  out : c ∉ s
  mem : ∀ x, x ∈ s' ↔ (x ∈ s ∧ x ≠ g) ∨ x = c
theorem Ex.symm {s s' : List Int} {g c : Int} (h : Ex s s' g c) : Ex s' s c g := by
  refine ⟨(h.mem c).mpr (.inr rfl), fun z => ?_, fun x => ⟨fun hx => ?_, fun hx => ?_⟩⟩
  · rcases (h.mem g).mp z with q | q
    · exact q.2 rfl
    · exact h.out (q ▸ h.inn)
  · by_cases e : x = g
    · exact .inr e
    · refine .inl ⟨(h.mem x).mpr (.inl ⟨hx, e⟩), fun z => h.out (z ▸ hx)⟩
  · rcases hx with ⟨q, r⟩ | q
    · rcases (h.mem x).mp q with z | z
      · exact z.1
      · exact absurd z r
    · rw [q]; exact h.inn
/-- the place of a set, from its greatest member -/
def plcS : Nat → List Int → Int
  | 0, _ => 0
  | _ + 1, [] => 0
  | n + 1, x :: r => if x = (n : Int) then many n (r.length + 1) + (many n r.length - 1 - plcS n r) else plcS n (x :: r)
def Down (l : List Int) (n : Nat) : Prop := l.Pairwise (fun a b => b < a) ∧ ∀ x ∈ l, 0 ≤ x ∧ x < (n : Int)
theorem plcS_nil (n : Nat) : plcS n [] = 0 := by cases n <;> rfl
theorem down_len : ∀ (n : Nat) (l : List Int), Down l n → l.length ≤ n
  | _, [], _ => Nat.zero_le _
  | 0, x :: r, h => by have := h.2 x List.mem_cons_self; omega
  | n + 1, x :: r, h => by
    obtain ⟨h1, h2⟩ := List.pairwise_cons.mp h.1
    have hx := h.2 x List.mem_cons_self
    have := down_len n r ⟨h2, fun y hy => ⟨(h.2 y (List.mem_cons_of_mem _ hy)).1, by have := h1 y hy; omega⟩⟩
    show r.length + 1 ≤ n + 1
    omega
theorem down_of_up {l : List Int} {n : Nat} (h : Up l) (hm : ∀ x ∈ l, 0 ≤ x ∧ x < (n : Int)) : Down l.reverse n :=
  ⟨List.pairwise_reverse.mpr h, fun x hx => hm x (List.mem_reverse.mp hx)⟩
end St
namespace St
theorem many_mul : ∀ (n c : Nat), many n (c + 1) * ((c : Int) + 1) = many n c * ((n : Int) - (c : Int))
  | 0, 0 => by decide
  | 0, c + 1 => by
    rw [show many 0 (c + 1 + 1) = 0 from rfl, show many 0 (c + 1) = 0 from rfl, Int.zero_mul, Int.zero_mul]
  | n + 1, 0 => by
    have ih := many_mul n 0
    rw [many_succ, many_zero] at *
    rw [many_zero]
    simp at ih ⊢
    omega
  | n + 1, d + 1 => by
    have i1 := many_mul n (d + 1)
    have i2 := many_mul n d
    rw [many_succ n (d + 1), many_succ n d]
    have e1 : ((d + 1 : Nat) : Int) = (d : Int) + 1 := by omega
    have e2 : ((n + 1 : Nat) : Int) = (n : Int) + 1 := by omega
    rw [e1] at i1 ⊢
    rw [e2]
    generalize many n (d + 1 + 1) = x at *
    generalize many n (d + 1) = y at *
    generalize many n d = z at *
    generalize (d : Int) = a at *
    generalize (n : Int) = b at *
    have l : (x + y) * (a + 1 + 1) = x * (a + 1 + 1) + y * (a + 1 + 1) := Int.add_mul ..
    have r : (y + z) * (b + 1 - (a + 1)) = y * (b + 1 - (a + 1)) + z * (b + 1 - (a + 1)) := Int.add_mul ..
    have r2 : z * (b + 1 - (a + 1)) = z * (b - a) := by rw [show b + 1 - (a + 1) = b - a by omega]
    rw [l, r, r2, i1, ← i2, ← Int.mul_add, ← Int.mul_add]
    congr 1
    omega
theorem many_next (n c : Nat) : many n c * ((n : Int) - (c : Int)) / ((c : Int) + 1) = many n (c + 1) := by
  rw [← many_mul n c, Int.mul_ediv_cancel _ (by omega)]
theorem up_filter {l : List Int} {f : Int → Bool} (h : Up l) : Up (l.filter f) := List.Pairwise.filter _ h
theorem upto_up : ∀ n, Up (upto n)
  | 0 => List.Pairwise.nil
  | n + 1 => by
    show Up (upto n ++ [(n : Int)])
    refine List.pairwise_append.mpr ⟨upto_up n, List.pairwise_singleton _ _, fun a ha b hb => ?_⟩
    have := (upto_mem n a).mp ha
    have : b = (n : Int) := by simpa using hb
    omega
/-- the rising list of the things that are in it is it -/
theorem upto_pick {ms : List Int} {n : Nat} (u : Up ms) (hm : ∀ x ∈ ms, 0 ≤ x ∧ x < (n : Int)) : (upto n).filter (fun x => decide (x ∈ ms)) = ms := by
  refine up_ext (up_filter (upto_up n)) u fun x => ?_
  rw [List.mem_filter, upto_mem]
  constructor
  · rintro ⟨_, h⟩
    exact of_decide_eq_true h
  · intro h
    exact ⟨hm x h, decide_eq_true h⟩
theorem up_len {ms : List Int} {n : Nat} (u : Up ms) (hm : ∀ x ∈ ms, 0 ≤ x ∧ x < (n : Int)) : ms.length ≤ n := by
  have := down_len n _ (down_of_up u hm)
  rwa [List.length_reverse] at this
theorem plcS_more : ∀ (n d : Nat) (r : List Int), Down r n → plcS (n + d) r = plcS n r
  | n, 0, r, _ => rfl
  | n, d + 1, r, h => by
    rw [← plcS_more n d r h]
    cases r with
    | nil => rw [plcS_nil, plcS_nil]
    | cons x r' =>
      have := h.2 x List.mem_cons_self
      show plcS (n + d + 1) (x :: r') = _
      rw [plcS, if_neg (by omega)]
theorem plcS_cons (n m : Nat) (r : List Int) (h : Down ((m : Int) :: r) n) : plcS n ((m : Int) :: r) = many (m + 1) (r.length + 1) - 1 - plcS n r := by
  obtain ⟨h1, h2⟩ := List.pairwise_cons.mp h.1
  have hm := h.2 _ List.mem_cons_self
  have hr : Down r m := ⟨h2, fun y hy => ⟨(h.2 y (List.mem_cons_of_mem _ hy)).1, h1 y hy⟩⟩
  have hc : Down ((m : Int) :: r) (m + 1) := ⟨h.1, fun y hy => by
    rcases List.mem_cons.mp hy with e | e
    · rw [e]; omega
    · have := hr.2 y e
      omega⟩
  obtain ⟨d, hd⟩ : ∃ d, n = m + 1 + d := ⟨n - (m + 1), by omega⟩
  obtain ⟨d', hd'⟩ : ∃ d', n = m + d' := ⟨n - m, by omega⟩
  have e1 : plcS n ((m : Int) :: r) = plcS (m + 1) ((m : Int) :: r) := by rw [hd]; exact plcS_more _ _ _ hc
  have e2 : plcS n r = plcS m r := by rw [hd']; exact plcS_more _ _ _ hr
  have em := many_succ m r.length
  rw [e1, e2, plcS, if_pos rfl]
  omega
end St
namespace Od
open St (upto upto_mem upto_len)
def fac : Nat → Int
  | 0 => 1
  | n + 1 => fac n * ((n : Int) + 1)
theorem fac_succ (n : Nat) : fac (n + 1) = fac n * ((n : Int) + 1) := rfl
theorem fac_pos : ∀ n, 0 < fac n
  | 0 => by decide
  | n + 1 => Int.mul_pos (fac_pos n) (by omega)
theorem dm (m e r : Int) (hm : 0 < m) (h0 : 0 ≤ r) (h1 : r < m) : (e * m + r) / m = e ∧ (e * m + r) % m = r := by
  constructor
  · rw [Int.add_comm, Int.add_mul_ediv_right _ _ (by omega), Int.ediv_eq_zero_of_lt h0 h1]; omega
  · rw [Int.add_comm, Int.add_mul_emod_self_right, Int.emod_eq_of_lt h0 h1]
/-- x put into l ahead of the i-th -/
def insA (x : Int) : Nat → List Int → List Int
  | 0, l => x :: l
  | _ + 1, [] => [x]
  | i + 1, a :: r => a :: insA x i r
theorem insA_eq (x : Int) : ∀ (i : Nat) (l : List Int), insA x i l = l.take i ++ x :: l.drop i
  | 0, l => by simp [insA]
  | _ + 1, [] => by simp [insA]
  | i + 1, a :: r => by simp [insA, insA_eq x i r]
theorem insA_len (x : Int) (i : Nat) (l : List Int) : (insA x i l).length = l.length + 1 := by
  rw [insA_eq, List.length_append, List.length_cons, List.length_take, List.length_drop]; omega
/-- where the new thing goes -/
def posO (n : Nat) (p : Int) : Nat := if p / ((n : Int) + 1) % 2 = 0 then n - (p % ((n : Int) + 1)).toNat else (p % ((n : Int) + 1)).toNat
/-- the order on a place -/
def ordL : Nat → Int → List Int
  | 0, _ => []
  | n + 1, p => insA (n : Int) (posO n p) (ordL n (p / ((n : Int) + 1)))
theorem ordL_len : ∀ (n : Nat) (p : Int), (ordL n p).length = n
  | 0, _ => rfl
  | n + 1, p => by rw [ordL, insA_len, ordL_len n]
end Od
namespace Od
open St (upto upto_mem upto_len)
/-! ### the place by what stands ahead -/
end Od
set_option Elab.async false
set_option linter.all false
set_option maxRecDepth 100000
namespace L2
open PySem PySem.Spec PyProof.Rows
/-! ### a def of the text, by its name: what it promises to its callers -/
structure Df (P : Program) (w : World) (K : PySem.W.Frag) (mg : Str → Option Value) (base : Heap) (k : Nat) (x : Str) (ps : List Str) (sp : Sp) : Prop where
  ex : ∃ (f : Addr) (fd : FuncData), FnOk P w K mg base CX0 k f fd ps sp ∧ mg x = some (.ref f) ∧ PySem.W.keepIn K (.ref f) = true ∧ Binds K fd ps []
structure Fn0 (K : PySem.W.Frag) (mg : Str → Option Value) (x : Str) (st : Stmt) : Prop where
  ex : ∃ (f : Addr) (fd : FuncData), Fun K x x st f fd ∧ mg x = some (.ref f)
theorem fn0_mk {K : PySem.W.Frag} {h : Heap} {mg : Str → Option Value} {x : Str} {st : Stmt} {f : Addr} {oc : Value} {od an : Option Addr} {osl : Array (Option Value)} {kV doc pm cdv ct : Value}
    (X : K.In h) (G : h.Ns mainGlobals mg) (a : PySem.W.nsIn K mainGlobals x = some (some (.ref f)))
    (l : K.lookup f = some ⟨oc, od, .func (PySem.W.fnOf x x (defArgs st) (defBody st) (defScope st) .none kV doc pm an cdv ct), osl⟩)
    (c : PySem.W.codeIn K cdv x = true) (k : PySem.W.keepIn K (.ref f) = true) : Fn0 K mg x st :=
  ⟨f, _, fun_mk l c k, PySem.W.mg_of X G a⟩
section
variable {P : Program} {w : World} {K : PySem.W.Frag} {mg : Str → Option Value} {base : Heap}
theorem Fn0.df {x : Str} {st : Stmt} {N ps : List Str} {k : Nat} {sp : Sp} (F : Fn0 K mg x st) (S : FnScope N ps (defScope st))
    (hb : ∀ (kV doc pm : Value) (an : Option Addr) (cdv ct : Value) (us : List Value), us.length = ps.length → bindArgs (PySem.W.fnOf x x (defArgs st) (defBody st) (defScope st) .none kV doc pm an cdv ct) ⟨us, []⟩ = pure (ps.zip us))
    (len : ∀ vs H Q E, sp vs H Q E → vs.length = ps.length)
    (hbody : ∀ (f : Addr) (cdv : Value) (A : Around) (outer : List Env) (s : Shared) (H : Hp) (vs : List V) (Q : VK) (E : XK), Room k (A.deeper (envOfC x (defScope st) s.heap.objs.size f cdv)) → sp vs H Q E →
      ∃ t, PSs (cxOf CX0 P w K mg base N x (defScope st) f cdv A outer s H E).nox (defBody st) t ∧ t { nx := fun _ H' => Q .non H', rt := Q } (start N vs) H) : Df P w K mg base (k + 1) x ps sp := by
  obtain ⟨f, fd, hF, hm⟩ := F.ex
  exact ⟨f, fd, hF.ok S len fun cdv A outer s H vs Q E hr h => hbody f cdv A outer s H vs Q E hr h, hm, hF.kp, hF.binds hb⟩
theorem Df.mono {j k : Nat} {x : Str} {ps : List Str} {sp : Sp} (D : Df P w K mg base j x ps sp) (h : j ≤ k) : Df P w K mg base k x ps sp := by
  obtain ⟨f, fd, a, b, c, d⟩ := D.ex
  exact ⟨f, fd, a.mono h, b, c, d⟩
end
section
variable {X : Cx} {k j : Nat} {ps : List Str} {sp : Sp} {x : Str} {p pos : Pos} {e : Expr} {es : List Expr} {t : TA}
/-- f(e, ..) by the def's promise -/
theorem pe_df (D : Df X.prog X.w X.K X.mg X.base k x ps sp) (hr : Room j X.A) (ha : PA X (e :: es) t) (hj : k ≤ j := by decide) (hg : Gl X x := by rfl) (hdb : (x == ("__debug__" : Str)) = false := by decide)
    (he : starEach (e :: es) X.env = (false, eval e X.env) :: starEach es X.env := by rfl) (hpl : (backTo pos (starEach es X.env)).any (·.1) = false := by rfl) :
    PE X (.Call (.Name x p) (e :: es) [] pos) (tCall sp [] E0 t) := by
  obtain ⟨f, fd, a, b, c, d⟩ := D.ex
  exact pe_call (a.mono hj) hr hg b c d .nil (fun _ _ _ _ _ _ _ h => h.elim) ha hdb he hpl
end
/-! ### isinstance(x, T), T a built-in class -/
section
variable {X : Cx}
theorem op_inK (K : PySem.W.Frag) (hK : X.K = K := by rfl) : OpR X (compareOp .In) (rIn K false) := by subst hK; exact op_in_seq
end
theorem same_upd {H : Hp} {l : Addr} {o : HO} (h : H l = none) : Same H (upd H l o) := fun b u e => by rw [upd_ne (ne_of_none e h)]; exact e
/-! ### the law's own head -/
theorem walkG {l : PySem.W.OpenLaw} {q : Program} {loose : List Str} {XP : (Str → Option Value) → Heap → Prop} {YP : World → Heap → Prop} {d : DefRec} {K : Params → PySem.W.Frag} {k : Nat} {st : Stmt} {sp : PySem.W.Frag → Sp}
    (hn : l.most = some 63) (hdf : d.params.defaults = []) (hr : Room k callerA) (hY : ∀ (w : World) (h : Heap), YP w h → (K w.params).In h) (hd : d.name = "law")
    (hb : ∀ (kV doc pm : Value) (an : Option Addr) (cdv ct u : Value), bindArgs (PySem.W.fnOf "law" "law" (defArgs st) (defBody st) (defScope st) .none kV doc pm an cdv ct) ⟨[u], []⟩ = pure [(("script" : Str), u)])
    (hsp : ∀ (K : PySem.W.Frag) (H : Hp) (a : Addr) (ns : List Int), ns.length ≤ 63 → SqL K H a (ns.map V.int) → sp K [.ref a] H (fun v _ => v = .bl true) fun _ _ _ => False)
    (F : ∀ (w : World) (mg : Str → Option Value) (h : Heap), (K w.params).In h → h.Ns mainGlobals mg →
      ∃ (f : Addr) (fd : FuncData), Fun (K w.params) "law" "law" st f fd ∧ mg "law" = some (.ref f) ∧ ∀ base : Heap, FnOk l.prog w (K w.params) mg base CX0 k f fd ["script"] (sp (K w.params))) :
    PySem.W.WalkO q loose XP YP l.row.toRowW d [] (fun f vs => PySem.call f vs) := by
  refine L2.walk_of (n := 63) (k := k) (x := "script") (CX := fun _ => CX0) (sp := fun w => sp (K w.params)) hn (by decide) hdf hr hY (fun w mg fa h KX G hmg => ?_) (fun w H a ns hl _ hS => hsp _ H a ns hl hS) fun _ _ _ _ _ z => z
  obtain ⟨f, fd, hF, hm, hG⟩ := F w mg h KX G
  rw [hd] at hmg
  rw [hmg] at hm
  cases hm
  obtain ⟨oc, od, kV, doc, pm, an, cdv, ct, osl, rfl, lk, hcd⟩ := id hF.ex
  exact ⟨_, fun s u => .of_eq (hb kV doc pm an cdv ct u), fun base _ _ => hG base⟩
end L2
set_option Elab.async false
set_option linter.all false
set_option maxRecDepth 100000
namespace L2
open PySem PySem.Spec PyProof.Rows
section
variable {X : Cx}
/-! ### lists compared -/
def SameKind (xs ys : List V) : Prop := ∀ u ∈ xs, ∀ v ∈ ys, flatV u = true ∧ flatV v = true ∧ eqV u v = decide (u = v)
theorem all_range_eq {xs ys : List V} (h : xs.length = ys.length) : (List.range xs.length).all (fun j => decide (xs[j]? = ys[j]?)) = decide (xs = ys) := by
  by_cases e : xs = ys
  · subst e
    rw [decide_eq_true rfl, List.all_eq_true]
    intro j _
    exact decide_eq_true rfl
  · rw [decide_eq_false e]
    cases z : (List.range xs.length).all (fun j => decide (xs[j]? = ys[j]?)) with
    | false => rfl
    | true =>
      rw [List.all_eq_true] at z
      refine absurd (List.ext_getElem? fun j => ?_) e
      by_cases hj : j < xs.length
      · exact of_decide_eq_true (z j (List.mem_range.mpr hj))
      · rw [List.getElem?_eq_none (by omega), List.getElem?_eq_none (by omega)]
theorem lists_eqAt {A : Around} {s : Shared} {xs ys : List V} {us vs : List Value} (r : Vals xs us) (r2 : Vals ys vs) (k : SameKind xs ys) (j : Nat) (h1 : j < us.toArray.size) (h2 : j < vs.toArray.size) :
    SeqAt.EqAt A s us.toArray[j] vs.toArray[j] (decide (xs[j]? = ys[j]?)) := by
  have l1 := r.length
  have l2 := r2.length
  have g1 : j < xs.length := by simpa [l1] using h1
  have g2 : j < ys.length := by simpa [l2] using h2
  obtain ⟨u, e1, q1⟩ := r.get (i := j) (x := xs[j]) (List.getElem?_eq_getElem g1)
  obtain ⟨v, e2, q2⟩ := r2.get (i := j) (x := ys[j]) (List.getElem?_eq_getElem g2)
  have a1 : us.toArray[j] = u := by
    have := (List.getElem?_eq_some_iff.mp e1).2
    simpa using this
  have a2 : vs.toArray[j] = v := by
    have := (List.getElem?_eq_some_iff.mp e2).2
    simpa using this
  rw [a1, a2, List.getElem?_eq_getElem g1, List.getElem?_eq_getElem g2]
  obtain ⟨f1, f2, e⟩ := k xs[j] (List.getElem_mem g1) ys[j] (List.getElem_mem g2)
  have e' : decide (some xs[j] = some ys[j]) = eqV xs[j] ys[j] := by
    rw [e]
    by_cases z : xs[j] = ys[j] <;> simp [z]
  rw [e']
  exact eqAt_V q1 q2 f1 f2
def rNeL (K : PySem.W.Frag) : R2 := fun x y H Q => ∃ a b xs ys, x = .ref a ∧ y = .ref b ∧ SqL K H a xs ∧ SqL K H b ys ∧ SameKind xs ys ∧ Q (.bl (!decide (xs = ys))) H
theorem op_neL (hu : X.A.units < cLine) : OpR X (compareOp .NotEq) (rNeL X.K) := by
  intro pins s σ H x y v u Q I rx ry h
  obtain ⟨a, b, xs, ys, rfl, rfl, ha, hb, k, q⟩ := h
  cases rx
  cases ry
  obtain ⟨us, r1, p1, z1⟩ := I.list ha
  obtain ⟨vs, r2, p2, z2⟩ := I.list hb
  have l1 := r1.length
  have l2 := r2.length
  by_cases hl : xs.length = ys.length
  · refine PySem.EqBoolInt.of_rcne (SeqAt.RcNeAt.lists p1.isList p2.isList (by simp; omega) hu (lists_eqAt r1 r2 k)) (fin_bl I q ?_)
    have e : us.toArray.size = xs.length := by simp; omega
    rw [e, all_range_eq hl]
  · refine PySem.EqBoolInt.of_rcne (SeqAt.RcNeAt.lists_lengths p1.isList p2.isList (by simp; omega) hu) (fin_bl I q ?_)
    rw [decide_eq_false fun e => hl (by rw [e])]
    rfl
theorem sameKind_bls {as bs : List Bool} : SameKind (as.map V.bl) (bs.map V.bl) := by
  intro u hu v hv
  obtain ⟨x, _, rfl⟩ := List.mem_map.mp hu
  obtain ⟨y, _, rfl⟩ := List.mem_map.mp hv
  exact ⟨rfl, rfl, dec_bl.symm⟩
theorem sameKind_ints {as bs : List Int} : SameKind (as.map V.int) (bs.map V.int) := by
  intro u hu v hv
  obtain ⟨x, _, rfl⟩ := List.mem_map.mp hu
  obtain ⟨y, _, rfl⟩ := List.mem_map.mp hv
  exact ⟨rfl, rfl, dec_int.symm⟩
end
end L2
set_option Elab.async false
set_option linter.all false
set_option maxRecDepth 100000
namespace L2
open PySem PySem.Spec PyProof.Rows
/-! ### [elt for tg in iter if ..]: its own frame over the cells of what it takes from around it -/
/-- the cells that it takes -/
def clOf (env : Env) : List (Str × NameKind) → List (Str × Addr) → List (Str × Addr)
  | [], cs => cs
  | (n, k) :: r, cs => clOf env r (if (k == NameKind.free) = true then (n, (env.cells.lookup n).getD 0) :: cs else cs)
theorem clOf_go {env : Env} : ∀ (names : List (Str × NameKind)) (cs : List (Str × Addr)), (∀ n, (n, NameKind.free) ∈ names → ∃ c, env.cells.lookup n = some c) →
    (forIn names cs fun x r => if (x.2 == NameKind.free) = true then (do let c ← cellOf env x.1; pure (ForInStep.yield ((x.1, c) :: r))) else pure (ForInStep.yield r) : Sem (List (Str × Addr))) = pure (clOf env names cs)
  | [], cs, _ => rfl
  | (n, k) :: r, cs, h => by
    have ih := fun cs' => clOf_go r cs' fun m hm => h m (List.mem_cons_of_mem _ hm)
    rw [List.forIn_cons, clOf]
    by_cases hk : (k == NameKind.free) = true
    · obtain ⟨c, hc⟩ := h n (by rw [eq_of_beq hk]; exact List.mem_cons_self)
      simp only [hk, if_true, cellOf, hc, pure_bind, Option.getD_some]
      exact ih _
    · simp only [hk, if_false, pure_bind]
      exact ih _
theorem closure_of {scope : Scope} {env : Env} (h : ∀ n, (n, NameKind.free) ∈ scope.names → ∃ c, env.cells.lookup n = some c) : closureFor scope env = pure (clOf env scope.names []) := by
  have := clOf_go scope.names [] h
  unfold closureFor
  simp only [bind_pure]
  exact this
theorem clOf_look {env : Env} : ∀ (names : List (Str × NameKind)) (cs : List (Str × Addr)), (∀ n, (n, NameKind.free) ∈ names → ∃ c, env.cells.lookup n = some c) → (∀ x c, cs.lookup x = some c → env.cells.lookup x = some c) →
    ∀ x c, (clOf env names cs).lookup x = some c → env.cells.lookup x = some c
  | [], cs, _, h2 => h2
  | (n, k) :: r, cs, h, h2 => by
    rw [clOf]
    refine clOf_look r _ (fun m hm => h m (List.mem_cons_of_mem _ hm)) fun x c e => ?_
    by_cases hk : (k == NameKind.free) = true
    · rw [if_pos hk] at e
      obtain ⟨c', hc⟩ := h n (by rw [eq_of_beq hk]; exact List.mem_cons_self)
      rw [hc, Option.getD_some, List.lookup_cons] at e
      cases hx : x == n with
      | true =>
        rw [hx] at e
        have e1 : c' = c := Option.some.inj e
        have e2 : x = n := eq_of_beq hx
        rw [e2, hc, e1]
      | false =>
        rw [hx] at e
        exact h2 x c e
    · rw [if_neg hk] at e
      exact h2 x c e
theorem clOf_has {env : Env} : ∀ (names : List (Str × NameKind)) (cs : List (Str × Addr)) (x : Str), ((x, NameKind.free) ∈ names ∨ ∃ c, cs.lookup x = some c) → ∃ c, (clOf env names cs).lookup x = some c
  | [], cs, x, h => by
    rcases h with h | h
    · cases h
    · exact h
  | (n, k) :: r, cs, x, h => by
    rw [clOf]
    refine clOf_has r _ x ?_
    rcases h with h | ⟨c, h⟩
    · rcases List.mem_cons.mp h with e | e
      · injection e with e1 e2
        subst e1; subst e2
        right
        rw [if_pos (show (NameKind.free == NameKind.free) = true by decide)]
        exact ⟨(List.lookup x env.cells).getD 0, by rw [List.lookup_cons]; simp⟩
      · exact .inl e
    · right
      by_cases hk : (k == NameKind.free) = true
      · rw [if_pos hk]
        cases hx : x == n with
        | true => exact ⟨_, by rw [List.lookup_cons, hx]⟩
        | false => exact ⟨c, by rw [List.lookup_cons, hx]; exact h⟩
      · rw [if_neg hk]
        exact ⟨c, h⟩
/-- the context of its block -/
def compCx (X : Cx) (xs fr : List Str) (scope : Scope) (cl : List (Str × Addr)) (C : Addr) (s₀ : Shared) (H₀ : Hp) (ex : List Addr) (pn : List (Addr × Obj)) : Cx :=
  { X with N := xs ++ fr, s₀ := s₀, H₀ := H₀, env := compEnvC scope cl C X.env, outer := X.stack, stack := X.stack, ex := ex, fn := fun _ => false, pn := pn, xe := fun _ _ => False }
/-- what of the scope it must have: its own names, what it takes (fr, in the slots ix of the frame around) -/
structure CompSc (X : Cx) (xs fr : List Str) (ix : List Nat) (scope : Scope) : Prop where
  kind : scope.kind = .function
  cell : ∀ y ∈ scope.names, y.2 ≠ .cell
  names : ∀ y ∈ scope.names, y.2 = .local → scope.names.lookup y.1 = some .local
  out : ∀ n, (n, NameKind.free) ∈ scope.names → X.env.kindOf n = some .cell ∨ X.env.kindOf n = some .free
  free : ∀ n ∈ fr, scope.names.lookup n = some .free
  len : ix.length = fr.length
  at_ : ∀ (j : Nat) (n : Str), fr[j]? = some n → ∃ i : Nat, ix[j]? = some i ∧ X.N[i]? = some n
theorem CompSc.of {X : Cx} {xs fr : List Str} {ix : List Nat} {scope : Scope} (kind : scope.kind = .function) (c : (scope.names.all fun y => !(y.2 == NameKind.cell)) = true)
    (nm : (scope.names.all fun y => !(y.2 == NameKind.local) || (scope.names.lookup y.1 == some NameKind.local)) = true) (fo : (scope.names.all fun y => !(y.2 == NameKind.free) || fr.contains y.1) = true)
    (fl : (fr.all fun n => scope.names.lookup n == some NameKind.free) = true) (at_ : ix.map (fun i => X.N[i]?) = fr.map some) (out : fr.map X.env.kindOf = fr.map fun _ => some NameKind.cell) : CompSc X xs fr ix scope where
  kind := kind
  cell := fun y hy z => by
    have := List.all_eq_true.mp c y hy
    rw [z] at this
    cases this
  names := fun y hy z => by
    have := List.all_eq_true.mp nm y hy
    rw [z] at this
    exact eq_of_beq this
  out := fun n hn => by
    have := List.all_eq_true.mp fo _ hn
    have hm : n ∈ fr := by simpa using this
    obtain ⟨j, hj⟩ := List.mem_iff_getElem?.mp hm
    have e := congrArg (fun l : List (Option NameKind) => l[j]?) out
    simp only [List.getElem?_map, hj, Option.map_some] at e
    exact .inl (Option.some.inj e)
  free := fun n hn => eq_of_beq (List.all_eq_true.mp fl n hn)
  len := by simpa using congrArg List.length at_
  at_ := fun j n hj => by
    have e := congrArg (fun l : List (Option Str) => l[j]?) at_
    simp only [List.getElem?_map, hj, Option.map_some] at e
    cases z : ix[j]? with
    | none => rw [z] at e; cases e
    | some i =>
      rw [z] at e
      exact ⟨i, rfl, Option.some.inj e⟩
theorem lookup_relabel {env : Env} : ∀ {names : List (Str × NameKind)} {x : Str} {k : NameKind}, (names.map fun (n, k) => if (k == NameKind.free && env.scope.kind == .function && env.kindOf n == some .cell) then (n, NameKind.cell) else (n, k)).lookup x = some k →
    names.lookup x = some k ∨ (k = .cell ∧ names.lookup x = some .free)
  | [], _, _, h => by simp at h
  | (n, k') :: r, x, k, h => by
    have ih := @lookup_relabel env r x k
    change List.lookup x ((if (k' == NameKind.free && env.scope.kind == .function && env.kindOf n == some .cell) = true then (n, NameKind.cell) else (n, k')) :: _) = some k at h
    by_cases hc : (k' == NameKind.free && env.scope.kind == .function && env.kindOf n == some .cell) = true
    · have hk : k' = .free := by simp only [Bool.and_eq_true] at hc; exact eq_of_beq hc.1.1
      rw [if_pos hc, List.lookup_cons] at h
      rw [List.lookup_cons]
      cases hx : x == n with
      | true =>
        rw [hx] at h
        have : NameKind.cell = k := Option.some.inj h
        subst this; subst hk
        exact .inr ⟨rfl, rfl⟩
      | false =>
        rw [hx] at h
        exact ih h
    · rw [if_neg hc, List.lookup_cons] at h
      rw [List.lookup_cons]
      cases hx : x == n with
      | true =>
        rw [hx] at h
        exact .inl h
      | false =>
        rw [hx] at h
        exact ih h
theorem lookup_relabel_free {env : Env} : ∀ {names : List (Str × NameKind)} {x : Str}, names.lookup x = some .free →
    (names.map fun (n, k) => if (k == NameKind.free && env.scope.kind == .function && env.kindOf n == some .cell) then (n, NameKind.cell) else (n, k)).lookup x = some .cell ∨
    (names.map fun (n, k) => if (k == NameKind.free && env.scope.kind == .function && env.kindOf n == some .cell) then (n, NameKind.cell) else (n, k)).lookup x = some .free
  | [], _, h => by simp at h
  | (n, k') :: r, x, h => by
    have ih := @lookup_relabel_free env r x
    change List.lookup x ((if (k' == NameKind.free && env.scope.kind == .function && env.kindOf n == some .cell) = true then (n, NameKind.cell) else (n, k')) :: _) = some NameKind.cell ∨ List.lookup x ((if (k' == NameKind.free && env.scope.kind == .function && env.kindOf n == some .cell) = true then (n, NameKind.cell) else (n, k')) :: _) = some NameKind.free
    rw [List.lookup_cons] at h
    by_cases hc : (k' == NameKind.free && env.scope.kind == .function && env.kindOf n == some .cell) = true
    · rw [if_pos hc, List.lookup_cons]
      cases hx : x == n with
      | true => exact .inl rfl
      | false =>
        rw [hx] at h
        exact ih h
    · rw [if_neg hc, List.lookup_cons]
      cases hx : x == n with
      | true =>
        rw [hx] at h
        exact .inr h
      | false =>
        rw [hx] at h
        exact ih h
theorem mem_of_lookup {α : Type} : ∀ {l : List (Str × α)} {x : Str} {a : α}, l.lookup x = some a → (x, a) ∈ l
  | [], _, _, h => by simp at h
  | (n, b) :: r, x, a, h => by
    rw [List.lookup_cons] at h
    cases hx : x == n with
    | true =>
      rw [hx] at h
      have e : b = a := Option.some.inj h
      have e2 : x = n := eq_of_beq hx
      rw [e, e2]
      exact List.mem_cons_self
    | false =>
      rw [hx] at h
      exact List.mem_cons_of_mem _ (mem_of_lookup h)
/-- the tests -/
def PIf (X : Cx) (ifs : List Expr) (t : TT) : Prop :=
  ∀ (pins : List (Addr × Obj)) (s : Shared) (σ : St) (H : Hp) (Q : Bool → Hp → Prop), Inv X pins σ H s → t σ H Q →
    wpAny (model X.prog X.w) X.A (forIn ifs true fun c r => if r = true then do let ok ← isTrue c X.env (eval c X.env); pure (ForInStep.yield ok) else pure (ForInStep.yield r)) (TP X pins σ Q) X.xe s
theorem pif_one {X : Cx} {c : Expr} {t : TT} (h : PT X c t) : PIf X [c] t := fun pins s σ H Q I q => wpAny_tests_one (h pins s σ H Q I q)
def tComp (nx : Nat) (ix : List Nat) (wi : TI) (g : TG) (tt : TT) (te : TE) : TE := fun σ H Q => wi σ H fun J H1 => ∀ D, H1 D = none → ∃ W : Nat → Nat → St → Hp → Prop,
  (∃ m, W 0 m (List.replicate nx none ++ ix.map fun i => σ.getD i none) (upd H1 D (.lst []))) ∧
  ∀ i m τ H2, W i m τ H2 → (J.stop i H2 ∧ Q (.ref D) H2) ∨ (J.go i H2 ∧ ∃ N : St → Hp → Prop, (∀ τ' H', N τ' H' → ∃ m', m' < m ∧ W (i + 1) m' τ' H') ∧ ∀ v H3, J.yld i H2 v H3 → g v τ H3 fun τ1 H3' => tt τ1 H3' fun b H4 =>
    if b = true then te τ1 H4 fun y H5 => ∃ acc, H5 D = some (.lst acc) ∧ acc.length < sizeLine ∧ N τ1 (upd H5 D (.lst (acc ++ [y]))) else N τ1 H4)
/-- by a word over the turn's number -/
theorem comp_by {J : It} {D : Addr} {Qe : Hp → Prop} {g : TG} {tt : TT} {te : TE} {τ0 : St} {H0 : Hp} (n : Nat) (Pv : Nat → St → Hp → Prop) (h0 : Pv 0 τ0 H0)
    (hg : ∀ i τ H, i < n → Pv i τ H → J.go i H ∧ ∀ v H3, J.yld i H v H3 → g v τ H3 fun τ1 H3' => tt τ1 H3' fun b H4 =>
      if b = true then te τ1 H4 fun y H5 => ∃ acc, H5 D = some (.lst acc) ∧ acc.length < sizeLine ∧ Pv (i + 1) τ1 (upd H5 D (.lst (acc ++ [y]))) else Pv (i + 1) τ1 H4)
    (hd : ∀ τ H, Pv n τ H → J.stop n H ∧ Qe H) :
    ∃ W : Nat → Nat → St → Hp → Prop, (∃ m, W 0 m τ0 H0) ∧ ∀ i m τ H2, W i m τ H2 → (J.stop i H2 ∧ Qe H2) ∨ (J.go i H2 ∧ ∃ N : St → Hp → Prop, (∀ τ' H', N τ' H' → ∃ m', m' < m ∧ W (i + 1) m' τ' H') ∧ ∀ v H3, J.yld i H2 v H3 → g v τ H3 fun τ1 H3' => tt τ1 H3' fun b H4 =>
      if b = true then te τ1 H4 fun y H5 => ∃ acc, H5 D = some (.lst acc) ∧ acc.length < sizeLine ∧ N τ1 (upd H5 D (.lst (acc ++ [y]))) else N τ1 H4) := by
  refine ⟨fun i m τ H => m = n - i ∧ i ≤ n ∧ Pv i τ H, ⟨n, by simp, Nat.zero_le _, h0⟩, ?_⟩
  rintro i m τ H ⟨rfl, hi, p⟩
  by_cases hlt : i < n
  · obtain ⟨a, b⟩ := hg i τ H hlt p
    exact .inr ⟨a, Pv (i + 1), fun τ' H' p' => ⟨n - (i + 1), by omega, rfl, hlt, p'⟩, b⟩
  · have e : i = n := by omega
    subst e
    exact .inl (hd τ H p)
section
variable {X : Cx} {elt iter tg : Expr} {ifs : List Expr} {scope : Scope} {pos : Pos} {xs fr : List Str} {ix : List Nat} {wi : TI} {g : TG} {tt : TT} {te : TE}
/-- the block's frame is laid -/
theorem comp_start {pins : List (Addr × Obj)} {σ : St} {H : Hp} {s3 : Shared} {h1 : Heap} {m : Str → Option Value} {fp : List Addr} (I : Inv X pins σ H s3) (S : CompSc X xs fr ix scope)
    (hfp : ∀ b ∈ fp, FpOk X pins H b) (hfo : ∀ b ∈ fp, ∃ o, s3.heap.get? b = some o) (hns : h1.Ns s3.heap.objs.size m) (k : ∀ b o, s3.heap.get? b = some o → h1.get? b = some o) (hH : ∀ a, s3.heap.objs.size ≤ a → H a = none) {t' : Nat} :
    Inv (compCx X xs fr scope (clOf X.env scope.names []) s3.heap.objs.size s3 H fp (X.pn ++ pins)) [] (List.replicate xs.length none ++ ix.map fun i => σ.getD i none) H { s3 with heap := h1, toks := t' } := by
  have hcl : ∀ n, (n, NameKind.free) ∈ scope.names → ∃ c, X.env.cells.lookup n = some c := fun n hn => I.ok.has n (S.out n hn)
  have look : ∀ x c, (clOf X.env scope.names []).lookup x = some c → X.env.cells.lookup x = some c := clOf_look scope.names [] hcl fun x c e => by cases e
  have ltf : ∀ b ∈ fp, b < s3.heap.objs.size := fun b hb => let ⟨_, e⟩ := hfo b hb; Heap.lt_size e
  have hlt := I.lt
  refine ⟨⟨I.ok.mod, S.kind, I.ok.glob, I.ok.blt, Nat.le_refl _, fun x y c e1 e2 => I.ok.inj x y c (look x c e1) (look y c e2), fun x hx => ?_, fun _ _ z => (by cases z), I.ok.hd, I.ok.frames, .inl rfl, fun b hb => ⟨Nat.ne_of_lt (ltf b hb), fun x c e => (hfp b hb).2.2.2.2.1 x c (look x c e)⟩,
    fun b o e => I.bs b o e, Nat.le_trans I.ok.bsz I.sz, fun b o e hb => ?_, fun b hb z => ?_, I.stack, I.stkFree⟩, rfl, I.bare, Un.kept k, ?_, fun x c e => ?_, hH _ (Nat.le_refl _), fun x c e => I.freeC x c (look x c e), fun p hp => ?_, I.hok.kept k, ?_⟩
  · -- every name that is taken has its cell
    refine clOf_has scope.names [] x (.inl ?_)
    have hx' : (relabel scope X.env).names.lookup x = some .cell ∨ (relabel scope X.env).names.lookup x = some .free := hx
    rcases hx' with z | z
    · rcases lookup_relabel z with z | ⟨_, z⟩
      · exact absurd rfl (S.cell _ (mem_of_lookup z))
      · exact mem_of_lookup z
    · rcases lookup_relabel z with z | ⟨z, _⟩
      · exact mem_of_lookup z
      · cases z
  · rcases (hfp b hb).2.2.2.1 with z | z
    · exact I.ok.noex b o e z
    · exact absurd (Nat.lt_of_lt_of_le (Heap.lt_size e) (Nat.le_trans I.ok.bsz z)) (Nat.lt_irrefl _)
  · rcases List.mem_cons.mp (I.stkSub b z) with e | e
    · exact (hfp b hb).2.1 e
    · exact (hfp b hb).2.2.1 e
  · refine ⟨m, hns, fun i x v e1 e2 e3 => ?_⟩
    have e1' : (xs ++ fr)[i]? = some x := e1
    by_cases hi : i < xs.length
    · rw [List.getElem?_append_left (by simpa using hi), List.getElem?_replicate, if_pos hi] at e2
      cases e2
    · rw [List.getElem?_append_right (by simpa using Nat.le_of_not_lt hi), List.length_replicate, List.getElem?_map] at e2
      rw [List.getElem?_append_right (Nat.le_of_not_lt hi)] at e1'
      obtain ⟨i', hi', hN⟩ := S.at_ _ _ e1'
      rw [hi'] at e2
      have e2' : σ.getD i' none = some v := Option.some.inj e2
      have e2'' : σ[i']? = some (some v) := by
        rw [List.getD_eq_getElem?_getD] at e2'
        cases z : σ[i']? with
        | none => rw [z] at e2'; cases e2'
        | some w' => rw [z] at e2'; exact congrArg some e2'
      have hf : scope.names.lookup x = some .free := S.free x (List.mem_iff_getElem?.mpr ⟨_, e1'⟩)
      have hmem := mem_of_lookup hf
      have ho := S.out x hmem
      obtain ⟨m0, hn0, hl0⟩ := I.loc
      obtain ⟨u, r, l⟩ := hl0 i' x v hN e2'' (by rcases ho with z | z; exact .inr (.inl z); exact .inr (.inr z))
      refine ⟨u, r, ?_⟩
      rcases l with ⟨z, _⟩ | ⟨_, c, hc, o, hoc, hd⟩
      · rcases ho with q | q <;> rw [q] at z <;> cases z
      · refine .inr ⟨lookup_relabel_free hf, ?_⟩
        obtain ⟨c', hc'⟩ := clOf_has (env := X.env) scope.names [] x (.inl hmem)
        have := look x c' hc'
        rw [hc] at this
        cases this
        exact ⟨c, hc', o, k c o hoc, hd⟩
  · obtain ⟨v, o, ho, hd⟩ := I.cell x c (look x c e)
    exact ⟨v, o, k c o ho, hd⟩
  · have hp' : p ∈ X.pn ++ pins := by simpa [compCx] using hp
    obtain ⟨e, n, ne, nf, d⟩ := I.pin p hp'
    refine ⟨k _ _ e, n, Nat.ne_of_lt (Heap.lt_size e), fun z => ?_, d⟩
    rcases List.mem_cons.mp (I.stkSub p.1 z) with q | q
    · exact ne q
    · exact nf q
  · show (List.replicate xs.length none ++ ix.map fun i => σ.getD i none).length = (xs ++ fr).length
    simp [S.len]
/-- the whole block; behind it what use asks -/
theorem comp_run {use : Option (Value → Sem Unit)} {pins : List (Addr × Obj)} {s : Shared} {σ : St} {H : Hp} {cpos : Pos} {Qv : Value → Shared → Prop} {Qe : Addr → Hp → Prop} (hc : X.calm = true) (S : CompSc X xs fr ix scope) (hi : PI X tg iter wi)
    (hg : ∀ cl C s₀ H₀ ex pn, PG (compCx X xs fr scope cl C s₀ H₀ ex pn) tg g) (ht : ∀ cl C s₀ H₀ ex pn, PIf (compCx X xs fr scope cl C s₀ H₀ ex pn) ifs tt) (he : ∀ cl C s₀ H₀ ex pn, PE (compCx X xs fr scope cl C s₀ H₀ ex pn) elt te)
    (hs : ∀ x, foldedSetIterable iter X.env x = pure x) (I : Inv X pins σ H s)
    (h : wi σ H fun J H1 => ∀ D, H1 D = none → ∃ W : Nat → Nat → St → Hp → Prop, (∃ m, W 0 m (List.replicate xs.length none ++ ix.map fun i => σ.getD i none) (upd H1 D (.lst []))) ∧
      ∀ i m τ H2, W i m τ H2 → (J.stop i H2 ∧ Qe D H2) ∨ (J.go i H2 ∧ ∃ N : St → Hp → Prop, (∀ τ' H', N τ' H' → ∃ m', m' < m ∧ W (i + 1) m' τ' H') ∧ ∀ v H3, J.yld i H2 v H3 → g v τ H3 fun τ1 H3' => tt τ1 H3' fun b H4 =>
        if b = true then te τ1 H4 fun y H5 => ∃ acc, H5 D = some (.lst acc) ∧ acc.length < sizeLine ∧ N τ1 (upd H5 D (.lst (acc ++ [y]))) else N τ1 H4))
    (fin : ∀ (D C : Addr) (s6 : Shared) (H6 : Hp) (m6 : Str → Option Value), Inv X pins σ H6 s6 → s6.heap.Ns C m6 → H6 C = none → C ≠ X.env.locals → X.s₀.heap.objs.size ≤ C → (∀ x c, X.env.cells.lookup x = some c → c ≠ C) → (∀ p ∈ X.pn ++ pins, p.1 ≠ C) → Qe D H6 →
      compPost (model X.prog X.w) X.A X.xe use Qv (.ref D) C (.ok .next) s6) :
    wpAny (model X.prog X.w) X.A (comprehension (.ListComp elt [⟨tg, iter, ifs, 0⟩] scope pos) scope X.env cpos (newList []) false (eval iter X.env) use) Qv X.xe s := by
  have hcl : ∀ n, (n, NameKind.free) ∈ scope.names → ∃ c, X.env.cells.lookup n = some c := fun n hn => I.ok.has n (S.out n hn)
  refine wpAny_comprehension_free (use := use) rfl hs (closure_of hcl) S.kind S.names (thn (hi pins s σ H _ I h) fun v s1 h1 => thn h1 fun itv s2 h2 => ?_)
  obtain ⟨it, fp, tn, J, H2, e, I2, T, st2, f2, hR⟩ := h2
  subst e
  refine wpAny_newObj_type ?_ (by show ([] : List Value).toArray.size ≤ sizeLine; decide)
  have hD : H2 s2.heap.objs.size = none := I2.hok.fresh (Nat.le_refl _)
  obtain ⟨W, ⟨m0, w0⟩, turn⟩ := hR s2.heap.objs.size hD
  have I3 := I2.lnew (its := []) (ys := []) (t' := s2.toks) .nil (by decide)
  generalize hs3 : ({ s2 with heap := s2.heap.push { cls := .type "list", data := .seq ([] : List Value).toArray }, toks := s2.toks } : Shared) = s3 at I3 ⊢
  have hsz : s3.heap.objs.size = s2.heap.objs.size + 1 := by rw [← hs3]; exact Heap.size_push ..
  have k23 : ∀ b o, s2.heap.get? b = some o → s3.heap.get? b = some o := fun b o e => by rw [← hs3]; exact Heap.get?_push_of_some _ e
  have fp3 : ∀ b ∈ fp, ∃ o, s3.heap.get? b = some o := fun b hb => let ⟨o, e, _⟩ := T.obj _ _ st2 b hb; ⟨o, k23 b o e⟩
  have neD : ∀ b ∈ fp, b ≠ s2.heap.objs.size := fun b hb => let ⟨o, e, _⟩ := T.obj _ _ st2 b hb; Nat.ne_of_lt (Heap.lt_size e)
  have f3 : ∀ b ∈ fp, FpOk X pins (upd H2 s2.heap.objs.size (.lst [])) b := fun b hb => ⟨by rw [upd_ne (neD b hb)]; exact (f2 b hb).1, (f2 b hb).2⟩
  refine wpAny_newFunctionEnv S.cell (by intro y hy; simp at hy) (fun h1' hns1 hsb1 => ?_) S.kind
  have k34 : ∀ b o, s3.heap.get? b = some o → h1'.get? b = some o := fun b o e => hsb1.extBut b o (Nat.ne_of_lt (Heap.lt_size e)) (Heap.get?_push_of_some _ e)
  have I4 := comp_start (t' := s3.toks + ([] : List (Str × Value)).length) I3 S f3 fp3 hns1 k34 fun a ha => I3.hok.fresh ha
  have st4 : tn 0 h1' := T.keep _ _ _ st2 fun b hb o e => k34 b o (k23 b o e)
  generalize hs4 : ({ s3 with heap := h1', toks := s3.toks + ([] : List (Str × Value)).length } : Shared) = s4 at I4 ⊢
  have st4' : tn 0 s4.heap := by rw [← hs4]; exact st4
  have pg := hg (clOf X.env scope.names []) s3.heap.objs.size s3 (upd H2 s2.heap.objs.size (.lst [])) fp (X.pn ++ pins)
  have pt := ht (clOf X.env scope.names []) s3.heap.objs.size s3 (upd H2 s2.heap.objs.size (.lst [])) fp (X.pn ++ pins)
  have pe := he (clOf X.env scope.names []) s3.heap.objs.size s3 (upd H2 s2.heap.objs.size (.lst [])) fp (X.pn ++ pins)
  -- the iterator's records, seen from the block
  have fpc : ∀ {H' : Hp}, (∀ b ∈ fp, H' b = none) → ∀ b ∈ fp, FpOk (compCx X xs fr scope (clOf X.env scope.names []) s3.heap.objs.size s3 (upd H2 s2.heap.objs.size (.lst [])) fp (X.pn ++ pins)) [] H' b := fun hn b hb => by
    obtain ⟨o, e⟩ := fp3 b hb
    refine ⟨hn b hb, Nat.ne_of_lt (Heap.lt_size e), fun z => ?_, .inl hb, fun x c q => (f2 b hb).2.2.2.2.1 x c (clOf_look scope.names [] hcl (fun x c e => by cases e) x c q), fun p hp => (f2 b hb).2.2.2.2.2 p (by simpa [compCx] using hp)⟩
    rcases List.mem_cons.mp (I3.stkSub b z) with q | q
    · exact (f2 b hb).2.1 q
    · exact (f2 b hb).2.2.1 q
  have loop : codeAny (model X.prog X.w) X.A (.compLoop (.ListComp elt [⟨tg, iter, ifs, 0⟩] scope pos) 0 (.ref it) (.ref s2.heap.objs.size) (compEnvC scope (clOf X.env scope.names []) s3.heap.objs.size X.env))
      (compPost (model X.prog X.w) X.A X.xe use Qv (.ref s2.heap.objs.size) s3.heap.objs.size) s4 := by
    refine codeAny_loop rfl (fun n s' => ∃ i τ H', Inv (compCx X xs fr scope (clOf X.env scope.names []) s3.heap.objs.size s3 (upd H2 s2.heap.objs.size (.lst [])) fp (X.pn ++ pins)) [] τ H' s' ∧ tn i s'.heap ∧ (∀ b ∈ fp, H' b = none) ∧ W i n τ H') (fun n s5 hI => ?_) m0
      ⟨0, _, _, I4, st4', fun b hb => (f3 b hb).1, w0⟩
    obtain ⟨i, τ, H5, I5, st5, fr5, w5⟩ := hI
    show wpAny _ X.A ((compTurn (.ListComp elt [⟨tg, iter, ifs, 0⟩] scope pos) 0 (.ref it) (.ref s2.heap.objs.size) (compEnvC scope (clOf X.env scope.names []) s3.heap.objs.size X.env)).onRaise (fun x => do noteFrame x (compEnvC scope (clOf X.env scope.names []) s3.heap.objs.size X.env); theTreesLotGoes x)) _ _ s5
    refine wpAny_noted ?_
    rw [compTurn_list]
    refine wpAny_bind (wpAny_standAt (wpAny_bind ?_))
    rcases turn i n τ H5 w5 with ⟨stop, qn⟩ | ⟨go, N, hN, step⟩
    · refine thn (T.done (compCx X xs fr scope (clOf X.env scope.names []) s3.heap.objs.size s3 (upd H2 s2.heap.objs.size (.lst [])) fp (X.pn ++ pins)) rfl rfl rfl hc i [] s5 τ H5 _ I5 (fpc fr5) st5 stop) fun r s6 ⟨hr, I6⟩ => ?_
      subst hr
      refine wpAny_pure ?_
      obtain ⟨m6, hn6, _⟩ := I6.loc
      have I6' : Inv X pins σ H5 s6 := I3.call' (s' := s6) (H' := H5) (ch := fp) I6.os I6.base I6.hok I6.bare fun b hb => ⟨(f2 b hb).2.2.2.1, (f2 b hb).2.1, (f2 b hb).2.2.2.2.1, (f2 b hb).2.2.2.2.2⟩
      refine fin s2.heap.objs.size s3.heap.objs.size s6 H5 m6 I6' hn6 I6.free (Nat.ne_of_gt I3.lt) I3.sz (fun x c e z => ?_) (fun p hp z => ?_) qn
      · obtain ⟨v, o, ho, _⟩ := I3.cell x c e
        exact absurd (Heap.lt_size ho) (by rw [z]; exact Nat.lt_irrefl _)
      · obtain ⟨e, _⟩ := I3.pin p hp
        exact absurd (Heap.lt_size e) (by rw [z]; exact Nat.lt_irrefl _)
    · refine thn (T.item (compCx X xs fr scope (clOf X.env scope.names []) s3.heap.objs.size s3 (upd H2 s2.heap.objs.size (.lst [])) fp (X.pn ++ pins)) rfl rfl rfl hc i [] s5 τ H5 _ I5 (fpc fr5) st5 go) fun r s6 ⟨u, hr, h6⟩ => ?_
      subst hr
      refine wpAny_bind (thn h6 fun _ s7 ⟨x, H7, I7, r7, y7, st7, fr7⟩ => ?_)
      have I7' := I7.pinned (fpc fr7) (T.obj _ _ st7)
      have noE : ∀ {α : Type} {t : Sem α} {Q' : α → Shared → Prop} {E' : Value → Shared → Prop} {s' : Shared}, wpAny (model X.prog X.w) X.A t Q' (fun _ _ => False) s' → wpAny (model X.prog X.w) X.A t Q' E' s' := fun h => wpAny_mono h (fun _ _ q => q) fun _ _ z => z.elim
      refine wpAny_bind (noE (thn (pg _ s7 τ H7 x u _ I7' r7 (step x H7 y7)) fun _ s8 ⟨τ8, H8, I8, q8⟩ => ?_))
      refine wpAny_bind (noE (thn (pt _ s8 τ8 H8 _ I8 q8) fun ok s9 ⟨H9, I9, q9⟩ => ?_))
      have again : ∀ {H' : Hp} {s' : Shared}, Inv (compCx X xs fr scope (clOf X.env scope.names []) s3.heap.objs.size s3 (upd H2 s2.heap.objs.size (.lst [])) fp (X.pn ++ pins)) ([] ++ pinsAt fp s7.heap) τ8 H' s' → N τ8 H' →
          ∃ m, m < n ∧ ∃ i τ H', Inv (compCx X xs fr scope (clOf X.env scope.names []) s3.heap.objs.size s3 (upd H2 s2.heap.objs.size (.lst [])) fp (X.pn ++ pins)) [] τ H' s' ∧ tn i s'.heap ∧ (∀ b ∈ fp, H' b = none) ∧ W i m τ H' := fun {H' s'} I' n' => by
        obtain ⟨m', hm, w'⟩ := hN _ _ n'
        refine ⟨m', hm, i + 1, τ8, H', I'.unpinned, T.keep _ _ _ st7 fun b hb o e => (I'.pin (b, o) (List.mem_append_right _ (List.mem_append_right _ (mem_pinsAt hb e)))).1, fun b hb => ?_, w'⟩
        obtain ⟨o, e, d⟩ := T.obj _ _ st7 b hb
        exact (I'.pin (b, o) (List.mem_append_right _ (List.mem_append_right _ (mem_pinsAt hb e)))).2.1
      cases ok with
      | false =>
        rw [if_neg Bool.false_ne_true] at q9
        exact wpAny_pure ⟨rfl, again I9 q9⟩
      | true =>
        rw [if_pos rfl] at q9
        refine wpAny_bind (wpAny_bind (noE (thn (pe _ s9 τ8 H9 _ I9 q9) fun yv s10 ⟨y, H10, I10, r10, acc, hacc, hlen, q10⟩ => ?_)))
        refine wpAny_bind (noE (thn (mt_append (X := compCx X xs fr scope (clOf X.env scope.names []) s3.heap.objs.size s3 (upd H2 s2.heap.objs.size (.lst [])) fp (X.pn ++ pins)) _ s10 τ8 H10 (.ref s2.heap.objs.size) [y] _ [yv]
          (fun _ H' => H' = upd H10 s2.heap.objs.size (.lst (acc ++ [y]))) I10 rfl (.cons r10 .nil) ⟨_, acc, y, rfl, rfl, hacc, hlen, rfl⟩) fun _ s11 ⟨_, H11, I11, _, e11⟩ => ?_))
        subst e11
        exact wpAny_pure (wpAny_pure ⟨rfl, again I11 q10⟩)
  exact codeAny_compStart_list loop (T.self X.A 0 s4 _ _ st4' loop)
theorem pe_comp (hc : X.calm = true) (S : CompSc X xs fr ix scope) (hi : PI X tg iter wi)
    (hg : ∀ cl C s₀ H₀ ex pn, PG (compCx X xs fr scope cl C s₀ H₀ ex pn) tg g) (ht : ∀ cl C s₀ H₀ ex pn, PIf (compCx X xs fr scope cl C s₀ H₀ ex pn) ifs tt) (he : ∀ cl C s₀ H₀ ex pn, PE (compCx X xs fr scope cl C s₀ H₀ ex pn) elt te)
    (hs : ∀ x, foldedSetIterable iter X.env x = pure x := by intro _; rfl) : PE X (.ListComp elt [⟨tg, iter, ifs, 0⟩] scope pos) (tComp xs.length ix wi g tt te) := by
  intro pins s σ H Q I h
  rw [eval_ListComp]
  refine comp_run (use := none) (Qe := fun D H2 => Q (.ref D) H2) hc S hi hg ht he hs I h fun D C s6 H6 m6 I6 hn hf hL hC h2 h3 q => ?_
  exact ⟨m6, hn, fun h' hsb => ⟨.ref D, H6, I6.turned (t' := s6.toks) (fun b o hb e => hsb.extBut b o hb e) hf hL (.inr hC) h2 h3, rfl, q⟩⟩
end
/-! ### reversed(list) -/
section
variable {X : Cx} {tg : Expr}
end
end L2
set_option Elab.async false
set_option linter.all false
set_option maxRecDepth 100000
namespace L2
open PySem PySem.Spec PyProof.Rows
/-! ### blocks over a range or a list that only reckon -/
def SameX (D : Addr) (H H' : Hp) : Prop := ∀ b o, b ≠ D → H b = some o → H' b = some o
theorem SameX.at {D b : Addr} {H H' : Hp} {o : HO} (s : SameX D H H') (n : H D = none) (h : H b = some o) : H' b = some o := s b o (ne_of_none h n) h
theorem SameX.seq {K : PySem.W.Frag} {D : Addr} {H H' : Hp} {a : Addr} {xs : List V} (s : SameX D H H') (n : H D = none) (h : SqL K H a xs) : SqL K H' a xs := by
  rcases h with (h | ⟨o, h⟩) | h
  · exact .inl (.inl (s.at n h))
  · exact .inl (.inr ⟨o, s.at n h⟩)
  · exact .inr h
theorem SameX.same {D : Addr} {H H' : Hp} (s : SameX D H H') (n : H D = none) : Same H H' := fun b o e => s.at n e
def nums (ns : List Int) : List V := ns.map V.int
theorem nums_len (ns : List Int) : (nums ns).length = ns.length := List.length_map ..
theorem nums_get {ns : List Int} {i : Nat} (h : i < ns.length) : (nums ns)[i]? = some (V.int ns[i]) := by
  unfold nums
  rw [List.getElem?_map, List.getElem?_eq_getElem h]
  rfl
theorem nums_append (a b : List Int) : nums (a ++ b) = nums a ++ nums b := List.map_append ..
end L2
set_option Elab.async false
set_option linter.all false
set_option maxRecDepth 100000
namespace L2
open PySem PySem.Spec PyProof.Rows
section
variable {X : Cx}
theorem nums_flat (ns : List Int) : (nums ns).all flatV = true := by
  rw [List.all_eq_true]
  intro x hx
  obtain ⟨i, _, rfl⟩ := List.mem_map.mp hx
  rfl
theorem inV_nums (g : Int) : ∀ ns : List Int, inV (.int g) (nums ns) = decide (g ∈ ns)
  | [] => by simp [inV, nums]
  | x :: r => by
    have ih := inV_nums g r
    show (eqV (.int x) (.int g) || inV (.int g) (nums r)) = _
    rw [ih]
    show ((x == g) || decide (g ∈ r)) = _
    by_cases e : x = g
    · subst e; simp
    · rw [beq_eq_false_iff_ne.mpr e, Bool.false_or]
      have : (g ∈ x :: r) ↔ g ∈ r := by
        constructor
        · intro h
          rcases List.mem_cons.mp h with q | q
          · exact absurd q.symm e
          · exact q
        · exact List.mem_cons_of_mem _
      by_cases z : g ∈ r
      · rw [decide_eq_true z, decide_eq_true (this.mpr z)]
      · rw [decide_eq_false z, decide_eq_false (fun y => z (this.mp y))]
end
end L2
set_option Elab.async false
set_option linter.all false
set_option maxRecDepth 100000
namespace L2
open PySem PySem.Spec PyProof.Rows
/-! ### range(a, b, -1) -/
section
variable {X : Cx} {tg : Expr}
end
/-! ### for i, x in enumerate(list) -/
section
variable {X : Cx} {pins : List (Addr × Obj)} {σ : List (Option V)} {H : Hp} {s : Shared} {h' : Heap}
/-- two untracked records have turned, and a new object is laid -/
theorem Inv.turned2 {t' : Nat} {e it t : Addr} {o : HO} (I : Inv X pins σ H s) (k : ∀ b o, b ≠ e → b ≠ it → s.heap.get? b = some o → h'.get? b = some o) (he : FpOk X pins H e) (hi : FpOk X pins H it) (ht : s.heap.objs.size ≤ t)
    (new : ObjOk X.prog X.w (upd H t o) h' t o) : Inv X pins σ (upd H t o) { s with heap := h', toks := t' } := by
  have hn : H t = none := I.hok.fresh ht
  have nit : ∀ b u, H b = some u → b ≠ e ∧ b ≠ it := fun b u q => ⟨fun z => (by rw [z, he.1] at q; cases q), fun z => (by rw [z, hi.1] at q; cases q)⟩
  have ne : ∀ b ob, s.heap.get? b = some ob → b ≠ t := fun b ob q => Nat.ne_of_lt (Nat.lt_of_lt_of_le (Heap.lt_size q) ht)
  refine I.step (g' := s.gens) (d' := s.drawn) (ch := [e, it]) (fun b hb => ?_) (fun b o _ _ hc q _ => k b o (fun z => hc (by simp [z])) (fun z => hc (by simp [z])) q) (fun b o _ _ hc q _ => ⟨o.slots, k b o (fun z => hc (by simp [z])) (fun z => hc (by simp [z])) q⟩)
    (fun b o _ q n => by rw [upd_ne (ne b o q)]; exact n)
    (fun b o hc q => ⟨o, k b o (fun z => hc (by simp [z])) (fun z => hc (by simp [z])) q⟩) (fun b xs q => by rw [upd_ne (ne_of_none q hn)]; exact q) (fun b u xs q => by rw [upd_ne (ne_of_none q hn)]; exact q) (fun b ps q => ⟨#[], by rw [upd_ne (ne_of_none q hn), q]; simp⟩) (fun m hm => ?_) (fun b u q => ?_) I.bare
  · rcases List.mem_cons.mp hb with rfl | hb
    · exact ⟨he.2.2.2.1, he.2.1, he.2.2.2.2.1, he.2.2.2.2.2⟩
    · have z : b = it := by simpa using hb
      subst z
      exact ⟨hi.2.2.2.1, hi.2.1, hi.2.2.2.2.1, hi.2.2.2.2.2⟩
  · obtain ⟨o, es, ep, ho, r⟩ := hm
    exact ⟨o, es, ep, k _ o (Ne.symm he.2.1) (Ne.symm hi.2.1) ho, r⟩
  · by_cases hb : b = t
    · subst hb; rw [upd_same] at q; cases q; exact new
    · rw [upd_ne hb] at q
      refine (I.hok b u q).stay (fun c v hc z => k c v ?_ ?_ z) (fun c z => by rw [upd_ne (ne_of_none z hn)]; exact z) fun c xs z => by rw [upd_ne (ne_of_none z hn)]; exact z
      · rcases hc with z | z
        · rw [z]; exact (nit b u q).1
        · exact (nit c _ z).1
      · rcases hc with z | z
        · rw [z]; exact (nit b u q).2
        · exact (nit c _ z).2
end
def Ite (K : PySem.W.Frag) (a : Addr) : It :=
  ⟨fun i H => ∃ xs x, SqL K H a xs ∧ xs[i]? = some x, fun i H v H' => ∃ t x, v = .ref t ∧ H t = none ∧ (∀ xs, SqL K H a xs → xs[i]? = some x) ∧ H' = upd H t (.tup [.int (i : Int), x]), fun i H => ∃ xs, SqL K H a xs ∧ xs.length ≤ i⟩
theorem turn_enum {P : Program} {w : World} {K : PySem.W.Frag} {elts : List Expr} {x1 : Nat} {pos : Pos} (a e it : Addr) (hei : e ≠ it) : Turn P w K (.Tuple elts x1 pos) (Ite K a) [e, it] e (fun i h => (∃ old, IsEnum h e it (i : Int) old) ∧ h.IsListIter it a i) where
  mem := by simp
  obj := fun i h st b hb => by
    obtain ⟨⟨old, st1⟩, st2⟩ := st
    rcases List.mem_cons.mp hb with rfl | hb
    · exact ⟨_, st1, fun v z => by
        have z' : Data.fields _ = Data.cell v := z
        cases z'⟩
    · have z : b = it := by simpa using hb
      subst z
      obtain ⟨o, q, c, d⟩ := st2
      exact ⟨o, q, fun v z => by rw [d] at z; cases z⟩
  keep := fun i h h' st k => by
    obtain ⟨⟨old, st1⟩, st2⟩ := st
    exact ⟨⟨old, k e (by simp) _ st1⟩, st2.at fun o q => k it (by simp) o q⟩
  item := by
    intro X hP hw hK hc i pins s σ H E I hf st hg
    subst hP hw hK
    obtain ⟨⟨old, st1⟩, st2⟩ := st
    obtain ⟨xs, x, hq, hx⟩ := hg
    obtain ⟨its, rv, p, hz⟩ := I.list hq
    obtain ⟨u, hu, ru⟩ := rv.get hx
    have fe := hf e (by simp)
    have fi := hf it (by simp)
    refine wpAny_pyNext_enum_item st1 st2 p.isList (x := u) (by simpa using hu) hei fun h' ho hit' hT hsz hk => ?_
    refine ⟨_, rfl, wpAny_letOwnedTupleGo_enum (s := { s with heap := h', toks := s.toks + 1 }) ho fun h'' he'' hs'' => ?_⟩
    have hs2 : Heap.SameBut e h' h'' := hs''
    have hte : s.heap.objs.size ≠ e := fun z => absurd (Heap.lt_size st1) (by rw [← z]; exact Nat.lt_irrefl _)
    have hT2 : h''.get? s.heap.objs.size = some { cls := .type "tuple", data := .seq #[.int i s.toks, u] } := (hs2.2 _ hte).trans hT
    have I1 : Inv X pins σ (upd H s.heap.objs.size (.tup [.int (i : Int), x])) { s with heap := h'', toks := s.toks + 1 } := by
      refine I.turned2 (e := e) (it := it) (fun b o h1 h2 q => (hs2.2 b h1).trans (hk b o h1 h2 q)) fe fi (Nat.le_refl _) ?_
      exact ⟨(by show 2 ≤ sizeLine; decide), [.int i s.toks, u], .cons ⟨_, rfl⟩ (.cons ru .nil), ⟨_, hT2, rfl, _, rfl⟩⟩
    refine ⟨.ref s.heap.objs.size, _, I1, rfl, ⟨_, x, rfl, I.hok.fresh (Nat.le_refl _), fun ys hy => by rw [I.list_inj hy hq]; exact hx, rfl⟩, ⟨⟨u, ?_⟩, ?_⟩, fun b hb => ?_⟩
    · have z : ((i + 1 : Nat) : Int) = (i : Int) + 1 := by omega
      rw [z]
      exact he''
    · exact hit'.at fun o q => (hs2.2 it hei.symm).trans q
    · have hb2 : b ≠ s.heap.objs.size := by
        rcases List.mem_cons.mp hb with rfl | hb
        · exact hte.symm
        · have z : b = it := by simpa using hb
          subst z
          obtain ⟨o, q, _⟩ := st2
          exact Nat.ne_of_lt (Heap.lt_size q)
      rw [upd_ne hb2]
      exact (hf b hb).1
  done := by
    intro X hP hw hK hc i pins s σ H E I hf st hg
    subst hP hw hK
    obtain ⟨⟨old, st1⟩, st2⟩ := st
    obtain ⟨xs, hq, hx⟩ := hg
    obtain ⟨its, rv, p, hz⟩ := I.list hq
    obtain ⟨f0, f1, f2, f3, f4, f5⟩ := hf it (by simp)
    have hl := rv.length
    exact wpAny_pyNext_enum_end (I.ok.hd hc) st1 st2 p.isList (by simp; omega) fun h' eb => ⟨rfl, I.turned (t' := s.toks) (fun b o hb q => eb b o hb q) f0 f1 f3 f4 f5⟩
  self := fun _ _ _ _ _ st h => by
    obtain ⟨⟨old, st1⟩, _⟩ := st
    exact wpAny_pyIter_enum st1 h
section
variable {X : Cx} {elts : List Expr} {x1 : Nat} {tpos : Pos}
theorem boot_enumerate' : bootBuiltins "enumerate" = some (.type "enumerate") := by decide +kernel
def iEnum (K : PySem.W.Frag) (ta : TA) : TI := fun σ H R => ta σ H fun vs H1 => ∃ a xs, vs = [.ref a] ∧ SqL K H1 a xs ∧ R (Ite K a) H1
theorem pi_enum {a : Expr} {ta : TA} {p pos : Pos} (hm : X.mg "enumerate" = none) (ha : PA X [a] ta) (hg : Gl X "enumerate" := by rfl) (hs : starEach [a] X.env = [(false, eval a X.env)] := by rfl) : PI X (.Tuple elts x1 tpos) (.Call (.Name "enumerate" p) [a] [] pos) (iEnum X.K ta) := by
  intro pins s σ H R I h
  refine Call_ (ld_blt I hg hm boot_enumerate' (PyProof.Rows.callWith_type1 (thn (ha pos pins s σ H _ I h) fun us s1 ⟨vs, H1, I1, r1, q1⟩ => ?_) hs rfl))
  obtain ⟨l, xs, e, hq, q⟩ := q1
  subst e
  obtain ⟨u, rfl, ru⟩ := vals1 r1
  cases ru
  obtain ⟨its, rv, pl, hz⟩ := I1.list hq
  refine call_enumerate_list pl.isList fun h' he hit hsz hk => ?_
  refine wpAny_pyIter_enum (s := { s1 with heap := h' }) he ?_
  refine ⟨s1.heap.objs.size + 1, [s1.heap.objs.size + 1, s1.heap.objs.size], _, _, H1, rfl, I1.kept (t' := s1.toks) hk, turn_enum l _ _ (Nat.succ_ne_self _), ⟨⟨_, he⟩, hit⟩, fun b hb => ?_, q⟩
  rcases List.mem_cons.mp hb with rfl | hb
  · exact I1.fpOk (by omega) (I1.hok.fresh (by omega))
  · have z : b = s1.heap.objs.size := by simpa using hb
    subst z
    exact I1.fpOk (Nat.le_refl _) (I1.hok.fresh (Nat.le_refl _))
/-- over enumerate of a list that the body leaves as it is -/
theorem for_enum {K : PySem.W.Frag} {a : Addr} {xs : List V} {g : TG} {tb : TS} {D : Ends} {σ : St} {H : Hp} (Pv : Nat → St → Hp → Prop) (h0 : Pv 0 σ H) (hl : ∀ i σ H, i ≤ xs.length → Pv i σ H → SqL K H a xs)
    (hs : ∀ i x t σ H, xs[i]? = some x → H t = none → Pv i σ H → g (.ref t) σ (upd H t (.tup [.int (i : Int), x])) fun σ2 H2 => tb { D with nx := Pv (i + 1), ct := Pv (i + 1), bk := D.nx } σ2 H2) (hd : ∀ σ H, Pv xs.length σ H → D.nx σ H) :
    ∃ W : Nat → Nat → St → Hp → Prop, (∃ m, W 0 m σ H) ∧ ∀ i m σ H, W i m σ H →
      ((Ite K a).stop i H ∧ D.nx σ H) ∨ ((Ite K a).go i H ∧ ∃ N : St → Hp → Prop, (∀ σ' H', N σ' H' → ∃ m', m' < m ∧ W (i + 1) m' σ' H') ∧ ∀ x H', (Ite K a).yld i H x H' → g x σ H' fun σ2 H2 => tb { D with nx := N, ct := N, bk := D.nx } σ2 H2) := by
  refine ⟨fun i m σ H => m = xs.length - i ∧ i ≤ xs.length ∧ Pv i σ H, ⟨xs.length, by simp, Nat.zero_le _, h0⟩, ?_⟩
  rintro i m σ H ⟨rfl, hi, p⟩
  have q := hl i σ H hi p
  by_cases hlt : i < xs.length
  · have hx : xs[i]? = some xs[i] := List.getElem?_eq_getElem hlt
    refine .inr ⟨⟨xs, xs[i], q, hx⟩, Pv (i + 1), fun σ' H' p' => ⟨xs.length - (i + 1), by omega, rfl, hlt, p'⟩, fun x H' y => ?_⟩
    obtain ⟨t, x', rfl, hn, hy, rfl⟩ := y
    exact hs i x' t σ H (hy xs q) hn p
  · have e : i = xs.length := by omega
    subst e
    exact .inl ⟨⟨xs, q, Nat.le_refl _⟩, hd σ H p⟩
end
/-! ### xs.insert(i, y), xs.index(y), xs.count(y) -/
section
variable {X : Cx}
end
/-! ### [x for x in range(n) if p(x)] -/
def uptoI : Nat → List Int
  | 0 => []
  | k + 1 => uptoI k ++ [(k : Int)]
theorem uptoI_len : ∀ k, (uptoI k).length = k
  | 0 => rfl
  | k + 1 => by show (uptoI k ++ [(k : Int)]).length = _; rw [List.length_append, uptoI_len k]; rfl
theorem comp_filterR {n : Nat} {p : Int → Bool} {D : Addr} {H1 : Hp} {Qe : Hp → Prop} {tt : TT} {rest : St} {v0 : Option V} (hn : n ≤ 1000)
    (htt : ∀ (i : Nat) (H : Hp) (Q : Bool → Hp → Prop), i < n → SameX D H1 H → Q (p (i : Int)) H → tt (some (.int (i : Int)) :: rest) H Q)
    (hq : ∀ H, SameX D H1 H → H D = some (.lst (nums ((uptoI n).filter p))) → Qe H) :
    ∃ W : Nat → Nat → St → Hp → Prop, (∃ m, W 0 m (v0 :: rest) (upd H1 D (.lst []))) ∧ ∀ i m τ H2, W i m τ H2 → ((Itr 0 n).stop i H2 ∧ Qe H2) ∨ ((Itr 0 n).go i H2 ∧ ∃ N : St → Hp → Prop, (∀ τ' H', N τ' H' → ∃ m', m' < m ∧ W (i + 1) m' τ' H') ∧ ∀ v H3, (Itr 0 n).yld i H2 v H3 → gName 0 v τ H3 fun τ1 H3' => tt τ1 H3' fun b H4 =>
      if b = true then (tVar 0) τ1 H4 fun y H5 => ∃ acc, H5 D = some (.lst acc) ∧ acc.length < sizeLine ∧ N τ1 (upd H5 D (.lst (acc ++ [y]))) else N τ1 H4) := by
  refine comp_by n (fun i τ H => (∃ v, τ = v :: rest) ∧ SameX D H1 H ∧ H D = some (.lst (nums ((uptoI i).filter p)))) ⟨⟨v0, rfl⟩, fun b o hb e => by rw [upd_ne hb]; exact e, upd_same⟩ ?_ ?_
  · rintro i τ H hi ⟨⟨v, rfl⟩, hs, hd⟩
    refine ⟨hi, fun v H3 y => ?_⟩
    obtain ⟨rfl, rfl⟩ := y
    have e0 : (0 : Int) + (i : Int) = (i : Int) := by omega
    rw [e0]
    refine htt i _ _ hi hs ?_
    refine ite2 (fun z => ?_) (fun z => ?_)
    · refine ⟨_, rfl, _, hd, ?_, ⟨_, rfl⟩, fun b o hb e => by rw [upd_ne hb]; exact hs b o hb e, ?_⟩
      · rw [nums_len]
        refine Nat.lt_of_le_of_lt (List.length_filter_le _ _) ?_
        rw [uptoI_len]
        exact small1000 (by omega)
      · rw [upd_same]
        show _ = some (HO.lst (nums ((uptoI i ++ [(i : Int)]).filter p)))
        rw [List.filter_append, nums_append]
        have : [(i : Int)].filter p = [(i : Int)] := by rw [List.filter_cons, if_pos z]; rfl
        rw [this]
        rfl
    · refine ⟨⟨_, rfl⟩, hs, ?_⟩
      rw [hd]
      show _ = some (HO.lst (nums ((uptoI i ++ [(i : Int)]).filter p)))
      rw [List.filter_append]
      have : [(i : Int)].filter p = [] := by rw [List.filter_cons, if_neg z]; rfl
      rw [this, List.append_nil]
  · rintro τ H ⟨⟨v, rfl⟩, hs, hd⟩
    exact ⟨Nat.le_refl _, hq H hs hd⟩
end L2
set_option Elab.async false
set_option linter.all false
set_option maxRecDepth 100000
namespace L2
open PySem PySem.Spec PyProof.Rows
/-! ### lists of lists of ints -/
/-- the lists at these places hold these ints -/
def LN (H : Hp) (bs : List Addr) (rs : List (List Int)) : Prop := PySem.Paired (fun b r => H b = some (.lst (nums r))) bs rs
theorem LN.same {H H' : Hp} {bs : List Addr} {rs : List (List Int)} (h : LN H bs rs) (s : Same H H') : LN H' bs rs := Paired.imp' (fun _ _ e => s _ _ e) h
theorem LN.len {H : Hp} {bs : List Addr} {rs : List (List Int)} (h : LN H bs rs) : bs.length = rs.length := PySem.Paired.length h
theorem LN.get {H : Hp} : ∀ {bs : List Addr} {rs : List (List Int)} {i : Nat} {r : List Int}, LN H bs rs → rs[i]? = some r → ∃ b, bs[i]? = some b ∧ H b = some (.lst (nums r))
  | _, _, 0, r, .cons h _, e => by cases e; exact ⟨_, rfl, h⟩
  | _, _, i + 1, r, .cons _ t, e => LN.get (bs := _) (i := i) t e
  | _, _, i, r, .nil, e => by cases i <;> cases e
end L2
namespace L2
open PySem PySem.Spec PyProof.Rows
section
variable {X : Cx}
/-! ### tuples of ints compared -/
end
end L2
namespace L2
open PySem PySem.Spec PyProof.Rows
section
variable {X : Cx}
/-! ### range(n) as a value, list(range(n)) -/
end
end L2
namespace L2
open PySem PySem.Spec PyProof.Rows
end L2
set_option Elab.async false
set_option linter.all false
set_option maxRecDepth 100000
namespace L2
open PySem PySem.Spec PyProof.Rows
/-! ### C.m(e, ..), a class's own function called by the class's name -/
section
variable {X : Cx} {k j : Nat} {f C : Addr} {fd : FuncData} {ps : List Str} {sp : Sp} {x m : Str} {p pos apos : Pos} {e : Expr} {es : List Expr} {t : TA} {mc : Value}
structure ClsFn (K : PySem.W.Frag) (C f : Addr) (m : Str) : Prop where
  ga : PySem.W.specialIn K (.ref C) "__getattribute__" = some (some (.builtin "type.__getattribute__"))
  rd : PySem.W.readsIn K C (.type "type") = true
  fd : PySem.W.findCls K (.ref C) (.type "type") m = some (.val (.ref f))
  kp : PySem.W.keepIn K (.ref f) = true
theorem pe_clsfn {pl : Sem Bool} (F : FnOk X.prog X.w X.K X.mg X.base CX0 k f fd ps sp) (hr : Room j X.A) (hm : X.mg x = some (.ref C)) (c : ClsFn X.K C f m) (hb : Binds X.K fd ps []) (ha : PA X (e :: es) t) (hj : k ≤ j := by decide) (hg : Gl X x := by rfl) (hdb : (x == ("__debug__" : Str)) = false := by decide)
    (hst : starEach (e :: es) X.env = (false, eval e X.env) :: starEach es X.env := by rfl) (hpl : (backTo pos (starEach es X.env)).any (·.1) = false := by rfl)
    (ht : eval (.Call (.Attribute (.Name x p) m apos) (e :: es) [] pos) X.env = (do
      let ov ← eval (.Name x p) X.env
      standAt apos.atName
      let (f, first) ← holding [ov] (getMethod ov m pl)
      callWith pos f first (backTo pos (starEach (e :: es) X.env)) (backToKw pos (keywordEach [] X.env))) := by rfl) :
    PE X (.Call (.Attribute (.Name x p) m apos) (e :: es) [] pos) (tCall sp [] E0 t) := by
  intro pins s σ H Q I h
  refine PySem.W.methodCall_KW (pl := pl) (ld_glob I hg hm ?_ hdb) ht
  refine PySem.W.method_cls I.kIn c.ga (PySem.W.cls_value I.kIn c.rd c.fd rfl ?_)
  have I1 := I.tok (s.toks + 1)
  refine PySem.W.callWith_K (first := []) (h₀ := X.base) I.ok.mod.kin c.kp (thn (ha pos pins _ σ H _ I1 h) fun us s2 ⟨vs, H2, I2, r, q2⟩ => ⟨I2.kIn, ?_⟩) hst hpl
  exact run_fn (F.mono hj) hr hb .nil (fun _ _ _ _ _ _ _ z => z.elim) I2 r q2
end
/-! ### a method, or a function of a class, by what it promises -/
structure Mf (P : Program) (w : World) (K : PySem.W.Frag) (mg : Str → Option Value) (base : Heap) (k : Nat) (f : Addr) (ps : List Str) (sp : Sp) : Prop where
  ex : ∃ fd : FuncData, FnOk P w K mg base CX0 k f fd ps sp ∧ Binds K fd ps []
structure Fn1 (K : PySem.W.Frag) (x qual : Str) (st : Stmt) (f : Addr) : Prop where
  ex : ∃ fd : FuncData, Fun K x qual st f fd
theorem fn1_mk {K : PySem.W.Frag} {x qual : Str} {st : Stmt} {f : Addr} {oc : Value} {od an : Option Addr} {osl : Array (Option Value)} {kV doc pm cdv ct : Value}
    (l : K.lookup f = some ⟨oc, od, .func (PySem.W.fnOf x qual (defArgs st) (defBody st) (defScope st) .none kV doc pm an cdv ct), osl⟩)
    (c : PySem.W.codeIn K cdv qual = true) (k : PySem.W.keepIn K (.ref f) = true) : Fn1 K x qual st f := ⟨_, fun_mk l c k⟩
section
variable {P : Program} {w : World} {K : PySem.W.Frag} {mg : Str → Option Value} {base : Heap}
theorem Fn1.mf {x qual : Str} {st : Stmt} {f : Addr} {N ps : List Str} {k : Nat} {sp : Sp} (F : Fn1 K x qual st f) (S : FnScope N ps (defScope st))
    (hb : ∀ (kV doc pm : Value) (an : Option Addr) (cdv ct : Value) (us : List Value), us.length = ps.length → bindArgs (PySem.W.fnOf x qual (defArgs st) (defBody st) (defScope st) .none kV doc pm an cdv ct) ⟨us, []⟩ = pure (ps.zip us))
    (len : ∀ vs H Q E, sp vs H Q E → vs.length = ps.length)
    (hbody : ∀ (cdv : Value) (A : Around) (outer : List Env) (s : Shared) (H : Hp) (vs : List V) (Q : VK) (E : XK), Room k (A.deeper (envOfC qual (defScope st) s.heap.objs.size f cdv)) → sp vs H Q E →
      ∃ t, PSs (cxOf CX0 P w K mg base N qual (defScope st) f cdv A outer s H E).nox (defBody st) t ∧ t { nx := fun _ H' => Q .non H', rt := Q } (start N vs) H) : Mf P w K mg base (k + 1) f ps sp := by
  obtain ⟨fd, hF⟩ := F.ex
  exact ⟨fd, hF.ok S len hbody, hF.binds hb⟩
theorem Mf.mono {j k : Nat} {f : Addr} {ps : List Str} {sp : Sp} (D : Mf P w K mg base j f ps sp) (h : j ≤ k) : Mf P w K mg base k f ps sp := by
  obtain ⟨fd, a, b⟩ := D.ex
  exact ⟨fd, a.mono h, b⟩
end
section
variable {X : Cx} {k j : Nat} {f C : Addr} {ps : List Str} {sp : Sp} {x m : Str} {p pos apos : Pos} {o e : Expr} {es : List Expr} {ta : TE} {t : TA}
theorem pe_mfc {pl : Sem Bool} (D : Mf X.prog X.w X.K X.mg X.base k f ps sp) (hr : Room j X.A) (hm : X.mg x = some (.ref C)) (c : ClsFn X.K C f m) (ha : PA X (e :: es) t) (hj : k ≤ j := by decide) (hg : Gl X x := by rfl) (hdb : (x == ("__debug__" : Str)) = false := by decide)
    (hst : starEach (e :: es) X.env = (false, eval e X.env) :: starEach es X.env := by rfl) (hpl : (backTo pos (starEach es X.env)).any (·.1) = false := by rfl)
    (ht : eval (.Call (.Attribute (.Name x p) m apos) (e :: es) [] pos) X.env = (do
      let ov ← eval (.Name x p) X.env
      standAt apos.atName
      let (f, first) ← holding [ov] (getMethod ov m pl)
      callWith pos f first (backTo pos (starEach (e :: es) X.env)) (backToKw pos (keywordEach [] X.env))) := by rfl) :
    PE X (.Call (.Attribute (.Name x p) m apos) (e :: es) [] pos) (tCall sp [] E0 t) := by
  obtain ⟨fd, a, b⟩ := D.ex
  exact pe_clsfn a hr hm c b ha hj hg hdb hst hpl ht
theorem pe_mk (D : Mf X.prog X.w X.K X.mg X.base k f ps sp) (hr : Room j X.A) (M : Mk X.K C f) (hm : X.mg x = some (.ref C)) (ha : PA X (e :: es) t) (hj : k + 1 ≤ j := by decide) (hg : Gl X x := by rfl) (hdb : (x == ("__debug__" : Str)) = false := by decide)
    (he : starEach (e :: es) X.env = (false, eval e X.env) :: starEach es X.env := by rfl) (hpl : (backTo pos (starEach es X.env)).any (·.1) = false := by rfl) :
    PE X (.Call (.Name x p) (e :: es) [] pos) (tMake C sp [] E0 t) := by
  obtain ⟨fd, a, b⟩ := D.ex
  exact pe_make M a (hr.mono hj) hg hm b .nil (fun _ _ _ _ _ _ _ h => h.elim) ha hdb he hpl
end
/-! ### a walker's attributes -/
def wf (t s : Int) (ex : List (Str × V)) : List (Str × V) := ("places", .int t) :: ("standing", .int s) :: ex
theorem n_ps : ¬ (("places" : Str) = "standing") := by decide +kernel
theorem wf_first (t : Int) : putF "standing" (.int 0) (putF "places" (.int t) []) = wf t 0 [] := by
  show (if ("places" : Str) = "standing" then _ else (("places" : Str), V.int t) :: putF "standing" (.int 0) []) = _
  rw [if_neg n_ps]
  rfl
theorem putF_new (f : Str) (v : V) : ∀ fs : List (Str × V), (∀ p ∈ fs, ¬ p.1 = f) → putF f v fs = fs ++ [(f, v)]
  | [], _ => rfl
  | (g, u) :: r, h => by
    show (if g = f then _ else (g, u) :: putF f v r) = _
    rw [if_neg (h (g, u) List.mem_cons_self), putF_new f v r fun p hp => h p (List.mem_cons_of_mem _ hp)]
    rfl
structure WC (K : PySem.W.Frag) (C : Addr) : Prop where
  cl : Cls K C
  nP : NoAttr K C "places"
  nS : NoAttr K C "standing"
end L2
set_option Elab.async false
set_option linter.all false
set_option maxRecDepth 100000
namespace L2
open PySem PySem.Spec PyProof.Rows
/-! ### an exception on its way: B holds all that was there ahead of it, but the frames -/
def Fly (l : List Env) (H : Hp) (g : Heap) (a : Addr) (C : Value) (h : Heap) : Prop :=
  ∃ B t, Heap.FlyingW B l a C (.ref t) h ∧ ∀ b, ((∃ u, H b = some u) ∨ ∃ o, g.get? b = some o) → b ∉ frs l → ∃ o, B.get? b = some o
/-- behind a call that was refused -/
def CX1 (P : Program) (w : World) : CXT := fun outer H s E e s' =>
  ∃ a C H', e = .ref a ∧ s'.os = s.os ∧ AllBare s'.gens ∧ Un (frs outer) [] H H' s.heap s'.heap ∧ HOk P w H' s'.heap ∧ Fly outer H' s.heap a C s'.heap ∧ H' a = none ∧ E C none H'
section
variable {P : Program} {w : World} {l : List Env} {fs : List Addr} {H H' : Hp} {g h h1 h2 B : Heap}
/-- the way is noted: what is tracked stays -/
theorem HOk.fly (x : HOk P w H h1) (hB : ∀ b u, H b = some u → ∃ o, B.get? b = some o) (k1 : B.StaysIn h1) (k2 : B.StaysIn h2) : HOk P w H h2 := fun a o e => by
  refine (x a o e).stay (fun b u hb q => ?_) (fun _ q => q) fun _ _ q => q
  have hb' : ∃ u, H b = some u := by
    rcases hb with rfl | z
    · exact ⟨o, e⟩
    · exact ⟨_, z⟩
  obtain ⟨v, hv⟩ := hb'
  obtain ⟨ob, z⟩ := hB b v hv
  have z1 := k1 _ _ z
  rw [q] at z1
  cases z1
  exact k2 _ _ z
theorem Un.fly (u : Un fs [] H H' g h1) (hB : ∀ b o, g.get? b = some o → b ∉ fs → ∃ o', B.get? b = some o') (k1 : B.StaysIn h1) (k2 : B.StaysIn h2) (up : h1.UpToSlots h2)
    (hf : ∀ b ∈ fs, ∀ o, h1.get? b = some o → ∀ vs, o.data ≠ .fields vs) : Un fs [] H H' g h2 := by
  have back : ∀ b o o1, g.get? b = some o → b ∉ fs → h1.get? b = some o1 → h2.get? b = some o1 := fun b o o1 e n e1 => by
    obtain ⟨ob, z⟩ := hB b o e n
    have z1 := k1 _ _ z
    rw [e1] at z1
    cases z1
    exact k2 _ _ z
  refine ⟨fun b o e n hb hx => back b o o e hb (u.keep b o e n hb hx), fun b o e n hb hx => ?_, u.free, fun b o e hx => ?_, u.tups, u.frzs, u.tbls⟩
  · obtain ⟨sl, e1⟩ := u.slot b o e n hb hx
    obtain ⟨sl2, e2⟩ := up b _ e1 (hf b hb _ e1)
    exact ⟨sl2, e2⟩
  · obtain ⟨o1, e1⟩ := u.there b o e hx
    by_cases hb : b ∈ fs
    · obtain ⟨sl2, e2⟩ := up b _ e1 (hf b hb _ e1)
      exact ⟨_, e2⟩
    · exact ⟨o1, back b o o1 e hb e1⟩
end
theorem frs_cons {env : Env} {L : Addr} {l : List Env} (hf : env.frame = some L) : frs (env :: l) = L :: frs l := by
  unfold frs
  rw [List.filterMap_cons, hf]
theorem fly_frames {B h : Heap} {l : List Env} {a : Addr} {C a0 : Value} (x : Heap.FlyingW B l a C a0 h) : ∀ b ∈ frs l, ∀ o, h.get? b = some o → ∀ vs, o.data ≠ .fields vs := fun b hb o e => by
  obtain ⟨_, o', e', hd⟩ := x.2.2.1.mem hb
  rw [e] at e'
  cases e'
  exact hd
section
variable {P : Program} {w : World} {K : PySem.W.Frag} {mg : Str → Option Value} {base : Heap} {N : List Str} {qual : Str} {scope : Scope} {f : Addr} {cd : Value} {A : Around} {outer : List Env} {s : Shared} {H : Hp} {E : XK}
/-- a refusal of a callee goes on to the caller -/
theorem passes1 : Passes (CX1 P w) (cxOf (CX1 P w) P w K mg base N qual scope f cd A outer s H E) E := by
  rintro pins σ H1 s1 e s2 I ⟨a, C, H', rfl, os, bare, un, hok, ⟨B, t, fl, hB⟩, hn, hE⟩
  have I1 := I.call' os un hok bare (fun b z => absurd z (by simp))
  have hfr : frs (envOfC qual scope s.heap.objs.size f cd :: outer) = s.heap.objs.size :: frs outer := frs_cons rfl
  have nL : ∀ b o, s.heap.get? b = some o → b ≠ s.heap.objs.size := fun b o e => Nat.ne_of_lt (Heap.lt_size e)
  have hB' : ∀ b, ((∃ u, H' b = some u) ∨ ∃ o, s.heap.get? b = some o) → b ∉ frs outer → ∃ o, B.get? b = some o := fun b hb nb => by
    refine hB b ?_ ?_
    · rcases hb with z | ⟨o, z⟩
      · exact .inl z
      · obtain ⟨o', z'⟩ := I.base.there b o z (by show b ∉ ([] : List Addr); simp)
        exact .inr ⟨o', z'⟩
    · show b ∉ frs (envOfC qual scope s.heap.objs.size f cd :: outer)
      rw [hfr]
      intro q
      rcases List.mem_cons.mp q with q | q
      · rcases hb with ⟨u, z⟩ | ⟨o, z⟩
        · have hz : H' s.heap.objs.size = none := I1.free
          rw [q, hz] at z; cases z
        · exact nL b o z q
      · exact nb q
  have hN : ∀ b ∈ frs outer, H' b = none := fun b hb => I1.stkFree b (by show b ∈ frs (envOfC qual scope s.heap.objs.size f cd :: outer); rw [hfr]; exact List.mem_cons_of_mem _ hb)
  have hsub : ∀ b ∈ frs outer, ∀ o, s2.heap.get? b = some o → ∀ vs, o.data ≠ .fields vs := fun b hb => fly_frames fl b (by show b ∈ frs (envOfC qual scope s.heap.objs.size f cd :: outer); rw [hfr]; exact List.mem_cons_of_mem _ hb)
  show wpAny (model P w) (A.deeper (envOfC qual scope s.heap.objs.size f cd)) (leaving (envOfC qual scope s.heap.objs.size f cd) (.ref a)) _ _ s2
  refine wpAny_leaves_onW I.ok.frames rfl fl fun h' fl' up => ?_
  refine ⟨a, C, H', rfl, I1.os, I1.bare, Un.fly I1.base (fun b o e nb => hB' b (.inr ⟨o, e⟩) nb) fl.1 fl'.1 up hsub, HOk.fly I1.hok (fun b u e => ?_) fl.1 fl'.1, ⟨B, t, fl', hB'⟩, hn, hE⟩
  refine hB' b (.inl ⟨u, e⟩) fun z => ?_
  rw [hN b z] at e
  cases e
/-- an exception is made here and leaves -/
theorem leaves1 {pins : List (Addr × Obj)} {σ : St} {H2 : Hp} {s2 : Shared} {h' : Heap} {a : Addr} {C : Value} {vs : List Value} (I : Inv (cxOf (CX1 P w) P w K mg base N qual scope f cd A outer s H E) pins σ H2 s2) (hx : Heap.MadeExcOf s2.heap h' a C vs) (hE : E C none H2) :
    (cxOf (CX1 P w) P w K mg base N qual scope f cd A outer s H E).xe (.ref a) { s2 with heap := h' } := by
  have hfr : frs (envOfC qual scope s.heap.objs.size f cd :: outer) = s.heap.objs.size :: frs outer := frs_cons rfl
  have nL : ∀ b o, s.heap.get? b = some o → b ≠ s.heap.objs.size := fun b o e => Nat.ne_of_lt (Heap.lt_size e)
  have hin : ∀ env ∈ (envOfC qual scope s.heap.objs.size f cd :: outer), ∀ b, env.frame = some b → b ∈ frs (envOfC qual scope s.heap.objs.size f cd :: outer) := fun env he b hb => List.mem_filterMap.mpr ⟨env, he, hb⟩
  have hst : s2.heap.FunFrames base (envOfC qual scope s.heap.objs.size f cd :: outer) := I.stack
  show wpAny (model P w) (A.deeper (envOfC qual scope s.heap.objs.size f cd)) (leaving (envOfC qual scope s.heap.objs.size f cd) (.ref a)) _ _ _
  have hfree : H2 a = none := by
    cases q : H2 a with
    | none => rfl
    | some u =>
      have := (I.hok a u q)
      have hn := hx.new
      have lt := this.lt
      exfalso
      have ex : ∃ o, s2.heap.get? a = some o := by
        cases u with
        | lst xs => obtain ⟨_, _, _, _, e⟩ := this; exact ⟨_, e⟩
        | tup xs => obtain ⟨_, _, _, o, e, _⟩ := this; exact ⟨_, e⟩
        | dK kvs => obtain ⟨_, _, _, _, o, _, _, e, _⟩ := this; exact ⟨_, e⟩
        | dT kvs => obtain ⟨_, _, _, _, o, _, _, e, _⟩ := this; exact ⟨_, e⟩
        | set S n => obtain ⟨o, _, _, _, e, _⟩ := this; exact ⟨_, e⟩
        | ins C dx fs => obtain ⟨_, _, _, e, _⟩ := this; exact ⟨_, e⟩
        | own y => exact this
        | xd fs => obtain ⟨_, ⟨_, _, _, e, _⟩, _⟩ := this; exact ⟨_, e⟩
        | rng lo hi => obtain ⟨_, _, _, e⟩ := this; exact ⟨_, e⟩
        | frz ob u => exact ⟨_, this.1⟩
        | tbl ps => exact ⟨_, this⟩
        | met f y => exact ⟨_, this⟩
        | ext φ => exact this.2.1
      obtain ⟨o, e⟩ := ex
      rw [hn] at e
      cases e
  have hB : ∀ b o, s2.heap.get? b = some o → b ∉ frs (envOfC qual scope s.heap.objs.size f cd :: outer) → (PySem.W.hideAll s2.heap (frs (envOfC qual scope s.heap.objs.size f cd :: outer))).get? b = some o := fun b o e nb => PySem.W.hideAll_get _ e nb
  have tr : ∀ b u, H2 b = some u → ∃ o, s2.heap.get? b = some o := fun b u q => by
    have := (I.hok b u q)
    cases u with
    | lst xs => obtain ⟨_, _, _, _, e⟩ := this; exact ⟨_, e⟩
    | tup xs => obtain ⟨_, _, _, o, e, _⟩ := this; exact ⟨_, e⟩
    | dK kvs => obtain ⟨_, _, _, _, o, _, _, e, _⟩ := this; exact ⟨_, e⟩
    | dT kvs => obtain ⟨_, _, _, _, o, _, _, e, _⟩ := this; exact ⟨_, e⟩
    | set S n => obtain ⟨o, _, _, _, e, _⟩ := this; exact ⟨_, e⟩
    | ins C dx fs => obtain ⟨_, _, _, e, _⟩ := this; exact ⟨_, e⟩
    | own y => exact this
    | xd fs => obtain ⟨_, ⟨_, _, _, e, _⟩, _⟩ := this; exact ⟨_, e⟩
    | rng lo hi => obtain ⟨_, _, _, e⟩ := this; exact ⟨_, e⟩
    | frz ob u => exact ⟨_, this.1⟩
    | tbl ps => exact ⟨_, this⟩
    | met f y => exact ⟨_, this⟩
    | ext φ => exact this.2.1
  refine wpAny_leaves_madeW (h := s2.heap) I.ok.frames rfl (fun b o q => PySem.W.of_hideAll _ q) (PySem.W.funFrames_hide hst hin) hx fun h'' t fl tp ht up => ?_
  have hB' : ∀ b, ((∃ u, H2 b = some u) ∨ ∃ o, s.heap.get? b = some o) → b ∉ frs outer → ∃ o, (PySem.W.hideAll s2.heap (frs (envOfC qual scope s.heap.objs.size f cd :: outer))).get? b = some o := fun b hb nb => by
    have ex : ∃ o, s2.heap.get? b = some o := by
      rcases hb with ⟨u, z⟩ | ⟨o, z⟩
      · exact tr b u z
      · exact I.base.there b o z (by show b ∉ ([] : List Addr); simp)
    obtain ⟨o, e⟩ := ex
    refine ⟨o, hB b o e ?_⟩
    rw [hfr]
    intro q
    rcases List.mem_cons.mp q with q | q
    · rcases hb with ⟨u, z⟩ | ⟨o, z⟩
      · have hz : H2 s.heap.objs.size = none := I.free
        rw [q, hz] at z; cases z
      · exact nL b o z q
    · exact nb q
  have hN : ∀ b ∈ frs outer, H2 b = none := fun b hb => I.stkFree b (by show b ∈ frs (envOfC qual scope s.heap.objs.size f cd :: outer); rw [hfr]; exact List.mem_cons_of_mem _ hb)
  have k1 : (PySem.W.hideAll s2.heap (frs (envOfC qual scope s.heap.objs.size f cd :: outer))).StaysIn h' := fun b o q => hx.keeps b o (PySem.W.of_hideAll _ q)
  have u1 : Un (frs outer) [] H H2 s.heap h' := (I.base : Un (frs outer) [] H H2 s.heap s2.heap).trans (Un.kept hx.keeps)
  have hsub : ∀ b ∈ frs outer, ∀ o, h'.get? b = some o → ∀ vs, o.data ≠ .fields vs := fun b hb o e => by
    obtain ⟨_, o', e', hd⟩ := hst.mem (show b ∈ frs (envOfC qual scope s.heap.objs.size f cd :: outer) by rw [hfr]; exact List.mem_cons_of_mem _ hb)
    have e2 := hx.keeps b o' e'
    rw [e] at e2
    cases e2
    exact hd
  refine ⟨a, C, H2, rfl, I.os, I.bare, Un.fly u1 (fun b o e nb => hB' b (.inr ⟨o, e⟩) nb) k1 fl.1 up hsub, HOk.fly (I.hok.kept hx.keeps) (fun b u e => ?_) k1 fl.1, ⟨_, t, fl, hB'⟩, hfree, hE⟩
  refine hB' b (.inl ⟨u, e⟩) fun z => ?_
  rw [hN b z] at e
  cases e
end
/-! ### an own class of exceptions, under ValueError -/
abbrev vmro : List Value := [.type "ValueError", .type "Exception", .type "BaseException", .type "object"]
structure XC (K : PySem.W.Frag) (mg : Str → Option Value) (x : Str) (C : Addr) : Prop where
  mg : mg x = some (.ref C)
  ok : PySem.W.excIn K C vmro "ValueError.__new__" = true
theorem exc_at {K : PySem.W.Frag} {h : Heap} {C : Addr} {tl : List Value} {id : String} (KI : K.In h) (ok : PySem.W.excIn K C tl id = true) :
    ∃ mr ad cn qn bb hd sl su ab co di a0 a1 a2 a3 a5 mp, h.get? C = some (excClassObj cn qn C ad bb mr hd sl su ab co di a0 a1 a2 a3 a5 id) ∧ h.Ns ad mp ∧ mp "__init__" = none ∧ OwnTail h tl mr := by
  unfold PySem.W.excIn at ok
  split at ok
  case h_2 => cases ok
  case h_1 di cd sl look =>
    split at ok
    case h_2 => cases ok
    case h_1 C1 mr a0 a1 a2 a3 nid a5 hmro hsl =>
      rw [Bool.and_eq_true, Bool.and_eq_true, Bool.and_eq_true, Bool.and_eq_true, Bool.and_eq_true] at ok
      obtain ⟨⟨⟨⟨⟨hC1, hnid⟩, hdel⟩, htl⟩, hns⟩, hini⟩ := ok
      have eC : C1 = C := beq_iff_eq.mp hC1
      have eN : nid = id := beq_iff_eq.mp hnid
      have eI := beq_iff_eq.mp hini
      subst eC eN
      obtain ⟨cn, bb, mro, ad, qn, hd, sn, su, ab, co, del⟩ := cd
      dsimp only at hmro hdel hns eI
      subst hmro
      have eD : del = false := by simpa using hdel
      subst eD
      have eS : sl = #[a0, a1, a2, a3, some (.builtin nid), a5] := by
        obtain ⟨ll⟩ := sl
        have hsl' : ll = _ := hsl
        rw [hsl']
      subst eS
      exact ⟨mr, ad, cn, qn, bb, hd, sn, su, ab, co, di, a0, a1, a2, a3, a5, h.nsMap ad, KI _ _ look, .of_isNs (PySem.W.isNs_of_in KI hns), PySem.W.nsMap_none_of_in KI hns eI, PySem.W.tail_of_in KI htl⟩
/-- what is made here and raised lies as E says -/
def Raises (X : Cx) (E : XK) : Prop := ∀ (pins : List (Addr × Obj)) (σ : St) (H : Hp) (s : Shared) (h' : Heap) (a : Addr) (C : Value) (vs : List Value), Inv X pins σ H s → Heap.MadeExcOf s.heap h' a C vs → E C none H → X.xe (.ref a) { s with heap := h' }
theorem raises1 {P : Program} {w : World} {K : PySem.W.Frag} {mg : Str → Option Value} {base : Heap} {N : List Str} {qual : Str} {scope : Scope} {f : Addr} {cd : Value} {A : Around} {outer : List Env} {s : Shared} {H : Hp} {E : XK} :
    Raises (cxOf (CX1 P w) P w K mg base N qual scope f cd A outer s H E) E := fun _ _ _ _ _ _ _ _ I hx hE => leaves1 I hx hE
def tRaise (C : Addr) (E : XK) (t : TA) : TS := fun _ σ H => t σ H fun vs H1 => vs.length ≤ 1000 ∧ E (.ref C) none H1
theorem ps_raise {X : Cx} {E : XK} {x : Str} {C : Addr} {e : Expr} {t : TA} {np cpos pos : Pos} (hR : Raises X E) (hx : XC X.K X.mg x C) (ha : PA X [e] t) (hc : X.calm = true := by rfl) (hg : Gl X x := by rfl) (hd : (x == ("__debug__" : Str)) = false := by decide)
    (he : starEach [e] X.env = (false, eval e X.env) :: starEach [] X.env := by rfl) : PS X (.Raise (some (.Call (.Name x np) [e] [] cpos)) none pos) (tRaise C E t) := by
  intro pins s σ H D I h
  obtain ⟨mr, ad, cn, qn, bb, hdd, sl, su, ab, co, di, a0, a1, a2, a3, a5, mp, hC, hN, hni, T⟩ := exc_at I.mod.kin hx.ok
  refine wpAny_Raise_call_subT (C := C) (nm := cn) (q := qn) (N := ad) (bs := bb) (bm := mr) (hdct := hdd) (sn := sl) (sub := su) (ab := ab) (col := co) (dd := di) (k0 := a0) (k1 := a1) (k2 := a2) (k3 := a3) (k5 := a5)
    PySem.F.excBase_ValueError (mN := mp) (T.hasType PySem.F.excBase_ValueError.hasBase) (I.ok.hd hc) (by rw [he]; rfl) hni (ld_glob I hg hx.mg ⟨rfl, ?_⟩ hd)
  have q := ha cpos pins s σ H _ I h
  rw [he] at q ⊢
  refine Calls.evalArgs_plain (wpAny_mono q (fun vs s2 ⟨ws, H2, I2, r, hl, hE⟩ => ⟨rfl, ?_, I2.bk _ _ hC, hN.keeps I2.bk, T.keeps I2.bk, fun h' a hm => hR pins σ H2 s2 h' a _ vs I2 hm hE⟩) fun _ _ z => z)
  show vs.length ≤ sizeLine
  rw [← r.length]
  exact Nat.le_of_lt (small1000 hl)
/-! ### a def that may refuse -/
structure Dx (P : Program) (w : World) (K : PySem.W.Frag) (mg : Str → Option Value) (base : Heap) (k : Nat) (x : Str) (ps : List Str) (sp : Sp) : Prop where
  ex : ∃ f : Addr, mg x = some (.ref f) ∧ PySem.W.keepIn K (.ref f) = true ∧ (∀ vs H Q E, sp vs H Q E → vs.length = ps.length) ∧
    ∀ (A : Around) (outer : List Env) (s : Shared) (H : Hp) (us : List Value) (vs : List V) (Q : VK) (E : XK), Room k A → Env0 P w K mg base A outer s H → Vals vs us → sp vs H Q E →
      codeAny (model P w) A (.call (.ref f) ⟨us, []⟩) (CR (CX1 P w) outer P w H s Q E) s
section
variable {P : Program} {w : World} {K : PySem.W.Frag} {mg : Str → Option Value} {base : Heap} {k j : Nat} {x : Str} {ps : List Str} {sp sp2 : Sp}
theorem Env0.kin {A : Around} {outer : List Env} {s : Shared} {H : Hp} (e0 : Env0 P w K mg base A outer s H) : K.In s.heap := e0.mod.kin.keeps fun b o e => (e0.bs b o e).1
theorem dx_of {CX : CXT} {f : Addr} {fd : FuncData} (F : FnOk P w K mg base CX k f fd ps sp) (hm : mg x = some (.ref f)) (hk : PySem.W.keepIn K (.ref f) = true) (hb : Binds K fd ps [])
    (hc : ∀ outer H s E e s', CX outer H s E e s' → CX1 P w outer H s E e s') : Dx P w K mg base k x ps sp := by
  refine ⟨f, hm, hk, F.len, fun A outer s H us vs Q E hr e0 r h => ?_⟩
  have hl : (us ++ []).length = ps.length := by rw [List.append_nil, ← r.length]; exact F.len _ _ _ _ h
  have b := hb s us e0.kin hl
  rw [List.append_nil] at b
  refine codeAny_mono (F.run A outer s H ⟨us, []⟩ us vs Q E hr e0 b r h) fun res s' q => ?_
  cases res with
  | error e => exact hc _ _ _ _ _ _ q
  | ok fl =>
    cases fl with
    | ret u => exact q
    | next => exact q
    | brk => exact q
    | cont => exact q
theorem Df.dx (D : Df P w K mg base k x ps sp) : Dx P w K mg base k x ps sp := by
  obtain ⟨f, fd, a, b, c, d⟩ := D.ex
  exact dx_of a b c d fun _ _ _ _ _ _ z => z.elim
theorem Dx.mono (D : Dx P w K mg base j x ps sp) (h : j ≤ k) : Dx P w K mg base k x ps sp := by
  obtain ⟨f, a, b, c, d⟩ := D.ex
  exact ⟨f, a, b, c, fun A outer s H us vs Q E hr => d A outer s H us vs Q E (hr.mono h)⟩
theorem Fn0.dx {st : Stmt} {N : List Str} (F : Fn0 K mg x st) (S : FnScope N ps (defScope st))
    (hb : ∀ (kV doc pm : Value) (an : Option Addr) (cdv ct : Value) (us : List Value), us.length = ps.length → bindArgs (PySem.W.fnOf x x (defArgs st) (defBody st) (defScope st) .none kV doc pm an cdv ct) ⟨us, []⟩ = pure (ps.zip us))
    (len : ∀ vs H Q E, sp vs H Q E → vs.length = ps.length)
    (hbody : ∀ (f : Addr) (cdv : Value) (A : Around) (outer : List Env) (s : Shared) (H : Hp) (vs : List V) (Q : VK) (E : XK), Room k (A.deeper (envOfC x (defScope st) s.heap.objs.size f cdv)) → sp vs H Q E →
      ∃ t, PSs (cxOf (CX1 P w) P w K mg base N x (defScope st) f cdv A outer s H E) (defBody st) t ∧ t { nx := fun _ H' => Q .non H', rt := Q } (start N vs) H) : Dx P w K mg base (k + 1) x ps sp := by
  obtain ⟨f, fd, hF, hm⟩ := F.ex
  have hbn := hF.binds hb
  obtain ⟨oc, od, kV, doc, pm, an, cdv, ct, osl, rfl, lk, hcd⟩ := hF.ex
  refine dx_of (CX := CX1 P w) (fn_of lk hcd S len fun A outer s H vs Q E hr hsp => ?_) hm hF.kp hbn fun _ _ _ _ _ _ z => z
  exact hbody f cdv A outer s H vs Q E hr hsp
end
section
variable {X : Cx} {k j : Nat} {ps : List Str} {sp : Sp} {x : Str} {p pos : Pos} {e : Expr} {es : List Expr} {t : TA} {E : XK}
theorem run1 {pins : List (Addr × Obj)} {σ : St} {H : Hp} {s : Shared} {Q : VK} {us : List Value} {f : Addr} (hx : Passes (CX1 X.prog X.w) X E)
    (hc : codeAny (model X.prog X.w) X.A (.call (.ref f) ⟨us, []⟩) (CR (CX1 X.prog X.w) X.stack X.prog X.w H s Q E) s) (I : Inv X pins σ H s) : wpAny (model X.prog X.w) X.A (call (.ref f) us) (EP X pins σ Q) X.xe s := by
  refine wpAny_call (codeAny_mono hc fun r s' hq => ?_)
  cases r with
  | error e => exact hx pins σ H s e s' I hq
  | ok fl =>
    cases fl with
    | ret u => exact I.after hq
    | next => exact False.elim hq
    | brk => exact False.elim hq
    | cont => exact False.elim hq
/-- f(e, ..) of a def that may refuse -/
theorem pe_dx (D : Dx X.prog X.w X.K X.mg X.base k x ps sp) (hr : Room j X.A) (hx : Passes (CX1 X.prog X.w) X E) (ha : PA X (e :: es) t) (hj : k ≤ j := by decide) (hg : Gl X x := by rfl) (hdb : (x == ("__debug__" : Str)) = false := by decide)
    (he : starEach (e :: es) X.env = (false, eval e X.env) :: starEach es X.env := by rfl) (hpl : (backTo pos (starEach es X.env)).any (·.1) = false := by rfl) :
    PE X (.Call (.Name x p) (e :: es) [] pos) (tCall sp [] E t) := by
  obtain ⟨f, a, b, c, d⟩ := D.ex
  intro pins s σ H Q I h
  refine wpAny_Call_Name_kw (ld_glob I hg a ?_ hdb)
  refine PySem.W.callWith_K (h₀ := X.base) I.ok.mod.kin b (thn (ha pos pins s σ H _ I h) fun us s1 ⟨vs, H1, I1, r, q⟩ => ⟨I1.kIn, ?_⟩) he hpl
  have q' : sp (vs ++ []) H1 Q E := q
  rw [List.append_nil] at q'
  exact run1 hx (d X.A X.stack s1 H1 us vs Q E (hr.mono hj) I1.env0 r q') I1
end
/-! ### try: the body in another context, the suite in a third -/
abbrev Cx.alt (X : Cx) (A : Around) (c : Bool) (pn : List (Addr × Obj)) (xe : Value → Shared → Prop) : Cx := { X with A := A, calm := c, pn := pn, xe := xe }
theorem Inv.alt {X : Cx} {pins pins' pn : List (Addr × Obj)} {σ : St} {H : Hp} {s : Shared} {A : Around} {c : Bool} {xe : Value → Shared → Prop} (I : Inv X pins σ H s) (hf : A.frames = X.A.frames) (hc : c = true → A.handled = none)
    (hp : ∀ p ∈ pn ++ pins', p ∈ X.pn ++ pins) : Inv (X.alt A c pn xe) pins' σ H s :=
  ⟨⟨I.ok.mod, I.ok.kind, I.ok.glob, I.ok.blt, I.ok.above, I.ok.inj, I.ok.has, I.ok.cab, hc, hf.trans I.ok.frames, I.ok.stk, I.ok.exf, I.ok.bs, I.ok.bsz, I.ok.noex, I.ok.exfs, I.ok.funs, I.ok.frf⟩, I.os, I.bare, I.base, I.loc, I.cell, I.free, I.freeC, fun p z => I.pin p (hp p z), I.hok, I.len⟩
theorem Inv.unalt {X : Cx} {pins pins' pn : List (Addr × Obj)} {σ : St} {H : Hp} {s : Shared} {A : Around} {c : Bool} {xe : Value → Shared → Prop} (I : Inv (X.alt A c pn xe) pins' σ H s) (hf : A.frames = X.A.frames) (hc : X.calm = true → X.A.handled = none)
    (hp : ∀ p ∈ X.pn ++ pins, p ∈ pn ++ pins') : Inv X pins σ H s :=
  ⟨⟨I.ok.mod, I.ok.kind, I.ok.glob, I.ok.blt, I.ok.above, I.ok.inj, I.ok.has, I.ok.cab, hc, hf.symm.trans I.ok.frames, I.ok.stk, I.ok.exf, I.ok.bs, I.ok.bsz, I.ok.noex, I.ok.exfs, I.ok.funs, I.ok.frf⟩, I.os, I.bare, I.base, I.loc, I.cell, I.free, I.freeC, fun p z => I.pin p (hp p z), I.hok, I.len⟩
/-- the exception's own object, as it is known in a suite -/
def exP (a : Addr) (C : Value) (h : Heap) : Prop := ∃ o, h.get? a = some o ∧ o.cls = C
abbrev exO (a : Addr) (C : Value) : HO := .ext (exP a C)
theorem exO_ok {P : Program} {w : World} {H : Hp} {h : Heap} {a : Addr} {C : Value} {o : Obj} (e : h.get? a = some o) (hc : o.cls = C) : ObjOk P w H h a (exO a C) :=
  ⟨⟨o, e, hc⟩, ⟨o, e⟩, fun h1 h2 ⟨u, e1, c1⟩ k => ⟨u, k u e1, c1⟩⟩
theorem HOk.track {P : Program} {w : World} {H : Hp} {h : Heap} {a : Addr} {o : HO} (x : HOk P w H h) (hn : H a = none) (new : ObjOk P w (upd H a o) h a o) : HOk P w (upd H a o) h := fun b u e => by
  by_cases hb : b = a
  · subst hb; rw [upd_same] at e; cases e; exact new
  · rw [upd_ne hb] at e
    exact (x b u e).stay (fun c v _ q => q) (fun c q => by rw [upd_ne (ne_of_none q hn)]; exact q) fun c xs q => by rw [upd_ne (ne_of_none q hn)]; exact q
theorem Un.track {fs : List Addr} {H H' : Hp} {g h : Heap} {a : Addr} {o : HO} (u : Un fs [] H H' g h) (hn : H' a = none) (hg : g.get? a = none) : Un fs [] H (upd H' a o) g h :=
  ⟨u.keep, u.slot, fun b ob e n hx => by rw [upd_ne (fun z => by rw [z, hg] at e; cases e)]; exact u.free b ob e n hx, u.there, fun b xs e => by rw [upd_ne (ne_of_none (u.tups b xs e) hn)]; exact u.tups b xs e,
    fun b ob v e => by rw [upd_ne (ne_of_none (u.frzs b ob v e) hn)]; exact u.frzs b ob v e, fun b ps e => by obtain ⟨m, q⟩ := u.tbls b ps e; exact ⟨m, by rw [upd_ne (ne_of_none q hn)]; exact q⟩⟩
section
variable {X : Cx} {pins : List (Addr × Obj)} {σ : St} {H H' : Hp} {s s' : Shared} {a : Addr} {C : Value} {B h2 : Heap} {t : Addr}
/-- behind a refused call, its way noted up to h2 -/
theorem Inv.flown (I : Inv X pins σ H s) (os : s'.os = s.os) (bare : AllBare s'.gens) (un : Un (frs X.stack) [] H H' s.heap s'.heap) (hok : HOk X.prog X.w H' s'.heap) (fl : Heap.FlyingW B X.stack a C (.ref t) s'.heap)
    (hB : ∀ b, ((∃ u, H' b = some u) ∨ ∃ o, s.heap.get? b = some o) → b ∉ frs X.stack → ∃ o, B.get? b = some o) (hn : H' a = none) (fl2 : Heap.FlyingW B X.stack a C (.ref t) h2) (up : s'.heap.UpToSlots h2) :
    Inv X pins σ H' { s' with heap := h2 } ∧ Inv X pins σ (upd H' a (exO a C)) { s' with heap := h2 } := by
  have I1 := I.call' os un hok bare (fun b z => absurd z (by simp))
  have u2 : Un (frs X.stack) [] H H' s.heap h2 := un.fly (fun b o e nb => hB b (.inr ⟨o, e⟩) nb) fl.1 fl2.1 up (fly_frames fl)
  have ok2 : HOk X.prog X.w H' h2 := hok.fly (fun b u e => hB b (.inl ⟨u, e⟩) fun z => by rw [I1.stkFree b z] at e; cases e) fl.1 fl2.1
  have hg : s.heap.get? a = none := by
    cases q : s.heap.get? a with
    | none => rfl
    | some o =>
      exfalso
      by_cases hb : a ∈ frs X.stack
      · obtain ⟨oe, vs, e, _, hd, _⟩ := fl.first
        exact fly_frames fl a hb oe e vs hd
      · obtain ⟨o', e⟩ := hB a (.inr ⟨o, q⟩) hb
        rw [fl.2.1] at e
        cases e
  obtain ⟨oe, vs, e, hc, _⟩ := fl2.first
  exact ⟨I.call' (s' := { s' with heap := h2 }) os u2 ok2 bare (fun b z => absurd z (by simp)), I.call' (s' := { s' with heap := h2 }) os (u2.track hn hg) (ok2.track hn (exO_ok e hc)) bare (fun b z => absurd z (by simp))⟩
/-- behind the suite its name goes -/
theorem name_gone {M : Model} {A : Around} {E : Value → Shared → Prop} {i : Nat} {n : Str} {p : Pos} {Q : Unit → Shared → Prop} (I : Inv X pins σ H s) (hN : X.N.Nodup) (hi : X.N[i]? = some n) (hk : X.env.kindOf n = some .local)
    (h : ∀ s', Inv X pins (σ.set i none) H s' → Q () s') : wpAny M A (do bindName X.env n .none; unbindBehindTheSuite X.env n p) Q E s := by
  obtain ⟨m, hn, hl⟩ := id I.loc
  have hcls : (X.env.scope.kind == .class || (X.env.scope.kind == .module && X.env.locals != X.env.globals)) = false := by rw [I.ok.kind]; rfl
  refine wpAny_nameGoes_keeps hk hn hcls fun h' v hn' hs => ?_
  obtain ⟨oL, _, _, hoL, _⟩ := id hn
  have low : ∀ b o, X.s₀.heap.get? b = some o → b ≠ X.env.locals := fun b o e => Nat.ne_of_lt (Nat.lt_of_lt_of_le (Heap.lt_size e) I.ok.above)
  refine h _ ⟨I.ok, I.os, I.bare, ⟨fun b o e nn hb hx => ?_, fun b o e nn hb hx => ?_, I.base.free, fun b o e hx => ?_, I.base.tups, I.base.frzs, I.base.tbls⟩, ⟨_, hn', fun j y v' e1 e2 e3 => ?_⟩, fun y c e => ?_, I.free, I.freeC, fun q hq => ?_, fun b ob e => ?_, by simpa using I.len⟩
  · exact (hs.2 b (low b o e)).trans (I.base.keep b o e nn hb hx)
  · obtain ⟨sl, e1⟩ := I.base.slot b o e nn hb hx
    exact ⟨sl, (hs.2 b (low b o e)).trans e1⟩
  · obtain ⟨o', e1⟩ := I.base.there b o e hx
    exact ⟨o', (hs.2 b (low b o e)).trans e1⟩
  · by_cases hj : j = i
    · subst hj
      rw [List.getElem?_set] at e2
      rw [if_pos rfl] at e2
      split at e2 <;> cases e2
    · rw [List.getElem?_set_ne (Ne.symm hj)] at e2
      obtain ⟨u', r', q⟩ := hl j y v' e1 e2 e3
      refine ⟨u', r', ?_⟩
      rcases q with ⟨k, e⟩ | ⟨k, c, e, z⟩
      · refine .inl ⟨k, ?_⟩
        have ne : y ≠ n := fun e => hj (nodup_ix hN e1 (e ▸ hi))
        simp [ne, e]
      · exact .inr ⟨k, c, e, z.sameBut hs (I.cne y c e)⟩
  · obtain ⟨w', z⟩ := I.cell y c e
    exact ⟨w', z.sameBut hs (I.cne y c e)⟩
  · obtain ⟨e, nn, ne, nf, d⟩ := I.pin q hq
    exact ⟨(hs.2 q.1 ne).trans e, nn, ne, nf, d⟩
  · refine (I.hok b ob e).stay (fun c w' hc q => (hs.2 c ?_).trans q) (fun _ q => q) fun _ _ q => q
    rintro rfl
    have hz := I.free
    rcases hc with rfl | hc
    · rw [hz] at e; cases e
    · rw [hz] at hc; cases hc
end
/-- try: body, except X as n: suite -/
def tTry (K : PySem.W.Frag) (CS : Addr) (i len : Nat) (E : XK) (tb ts : TS) : TS := fun D σ H => tb D σ H ∧ ∀ (C : Value) (a : Addr) (H' : Hp) (σ' : St), E C none H' → H' a = none → σ'.length = len →
  PySem.W.exmOne K C (.ref CS) = some true ∧ ts { nx := fun σ2 H2 => D.nx (σ2.set i none) H2, rt := D.rt, bk := fun σ2 H2 => D.bk (σ2.set i none) H2, ct := fun σ2 H2 => D.ct (σ2.set i none) H2 } (σ'.set i (some (.ref a))) (upd H' a (exO a C))
theorem ps_try {X : Cx} {x n : Str} {CS : Addr} {i : Nat} {body suite : List Stmt} {b0 : Stmt} {np hpos pos : Pos} {tb ts : TS} (E : XK) (hm : X.mg x = some (.ref CS)) (hN : X.N.Nodup) (hi : X.N[i]? = some n) (hl : X.env.scope.names.lookup n = some .local)
    (hb : ∀ pn E1, Passes (CX1 X.prog X.w) (X.alt X.A X.calm pn E1) E → PSs (X.alt X.A X.calm pn E1) body tb)
    (hs : ∀ pn a, PSs (X.alt (X.A.mark (some (.ref a))) false pn fun _ _ => False) (b0 :: suite) ts)
    (hst : X.stack = X.env :: X.outer := by rfl) (hfm : X.env.frame = some X.env.locals := by rfl) (hg : Gl X x := by rfl) (hd : (x == ("__debug__" : Str)) = false := by decide) :
    PS X (.Try body [.ExceptHandler (some (.Name x np)) (some n) (b0 :: suite) hpos] [] [] pos) (tTry X.K CS i X.N.length E tb ts) := by
  rintro pins s σ H D I ⟨hbd, hh⟩
  let pn : List (Addr × Obj) := X.pn ++ pins
  let E1 : Value → Shared → Prop := fun e s' => ∃ pins1 σ1 H1 s1, Inv (X.alt X.A X.calm pn fun _ _ => False) pins1 σ1 H1 s1 ∧ CX1 X.prog X.w X.stack H1 s1 E e s'
  have pass : Passes (CX1 X.prog X.w) (X.alt X.A X.calm pn E1) E := fun pins1 σ1 H1 s1 e s2 J hx => ⟨pins1, σ1, H1, s1, (J.unwish (X := X.alt X.A X.calm pn fun _ _ => False) (E := E1)), hx⟩
  have I1 : Inv (X.alt X.A X.calm pn E1) [] σ H s := I.alt rfl I.ok.hd fun p hp => by rw [List.append_nil] at hp; exact hp
  refine wpAny_Try_except (wpAny_mono (hb pn E1 pass [] s σ H D I1 hbd) (fun f s1 q => ?_) fun e s1 q => ?_)
  · have un : ∀ {σ' H'}, Inv (X.alt X.A X.calm pn E1) [] σ' H' s1 → Inv X pins σ' H' s1 := fun J => J.unalt rfl I.ok.hd fun p hp => List.mem_append_left _ hp
    cases f with
    | next => obtain ⟨σ', H', J, q⟩ := q; exact wpAny_execs_nil ⟨σ', H', un J, q⟩
    | brk => obtain ⟨σ', H', J, q⟩ := q; exact ⟨σ', H', un J, q⟩
    | cont => obtain ⟨σ', H', J, q⟩ := q; exact ⟨σ', H', un J, q⟩
    | ret u => obtain ⟨v, σ', H', J, r, q⟩ := q; exact ⟨v, σ', H', un J, r, q⟩
  · obtain ⟨pins1, σ1, H1, s0, J, a, C, H', rfl, os, bare, un, hok, ⟨B, t, fl, hB⟩, hn, hE⟩ := q
    have hfr : X.A.frames = some (X.env :: X.outer) := by rw [← hst]; exact I.ok.frames
    obtain ⟨hmatch, hsu⟩ := hh C a H' σ1 hE hn J.len
    have fl' := fl
    rw [hst] at fl'
    refine wpAny_looks_onW hfr hfm fl' fun h4 held4 up4 => ?_
    refine wpAny_landsW held4 fun h5 fl5 up5 => ?_
    have fl5' : Heap.FlyingW B X.stack a C (.ref t) h5 := by rw [hst]; exact fl5
    have J5 := (J.flown os bare un hok fl hB hn fl5' (up4.trans up5)).1
    have M5 : Inv (X.alt (X.A.mark (some (.ref a))) false pn fun _ _ => False) [] σ1 H' { s1 with heap := h5 } := J5.unalt (X := X.alt (X.A.mark (some (.ref a))) false pn fun _ _ => False) rfl (fun z => nomatch z) fun p hp => by
      rw [List.append_nil] at hp
      exact List.mem_append_left _ hp
    have LT : PySem.W.Looks (model X.prog X.w) h5 (typeOf (.ref a)) C := by
      obtain ⟨ob, e5, c5⟩ := fl5.there
      subst c5
      exact (PySem.W.Looks.ld e5).andThen .now
    refine wpAny_handleBy_cons (codeAny_handlers_test (ld_glob M5 hg hm ?_ hd)) (by intro q; cases q)
    refine (PySem.W.exm_one (M := model X.prog X.w) (h := h5) M5.kIn LT hmatch).here ?_
    refine codeAny_handlers_suite_as ?_
    refine lands_againW fl5 fun h6 fl6 up6 => ?_
    have fl6' : Heap.FlyingW B X.stack a C (.ref t) h6 := by rw [hst]; exact fl6
    have J6 := (J.flown os bare un hok fl hB hn fl6' ((up4.trans up5).trans up6)).2
    have M6 : Inv (X.alt (X.A.mark (some (.ref a))) false pn fun _ _ => False) [] σ1 (upd H' a (exO a C)) { s1 with heap := h6 } := J6.unalt (X := X.alt (X.A.mark (some (.ref a))) false pn fun _ _ => False) rfl (fun z => nomatch z) fun p hp => by
      rw [List.append_nil] at hp
      exact List.mem_append_left _ hp
    refine store_ok (X := X.alt (X.A.mark (some (.ref a))) false pn fun _ _ => False) M6 hN hi (Or.inl hl) (show RelV (.ref a) (Value.ref a) from rfl) (fun s7 M7 => ?_) (Or.inr hl)
    refine wpAny_mono (hs pn a [] s7 _ _ _ M7 hsu) (fun f s8 q => ?_) fun _ _ z => z.elim
    have un8 : ∀ {σ' H' s9}, Inv (X.alt (X.A.mark (some (.ref a))) false pn fun _ _ => False) [] σ' H' s9 → Inv X pins σ' H' s9 := fun J => J.unalt rfl I.ok.hd fun p hp => by rw [List.append_nil]; exact hp
    cases f with
    | next => obtain ⟨σ', H8, M8, q⟩ := q; exact name_gone (un8 M8) hN hi hl fun s9 J9 => ⟨_, H8, J9, q⟩
    | brk => obtain ⟨σ', H8, M8, q⟩ := q; exact name_gone (un8 M8) hN hi hl fun s9 J9 => ⟨_, H8, J9, q⟩
    | cont => obtain ⟨σ', H8, M8, q⟩ := q; exact name_gone (un8 M8) hN hi hl fun s9 J9 => ⟨_, H8, J9, q⟩
    | ret u => obtain ⟨v, σ', H8, M8, r, q⟩ := q; exact name_gone (un8 M8) hN hi hl fun s9 J9 => ⟨v, _, H8, J9, r, q⟩
end L2
set_option Elab.async false
set_option linter.all false
set_option maxRecDepth 100000
namespace L2
open PySem PySem.Spec PyProof.Rows PySem.Builtin PySem.Builtin.ObjectAttr PySem.Builtin.Getset_descriptor
section
variable {prog : Program} {w : World} {A : Around} {E : Value → Shared → Prop} {h : Heap} {g : Array GenState} {d : Drawn} {t : Nat} {os : OsState} {K : PySem.W.Frag} {x D : Addr} {o : Obj}
/-- what is known of an own class of exceptions when its instance is asked for its class -/
structure XA (K : PySem.W.Frag) (D : Addr) : Prop where
  ga : PySem.W.findIn K (.ref D) "__getattribute__" = some (some (.builtin "BaseException.__getattribute__"))
  gt : PySem.W.findIn K (.ref D) "__getattr__" = some none
  ca : PySem.W.findIn K (.ref D) "__class__" = some (some (.builtin "object.__class__"))
  ob : PySem.W.mroIn K D (.type "object") = some true
  be : PySem.W.mroIn K D (.type "BaseException") = some true
  gs : PySem.W.specialIn K (.builtin "object.__class__") "__get__" = some (some (.builtin "getset_descriptor.__get__"))
  tk : PySem.W.takesIn K (.builtin "object.__class__") = some true
theorem xa_find {M : Model} (KI : K.In h) (a : XA K D) : PySem.W.Looks M h (find (.ref x) (.ref D) "__class__") (.bind (.builtin "getset_descriptor.__get__") (.builtin "object.__class__")) := by
  have l1 := PySem.W.looks_findIn (M := M) KI a.ca
  have l2 : PySem.W.Looks M h (getOf (some (.builtin "object.__class__"))) _ := PySem.W.looks_specialIn KI a.gs
  have l3 := PySem.W.looks_takesIn (M := M) KI a.tk
  exact l1.andThen (l2.andThen ((show PySem.W.Looks M h (dataDescriptor? (some (.builtin "object.__class__")) (some (.builtin "getset_descriptor.__get__"))) (some (.builtin "getset_descriptor.__get__", .builtin "object.__class__")) from l3.andThen .now).andThen (PySem.W.Looks.tag .now)))
theorem xa_get {R : Result → Shared → Prop} (KI : K.In h) (a : XA K D) (hx : h.get? x = some o) (hc : o.cls = .ref D) (hq : R (.ok (.ret (.ref D))) ⟨h, g, d, t, os⟩) :
    codeAny (model prog w) A (.call (.builtin "getset_descriptor.__get__") ⟨[.builtin "object.__class__", .ref x, .ref D], []⟩) R ⟨h, g, d, t, os⟩ := by
  have L0 : PySem.W.Looks (model prog w) h (typeOf (.ref x)) (.ref D) := hc ▸ (PySem.W.Looks.ld hx).andThen .now
  have L1 := PySem.W.looks_mroIn (M := model prog w) KI a.ob
  refine codeAny_call_builtin PySem.W.KF.slot_gs.plain PySem.W.KF.entry_gs (PySem.W.KF.slot_gs.check _ _ _ _ _ _ _ _ PySem.W.KF.type_class (PySem.W.KF.args_gs _ _ _) ?_)
  unfold «getset_descriptor.__get__»; unfold descrGet
  rw [PySem.W.dga_obj]; refine wpAny_bind (wpAny_pure ?_)
  unfold descrGetter; unfold descrCheckInstance; unfold descrNameAndClass isInstance
  simp only [PySem.W.KF.owner_class]; repeat lk
  constructor
  · exact Code.quiet_builtin _ (by decide +kernel)
  · refine codeAny_builtin PySem.W.KF.entry_class ?_
    unfold «object.__class__» shownTypeOf
    repeat lk
    exact hq
theorem xa_entry {tk : Tok} {Q : Fin → Shared → Prop} (KI : K.In h) (a : XA K D) (hx : h.get? x = some o) (hc : o.cls = .ref D) (hq : Q (.done (.ret (.ref D))) ⟨h, g, d, t, os⟩) :
    wpAny (model prog w) A («object.__getattribute__» ⟨[.ref x, .str "__class__" tk], []⟩) Q E ⟨h, g, d, t, os⟩ := by
  have L0 : PySem.W.Looks (model prog w) h (typeOf (.ref x)) (.ref D) := hc ▸ (PySem.W.Looks.ld hx).andThen .now
  have L1 : PySem.W.Looks (model prog w) h _ _ := xa_find (x := x) KI a
  refine wpAny_bind (wpAny_pure ?_)
  refine wpAny_bind (m := attrName (.str "__class__" tk)) (wpAny_pure ?_)
  refine wpAny_bind (L0.at (wpAny_bind (L1.at ?_)))
  show wpAny (model prog w) A (bindTo (.builtin "getset_descriptor.__get__") (.builtin "object.__class__") (.ref x) (.ref D)) Q E _
  refine wpAny_bind (wpAny_holding (wpAny_call (xa_get KI a hx hc ?_)))
  exact wpAny_pure hq
theorem xa_call {tk : Tok} {R : Result → Shared → Prop} (KI : K.In h) (a : XA K D) (hx : h.get? x = some o) (hc : o.cls = .ref D) (hq : R (.ok (.ret (.ref D))) ⟨h, g, d, t, os⟩) :
    codeAny (model prog w) A (.call (.builtin "BaseException.__getattribute__") ⟨[.ref x, .str "__class__" tk], []⟩) R ⟨h, g, d, t, os⟩ := by
  have L0 : PySem.W.Looks (model prog w) h (typeOf (.ref x)) (.ref D) := hc ▸ (PySem.W.Looks.ld hx).andThen .now
  have L1 := PySem.W.looks_mroIn (M := model prog w) KI a.be
  refine codeAny_call_builtin PySem.F.excAttr_ValueError.ga.plain PySem.F.entry_bexc_ga ?_
  have kd : builtinKind "BaseException.__getattribute__" = some .slot := by decide +kernel
  have sp : splitId "BaseException.__getattribute__" = some ("BaseException", "__getattribute__") := by decide +kernel
  have ok := PySem.F.args_bexc_ga (.ref x) (.str "__class__" tk)
  simp only [checkBuiltinCall, kd, sp]
  unfold isInstance
  refine wpAny_bind (wpAny_bind (L0.at (L1.at ?_)))
  rw [if_neg (by decide)]
  unfold argsOk at ok
  cases hs : Manifest.signature? "BaseException.__getattribute__" with
  | none =>
    exact wpAny_pure (xa_entry KI a hx hc hq)
  | some sig =>
    rw [hs] at ok
    have ok' : Bind.checkArgs "BaseException.__getattribute__" sig { pos := [Value.ref x, Value.str (Str.ofString "__class__") tk] } = pure () := ok
    dsimp only
    rw [ok']
    exact wpAny_pure (xa_entry KI a hx hc hq)
theorem xa_attr {Q : Option Value → Shared → Prop} (KI : K.In h) (a : XA K D) (hx : h.get? x = some o) (hc : o.cls = .ref D) (hq : Q (some (.ref D)) ⟨h, g, d, t + 1, os⟩) :
    wpAny (model prog w) A (getAttr? (.ref x) "__class__") Q E ⟨h, g, d, t, os⟩ := by
  have L0 : PySem.W.Looks (model prog w) h (typeOf (.ref x)) (.ref D) := hc ▸ (PySem.W.Looks.ld hx).andThen .now
  have L1 := PySem.W.looks_findIn (M := model prog w) KI a.ga
  have L2 := PySem.W.looks_findIn (M := model prog w) KI a.gt
  have e1 : (onTheHeap (Value.ref D) && (Value.builtin "BaseException.__getattribute__" == Value.builtin "object.__getattribute__")) = false := by
    show (true && _) = false
    rw [Bool.true_and]
    decide +kernel
  unfold getAttr? getAttrBy?; unfold getAttrBy
  refine wpAny_bind (wpAny_mkText (wpAny_bind (wpAny_attempt (wpAny_holding (wpAny_bind (L0.at (wpAny_bind (L1.at ?_))))))))
  dsimp only
  rw [e1, if_neg Bool.false_ne_true]
  unfold getAttrByItsOwn
  refine wpAny_bind (m := hookBefore (.ref D)) (L2.at ?_)
  refine wpAny_bind (wpAny_attempt (wpAny_holding ?_))
  refine wpAny_bind (m := bindSpecial _ _) ?_
  rw [PySem.F.excAttr_ValueError.ga.bind (.ref x)]
  refine wpAny_pure (wpAny_call (xa_call KI a hx hc ?_))
  exact wpAny_pure (wpAny_pure hq)
theorem kitx_exc (a : XA K D) (hcl : (PySem.W.clsIn K D).isSome = true) : PySem.W.KitX K (.ref x) (.ref D) (exP x (.ref D)) where
  ty := fun _ _ _ ⟨_, e, c⟩ => c ▸ (PySem.W.Looks.ld e).andThen .now
  it := fun _ _ KI _ => by
    obtain ⟨cd, hcd⟩ := Option.isSome_iff_exists.mp hcl
    unfold PySem.W.clsIn at hcd
    split at hcd
    case h_2 => cases hcd
    case h_1 look =>
      intro A' Q' E' s' k q
      unfold isType loadHead; exact wpAny_bind (wpAny_loadPart (k _ _ (KI _ _ look)) (wpAny_pure q))
  ne := fun hh tp dd its n sl KI htp => by
    obtain ⟨cd, hcd⟩ := Option.isSome_iff_exists.mp hcl
    refine Bool.eq_false_iff.mpr fun q => ?_
    cases Value.ref.inj (beq_iff_eq.mp q)
    unfold PySem.W.clsIn at hcd
    split at hcd
    case h_2 => cases hcd
    case h_1 look =>
      have z := (KI _ _ look).symm.trans htp
      cases z
  ca := fun {_ _ _ _ _ s} KI ⟨_, e, c⟩ k => by
    obtain ⟨hh, gg, dd, tt, oo⟩ := s
    exact xa_attr KI a e c k
end
end L2
namespace L2
open PySem PySem.Spec PyProof.Rows
/-! ### isinstance(e, C), e an exception in its suite -/
section
variable {X : Cx}
def rIsX (K : PySem.W.Frag) : List V → Hp → VK → Prop := fun xs H Q => ∃ (a D : Addr) (c : V) (cv : Value) (b : Bool), xs = [.ref a, c] ∧ (∀ u, RelV c u → u = cv) ∧ H a = some (exO a (.ref D)) ∧ XA K D ∧ (PySem.W.clsIn K D).isSome = true ∧ PySem.W.kitOne K (.ref D) cv = some b ∧ Q (.bl b) H
theorem call_isx : CallR X (.builtin "isinstance") (rIsX X.K) := by
  intro pins s σ H xs us Q I r h
  obtain ⟨a, D, c, cv, b, rfl, hc, hH, xa, hcl, e, q⟩ := h
  obtain ⟨u, c1, rfl, rx, rc⟩ := vals2 r
  cases (show u = Value.ref a from rx)
  cases hc c1 rc
  have p : exP a (.ref D) s.heap := (I.hok a _ hH).1
  exact PySem.W.kia_one (kitx_exc xa hcl) I.kIn p e (fun z => nomatch z) fun tk => ⟨.bl b, H, I.tok tk, rfl, q⟩
/-! ### count and index of bools -/
def bools (xs : List Bool) : List V := xs.map V.bl
theorem bools_get {xs : List Bool} {j : Nat} (h : j < xs.length) : (bools xs)[j]? = some (V.bl xs[j]) := by
  unfold bools
  rw [List.getElem?_map, List.getElem?_eq_getElem h]
  rfl
theorem bools_len (xs : List Bool) : (bools xs).length = xs.length := by
  unfold bools
  rw [List.length_map]
def rCountB : V → List V → Hp → VK → Prop := fun x vs H Q => ∃ (l : Addr) (xs : List Bool) (g : Bool), x = .ref l ∧ vs = [.bl g] ∧ H l = some (.lst (bools xs)) ∧ Q (.int (xs.countP (· == g) : Nat)) H
def rIndexB : V → List V → Hp → VK → Prop := fun x vs H Q => ∃ (l : Addr) (xs : List Bool) (g : Bool), x = .ref l ∧ vs = [.bl g] ∧ H l = some (.lst (bools xs)) ∧ g ∈ xs ∧ xs.length < 1000 ∧ Q (.int (xs.idxOf g : Nat)) H
theorem eqU_bools {g : Bool} : ∀ {xs : List Bool} {us : List Value}, Vals (bools xs) us → us.countP (eqU (.bl g)) = xs.countP (· == g)
  | [], _, .nil => rfl
  | x :: xs, u :: us, .cons r t => by
    rw [List.countP_cons, List.countP_cons, eqU_bools (xs := xs) t, eqU_of r rfl]
    rfl
theorem flat_bools (xs : List Bool) : (bools xs).all flatV = true := by
  unfold bools
  rw [List.all_map]
  exact List.all_eq_true.mpr fun _ _ => rfl
theorem mt_countB : MtM X "list.count" rCountB := by
  intro pins s σ H x vs v us Q I rx rv h
  obtain ⟨l, xs, g, rfl, rfl, hH, q⟩ := h
  cases rx
  obtain ⟨u1, rfl, r1⟩ := rv.one
  cases (show u1 = Value.bool g from r1)
  obtain ⟨z, its, n, r, hl, e⟩ := I.lstM hH
  refine call_meets F.slot_list_count ⟨_, e, rfl⟩ F.entry_list_count (F.args_list_count_2 _ _) (PySem.SeqAt.list_countAt l its.toArray n none #[] (.bool g) (eqU (.bl g))) ⟨e, fun y hy => ?_, ?_⟩
  · exact mem_eqAt (x := V.bl g) rfl rfl r (flat_bools xs) y (by simpa using hy)
  · have e2 : its.toArray.toList.countP (eqU (.bl g)) = xs.countP (· == g) := eqU_bools r
    show EP X pins σ Q (Value.int ((its.toArray.toList.countP (eqU (.bl g)) : Nat) : Int) s.toks) _
    rw [e2]
    exact ⟨.int (xs.countP (· == g) : Nat), H, I.tok _, ⟨_, rfl⟩, q⟩
theorem mt_indexB : MtM X "list.index" rIndexB := by
  intro pins s σ H x vs v us Q I rx rv h
  obtain ⟨l, xs, g, rfl, rfl, hH, hg, hz, q⟩ := h
  cases rx
  obtain ⟨u1, rfl, r1⟩ := rv.one
  cases (show u1 = Value.bool g from r1)
  obtain ⟨z, its, n, r, hl, e⟩ := I.lstM hH
  rw [bools_len] at hl
  have hlt : xs.idxOf g < xs.length := List.idxOf_lt_length_iff.mpr hg
  have hat : ∀ (j : Nat) (hj : j < its.toArray.size) (hj2 : j < xs.length), eqU (.bl g) its.toArray[j] = (xs[j] == g) := fun j hj hj2 => by
    obtain ⟨u, e1, q1⟩ := r.get (i := j) (x := V.bl xs[j]) (bools_get hj2)
    have a1 : its.toArray[j] = u := by
      have := (List.getElem?_eq_some_iff.mp e1).2
      simpa using this
    rw [a1, eqU_of q1 rfl]
    rfl
  refine call_meets F.slot_list_index ⟨_, e, rfl⟩ F.entry_list_index (F.args_list_index_2 _ _) (PySem.SeqAt.list_indexAt l its.toArray n none #[] (.bool g) (eqU (.bl g)) (xs.idxOf g) (by rw [List.size_toArray]; omega) (by omega) ?_ ?_) ⟨e, ?_, ?_⟩
  · rw [hat _ (by rw [List.size_toArray]; omega) hlt]
    have : xs[xs.idxOf g] = g := List.getElem_idxOf hlt
    rw [this]
    exact beq_self_eq_true g
  · intro m hm hmj
    rw [hat m hm (by omega)]
    exact beq_eq_false_iff_ne.mpr (fun z => by
      have := List.not_of_lt_findIdx (p := fun y => y == g) (xs := xs) (i := m) hmj
      rw [z] at this
      simp at this)
  · exact fun y hy => mem_eqAt (x := V.bl g) rfl rfl r (flat_bools xs) y (by simpa using hy)
  · exact ⟨.int (xs.idxOf g : Nat), H, I.tok _, ⟨_, rfl⟩, q⟩
end
/-! ### a def that is called in a suite too -/
structure RoomM (k : Nat) (A : Around) : Prop where
  dp : A.depth + 3 * k + 5 < recursionLimit
  un : A.units + 16 * k + 200 < cLine
theorem RoomM.mono {j k : Nat} {A : Around} (r : RoomM k A) (h : j ≤ k) : RoomM j A := ⟨by have := r.dp; omega, by have := r.un; omega⟩
theorem Room.marked {k : Nat} {A : Around} (r : Room k A) (h : Option Value) : RoomM k (A.mark h) := ⟨r.dp, r.un⟩
structure Dm (P : Program) (w : World) (K : PySem.W.Frag) (mg : Str → Option Value) (base : Heap) (k : Nat) (x : Str) (ps : List Str) (sp : Sp) : Prop where
  ex : ∃ f : Addr, mg x = some (.ref f) ∧ PySem.W.keepIn K (.ref f) = true ∧ (∀ vs H Q E, sp vs H Q E → vs.length = ps.length) ∧
    ∀ (A : Around) (outer : List Env) (s : Shared) (H : Hp) (us : List Value) (vs : List V) (Q : VK) (E : XK), RoomM k A → Env0 P w K mg base A outer s H → Vals vs us → sp vs H Q E →
      codeAny (model P w) A (.call (.ref f) ⟨us, []⟩) (CR CX0 outer P w H s Q E) s
section
variable {P : Program} {w : World} {K : PySem.W.Frag} {mg : Str → Option Value} {base : Heap} {k : Nat} {x : Str} {ps : List Str} {sp : Sp}
abbrev cxM (P : Program) (w : World) (K : PySem.W.Frag) (mg : Str → Option Value) (base : Heap) (N : List Str) (qual : Str) (scope : Scope) (f : Addr) (cd : Value) (A : Around) (outer : List Env) (s : Shared) (H : Hp) (E : XK) : Cx :=
  (cxOf CX0 P w K mg base N qual scope f cd { A with handled := none } outer s H E).alt (A.deeper (envOfC qual scope s.heap.objs.size f cd)) false [] fun _ _ => False
theorem Fn0.dm {st : Stmt} {N : List Str} (F : Fn0 K mg x st) (S : FnScope N ps (defScope st))
    (hb : ∀ (kV doc pm : Value) (an : Option Addr) (cdv ct : Value) (us : List Value), us.length = ps.length → bindArgs (PySem.W.fnOf x x (defArgs st) (defBody st) (defScope st) .none kV doc pm an cdv ct) ⟨us, []⟩ = pure (ps.zip us))
    (len : ∀ vs H Q E, sp vs H Q E → vs.length = ps.length)
    (hbody : ∀ (f : Addr) (cdv : Value) (A : Around) (outer : List Env) (s : Shared) (H : Hp) (vs : List V) (Q : VK) (E : XK), sp vs H Q E →
      ∃ t, PSs (cxM P w K mg base N x (defScope st) f cdv A outer s H E) (defBody st) t ∧ t { nx := fun _ H' => Q .non H', rt := Q } (start N vs) H) : Dm P w K mg base (k + 1) x ps sp := by
  obtain ⟨f, fd, hF, hm⟩ := F.ex
  have hbn := hF.binds hb
  obtain ⟨oc, od, kV, doc, pm, an, cdv, ct, osl, rfl, lk, hcd⟩ := hF.ex
  refine ⟨f, hm, hF.kp, len, fun A outer s H us vs Q E hr e0 r hsp => ?_⟩
  have hl := len _ _ _ _ hsp
  have KX := e0.kin
  have lim : s.heap.NoLimit := e0.mod.nolimit.keeps fun b o e => (e0.bs b o e).1
  have hl2 : (us ++ []).length = ps.length := by rw [List.append_nil, ← r.length]; exact hl
  have b := hbn s us KX hl2
  rw [List.append_nil] at b
  have hkind : ∀ y ∈ ps.zip us, (defScope st).names.lookup y.1 = some .local ∨ ((defScope st).names.lookup y.1 = some .cell ∧ ((cellsFrom (s.heap.objs.size + 1) (defScope st).names []).lookup y.1).isSome = true) := fun ⟨n, v⟩ hy => by
    rcases S.par n (List.of_mem_zip hy).1 with q | q
    · exact .inl q
    · exact .inr ⟨q, PySem.W.cellsFrom_some _ _ _ (.inl q)⟩
  have dep : A.depth < recursionLimit := by have := hr.dp; omega
  refine codeAny_call_function dep (KX _ _ lk) rfl S.co S.gen rfl (PySem.W.codeRec_of KX hcd) (b _ _ _ _ ?_)
  refine wpAny_newFunctionEnv_cells S.kind hkind fun env he s1 z => ?_
  subst he
  refine ⟨lim.keeps z.toInCall.keep, codeAny_func ?_⟩
  obtain ⟨t, ht, hq⟩ := hbody f cdv A outer s H vs Q E hsp
  have e1 : Env0 P w K mg base { A with handled := none } outer s H := ⟨e0.frames, e0.mod, e0.bs, e0.bsz, e0.funs, e0.frf, e0.hok, e0.bare⟩
  have I0 : Inv (cxOf CX0 P w K mg base N x (defScope st) f cdv { A with handled := none } outer s H E) [] (start N vs) H s1 := inv_start S rfl e1 hl r z
  have I : Inv (cxM P w K mg base N x (defScope st) f cdv A outer s H E) [] (start N vs) H s1 := I0.alt rfl (fun z => nomatch z) fun p hp => absurd (show p ∈ ([] : List (Addr × Obj)) from hp) (by simp)
  refine wpAny_mono (ht [] s1 (start N vs) H _ I hq) (fun fl s' hs => ?_) fun e s' hs => hs.elim
  have fin : ∀ {σ' : St} {H' : Hp} {v : V} {u : Value}, Inv (cxM P w K mg base N x (defScope st) f cdv A outer s H E) [] σ' H' s' → RelV v u → Q v H' → CE outer P w H s Q u s' :=
    fun {σ' H' v u} J rv q => ⟨v, H', J.os, J.bare, J.base, J.hok, rv, q⟩
  cases fl with
  | ret u =>
    obtain ⟨v, σ', H', J, rv, q⟩ := hs
    exact fin J rv q
  | next =>
    obtain ⟨σ', H', J, q⟩ := hs
    exact fin (v := V.non) (u := Value.none) J rfl q
  | brk => obtain ⟨_, _, _, q⟩ := hs; exact False.elim q
  | cont => obtain ⟨_, _, _, q⟩ := hs; exact False.elim q
end
section
variable {X : Cx} {k j : Nat} {ps : List Str} {sp : Sp} {x : Str} {p pos : Pos} {e : Expr} {es : List Expr} {t : TA}
theorem pe_dm (D : Dm X.prog X.w X.K X.mg X.base k x ps sp) (hr : RoomM j X.A) (ha : PA X (e :: es) t) (hj : k ≤ j := by decide) (hg : Gl X x := by rfl) (hdb : (x == ("__debug__" : Str)) = false := by decide)
    (he : starEach (e :: es) X.env = (false, eval e X.env) :: starEach es X.env := by rfl) (hpl : (backTo pos (starEach es X.env)).any (·.1) = false := by rfl) :
    PE X (.Call (.Name x p) (e :: es) [] pos) (tCall sp [] E0 t) := by
  obtain ⟨f, a, b, c, d⟩ := D.ex
  intro pins s σ H Q I h
  refine wpAny_Call_Name_kw (ld_glob I hg a ?_ hdb)
  refine PySem.W.callWith_K (h₀ := X.base) I.ok.mod.kin b (thn (ha pos pins s σ H _ I h) fun us s1 ⟨vs, H1, I1, r, q⟩ => ⟨I1.kIn, ?_⟩) he hpl
  have q' : sp (vs ++ []) H1 Q E0 := q
  rw [List.append_nil] at q'
  refine wpAny_call (codeAny_mono (d X.A X.stack s1 H1 us vs Q E0 (hr.mono hj) I1.env0 r q') fun r s' hq => ?_)
  cases r with
  | error e => exact hq.elim
  | ok fl =>
    cases fl with
    | ret u => exact I1.after hq
    | next => exact False.elim hq
    | brk => exact False.elim hq
    | cont => exact False.elim hq
end
end L2
set_option Elab.async false
set_option linter.all false
set_option maxRecDepth 100000
namespace L2
open PySem PySem.Spec PyProof.Rows
/-! ### two promises of one expression -/
theorem pe_two {X : Cx} {e : Expr} {t1 t2 : TE} (h1 : PE X e t1) (h2 : PE X e t2) : PE X e (fun σ H Q => t1 σ H Q ∨ t2 σ H Q) := fun pins s σ H Q I h => h.elim (h1 pins s σ H Q I) (h2 pins s σ H Q I)
/-! ### a method that may refuse -/
structure Mx (P : Program) (w : World) (K : PySem.W.Frag) (mg : Str → Option Value) (base : Heap) (k : Nat) (f : Addr) (ps : List Str) (sp : Sp) : Prop where
  ex : ∃ fd : FuncData, FnOk P w K mg base (CX1 P w) k f fd ps sp ∧ Binds K fd ps []
section
variable {P : Program} {w : World} {K : PySem.W.Frag} {mg : Str → Option Value} {base : Heap}
theorem Fn1.mx {x qual : Str} {st : Stmt} {f : Addr} {N ps : List Str} {k : Nat} {sp : Sp} (F : Fn1 K x qual st f) (S : FnScope N ps (defScope st))
    (hb : ∀ (kV doc pm : Value) (an : Option Addr) (cdv ct : Value) (us : List Value), us.length = ps.length → bindArgs (PySem.W.fnOf x qual (defArgs st) (defBody st) (defScope st) .none kV doc pm an cdv ct) ⟨us, []⟩ = pure (ps.zip us))
    (len : ∀ vs H Q E, sp vs H Q E → vs.length = ps.length)
    (hbody : ∀ (cdv : Value) (A : Around) (outer : List Env) (s : Shared) (H : Hp) (vs : List V) (Q : VK) (E : XK), Room k (A.deeper (envOfC qual (defScope st) s.heap.objs.size f cdv)) → sp vs H Q E →
      ∃ t, PSs (cxOf (CX1 P w) P w K mg base N qual (defScope st) f cdv A outer s H E) (defBody st) t ∧ t { nx := fun _ H' => Q .non H', rt := Q } (start N vs) H) : Mx P w K mg base (k + 1) f ps sp := by
  obtain ⟨fd, hF⟩ := F.ex
  have hbn := hF.binds hb
  obtain ⟨oc, od, kV, doc, pm, an, cdv, ct, osl, rfl, lk, hcd⟩ := hF.ex
  exact ⟨_, fn_of lk hcd S len fun A outer s H vs Q E hr hsp => hbody cdv A outer s H vs Q E hr hsp, hbn⟩
theorem Mx.mono {j k : Nat} {f : Addr} {ps : List Str} {sp : Sp} (D : Mx P w K mg base j f ps sp) (h : j ≤ k) : Mx P w K mg base k f ps sp := by
  obtain ⟨fd, a, b⟩ := D.ex
  exact ⟨fd, a.mono h, b⟩
end
section
variable {X : Cx} {k j : Nat} {f C : Addr} {ps : List Str} {sp : Sp} {x m : Str} {p pos apos : Pos} {o e : Expr} {es : List Expr} {ta : TE} {t : TA} {E : XK}
theorem pe_mkx (D : Mx X.prog X.w X.K X.mg X.base k f ps sp) (hr : Room j X.A) (hx : Passes (CX1 X.prog X.w) X E) (M : Mk X.K C f) (hm : X.mg x = some (.ref C)) (ha : PA X (e :: es) t) (hj : k + 1 ≤ j := by decide) (hg : Gl X x := by rfl) (hdb : (x == ("__debug__" : Str)) = false := by decide)
    (he : starEach (e :: es) X.env = (false, eval e X.env) :: starEach es X.env := by rfl) (hpl : (backTo pos (starEach es X.env)).any (·.1) = false := by rfl) :
    PE X (.Call (.Name x p) (e :: es) [] pos) (tMake C sp [] E t) := by
  obtain ⟨fd, a, b⟩ := D.ex
  exact pe_make M a (hr.mono hj) hg hm b .nil hx ha hdb he hpl
end
end L2
namespace On
open PySem L2 Rw St Od
def top (i : Nat) : Stmt := PySem.Challenge.pw_onestep_k15_refused_sizes.main.body.getD i (.Pass ⟨0, 0, 0, 0⟩)
abbrev sCell : Stmt := top 36
abbrev sRows : Stmt := top 27
abbrev sChk : Stmt := top 8
abbrev sRowAt : Stmt := top 28
abbrev sRowStep : Stmt := top 29
abbrev sChkT : Stmt := top 12
abbrev sCnt : Stmt := top 13
abbrev sSets : Stmt := top 14
abbrev sSetAt : Stmt := top 15
abbrev sSetStep : Stmt := top 16
abbrev sChkS : Stmt := top 17
abbrev sPlcS : Stmt := top 18
abbrev sOrds : Stmt := top 21
abbrev sOrdAt : Stmt := top 23
abbrev sOrdStep : Stmt := top 24
abbrev sWord : Stmt := top 37
abbrev sTried : Stmt := top 40
abbrev sRA : Stmt := top 38
abbrev sSA : Stmt := top 39
abbrev sWInit : Stmt := inClass (top 31) 0
abbrev sGo : Stmt := inClass (top 31) 1
abbrev sLeap : Stmt := inClass (top 31) 2
abbrev sPlace : Stmt := inClass (top 31) 3
abbrev sHome : Stmt := inClass (top 31) 4
abbrev sRInit : Stmt := inClass (top 32) 0
abbrev sRHere : Stmt := inClass (top 32) 1
abbrev sSInit : Stmt := inClass (top 33) 0
abbrev sSHere : Stmt := inClass (top 33) 1
abbrev sOInit : Stmt := inClass (top 34) 0
abbrev sOHere : Stmt := inClass (top 34) 1
abbrev sLaw : Stmt := top 41
/-! ### _law_cell_at -/
def cellN (ns : List Int) (k : Nat) : Int := ns.getD k 0
def spCell (K : PySem.W.Frag) : Sp := fun vs H Q _ => ∃ (a : Addr) (ns : List Int) (k : Nat), vs = [.ref a, .int (k : Int)] ∧ SqL K H a (ns.map V.int) ∧ Q (.int (cellN ns k)) H
section
variable {P : Program} {w : World} {K : PySem.W.Frag} {mg : Str → Option Value} {base : Heap}
theorem scCell : FnScope ["script", "k"] ["script", "k"] (defScope sCell) := ⟨rfl, rfl, rfl, by decide +kernel, rfl, by decide +kernel, by decide +kernel⟩
theorem df_cell (F : Fn0 K mg "_law_cell_at" sCell) (hlen : mg "len" = none) : Df P w K mg base 1 "_law_cell_at" ["script", "k"] (spCell K) := by
  refine F.df scCell (fun _ _ _ _ _ _ us hl => match us, hl with | [_, _], _ => rfl) (fun vs H Q E h => ?_) (fun f cdv A outer s H vs Q E hr h => ?_)
  · obtain ⟨a, ns, k, rfl, _⟩ := h
    rfl
  · obtain ⟨a, ns, k, rfl, hS, q⟩ := h
    refine ⟨_, pss_cons (ps_if (pt_cmpR op_lt (pv 1) (pe_callB call_len_seq (by rfl) hlen PySem.boot_len (pa_cons (pv 0) pa_nil)) (nomark _))
      (pss_one (ps_ret (pe_ix ix_list (pv 0) (pv 1) (fun _ _ => rfl)))) pss_nil)
      (pss_one (ps_ret pe_int)), ?_⟩
    refine ⟨_, rfl, _, rfl, a, _, rfl, .inl hS, _, _, rfl, rfl, _, rfl, ?_⟩
    rw [List.length_map]
    refine ite2 (fun z => ?_) (fun z => ?_)
    · have z' : (k : Int) < (ns.length : Int) := of_decide_eq_true z
      have z2 : k < ns.length := by omega
      refine ⟨_, rfl, _, rfl, a, _, _, .int (cellN ns k), rfl, rfl, hS, atI_nat ?_, q⟩
      rw [List.getElem?_map, List.getElem?_eq_getElem z2]
      unfold cellN
      rw [List.getD_eq_getElem?_getD, List.getElem?_eq_getElem z2]
      rfl
    · have z' : ¬ (k : Int) < (ns.length : Int) := fun y => z (decide_eq_true y)
      have e : cellN ns k = 0 := by
        unfold cellN
        rw [List.getD_eq_getElem?_getD, List.getElem?_eq_none (by omega)]
        rfl
      rw [e] at q
      exact q
end
/-! ### rows -/
def spRows : Sp := fun vs H Q _ => ∃ n : Nat, vs = [.int (n : Int)] ∧ n ≤ 40 ∧ Q (.int (two n)) H
section
variable {P : Program} {w : World} {K : PySem.W.Frag} {mg : Str → Option Value} {base : Heap}
theorem scRows : FnScope ["size", "count", "switch"] ["size"] (defScope sRows) := ⟨rfl, rfl, rfl, by decide +kernel, rfl, by decide +kernel, by decide +kernel⟩
theorem df_rows (F : Fn0 K mg "rows" sRows) {tM : Tok} (hM : mg "MOST_SWITCHES" = some (.int 40 tM)) (hrg : mg "range" = none) : Df P w K mg base 1 "rows" ["size"] spRows := by
  refine F.df scRows (fun _ _ _ _ _ _ us hl => match us, hl with | [_], _ => rfl) (fun vs H Q E h => ?_) (fun f cdv A outer s H vs Q E hr h => ?_)
  · obtain ⟨n, rfl, _⟩ := h
    rfl
  · obtain ⟨n, rfl, hn, k⟩ := h
    refine ⟨_, pss_cons (ps_if (PW.pt (pw_or (pt_cmpR op_lt (pv 0) pe_int (nomark _)) (pw_or1 (pt_cmpR op_gt (pv 0) (pe_glob (v := .int 40) rfl hM ⟨_, rfl⟩) (nomark _))))) (pss_one ps_never) pss_nil)
      (pss_cons (ps_set (i := 1) scRows.nd rfl (Or.inl rfl) pe_int)
      (pss_cons (ps_for PassesOwn.never rfl (pi_range1 rfl hrg (pa_cons (pv 0) pa_nil)) (pg_name (i := 2) scRows.nd rfl (Or.inl rfl))
        (pss_one (ps_set (i := 1) scRows.nd rfl (Or.inl rfl) (pe_op op_mul (pv 1) pe_int))))
      (pss_one (ps_ret (pv 1))))), ?_⟩
    refine ⟨_, rfl, _, _, rfl, rfl, _, rfl, ?_⟩
    refine ite2 (fun z => absurd (of_decide_eq_true z) (by omega)) (fun _ => ?_)
    refine ⟨_, rfl, _, _, rfl, rfl, _, rfl, ?_⟩
    refine ite2 (fun z => absurd (of_decide_eq_true z) (by omega)) (fun _ => ?_)
    refine ⟨_, rfl, (n : Int), rfl, by omega, by omega, for_range (n := n) (fun i σ H2 => ∃ c v, σ = [some (.int (n : Int)), some (.int c), v] ∧ c = two i ∧ H2 = H) ⟨1, none, rfl, rfl, rfl⟩ ?_ ?_⟩
    · rintro i σ H2 hi ⟨c, v, rfl, hc, rfl⟩
      refine ⟨_, rfl, _, _, rfl, rfl, .inr ⟨by decide, by decide⟩, ?_⟩
      exact ⟨_, _, rfl, by rw [hc, two_succ]; omega, rfl⟩
    · rintro σ H2 ⟨c, v, rfl, hc, rfl⟩
      subst hc
      exact ⟨_, rfl, k⟩
end
/-! ### check_place, place_further_on -/
def spChk : Sp := fun vs H Q _ => ∃ (c p : Int), vs = [.int c, .int p] ∧ 0 ≤ p ∧ p < c ∧ Q .non H
section
variable {P : Program} {w : World} {K : PySem.W.Frag} {mg : Str → Option Value} {base : Heap}
theorem scChk : FnScope ["count", "place"] ["count", "place"] (defScope sChk) := ⟨rfl, rfl, rfl, by decide +kernel, rfl, by decide +kernel, by decide +kernel⟩
theorem df_chk (F : Fn0 K mg "check_place" sChk) : Df P w K mg base 1 "check_place" ["count", "place"] spChk := by
  refine F.df scChk (fun _ _ _ _ _ _ us hl => match us, hl with | [_, _], _ => rfl) (fun vs H Q E h => ?_) (fun f cdv A outer s H vs Q E hr h => ?_)
  · obtain ⟨c, p, rfl, _⟩ := h
    rfl
  · obtain ⟨c, p, rfl, h0, h1, k⟩ := h
    refine ⟨_, pss_one (ps_if (PW.pt (pw_or (pt_cmpR op_lt (pv 1) pe_int (nomark _)) (pw_or1 (pt_cmpR op_ge (pv 1) (pv 0) (nomark _))))) (pss_one ps_never) pss_nil), ?_⟩
    refine ⟨_, rfl, _, _, rfl, rfl, _, rfl, ?_⟩
    refine ite2 (fun z => absurd (of_decide_eq_true z) (by omega)) (fun _ => ?_)
    refine ⟨_, rfl, _, rfl, _, _, rfl, rfl, _, rfl, ?_⟩
    exact ite2 (fun z => absurd (of_decide_eq_true z) (by omega)) (fun _ => k)
end
/-! ### rows as lists of bools -/
def bls (bs : List Bool) : List V := bs.map V.bl
theorem bls_len (bs : List Bool) : (bls bs).length = bs.length := List.length_map ..
/-! ### row_at -/
section
variable {P : Program} {w : World} {K : PySem.W.Frag} {mg : Str → Option Value} {base : Heap}
theorem scRowAt : FnScope ["size", "place", "count", "shorter_place", "row", "switch", "last_place", "is_on"] ["size", "place"] (defScope sRowAt) := ⟨rfl, rfl, rfl, by decide +kernel, rfl, by decide +kernel, by decide +kernel⟩
end
/-! ### row_step -/
section
variable {P : Program} {w : World} {K : PySem.W.Frag} {mg : Str → Option Value} {base : Heap}
theorem scRowStep : FnScope ["size", "place", "switch", "gone_by"] ["size", "place"] (defScope sRowStep) := ⟨rfl, rfl, rfl, by decide +kernel, rfl, by decide +kernel, by decide +kernel⟩
end
/-! ### what the program's own defs of sets promise -/
def spSets : Sp := fun vs H Q _ => ∃ (n k : Nat), vs = [.int (n : Int), .int (k : Int)] ∧ n ≤ 40 ∧ k ≤ n ∧ Q (.int (many n k)) H
def spPlcSet : Sp := fun vs H Q _ => ∃ (n : Nat) (a : Addr) (ms : List Int), vs = [.int (n : Int), .ref a] ∧ n ≤ 40 ∧ H a = some (.lst (nums ms)) ∧ Up ms ∧ (∀ x ∈ ms, 0 ≤ x ∧ x < (n : Int)) ∧ ∀ H', Same H H' → Q (.int (plcS n ms.reverse)) H'
/-! ### check_things -/
def spChkT : Sp := fun vs H Q _ => ∃ n : Nat, vs = [.int (n : Int)] ∧ n ≤ 40 ∧ Q .non H
section
variable {P : Program} {w : World} {K : PySem.W.Frag} {mg : Str → Option Value} {base : Heap}
theorem scChkT : FnScope ["things"] ["things"] (defScope sChkT) := ⟨rfl, rfl, rfl, by decide +kernel, rfl, by decide +kernel, by decide +kernel⟩
theorem df_chkT (F : Fn0 K mg "check_things" sChkT) {tM : Tok} (hM : mg "MOST_THINGS_sets" = some (.int 40 tM)) : Df P w K mg base 1 "check_things" ["things"] spChkT := by
  refine F.df scChkT (fun _ _ _ _ _ _ us hl => match us, hl with | [_], _ => rfl) (fun vs H Q E h => ?_) (fun f cdv A outer s H vs Q E hr h => ?_)
  · obtain ⟨n, rfl, _⟩ := h
    rfl
  · obtain ⟨n, rfl, hn, k⟩ := h
    refine ⟨_, pss_one (ps_if (PW.pt (pw_or (pt_cmpR op_lt (pv 0) pe_int (nomark _)) (pw_or1 (pt_cmpR op_gt (pv 0) (pe_glob (v := .int 40) rfl hM ⟨_, rfl⟩) (nomark _))))) (pss_one ps_never) pss_nil), ?_⟩
    refine ⟨_, rfl, _, _, rfl, rfl, _, rfl, ?_⟩
    refine ite2 (fun z => absurd (of_decide_eq_true z) (by omega)) (fun _ => ?_)
    refine ⟨_, rfl, _, _, rfl, rfl, _, rfl, ?_⟩
    exact ite2 (fun z => absurd (of_decide_eq_true z) (by omega)) (fun _ => k)
end
/-! ### count_sets -/
def spCnt : Sp := fun vs H Q _ => ∃ n k : Nat, vs = [.int (n : Int), .int (k : Int)] ∧ n ≤ 1000 ∧ k ≤ 1000 ∧ Q (.int (many n k)) H
section
variable {P : Program} {w : World} {K : PySem.W.Frag} {mg : Str → Option Value} {base : Heap}
theorem scCnt : FnScope ["things", "some", "count", "chosen"] ["things", "some"] (defScope sCnt) := ⟨rfl, rfl, rfl, by decide +kernel, rfl, by decide +kernel, by decide +kernel⟩
theorem df_cnt (F : Fn0 K mg "count_sets" sCnt) (hrg : mg "range" = none) : Df P w K mg base 1 "count_sets" ["things", "some"] spCnt := by
  refine F.df scCnt (fun _ _ _ _ _ _ us hl => match us, hl with | [_, _], _ => rfl) (fun vs H Q E h => ?_) (fun f cdv A outer s H vs Q E hr h => ?_)
  · obtain ⟨n, k, rfl, _⟩ := h
    rfl
  · obtain ⟨n, k, rfl, hn, hk, q⟩ := h
    refine ⟨_, pss_cons (ps_set (i := 2) scCnt.nd rfl (Or.inl rfl) pe_int)
      (pss_cons (ps_for PassesOwn.never rfl (pi_range1 rfl hrg (pa_cons (pv 1) pa_nil)) (pg_name (i := 3) scCnt.nd rfl (Or.inl rfl))
        (pss_one (ps_set (i := 2) scCnt.nd rfl (Or.inl rfl) (pe_op op_fdiv (pe_op op_mul (pv 2) (pe_op op_sub (pv 0) (pv 3))) (pe_op op_add (pv 3) pe_int)))))
      (pss_one (ps_ret (pv 2)))), ?_⟩
    refine ⟨_, rfl, (k : Int), rfl, by omega, by omega, for_range (n := k) (fun i σ H2 => ∃ c v, σ = [some (.int (n : Int)), some (.int (k : Int)), some (.int c), v] ∧ c = many n i ∧ H2 = H) ⟨1, none, rfl, (many_zero n).symm, rfl⟩ ?_ ?_⟩
    · rintro i σ H2 hi ⟨c, v, rfl, hc, rfl⟩
      have e0 : (0 : Int) + (i : Int) = (i : Int) := by omega
      rw [e0]
      refine ⟨_, rfl, _, rfl, _, rfl, _, _, rfl, rfl, _, _, rfl, rfl, .inr ⟨by omega, by omega⟩, _, rfl, _, _, rfl, rfl, _, _, rfl, rfl, ⟨by omega, by omega⟩, ?_⟩
      exact ⟨_, _, rfl, by rw [hc]; exact many_next n i, rfl⟩
    · rintro σ H2 ⟨c, v, rfl, hc, rfl⟩
      subst hc
      exact ⟨_, rfl, q⟩
end
/-! ### sets -/
section
variable {P : Program} {w : World} {K : PySem.W.Frag} {mg : Str → Option Value} {base : Heap}
theorem scSets : FnScope ["things", "some"] ["things", "some"] (defScope sSets) := ⟨rfl, rfl, rfl, by decide +kernel, rfl, by decide +kernel, by decide +kernel⟩
theorem df_sets (F : Fn0 K mg "sets" sSets) (Dt : Df P w K mg base 1 "check_things" ["things"] spChkT) (Dn : Df P w K mg base 1 "count_sets" ["things", "some"] spCnt) : Df P w K mg base 2 "sets" ["things", "some"] spSets := by
  refine F.df scSets (fun _ _ _ _ _ _ us hl => match us, hl with | [_, _], _ => rfl) (fun vs H Q E h => ?_) (fun f cdv A outer s H vs Q E hr h => ?_)
  · obtain ⟨n, k, rfl, _⟩ := h
    rfl
  · obtain ⟨n, k, rfl, hn, hk, q⟩ := h
    refine ⟨_, pss_cons (ps_expr (pe_df Dt hr (pa_cons (pv 0) pa_nil)))
      (pss_cons (ps_if (PW.pt (pw_or (pt_cmpR op_lt (pv 1) pe_int (nomark _)) (pw_or1 (pt_cmpR op_gt (pv 1) (pv 0) (nomark _))))) (pss_one ps_never) pss_nil)
      (pss_one (ps_ret (pe_df Dn hr (pa_cons (pv 0) (pa_cons (pv 1) pa_nil)))))), ?_⟩
    refine ⟨_, rfl, n, rfl, hn, ?_⟩
    refine ⟨_, rfl, _, _, rfl, rfl, _, rfl, ?_⟩
    refine ite2 (fun z => absurd (of_decide_eq_true z) (by omega)) (fun _ => ?_)
    refine ⟨_, rfl, _, rfl, _, _, rfl, rfl, _, rfl, ?_⟩
    refine ite2 (fun z => absurd (of_decide_eq_true z) (by omega)) (fun _ => ?_)
    exact ⟨_, rfl, _, rfl, n, k, rfl, by omega, by omega, q⟩
end
/-! ### set_at -/
section
variable {P : Program} {w : World} {K : PySem.W.Frag} {mg : Str → Option Value} {base : Heap}
theorem scSetAt : FnScope ["things", "some", "place", "shorter_place", "missing", "members", "thing", "last_place"] ["things", "some", "place"] (defScope sSetAt) := ⟨rfl, rfl, rfl, by decide +kernel, rfl, by decide +kernel, by decide +kernel⟩
end
section
variable {P : Program} {w : World} {K : PySem.W.Frag} {mg : Str → Option Value} {base : Heap}
end
/-! ### set_step -/
section
variable {P : Program} {w : World} {K : PySem.W.Frag} {mg : Str → Option Value} {base : Heap}
theorem scSetStep : FnScope ["things", "some", "place", "count", "members", "following", "goes", "comes"] ["things", "some", "place"] (defScope sSetStep) := ⟨rfl, rfl, rfl, by decide +kernel, rfl, by decide +kernel, by decide +kernel⟩
end
/-! ### check_set, place_of_set -/
theorem uptoI_eq : ∀ n, uptoI n = upto n
  | 0 => rfl
  | n + 1 => by show uptoI n ++ _ = upto n ++ _; rw [uptoI_eq n]
def spChkS : Sp := fun vs H Q _ => ∃ (n : Nat) (a : Addr) (ms : List Int), vs = [.int (n : Int), .ref a] ∧ n ≤ 1000 ∧ H a = some (.lst (nums ms)) ∧ Up ms ∧ (∀ x ∈ ms, 0 ≤ x ∧ x < (n : Int)) ∧ ∀ H', Same H H' → Q .non H'
section
variable {P : Program} {w : World} {K : PySem.W.Frag} {mg : Str → Option Value} {base : Heap}
theorem scChkS : FnScope ["things", "members"] ["things", "members"] (defScope sChkS) := ⟨rfl, rfl, rfl, by decide +kernel, rfl, by decide +kernel, by decide +kernel⟩
theorem nd_tm : ((["thing"] : List Str) ++ (["members"] : List Str)).Nodup := by decide +kernel
theorem df_chkS (F : Fn0 K mg "check_set" sChkS) (hrg : mg "range" = none) : Df P w K mg base 1 "check_set" ["things", "members"] spChkS := by
  refine F.df scChkS (fun _ _ _ _ _ _ us hl => match us, hl with | [_, _], _ => rfl) (fun vs H Q E h => ?_) (fun f cdv A outer s H vs Q E hr h => ?_)
  · obtain ⟨n, a, ms, rfl, _⟩ := h
    rfl
  · obtain ⟨n, a, ms, rfl, hn, ha, hu, hm, q⟩ := h
    refine ⟨_, pss_one (ps_if (pt_cmpR (op_neL hr.units0) (pv 1)
      (pe_comp (xs := ["thing"]) (fr := ["members"]) (ix := [1]) rfl (.of rfl (by decide +kernel) (by decide +kernel) (by decide +kernel) (by decide +kernel) rfl rfl) (pi_range1 rfl hrg (pa_cons (pv 0) pa_nil)) (fun _ _ _ _ _ _ => pg_name (i := 0) nd_tm rfl (Or.inl rfl))
        (fun _ _ _ _ _ _ => pif_one (pt_cmpR (op_inK K) (pv 0) (pv 1) (by with_unfolding_all rfl))) (fun _ _ _ _ _ _ => pv 0)) (nomark _)) (pss_one ps_never) pss_nil), ?_⟩
    refine ⟨_, rfl, _, rfl, (n : Int), rfl, by omega, by omega, fun D hD => ?_⟩
    refine comp_filterR (n := n) (p := fun x => decide (x ∈ ms)) (rest := [some (.ref a)]) (by omega) (fun i H4 Q4 hi s4 h4 => ?_) (fun H4 s4 hD4 => ?_)
    · refine ⟨_, rfl, _, rfl, a, _, rfl, .inl (SqL.of (s4.at hD ha)), rfl, nums_flat _, _, rfl, ?_⟩
      rw [if_neg (by decide), inV_nums]
      exact h4
    rw [uptoI_eq, upto_pick hu hm] at hD4
    refine ⟨a, D, _, _, rfl, rfl, SqL.of (s4.at hD ha), SqL.of hD4, sameKind_ints, _, rfl, ?_⟩
    rw [decide_eq_true rfl]
    exact iteF (q _ (s4.same hD))
end
/-! ### place_of_set -/
section
variable {P : Program} {w : World} {K : PySem.W.Frag} {mg : Str → Option Value} {base : Heap}
theorem scPlcS : FnScope ["things", "members", "place", "earlier", "member", "last_place"] ["things", "members"] (defScope sPlcS) := ⟨rfl, rfl, rfl, by decide +kernel, rfl, by decide +kernel, by decide +kernel⟩
theorem df_plcS (F : Fn0 K mg "place_of_set" sPlcS) (hen : mg "enumerate" = none) (Dt : Df P w K mg base 1 "check_things" ["things"] spChkT) (Dk : Df P w K mg base 1 "check_set" ["things", "members"] spChkS) (Dn : Df P w K mg base 1 "count_sets" ["things", "some"] spCnt) :
    Df P w K mg base 2 "place_of_set" ["things", "members"] spPlcSet := by
  refine F.df scPlcS (fun _ _ _ _ _ _ us hl => match us, hl with | [_, _], _ => rfl) (fun vs H Q E h => ?_) (fun f cdv A outer s H vs Q E hr h => ?_)
  · obtain ⟨n, a, ms, rfl, _⟩ := h
    rfl
  · obtain ⟨n, a, ms, rfl, hn, ha, hu, hm, q⟩ := h
    refine ⟨_, pss_cons (ps_expr (pe_df Dt hr (pa_cons (pv 0) pa_nil)))
      (pss_cons (ps_expr (pe_df Dk hr (pa_cons (pv 0) (pa_cons (pv 1) pa_nil))))
      (pss_cons (ps_set (i := 2) scPlcS.nd rfl (Or.inl rfl) pe_int)
      (pss_cons (ps_for PassesOwn.never rfl (pi_enum hen (pa_cons (pv 1) pa_nil)) (pg_tup rfl (pgs_cons (pg_name (i := 3) scPlcS.nd rfl (Or.inl rfl)) (pgs_cons (pg_name (i := 4) scPlcS.nd rfl (Or.inl rfl)) pgs_nil)))
        (pss_cons (ps_set (i := 5) scPlcS.nd rfl (Or.inl rfl) (pe_op op_sub (pe_df Dn hr (pa_cons (pe_op op_add (pv 4) pe_int) (pa_cons (pe_op op_add (pv 3) pe_int) pa_nil))) pe_int))
        (pss_one (ps_set (i := 2) scPlcS.nd rfl (Or.inl rfl) (pe_op op_sub (pv 5) (pv 2))))))
      (pss_one (ps_ret (pv 2)))))), ?_⟩
    refine ⟨_, rfl, n, rfl, hn, _, rfl, _, rfl, n, a, ms, rfl, by omega, ha, hu, hm, fun H1 s1 => ?_⟩
    have ml : ms.length ≤ n := up_len hu hm
    refine ⟨_, rfl, a, _, rfl, SqL.of (s1 _ _ ha), for_enum (xs := nums ms) (fun i σ H2 => ∃ (g : Int) (x y z : Option V), σ = [some (.int (n : Int)), some (.ref a), some (.int g), x, y, z] ∧ Same H H2 ∧ g = plcS n (ms.take i).reverse) ⟨0, none, none, none, rfl, s1, by simp [plcS_nil]⟩ (fun i σ H2 _ h => ?_) ?_ ?_⟩
    · obtain ⟨g, x, y, z, rfl, s2, _⟩ := h
      exact SqL.of (s2 _ _ ha)
    · rintro i v t σ H2 hv ht ⟨g, x, y, z, rfl, s2, hg⟩
      have hi : i < ms.length := by
        have := (List.getElem?_eq_some_iff.mp hv).1
        rwa [nums_len] at this
      rw [nums_get hi] at hv
      cases hv
      have hmi := hm ms[i] (List.getElem_mem hi)
      obtain ⟨m, hmm⟩ := Int.eq_ofNat_of_zero_le hmi.1
      rw [hmm] at hmi ⊢
      have et : ms.take (i + 1) = ms.take i ++ [(m : Int)] := by rw [List.take_add_one, List.getElem?_eq_getElem hi, hmm]; rfl
      refine ⟨t, _, rfl, SqT.of upd_same, rfl, _, _, rfl, _, _, rfl, rfl, ?_⟩
      refine ⟨_, rfl, _, _, rfl, rfl, _, rfl, _, _, rfl, rfl, m + 1, i + 1, rfl, by omega, by omega, _, _, rfl, rfl, _, rfl, _, rfl, _, _, rfl, rfl, ?_⟩
      refine ⟨_, _, _, _, rfl, s2.trans (same_upd ht), ?_⟩
      have hd : Down ((m : Int) :: (ms.take i).reverse) n := by
        have : (ms.take (i + 1)).reverse = (m : Int) :: (ms.take i).reverse := by rw [et, List.reverse_append]; rfl
        rw [← this]
        exact down_of_up (List.Pairwise.sublist (List.take_sublist _ _) hu) fun x hx => hm x (List.mem_of_mem_take hx)
      rw [et, List.reverse_append]
      show _ = plcS n ((m : Int) :: (ms.take i).reverse)
      rw [plcS_cons n m _ hd, List.length_reverse, List.length_take, Nat.min_eq_left (by omega), hg]
    · rintro σ H2 ⟨g, x, y, z, rfl, s2, hg⟩
      rw [nums_len, List.take_length] at hg
      subst hg
      exact ⟨_, rfl, q H2 s2⟩
end
/-! ### what the program's own defs of orders promise -/
def spOrds : Sp := fun vs H Q _ => ∃ n : Nat, vs = [.int (n : Int)] ∧ n ≤ 20 ∧ Q (.int (fac n)) H
/-! ### orders -/
section
variable {P : Program} {w : World} {K : PySem.W.Frag} {mg : Str → Option Value} {base : Heap}
theorem scOrds : FnScope ["things", "count", "thing"] ["things"] (defScope sOrds) := ⟨rfl, rfl, rfl, by decide +kernel, rfl, by decide +kernel, by decide +kernel⟩
theorem df_ords (F : Fn0 K mg "orders" sOrds) {tO : Tok} (hM : mg "MOST_THINGS_orders" = some (.int 20 tO)) (hrg : mg "range" = none) : Df P w K mg base 1 "orders" ["things"] spOrds := by
  refine F.df scOrds (fun _ _ _ _ _ _ us hl => match us, hl with | [_], _ => rfl) (fun vs H Q E h => ?_) (fun f cdv A outer s H vs Q E hr h => ?_)
  · obtain ⟨n, rfl, _⟩ := h
    rfl
  · obtain ⟨n, rfl, hn, k⟩ := h
    refine ⟨_, pss_cons (ps_if (PW.pt (pw_or (pt_cmpR op_lt (pv 0) pe_int (nomark _)) (pw_or1 (pt_cmpR op_gt (pv 0) (pe_glob (v := .int 20) rfl hM ⟨_, rfl⟩) (nomark _))))) (pss_one ps_never) pss_nil)
      (pss_cons (ps_set (i := 1) scOrds.nd rfl (Or.inl rfl) pe_int)
      (pss_cons (ps_for PassesOwn.never rfl (pi_range1 rfl hrg (pa_cons (pv 0) pa_nil)) (pg_name (i := 2) scOrds.nd rfl (Or.inl rfl))
        (pss_one (ps_set (i := 1) scOrds.nd rfl (Or.inl rfl) (pe_op op_mul (pv 1) (pe_op op_add (pv 2) pe_int)))))
      (pss_one (ps_ret (pv 1))))), ?_⟩
    refine ⟨_, rfl, _, _, rfl, rfl, _, rfl, ?_⟩
    refine ite2 (fun z => absurd (of_decide_eq_true z) (by omega)) (fun _ => ?_)
    refine ⟨_, rfl, _, _, rfl, rfl, _, rfl, ?_⟩
    refine ite2 (fun z => absurd (of_decide_eq_true z) (by omega)) (fun _ => ?_)
    refine ⟨_, rfl, (n : Int), rfl, by omega, by omega, for_range (n := n) (fun i σ H2 => ∃ c v, σ = [some (.int (n : Int)), some (.int c), v] ∧ c = fac i ∧ H2 = H) ⟨1, none, rfl, rfl, rfl⟩ ?_ ?_⟩
    · rintro i σ H2 hi ⟨c, v, rfl, hc, rfl⟩
      have e0 : (0 : Int) + (i : Int) = (i : Int) := by omega
      rw [e0]
      refine ⟨_, rfl, _, rfl, _, _, rfl, rfl, _, _, rfl, rfl, .inr ⟨by omega, by omega⟩, ?_⟩
      exact ⟨_, _, rfl, by rw [hc, fac_succ], rfl⟩
    · rintro σ H2 ⟨c, v, rfl, hc, rfl⟩
      subst hc
      exact ⟨_, rfl, k⟩
end
/-! ### turned_where_even -/
section
variable {P : Program} {w : World} {K : PySem.W.Frag} {mg : Str → Option Value} {base : Heap}
end
/-! ### order_at -/
section
variable {P : Program} {w : World} {K : PySem.W.Frag} {mg : Str → Option Value} {base : Heap}
theorem scOrdAt : FnScope ["things", "place", "shorter_place", "aheads", "thing", "gone_through", "order", "ahead"] ["things", "place"] (defScope sOrdAt) := ⟨rfl, rfl, rfl, by decide +kernel, rfl, by decide +kernel, by decide +kernel⟩
end
/-! ### order_step -/
section
variable {P : Program} {w : World} {K : PySem.W.Frag} {mg : Str → Option Value} {base : Heap}
theorem scOrdStep : FnScope ["things", "place", "count", "order", "following", "ahead"] ["things", "place"] (defScope sOrdStep) := ⟨rfl, rfl, rfl, by decide +kernel, rfl, by decide +kernel, by decide +kernel⟩
end
/-! ### Walker: __init__, go, leap, place, home -/
def spWInit (K : PySem.W.Frag) : Sp := fun vs H Q _ => ∃ (p C dx : Addr) (t : Int), vs = [.ref p, .int t] ∧ H p = some (.ins C dx []) ∧ WC K C ∧ Q .non (upd H p (.ins C dx (wf t 0 [])))
section
variable {P : Program} {w : World} {K : PySem.W.Frag} {mg : Str → Option Value} {base : Heap} {f : Addr}
theorem scWInit : FnScope ["self", "places"] ["self", "places"] (defScope sWInit) := ⟨rfl, rfl, rfl, by decide +kernel, rfl, by decide +kernel, by decide +kernel⟩
theorem mf_winit (F : Fn1 K "__init__" "Walker.__init__" sWInit f) : Mf P w K mg base 1 f ["self", "places"] (spWInit K) := by
  refine F.mf scWInit (fun _ _ _ _ _ _ us hl => match us, hl with | [_, _], _ => rfl) (fun vs H Q E h => ?_) (fun cdv A outer s H vs Q E hr h => ?_)
  · obtain ⟨p, C, dx, t, rfl, _⟩ := h
    rfl
  · obtain ⟨p, C, dx, t, rfl, hp, T, q⟩ := h
    refine ⟨_, pss_cons (ps_fld (pv 0) (pv 1) rfl) (pss_one (ps_fld (pv 0) pe_int rfl)), ?_⟩
    refine ⟨_, rfl, _, rfl, p, C, dx, [], rfl, hp, T.cl, T.nP, (by show 0 < 1000; decide), _, rfl, p, C, dx, _, rfl, upd_same, T.cl, T.nS, (by show 1 < 1000; decide), ?_⟩
    rw [upd_upd, wf_first]
    exact q
theorem wf_len (t s : Int) {ex : List (Str × V)} (h : ex.length ≤ 100) : (wf t s ex).length < 1000 := by
  show ex.length + 1 + 1 < 1000
  omega
end
/-! ### RowWalker, SetWalker, OrderWalker: __init__, here -/
def exR (n : Int) : List (Str × V) := [("size", .int n)]
def exS (n k : Int) : List (Str × V) := [("things", .int n), ("some", .int k)]
def exO (n : Int) : List (Str × V) := [("things", .int n)]
def spRInit (C : Addr) : Sp := fun vs H Q _ => ∃ (p dx : Addr) (n : Nat), vs = [.ref p, .int (n : Int)] ∧ n ≤ 40 ∧ H p = some (.ins C dx []) ∧ Q .non (upd H p (.ins C dx (wf (two n) 0 (exR n))))
def spSInit (C : Addr) : Sp := fun vs H Q _ => ∃ (p dx : Addr) (n k : Nat), vs = [.ref p, .int (n : Int), .int (k : Int)] ∧ n ≤ 40 ∧ k ≤ n ∧ H p = some (.ins C dx []) ∧ Q .non (upd H p (.ins C dx (wf (many n k) 0 (exS n k))))
def spOInit (C : Addr) : Sp := fun vs H Q _ => ∃ (p dx : Addr) (n : Nat), vs = [.ref p, .int (n : Int)] ∧ n ≤ 20 ∧ H p = some (.ins C dx []) ∧ Q .non (upd H p (.ins C dx (wf (fac n) 0 (exO n))))
theorem n_zp : ¬ (("size" : Str) = "places") := by decide +kernel
theorem n_zs : ¬ (("size" : Str) = "standing") := by decide +kernel
theorem n_tp : ¬ (("things" : Str) = "places") := by decide +kernel
theorem n_ts : ¬ (("things" : Str) = "standing") := by decide +kernel
theorem n_mp : ¬ (("some" : Str) = "places") := by decide +kernel
theorem n_ms : ¬ (("some" : Str) = "standing") := by decide +kernel
theorem n_tm : ¬ (("things" : Str) = "some") := by decide +kernel
section
variable {P : Program} {w : World} {K : PySem.W.Frag} {mg : Str → Option Value} {base : Heap} {f fW B C : Addr}
theorem scRInit : FnScope ["self", "size"] ["self", "size"] (defScope sRInit) := ⟨rfl, rfl, rfl, by decide +kernel, rfl, by decide +kernel, by decide +kernel⟩
theorem mf_rinit (F : Fn1 K "__init__" "RowWalker.__init__" sRInit f) (T : WC K C) (nZ : NoAttr K C "size") (hB : mg "Walker" = some (.ref B)) (cB : ClsFn K B fW "__init__") (MW : Mf P w K mg base 1 fW ["self", "places"] (spWInit K)) (D : Df P w K mg base 1 "rows" ["size"] spRows) :
    Mf P w K mg base 2 f ["self", "size"] (spRInit C) := by
  refine F.mf scRInit (fun _ _ _ _ _ _ us hl => match us, hl with | [_, _], _ => rfl) (fun vs H Q E h => ?_) (fun cdv A outer s H vs Q E hr h => ?_)
  · obtain ⟨p, dx, n, rfl, _⟩ := h
    rfl
  · obtain ⟨p, dx, n, rfl, hn, hp, q⟩ := h
    refine ⟨_, pss_cons (ps_expr (pe_mfc MW hr hB cB (pa_cons (pv 0) (pa_cons (pe_df D hr (pa_cons (pv 1) pa_nil)) pa_nil)))) (pss_one (ps_fld (pv 0) (pv 1) rfl)), ?_⟩
    refine ⟨_, rfl, _, rfl, n, rfl, hn, p, C, dx, _, rfl, hp, T, ?_⟩
    refine ⟨_, rfl, _, rfl, p, C, dx, _, rfl, upd_same, T.cl, nZ, wf_len _ _ (by show _ ≤ 100; simp [exR, exS, exO]), ?_⟩
    rw [upd_upd]
    have e : putF "size" (V.int (n : Int)) (wf (two n) 0 []) = wf (two n) 0 (exR n) := by
      rw [putF_new]
      · rfl
      · intro y hy
        rcases List.mem_cons.mp hy with rfl | hy
        · exact fun z => n_zp z.symm
        · rcases List.mem_cons.mp hy with rfl | hy
          · exact fun z => n_zs z.symm
          · cases hy
    rw [e]
    exact q
theorem scSInit : FnScope ["self", "things", "some"] ["self", "things", "some"] (defScope sSInit) := ⟨rfl, rfl, rfl, by decide +kernel, rfl, by decide +kernel, by decide +kernel⟩
theorem mf_sinit (F : Fn1 K "__init__" "SetWalker.__init__" sSInit f) (T : WC K C) (nT : NoAttr K C "things") (nM : NoAttr K C "some") (hB : mg "Walker" = some (.ref B)) (cB : ClsFn K B fW "__init__") (MW : Mf P w K mg base 1 fW ["self", "places"] (spWInit K)) (D : Df P w K mg base 2 "sets" ["things", "some"] spSets) :
    Mf P w K mg base 3 f ["self", "things", "some"] (spSInit C) := by
  refine F.mf scSInit (fun _ _ _ _ _ _ us hl => match us, hl with | [_, _, _], _ => rfl) (fun vs H Q E h => ?_) (fun cdv A outer s H vs Q E hr h => ?_)
  · obtain ⟨p, dx, n, k, rfl, _⟩ := h
    rfl
  · obtain ⟨p, dx, n, k, rfl, hn, hk, hp, q⟩ := h
    refine ⟨_, pss_cons (ps_expr (pe_mfc MW hr hB cB (pa_cons (pv 0) (pa_cons (pe_df D hr (pa_cons (pv 1) (pa_cons (pv 2) pa_nil))) pa_nil)))) (pss_cons (ps_fld (pv 0) (pv 1) rfl) (pss_one (ps_fld (pv 0) (pv 2) rfl))), ?_⟩
    refine ⟨_, rfl, _, rfl, _, rfl, n, k, rfl, hn, hk, p, C, dx, _, rfl, hp, T, ?_⟩
    have e1 : putF "things" (V.int (n : Int)) (wf (many n k) 0 []) = wf (many n k) 0 (exO n) := by
      rw [putF_new]
      · rfl
      · intro y hy
        rcases List.mem_cons.mp hy with rfl | hy
        · exact fun z => n_tp z.symm
        · rcases List.mem_cons.mp hy with rfl | hy
          · exact fun z => n_ts z.symm
          · cases hy
    have e2 : putF "some" (V.int (k : Int)) (wf (many n k) 0 (exO n)) = wf (many n k) 0 (exS n k) := by
      rw [putF_new]
      · rfl
      · intro y hy
        rcases List.mem_cons.mp hy with rfl | hy
        · exact fun z => n_mp z.symm
        · rcases List.mem_cons.mp hy with rfl | hy
          · exact fun z => n_ms z.symm
          · rcases List.mem_cons.mp hy with rfl | hy
            · exact n_tm
            · cases hy
    refine ⟨_, rfl, _, rfl, p, C, dx, _, rfl, upd_same, T.cl, nT, wf_len _ _ (by show _ ≤ 100; simp [exR, exS, exO]), ?_⟩
    rw [upd_upd, e1]
    refine ⟨_, rfl, _, rfl, p, C, dx, _, rfl, upd_same, T.cl, nM, wf_len _ _ (by show _ ≤ 100; simp [exR, exS, exO]), ?_⟩
    rw [upd_upd, e2]
    exact q
theorem scOInit : FnScope ["self", "things"] ["self", "things"] (defScope sOInit) := ⟨rfl, rfl, rfl, by decide +kernel, rfl, by decide +kernel, by decide +kernel⟩
theorem mf_oinit (F : Fn1 K "__init__" "OrderWalker.__init__" sOInit f) (T : WC K C) (nT : NoAttr K C "things") (hB : mg "Walker" = some (.ref B)) (cB : ClsFn K B fW "__init__") (MW : Mf P w K mg base 1 fW ["self", "places"] (spWInit K)) (D : Df P w K mg base 1 "orders" ["things"] spOrds) :
    Mf P w K mg base 2 f ["self", "things"] (spOInit C) := by
  refine F.mf scOInit (fun _ _ _ _ _ _ us hl => match us, hl with | [_, _], _ => rfl) (fun vs H Q E h => ?_) (fun cdv A outer s H vs Q E hr h => ?_)
  · obtain ⟨p, dx, n, rfl, _⟩ := h
    rfl
  · obtain ⟨p, dx, n, rfl, hn, hp, q⟩ := h
    refine ⟨_, pss_cons (ps_expr (pe_mfc MW hr hB cB (pa_cons (pv 0) (pa_cons (pe_df D hr (pa_cons (pv 1) pa_nil)) pa_nil)))) (pss_one (ps_fld (pv 0) (pv 1) rfl)), ?_⟩
    refine ⟨_, rfl, _, rfl, n, rfl, hn, p, C, dx, _, rfl, hp, T, ?_⟩
    refine ⟨_, rfl, _, rfl, p, C, dx, _, rfl, upd_same, T.cl, nT, wf_len _ _ (by show _ ≤ 100; simp [exR, exS, exO]), ?_⟩
    rw [upd_upd]
    have e : putF "things" (V.int (n : Int)) (wf (fac n) 0 []) = wf (fac n) 0 (exO n) := by
      rw [putF_new]
      · rfl
      · intro y hy
        rcases List.mem_cons.mp hy with rfl | hy
        · exact fun z => n_tp z.symm
        · rcases List.mem_cons.mp hy with rfl | hy
          · exact fun z => n_ts z.symm
          · cases hy
    rw [e]
    exact q
end
/-! ### the three lists as one -/
inductive Lk where
  | r (C : Addr) (n : Nat)
  | s (C : Addr) (n k : Nat)
  | o (C : Addr) (n : Nat)
def Lk.C : Lk → Addr
  | .r C _ => C
  | .s C _ _ => C
  | .o C _ => C
def Lk.way : Lk → Int
  | .r .. => 0
  | .s .. => 1
  | .o .. => 2
def Lk.tot : Lk → Int
  | .r _ n => two n
  | .s _ n k => many n k
  | .o _ n => fac n
def Lk.ex : Lk → List (Str × V)
  | .r _ n => exR n
  | .s _ n k => exS n k
  | .o _ n => exO n
def Lk.what : Lk → Int → List V
  | .r _ n, p => bls (gray n p)
  | .s _ n k, p => nums (setL n k p)
  | .o _ n, p => nums (ordL n p)
def Lk.ok : Lk → Prop
  | .r _ n => n ≤ 40
  | .s _ n k => n ≤ 40 ∧ k ≤ n
  | .o _ n => n ≤ 20
theorem Lk.pos {L : Lk} (h : L.ok) : 0 < L.tot := by
  cases L with
  | r C n => exact two_pos n
  | s C n k => exact many_pos n k h.2
  | o C n => exact fac_pos n
theorem Lk.kind (L : Lk) (p q : Int) : SameKind (L.what p) (L.what q) := by
  cases L with
  | r C n => exact sameKind_bls
  | s C n k => exact sameKind_ints
  | o C n => exact sameKind_ints
theorem Lk.len {L : Lk} (h : L.ok) {p : Int} (h0 : 0 ≤ p) (h1 : p < L.tot) : (L.what p).length ≤ 100 := by
  cases L with
  | r C n =>
    have h' : n ≤ 40 := h
    show (bls (gray n p)).length ≤ 100
    rw [bls_len, gray_len]
    omega
  | s C n k =>
    have h' : n ≤ 40 ∧ k ≤ n := h
    show (nums (setL n k p)).length ≤ 100
    rw [nums_len, setL_len n k p h0 h1]
    omega
  | o C n =>
    have h' : n ≤ 20 := h
    show (nums (ordL n p)).length ≤ 100
    rw [nums_len, ordL_len]
    omega
/-- a class of walkers as the top has made it -/
structure CFull (K : PySem.W.Frag) (mg : Str → Option Value) (x qI qH : Str) (stI stH : Stmt) (a1 a2 : Str) (C fI fH fG fL fP fM : Addr) : Prop where
  mgC : mg x = some (.ref C)
  wc : WC K C
  mkC : Mk K C fI
  mH : Meth K C "here" fH
  mG : Meth K C "go" fG
  mL : Meth K C "leap" fL
  mP : Meth K C "place" fP
  mM : Meth K C "home" fM
  n1 : NoAttr K C a1
  n2 : NoAttr K C a2
  FI : Fn1 K "__init__" qI stI fI
  FH : Fn1 K "here" qH stH fH
  FG : Fn1 K "go" "Walker.go" sGo fG
  FL : Fn1 K "leap" "Walker.leap" sLeap fL
  FP : Fn1 K "place" "Walker.place" sPlace fP
  FM : Fn1 K "home" "Walker.home" sHome fM
theorem cfull_mk {K : PySem.W.Frag} {h : Heap} {mg : Str → Option Value} {x qI qH : Str} {stI stH : Stmt} {a1 a2 : Str} {C fI fH fG fL fP fM : Addr} (X : K.In h) (G : h.Ns mainGlobals mg)
    (aC : PySem.W.nsIn K mainGlobals x = some (some (.ref C))) (pg : PySem.W.plainGet K C Str.empty = true) (hd : PySem.W.hasDictIn K C = true) (po : PySem.W.plainOver K C = true) (sa : PySem.W.findIn K (.ref C) "__setattr__" = some (some (.builtin "object.__setattr__")))
    (nP : PySem.W.findIn K (.ref C) "places" = some none) (nS : PySem.W.findIn K (.ref C) "standing" = some none) (mk : PySem.W.makesIn K C = true) (kc : PySem.W.keepIn K (.ref C) = true)
    (aI : PySem.W.findIn K (.ref C) "__init__" = some (some (.ref fI))) (iI : PySem.W.isFn K (.ref fI) = true)
    (aH : PySem.W.findIn K (.ref C) "here" = some (some (.ref fH))) (iH : PySem.W.isFn K (.ref fH) = true) (kH : PySem.W.keepIn K (.ref fH) = true)
    (aG : PySem.W.findIn K (.ref C) "go" = some (some (.ref fG))) (iG : PySem.W.isFn K (.ref fG) = true) (kG : PySem.W.keepIn K (.ref fG) = true)
    (aL : PySem.W.findIn K (.ref C) "leap" = some (some (.ref fL))) (iL : PySem.W.isFn K (.ref fL) = true) (kL : PySem.W.keepIn K (.ref fL) = true)
    (aP : PySem.W.findIn K (.ref C) "place" = some (some (.ref fP))) (iP : PySem.W.isFn K (.ref fP) = true) (kP : PySem.W.keepIn K (.ref fP) = true)
    (aM : PySem.W.findIn K (.ref C) "home" = some (some (.ref fM))) (iM : PySem.W.isFn K (.ref fM) = true) (kM : PySem.W.keepIn K (.ref fM) = true)
    (n1 : PySem.W.findIn K (.ref C) a1 = some none) (n2 : PySem.W.findIn K (.ref C) a2 = some none)
    (FI : Fn1 K "__init__" qI stI fI) (FH : Fn1 K "here" qH stH fH) (FG : Fn1 K "go" "Walker.go" sGo fG) (FL : Fn1 K "leap" "Walker.leap" sLeap fL) (FP : Fn1 K "place" "Walker.place" sPlace fP) (FM : Fn1 K "home" "Walker.home" sHome fM) :
    CFull K mg x qI qH stI stH a1 a2 C fI fH fG fL fP fM :=
  ⟨PySem.W.mg_of X G aC, ⟨⟨pg, hd, po, sa⟩, nP, nS⟩, ⟨mk, aI, iI, kc⟩, ⟨aH, iH, kH⟩, ⟨aG, iG, kG⟩, ⟨aL, iL, kL⟩, ⟨aP, iP, kP⟩, ⟨aM, iM, kM⟩, n1, n2, FI, FH, FG, FL, FP, FM⟩
section
variable {P : Program} {w : World} {K : PySem.W.Frag} {mg : Str → Option Value} {base : Heap}
end
/-! ### the refusals' classes, _law_word_of -/
structure XE (K : PySem.W.Frag) (c0 c1 c2 c3 cS c : Addr) (b0 b1 b2 b3 : Bool) : Prop where
  a : XA K c
  l : (PySem.W.clsIn K c).isSome = true
  k0 : PySem.W.kitOne K (.ref c) (.ref c0) = some b0
  k1 : PySem.W.kitOne K (.ref c) (.ref c1) = some b1
  k2 : PySem.W.kitOne K (.ref c) (.ref c2) = some b2
  k3 : PySem.W.kitOne K (.ref c) (.ref c3) = some b3
  v : PySem.W.kitOne K (.ref c) (.type "ValueError") = some true
  m : PySem.W.exmOne K (.ref c) (.ref cS) = some true
structure XS (K : PySem.W.Frag) (mg : Str → Option Value) (c0 c1 c2 c3 cS : Addr) : Prop where
  mS : mg "StepError" = some (.ref cS)
  x0 : XC K mg "NoSize" c0
  x1 : XC K mg "NoPlace" c1
  x2 : XC K mg "NoStep" c2
  x3 : XC K mg "NoThing" c3
  e0 : XE K c0 c1 c2 c3 cS c0 true false false false
  e1 : XE K c0 c1 c2 c3 cS c1 false true false false
  e2 : XE K c0 c1 c2 c3 cS c2 false false true false
  e3 : XE K c0 c1 c2 c3 cS c3 false false false true
theorem xe_mk {K : PySem.W.Frag} {c0 c1 c2 c3 cS c : Addr} {b0 b1 b2 b3 : Bool} {cd : ClassData} (h1 : PySem.W.findIn K (.ref c) "__getattribute__" = some (some (.builtin "BaseException.__getattribute__"))) (h2 : PySem.W.findIn K (.ref c) "__getattr__" = some none)
    (h3 : PySem.W.findIn K (.ref c) "__class__" = some (some (.builtin "object.__class__"))) (h4 : PySem.W.mroIn K c (.type "object") = some true) (h5 : PySem.W.mroIn K c (.type "BaseException") = some true)
    (h6 : PySem.W.specialIn K (.builtin "object.__class__") "__get__" = some (some (.builtin "getset_descriptor.__get__"))) (h7 : PySem.W.takesIn K (.builtin "object.__class__") = some true) (h8 : PySem.W.clsIn K c = some cd)
    (k0 : PySem.W.kitOne K (.ref c) (.ref c0) = some b0) (k1 : PySem.W.kitOne K (.ref c) (.ref c1) = some b1) (k2 : PySem.W.kitOne K (.ref c) (.ref c2) = some b2) (k3 : PySem.W.kitOne K (.ref c) (.ref c3) = some b3)
    (v : PySem.W.kitOne K (.ref c) (.type "ValueError") = some true) (m : PySem.W.exmOne K (.ref c) (.ref cS) = some true) : XE K c0 c1 c2 c3 cS c b0 b1 b2 b3 :=
  ⟨⟨h1, h2, h3, h4, h5, h6, h7⟩, by rw [h8]; rfl, k0, k1, k2, k3, v, m⟩
def wordN : Nat → Str
  | 0 => "size"
  | 1 => "place"
  | 2 => "step"
  | _ => "thing"
def spWord (K : PySem.W.Frag) (c0 c1 c2 c3 cS : Addr) : Sp := fun vs H Q _ => ∃ (a c : Addr) (j : Nat), vs = [.ref a] ∧ H a = some (L2.exO a (.ref c)) ∧ j < 4 ∧ XE K c0 c1 c2 c3 cS c (decide (j = 0)) (decide (j = 1)) (decide (j = 2)) (decide (j = 3)) ∧ ∀ H', Same H H' → Q (.str (wordN j)) H'
section
variable {P : Program} {w : World} {K : PySem.W.Frag} {mg : Str → Option Value} {base : Heap} {c0 c1 c2 c3 cS : Addr}
theorem scWord : FnScope ["e", "kinds"] ["e"] (defScope sWord) := ⟨rfl, rfl, rfl, by decide +kernel, rfl, by decide +kernel, by decide +kernel⟩
theorem dm_word (F : Fn0 K mg "_law_word_of" sWord) (hisi : mg "isinstance" = none) (hve : mg "ValueError" = none) (S : XS K mg c0 c1 c2 c3 cS) : Dm P w K mg base 1 "_law_word_of" ["e"] (spWord K c0 c1 c2 c3 cS) := by
  refine F.dm scWord (fun _ _ _ _ _ _ us hl => match us, hl with | [_], _ => rfl) (fun vs H Q E h => ?_) (fun f cdv A outer s H vs Q E h => ?_)
  · obtain ⟨a, c, j, rfl, _⟩ := h
    rfl
  · obtain ⟨a, c, j, rfl, ha, hj, X, q⟩ := h
    refine ⟨_, pss_cons (ps_set (i := 1) scWord.nd rfl (Or.inl rfl) (pe_lst
        (pa_cons (pe_callB call_isx rfl hisi PyProof.Rows.boot_isinstance (pa_cons (pv 0) (pa_cons (pe_glob (v := .ref c0) rfl S.x0.mg rfl) pa_nil)))
        (pa_cons (pe_callB call_isx rfl hisi PyProof.Rows.boot_isinstance (pa_cons (pv 0) (pa_cons (pe_glob (v := .ref c1) rfl S.x1.mg rfl) pa_nil)))
        (pa_cons (pe_callB call_isx rfl hisi PyProof.Rows.boot_isinstance (pa_cons (pv 0) (pa_cons (pe_glob (v := .ref c2) rfl S.x2.mg rfl) pa_nil)))
        (pa_cons (pe_callB call_isx rfl hisi PyProof.Rows.boot_isinstance (pa_cons (pv 0) (pa_cons (pe_glob (v := .ref c3) rfl S.x3.mg rfl) pa_nil))) pa_nil))))))
      (pss_cons (ps_if (PW.pt (pw_or (pt_cmpR op_ne (pe_bm PySem.F.plainAttrs_list PySem.F.slot_list_count PySem.F.type_list_count mt_countB (pv 1) (pa_cons pe_bl pa_nil)) pe_int (nomark _))
          (pw_or1 (pt_not (pt_val (pe_callB call_isx rfl hisi PyProof.Rows.boot_isinstance (pa_cons (pv 0) (pa_cons (pe_bltn (v := .ty "ValueError") rfl hve PyProof.Rows.Boot.«ValueError» rfl) pa_nil)))))))) (pss_one (ps_ret pe_str)) pss_nil)
      (pss_one (ps_ret (pe_ix ix_list (pe_lst (pa_cons pe_str (pa_cons pe_str (pa_cons pe_str (pa_cons pe_str pa_nil))))) (pe_bm PySem.F.plainAttrs_list PySem.F.slot_list_index PySem.F.type_list_index mt_indexB (pv 1) (pa_cons pe_bl pa_nil)) (fun _ _ => rfl))))), ?_⟩
    refine ⟨_, rfl, a, c, .ref c0, _, _, rfl, fun u e => e, ha, X.a, X.l, X.k0, ?_⟩
    refine ⟨_, rfl, a, c, .ref c1, _, _, rfl, fun u e => e, ha, X.a, X.l, X.k1, ?_⟩
    refine ⟨_, rfl, a, c, .ref c2, _, _, rfl, fun u e => e, ha, X.a, X.l, X.k2, ?_⟩
    refine ⟨_, rfl, a, c, .ref c3, _, _, rfl, fun u e => e, ha, X.a, X.l, X.k3, ?_⟩
    refine ⟨by show 4 ≤ sizeLine; decide, fun l hl => ?_⟩
    have hne : a ≠ l := ne_of_none ha hl
    have ha2 : (upd H l (.lst (bools [decide (j = 0), decide (j = 1), decide (j = 2), decide (j = 3)]))) a = some (L2.exO a (.ref c)) := by rw [upd_ne hne]; exact ha
    have sl : Same H (upd H l (.lst (bools [decide (j = 0), decide (j = 1), decide (j = 2), decide (j = 3)]))) := same_upd hl
    have hL : (upd H l (.lst (bools [decide (j = 0), decide (j = 1), decide (j = 2), decide (j = 3)]))) l = some (.lst (bools [decide (j = 0), decide (j = 1), decide (j = 2), decide (j = 3)])) := upd_same
    show tSeq _ _ _ _ (upd H l (.lst (bools [decide (j = 0), decide (j = 1), decide (j = 2), decide (j = 3)])))
    generalize upd H l (.lst (bools [decide (j = 0), decide (j = 1), decide (j = 2), decide (j = 3)])) = H2 at ha2 sl hL ⊢
    have hcnt : [decide (j = 0), decide (j = 1), decide (j = 2), decide (j = 3)].countP (· == true) = 1 := by
      match j, hj with
      | 0, _ => rfl
      | 1, _ => rfl
      | 2, _ => rfl
      | 3, _ => rfl
    have hidx : [decide (j = 0), decide (j = 1), decide (j = 2), decide (j = 3)].idxOf true = j := by
      match j, hj with
      | 0, _ => rfl
      | 1, _ => rfl
      | 2, _ => rfl
      | 3, _ => rfl
    have hmem : true ∈ [decide (j = 0), decide (j = 1), decide (j = 2), decide (j = 3)] := by
      match j, hj with
      | 0, _ => decide
      | 1, _ => decide
      | 2, _ => decide
      | 3, _ => decide
    refine ⟨_, rfl, .inl ⟨rfl, _, SqL.of hL⟩, l, _, true, rfl, rfl, hL, rfl, _, rfl, ?_⟩
    rw [hcnt]
    refine iteNS rfl ?_
    refine ⟨_, rfl, a, c, .ty "ValueError", _, _, rfl, fun u e => e, ha2, X.a, X.l, X.v, _, rfl, ?_⟩
    refine iteF ?_
    refine ⟨by show 4 ≤ sizeLine; decide, fun l2 hl2 => ?_⟩
    refine ⟨_, rfl, .inl ⟨rfl, _, SqL.of (H := upd H2 l2 _) (by rw [upd_ne (ne_of_none hL hl2)]; exact hL)⟩, l, _, true, rfl, rfl, (by rw [upd_ne (ne_of_none hL hl2)]; exact hL), hmem, by show 4 < 1000; decide, ?_⟩
    rw [hidx]
    refine ⟨l2, _, (j : Int), V.str (wordN j), rfl, rfl, SqL.of upd_same, atI_nat ?_, q _ (sl.trans (same_upd hl2))⟩
    match j, hj with
    | 0, _ => rfl
    | 1, _ => rfl
    | 2, _ => rfl
    | 3, _ => rfl
end
/-- the wish of an exception: it is of the class that is due -/
def exW (K : PySem.W.Frag) (c0 c1 c2 c3 cS : Addr) (H : Hp) (u : Str) : XK := fun C _ H' => ∃ (c : Addr) (j : Nat), C = .ref c ∧ j < 4 ∧ XE K c0 c1 c2 c3 cS c (decide (j = 0)) (decide (j = 1)) (decide (j = 2)) (decide (j = 3)) ∧ Same H H' ∧ u = wordN j
theorem vi_eq {a b : Int} {A B : Prop} (h : a = b) (k : A) : if decide (V.int a = V.int b) = true then A else B := by
  rw [if_pos (decide_eq_true (by rw [h]))]
  exact k
theorem vi_ne {a b : Int} {A B : Prop} (h : a ≠ b) (k : B) : if decide (V.int a = V.int b) = true then A else B := by
  have e : decide (V.int a = V.int b) = false := decide_eq_false fun z => h (by injection z)
  rw [e]
  exact iteF k
/-! ### refused sizes -/
def bad40 (n : Int) : Prop := n < 0 ∨ 40 < n
def bad20 (n : Int) : Prop := n < 0 ∨ 20 < n
def spRowsS (c0 : Addr) : Sp := fun vs H Q E => ∃ n : Int, vs = [.int n] ∧ bad40 n ∧ E (.ref c0) none H
def spOrdsS (c0 : Addr) : Sp := fun vs H Q E => ∃ n : Int, vs = [.int n] ∧ bad20 n ∧ E (.ref c0) none H
def spSetsS (c0 : Addr) : Sp := fun vs H Q E => ∃ n k : Int, vs = [.int n, .int k] ∧ (bad40 n ∨ (0 ≤ n ∧ n ≤ 40 ∧ (k < 0 ∨ n < k))) ∧ E (.ref c0) none H
def spRowAtS (c0 : Addr) : Sp := fun vs H Q E => ∃ n p : Int, vs = [.int n, .int p] ∧ bad40 n ∧ E (.ref c0) none H
def spOrdAtS (c0 : Addr) : Sp := fun vs H Q E => ∃ n p : Int, vs = [.int n, .int p] ∧ bad20 n ∧ E (.ref c0) none H
def spSetAtS (c0 : Addr) : Sp := fun vs H Q E => ∃ n k p : Int, vs = [.int n, .int k, .int p] ∧ (bad40 n ∨ (0 ≤ n ∧ n ≤ 40 ∧ (k < 0 ∨ n < k))) ∧ E (.ref c0) none H
def spPlcSetS (c0 : Addr) : Sp := fun vs H Q E => ∃ (n : Int) (v : V), vs = [.int n, v] ∧ bad40 n ∧ E (.ref c0) none H
section
variable {P : Program} {w : World} {K : PySem.W.Frag} {mg : Str → Option Value} {base : Heap} {c0 : Addr}
theorem dx_rowsS (F : Fn0 K mg "rows" sRows) {tM : Tok} (hM : mg "MOST_SWITCHES" = some (.int 40 tM)) (hx : XC K mg "NoSize" c0) : Dx P w K mg base 1 "rows" ["size"] (spRowsS c0) := by
  refine F.dx scRows (fun _ _ _ _ _ _ us hl => match us, hl with | [_], _ => rfl) (fun vs H Q E h => ?_) (fun f cdv A outer s H vs Q E hr h => ?_)
  · obtain ⟨n, rfl, _⟩ := h
    rfl
  · obtain ⟨n, rfl, hb, e⟩ := h
    refine ⟨_, pss_cons (ps_if (PW.pt (pw_or (pt_cmpR op_lt (pv 0) pe_int (nomark _)) (pw_or1 (pt_cmpR op_gt (pv 0) (pe_glob (v := .int 40) rfl hM ⟨_, rfl⟩) (nomark _))))) (pss_one (ps_raise raises1 hx (pa_cons pe_str pa_nil))) pss_nil) pss_never, ?_⟩
    refine ⟨_, rfl, _, _, rfl, rfl, _, rfl, ite2 (fun z => ?_) (fun z => ?_)⟩
    · exact iteT ⟨by show 1 ≤ 1000; decide, e⟩
    · have z : ¬ n < 0 := fun y => z (decide_eq_true y)
      refine ⟨_, rfl, _, _, rfl, rfl, _, rfl, ite2 (fun _ => ⟨by show 1 ≤ 1000; decide, e⟩) (fun y => ?_)⟩
      have y : ¬ n > 40 := fun x => y (decide_eq_true x)
      unfold bad40 at hb
      omega
theorem dx_ordsS (F : Fn0 K mg "orders" sOrds) {tO : Tok} (hM : mg "MOST_THINGS_orders" = some (.int 20 tO)) (hx : XC K mg "NoSize" c0) : Dx P w K mg base 1 "orders" ["things"] (spOrdsS c0) := by
  refine F.dx scOrds (fun _ _ _ _ _ _ us hl => match us, hl with | [_], _ => rfl) (fun vs H Q E h => ?_) (fun f cdv A outer s H vs Q E hr h => ?_)
  · obtain ⟨n, rfl, _⟩ := h
    rfl
  · obtain ⟨n, rfl, hb, e⟩ := h
    refine ⟨_, pss_cons (ps_if (PW.pt (pw_or (pt_cmpR op_lt (pv 0) pe_int (nomark _)) (pw_or1 (pt_cmpR op_gt (pv 0) (pe_glob (v := .int 20) rfl hM ⟨_, rfl⟩) (nomark _))))) (pss_one (ps_raise raises1 hx (pa_cons pe_str pa_nil))) pss_nil) pss_never, ?_⟩
    refine ⟨_, rfl, _, _, rfl, rfl, _, rfl, ite2 (fun z => ?_) (fun z => ?_)⟩
    · exact iteT ⟨by show 1 ≤ 1000; decide, e⟩
    · have z : ¬ n < 0 := fun y => z (decide_eq_true y)
      refine ⟨_, rfl, _, _, rfl, rfl, _, rfl, ite2 (fun _ => ⟨by show 1 ≤ 1000; decide, e⟩) (fun y => ?_)⟩
      have y : ¬ n > 20 := fun x => y (decide_eq_true x)
      unfold bad20 at hb
      omega
theorem dx_chkTS (F : Fn0 K mg "check_things" sChkT) {tM : Tok} (hM : mg "MOST_THINGS_sets" = some (.int 40 tM)) (hx : XC K mg "NoSize" c0) : Dx P w K mg base 1 "check_things" ["things"] (spRowsS c0) := by
  refine F.dx scChkT (fun _ _ _ _ _ _ us hl => match us, hl with | [_], _ => rfl) (fun vs H Q E h => ?_) (fun f cdv A outer s H vs Q E hr h => ?_)
  · obtain ⟨n, rfl, _⟩ := h
    rfl
  · obtain ⟨n, rfl, hb, e⟩ := h
    refine ⟨_, pss_one (ps_if (PW.pt (pw_or (pt_cmpR op_lt (pv 0) pe_int (nomark _)) (pw_or1 (pt_cmpR op_gt (pv 0) (pe_glob (v := .int 40) rfl hM ⟨_, rfl⟩) (nomark _))))) (pss_one (ps_raise raises1 hx (pa_cons pe_str pa_nil))) pss_nil), ?_⟩
    refine ⟨_, rfl, _, _, rfl, rfl, _, rfl, ite2 (fun z => ?_) (fun z => ?_)⟩
    · exact iteT ⟨by show 1 ≤ 1000; decide, e⟩
    · have z : ¬ n < 0 := fun y => z (decide_eq_true y)
      refine ⟨_, rfl, _, _, rfl, rfl, _, rfl, ite2 (fun _ => ⟨by show 1 ≤ 1000; decide, e⟩) (fun y => ?_)⟩
      have y : ¬ n > 40 := fun x => y (decide_eq_true x)
      unfold bad40 at hb
      omega
theorem dx_setsS (F : Fn0 K mg "sets" sSets) (hx : XC K mg "NoSize" c0) (D : Df P w K mg base 1 "check_things" ["things"] spChkT) (X : Dx P w K mg base 1 "check_things" ["things"] (spRowsS c0)) : Dx P w K mg base 2 "sets" ["things", "some"] (spSetsS c0) := by
  refine F.dx scSets (fun _ _ _ _ _ _ us hl => match us, hl with | [_, _], _ => rfl) (fun vs H Q E h => ?_) (fun f cdv A outer s H vs Q E hr h => ?_)
  · obtain ⟨n, k, rfl, _⟩ := h
    rfl
  · obtain ⟨n, k, rfl, hb, e⟩ := h
    refine ⟨_, pss_cons (ps_expr (pe_two (pe_df D hr (pa_cons (pv 0) pa_nil)) (pe_dx X hr passes1 (pa_cons (pv 0) pa_nil))))
      (pss_cons (ps_if (PW.pt (pw_or (pt_cmpR op_lt (pv 1) pe_int (nomark _)) (pw_or1 (pt_cmpR op_gt (pv 1) (pv 0) (nomark _))))) (pss_one (ps_raise raises1 hx (pa_cons pe_str pa_nil))) pss_nil) pss_never), ?_⟩
    rcases hb with hb | ⟨h0, h1, hb⟩
    · exact .inr ⟨_, rfl, n, rfl, hb, e⟩
    · obtain ⟨m, rfl⟩ := Int.eq_ofNat_of_zero_le h0
      refine .inl ⟨_, rfl, m, rfl, by omega, ?_⟩
      refine ⟨_, rfl, _, _, rfl, rfl, _, rfl, ite2 (fun z => ?_) (fun z => ?_)⟩
      · exact iteT ⟨by show 1 ≤ 1000; decide, e⟩
      · have z : ¬ k < 0 := fun y => z (decide_eq_true y)
        refine ⟨_, rfl, _, rfl, _, _, rfl, rfl, _, rfl, ite2 (fun _ => ⟨by show 1 ≤ 1000; decide, e⟩) (fun y => ?_)⟩
        have y : ¬ k > (m : Int) := fun x => y (decide_eq_true x)
        omega
theorem dx_rowAtS (F : Fn0 K mg "row_at" sRowAt) (X : Dx P w K mg base 1 "rows" ["size"] (spRowsS c0)) : Dx P w K mg base 2 "row_at" ["size", "place"] (spRowAtS c0) := by
  refine F.dx scRowAt (fun _ _ _ _ _ _ us hl => match us, hl with | [_, _], _ => rfl) (fun vs H Q E h => ?_) (fun f cdv A outer s H vs Q E hr h => ?_)
  · obtain ⟨n, p, rfl, _⟩ := h
    rfl
  · obtain ⟨n, p, rfl, hb, e⟩ := h
    exact ⟨_, pss_cons (ps_set (i := 2) scRowAt.nd rfl (Or.inl rfl) (pe_dx X hr passes1 (pa_cons (pv 0) pa_nil))) pss_never, _, rfl, n, rfl, hb, e⟩
theorem dx_rowStepS (F : Fn0 K mg "row_step" sRowStep) (Dc : Df P w K mg base 1 "check_place" ["count", "place"] spChk) (X : Dx P w K mg base 1 "rows" ["size"] (spRowsS c0)) : Dx P w K mg base 2 "row_step" ["size", "place"] (spRowAtS c0) := by
  refine F.dx scRowStep (fun _ _ _ _ _ _ us hl => match us, hl with | [_, _], _ => rfl) (fun vs H Q E h => ?_) (fun f cdv A outer s H vs Q E hr h => ?_)
  · obtain ⟨n, p, rfl, _⟩ := h
    rfl
  · obtain ⟨n, p, rfl, hb, e⟩ := h
    exact ⟨_, pss_cons (ps_expr (pe_df Dc hr (pa_cons (pe_dx X hr passes1 (pa_cons (pv 0) pa_nil)) (pa_cons (pv 1) pa_nil)))) pss_never, _, rfl, n, rfl, hb, e⟩
theorem dx_ordAtS (F : Fn0 K mg "order_at" sOrdAt) (Dc : Df P w K mg base 1 "check_place" ["count", "place"] spChk) (X : Dx P w K mg base 1 "orders" ["things"] (spOrdsS c0)) : Dx P w K mg base 2 "order_at" ["things", "place"] (spOrdAtS c0) := by
  refine F.dx scOrdAt (fun _ _ _ _ _ _ us hl => match us, hl with | [_, _], _ => rfl) (fun vs H Q E h => ?_) (fun f cdv A outer s H vs Q E hr h => ?_)
  · obtain ⟨n, p, rfl, _⟩ := h
    rfl
  · obtain ⟨n, p, rfl, hb, e⟩ := h
    exact ⟨_, pss_cons (ps_expr (pe_df Dc hr (pa_cons (pe_dx X hr passes1 (pa_cons (pv 0) pa_nil)) (pa_cons (pv 1) pa_nil)))) pss_never, _, rfl, n, rfl, hb, e⟩
theorem dx_ordStepS (F : Fn0 K mg "order_step" sOrdStep) (X : Dx P w K mg base 1 "orders" ["things"] (spOrdsS c0)) : Dx P w K mg base 2 "order_step" ["things", "place"] (spOrdAtS c0) := by
  refine F.dx scOrdStep (fun _ _ _ _ _ _ us hl => match us, hl with | [_, _], _ => rfl) (fun vs H Q E h => ?_) (fun f cdv A outer s H vs Q E hr h => ?_)
  · obtain ⟨n, p, rfl, _⟩ := h
    rfl
  · obtain ⟨n, p, rfl, hb, e⟩ := h
    exact ⟨_, pss_cons (ps_set (i := 2) scOrdStep.nd rfl (Or.inl rfl) (pe_dx X hr passes1 (pa_cons (pv 0) pa_nil))) pss_never, _, rfl, n, rfl, hb, e⟩
theorem dx_setAtS (F : Fn0 K mg "set_at" sSetAt) (Dc : Df P w K mg base 1 "check_place" ["count", "place"] spChk) (X : Dx P w K mg base 2 "sets" ["things", "some"] (spSetsS c0)) : Dx P w K mg base 3 "set_at" ["things", "some", "place"] (spSetAtS c0) := by
  refine F.dx scSetAt (fun _ _ _ _ _ _ us hl => match us, hl with | [_, _, _], _ => rfl) (fun vs H Q E h => ?_) (fun f cdv A outer s H vs Q E hr h => ?_)
  · obtain ⟨n, k, p, rfl, _⟩ := h
    rfl
  · obtain ⟨n, k, p, rfl, hb, e⟩ := h
    exact ⟨_, pss_cons (ps_expr (pe_df Dc hr (pa_cons (pe_dx X hr passes1 (pa_cons (pv 0) (pa_cons (pv 1) pa_nil))) (pa_cons (pv 2) pa_nil)))) pss_never, _, rfl, _, rfl, n, k, rfl, hb, e⟩
theorem dx_setStepS (F : Fn0 K mg "set_step" sSetStep) (X : Dx P w K mg base 2 "sets" ["things", "some"] (spSetsS c0)) : Dx P w K mg base 3 "set_step" ["things", "some", "place"] (spSetAtS c0) := by
  refine F.dx scSetStep (fun _ _ _ _ _ _ us hl => match us, hl with | [_, _, _], _ => rfl) (fun vs H Q E h => ?_) (fun f cdv A outer s H vs Q E hr h => ?_)
  · obtain ⟨n, k, p, rfl, _⟩ := h
    rfl
  · obtain ⟨n, k, p, rfl, hb, e⟩ := h
    exact ⟨_, pss_cons (ps_set (i := 3) scSetStep.nd rfl (Or.inl rfl) (pe_dx X hr passes1 (pa_cons (pv 0) (pa_cons (pv 1) pa_nil)))) pss_never, _, rfl, _, rfl, n, k, rfl, hb, e⟩
theorem dx_plcSetS (F : Fn0 K mg "place_of_set" sPlcS) (X : Dx P w K mg base 1 "check_things" ["things"] (spRowsS c0)) : Dx P w K mg base 2 "place_of_set" ["things", "members"] (spPlcSetS c0) := by
  refine F.dx scPlcS (fun _ _ _ _ _ _ us hl => match us, hl with | [_, _], _ => rfl) (fun vs H Q E h => ?_) (fun f cdv A outer s H vs Q E hr h => ?_)
  · obtain ⟨n, v, rfl, _⟩ := h
    rfl
  · obtain ⟨n, v, rfl, hb, e⟩ := h
    exact ⟨_, pss_cons (ps_expr (pe_dx X hr passes1 (pa_cons (pv 0) pa_nil))) pss_never, _, rfl, n, rfl, hb, e⟩
/-- the walkers -/
def spInit1S (bad : Int → Prop) (c0 C : Addr) : Sp := fun vs H Q E => ∃ (p dx : Addr) (n : Int), vs = [.ref p, .int n] ∧ bad n ∧ H p = some (.ins C dx []) ∧ E (.ref c0) none H
def spInit2S (c0 C : Addr) : Sp := fun vs H Q E => ∃ (p dx : Addr) (n k : Int), vs = [.ref p, .int n, .int k] ∧ (bad40 n ∨ (0 ≤ n ∧ n ≤ 40 ∧ (k < 0 ∨ n < k))) ∧ H p = some (.ins C dx []) ∧ E (.ref c0) none H
theorem mx_rinitS {f fW B C : Addr} (F : Fn1 K "__init__" "RowWalker.__init__" sRInit f) (hB : mg "Walker" = some (.ref B)) (cB : ClsFn K B fW "__init__") (MW : Mf P w K mg base 1 fW ["self", "places"] (spWInit K)) (X : Dx P w K mg base 1 "rows" ["size"] (spRowsS c0)) :
    Mx P w K mg base 2 f ["self", "size"] (spInit1S bad40 c0 C) := by
  refine F.mx scRInit (fun _ _ _ _ _ _ us hl => match us, hl with | [_, _], _ => rfl) (fun vs H Q E h => ?_) (fun cdv A outer s H vs Q E hr h => ?_)
  · obtain ⟨p, dx, n, rfl, _⟩ := h
    rfl
  · obtain ⟨p, dx, n, rfl, hb, hp, e⟩ := h
    exact ⟨_, pss_cons (ps_expr (pe_mfc MW hr hB cB (pa_cons (pv 0) (pa_cons (pe_dx X hr passes1 (pa_cons (pv 1) pa_nil)) pa_nil)))) pss_never, _, rfl, _, rfl, n, rfl, hb, e⟩
theorem mx_oinitS {f fW B C : Addr} (F : Fn1 K "__init__" "OrderWalker.__init__" sOInit f) (hB : mg "Walker" = some (.ref B)) (cB : ClsFn K B fW "__init__") (MW : Mf P w K mg base 1 fW ["self", "places"] (spWInit K)) (X : Dx P w K mg base 1 "orders" ["things"] (spOrdsS c0)) :
    Mx P w K mg base 2 f ["self", "things"] (spInit1S bad20 c0 C) := by
  refine F.mx scOInit (fun _ _ _ _ _ _ us hl => match us, hl with | [_, _], _ => rfl) (fun vs H Q E h => ?_) (fun cdv A outer s H vs Q E hr h => ?_)
  · obtain ⟨p, dx, n, rfl, _⟩ := h
    rfl
  · obtain ⟨p, dx, n, rfl, hb, hp, e⟩ := h
    exact ⟨_, pss_cons (ps_expr (pe_mfc MW hr hB cB (pa_cons (pv 0) (pa_cons (pe_dx X hr passes1 (pa_cons (pv 1) pa_nil)) pa_nil)))) pss_never, _, rfl, _, rfl, n, rfl, hb, e⟩
theorem mx_sinitS {f fW B C : Addr} (F : Fn1 K "__init__" "SetWalker.__init__" sSInit f) (hB : mg "Walker" = some (.ref B)) (cB : ClsFn K B fW "__init__") (MW : Mf P w K mg base 1 fW ["self", "places"] (spWInit K)) (X : Dx P w K mg base 2 "sets" ["things", "some"] (spSetsS c0)) :
    Mx P w K mg base 3 f ["self", "things", "some"] (spInit2S c0 C) := by
  refine F.mx scSInit (fun _ _ _ _ _ _ us hl => match us, hl with | [_, _, _], _ => rfl) (fun vs H Q E h => ?_) (fun cdv A outer s H vs Q E hr h => ?_)
  · obtain ⟨p, dx, n, k, rfl, _⟩ := h
    rfl
  · obtain ⟨p, dx, n, k, rfl, hb, hp, e⟩ := h
    exact ⟨_, pss_cons (ps_expr (pe_mfc MW hr hB cB (pa_cons (pv 0) (pa_cons (pe_dx X hr passes1 (pa_cons (pv 1) (pa_cons (pv 2) pa_nil))) pa_nil)))) pss_never, _, rfl, _, rfl, _, rfl, n, k, rfl, hb, e⟩
end
/-! ### _law_rows_asked, _law_sets_asked, _law_tried -/
theorem new_inst {H : Hp} {x dx : Addr} {o1 o2 : HO} (hx : H x = none) (hd : H dx = none) : Same H (upd (upd H dx o1) x o2) := fun b o e => by
  rw [upd_ne (ne_of_none e hx), upd_ne (ne_of_none e hd)]
  exact e
theorem new_inst2 {H : Hp} {x dx : Addr} {o1 o2 o3 : HO} (hx : H x = none) (hd : H dx = none) : Same H (upd (upd (upd H dx o1) x o2) x o3) := fun b o e => by
  rw [upd_ne (ne_of_none e hx)]
  exact new_inst hx hd b o e
def badR (w : Nat) (n : Int) : Prop := (w < 4 ∧ bad40 n) ∨ (4 ≤ w ∧ w < 8 ∧ bad20 n)
def goodR (w : Nat) (n : Int) : Prop := ((w = 0 ∨ w = 3) ∧ n = 40) ∨ ((w = 4 ∨ w = 7) ∧ n = 20)
def badS (w : Nat) (n k : Int) : Prop := 8 ≤ w ∧ w < 14 ∧ (bad40 n ∨ (w < 12 ∧ 0 ≤ n ∧ n ≤ 40 ∧ (k < 0 ∨ n < k)))
def goodS (w : Nat) (n k : Int) : Prop := (w = 8 ∨ w = 11 ∨ w = 12) ∧ n = 40 ∧ k = 20
def spRA (c0 : Addr) : Sp := fun vs H Q E => ∃ (w : Nat) (n p : Int), vs = [.int (w : Int), .int n, .int p] ∧ ((8 ≤ w ∧ Q .non H) ∨ (badR w n ∧ ∀ H', Same H H' → E (.ref c0) none H') ∨ (goodR w n ∧ ∀ H', Same H H' → Q .non H'))
def spSA (c0 : Addr) : Sp := fun vs H Q E => ∃ (w : Nat) (n k p : Int), vs = [.int (w : Int), .int n, .int k, .int p] ∧ ((w < 8 ∧ Q .non H) ∨ (badS w n k ∧ ∀ H', Same H H' → E (.ref c0) none H') ∨ (goodS w n k ∧ ∀ H', Same H H' → Q .non H'))
section
variable {P : Program} {w : World} {K : PySem.W.Frag} {mg : Str → Option Value} {base : Heap} {c0 c1 c2 c3 cS C1 C2 C3 f1 f2 f3 : Addr}
theorem scRA : FnScope ["which", "size", "place"] ["which", "size", "place"] (defScope sRA) := ⟨rfl, rfl, rfl, by decide +kernel, rfl, by decide +kernel, by decide +kernel⟩
theorem dx_ra (F : Fn0 K mg "_law_rows_asked" sRA) (D0 : Df P w K mg base 1 "rows" ["size"] spRows) (X0 : Dx P w K mg base 1 "rows" ["size"] (spRowsS c0)) (X1 : Dx P w K mg base 2 "row_at" ["size", "place"] (spRowAtS c0)) (X2 : Dx P w K mg base 2 "row_step" ["size", "place"] (spRowAtS c0))
    (h1 : mg "RowWalker" = some (.ref C1)) (M1 : Mk K C1 f1) (I1 : Mf P w K mg base 2 f1 ["self", "size"] (spRInit C1)) (J1 : Mx P w K mg base 2 f1 ["self", "size"] (spInit1S bad40 c0 C1))
    (D4 : Df P w K mg base 1 "orders" ["things"] spOrds) (X4 : Dx P w K mg base 1 "orders" ["things"] (spOrdsS c0)) (X5 : Dx P w K mg base 2 "order_at" ["things", "place"] (spOrdAtS c0)) (X6 : Dx P w K mg base 2 "order_step" ["things", "place"] (spOrdAtS c0))
    (h3 : mg "OrderWalker" = some (.ref C3)) (M3 : Mk K C3 f3) (I3 : Mf P w K mg base 2 f3 ["self", "things"] (spOInit C3)) (J3 : Mx P w K mg base 2 f3 ["self", "things"] (spInit1S bad20 c0 C3)) : Dx P w K mg base 6 "_law_rows_asked" ["which", "size", "place"] (spRA c0) := by
  refine F.dx scRA (fun _ _ _ _ _ _ us hl => match us, hl with | [_, _, _], _ => rfl) (fun vs H Q E h => ?_) (fun f cdv A outer s' H vs Q E hr h => ?_)
  · obtain ⟨w, n, p, rfl, _⟩ := h
    rfl
  · obtain ⟨wh, n, p, rfl, h⟩ := h
    refine ⟨_, pss_cons (ps_if (pt_cmpR op_eq (pv 0) pe_int (nomark _)) (pss_one (ps_expr (pe_two (pe_df D0 hr (pa_cons (pv 1) pa_nil)) (pe_dx X0 hr passes1 (pa_cons (pv 1) pa_nil))))) pss_nil)
      (pss_cons (ps_if (pt_cmpR op_eq (pv 0) pe_int (nomark _)) (pss_one (ps_expr (pe_dx X1 hr passes1 (pa_cons (pv 1) (pa_cons (pv 2) pa_nil))))) pss_nil)
      (pss_cons (ps_if (pt_cmpR op_eq (pv 0) pe_int (nomark _)) (pss_one (ps_expr (pe_dx X2 hr passes1 (pa_cons (pv 1) (pa_cons (pv 2) pa_nil))))) pss_nil)
      (pss_cons (ps_if (pt_cmpR op_eq (pv 0) pe_int (nomark _)) (pss_one (ps_expr (pe_two (pe_mk I1 hr M1 h1 (pa_cons (pv 1) pa_nil)) (pe_mkx J1 hr passes1 M1 h1 (pa_cons (pv 1) pa_nil))))) pss_nil)
      (pss_cons (ps_if (pt_cmpR op_eq (pv 0) pe_int (nomark _)) (pss_one (ps_expr (pe_two (pe_df D4 hr (pa_cons (pv 1) pa_nil)) (pe_dx X4 hr passes1 (pa_cons (pv 1) pa_nil))))) pss_nil)
      (pss_cons (ps_if (pt_cmpR op_eq (pv 0) pe_int (nomark _)) (pss_one (ps_expr (pe_dx X5 hr passes1 (pa_cons (pv 1) (pa_cons (pv 2) pa_nil))))) pss_nil)
      (pss_cons (ps_if (pt_cmpR op_eq (pv 0) pe_int (nomark _)) (pss_one (ps_expr (pe_dx X6 hr passes1 (pa_cons (pv 1) (pa_cons (pv 2) pa_nil))))) pss_nil)
      (pss_one (ps_if (pt_cmpR op_eq (pv 0) pe_int (nomark _)) (pss_one (ps_expr (pe_two (pe_mk I3 hr M3 h3 (pa_cons (pv 1) pa_nil)) (pe_mkx J3 hr passes1 M3 h3 (pa_cons (pv 1) pa_nil))))) pss_nil)))))))), ?_⟩
    rcases h with ⟨h8, q⟩ | ⟨hb, e⟩ | ⟨hg, q⟩
    · refine ⟨_, rfl, rfl, _, rfl, vi_ne (by omega) ?_⟩
      refine ⟨_, rfl, rfl, _, rfl, vi_ne (by omega) ?_⟩
      refine ⟨_, rfl, rfl, _, rfl, vi_ne (by omega) ?_⟩
      refine ⟨_, rfl, rfl, _, rfl, vi_ne (by omega) ?_⟩
      refine ⟨_, rfl, rfl, _, rfl, vi_ne (by omega) ?_⟩
      refine ⟨_, rfl, rfl, _, rfl, vi_ne (by omega) ?_⟩
      refine ⟨_, rfl, rfl, _, rfl, vi_ne (by omega) ?_⟩
      refine ⟨_, rfl, rfl, _, rfl, vi_ne (by omega) ?_⟩
      exact q
    · have hw : wh < 8 := by unfold badR at hb; omega
      unfold badR at hb
      match wh, hw with
      | 0, _ =>
        refine ⟨_, rfl, rfl, _, rfl, vi_eq rfl ?_⟩
        exact .inr ⟨_, rfl, n, rfl, hb.elim (fun z => z.2) (fun z => absurd z.1 (by decide)), e _ (Same.refl _)⟩
      | 1, _ =>
        refine ⟨_, rfl, rfl, _, rfl, vi_ne (by decide) ?_⟩
        refine ⟨_, rfl, rfl, _, rfl, vi_eq rfl ?_⟩
        exact ⟨_, rfl, _, rfl, n, p, rfl, hb.elim (fun z => z.2) (fun z => absurd z.1 (by decide)), e _ (Same.refl _)⟩
      | 2, _ =>
        refine ⟨_, rfl, rfl, _, rfl, vi_ne (by decide) ?_⟩
        refine ⟨_, rfl, rfl, _, rfl, vi_ne (by decide) ?_⟩
        refine ⟨_, rfl, rfl, _, rfl, vi_eq rfl ?_⟩
        exact ⟨_, rfl, _, rfl, n, p, rfl, hb.elim (fun z => z.2) (fun z => absurd z.1 (by decide)), e _ (Same.refl _)⟩
      | 3, _ =>
        refine ⟨_, rfl, rfl, _, rfl, vi_ne (by decide) ?_⟩
        refine ⟨_, rfl, rfl, _, rfl, vi_ne (by decide) ?_⟩
        refine ⟨_, rfl, rfl, _, rfl, vi_ne (by decide) ?_⟩
        refine ⟨_, rfl, rfl, _, rfl, vi_eq rfl ?_⟩
        exact .inr ⟨_, rfl, fun x dx hx hdx hne => ⟨x, dx, n, rfl, hb.elim (fun z => z.2) (fun z => absurd z.1 (by decide)), upd_same, e _ (new_inst hx hdx)⟩⟩
      | 4, _ =>
        refine ⟨_, rfl, rfl, _, rfl, vi_ne (by decide) ?_⟩
        refine ⟨_, rfl, rfl, _, rfl, vi_ne (by decide) ?_⟩
        refine ⟨_, rfl, rfl, _, rfl, vi_ne (by decide) ?_⟩
        refine ⟨_, rfl, rfl, _, rfl, vi_ne (by decide) ?_⟩
        refine ⟨_, rfl, rfl, _, rfl, vi_eq rfl ?_⟩
        exact .inr ⟨_, rfl, n, rfl, hb.elim (fun z => absurd z.1 (by decide)) (fun z => z.2.2), e _ (Same.refl _)⟩
      | 5, _ =>
        refine ⟨_, rfl, rfl, _, rfl, vi_ne (by decide) ?_⟩
        refine ⟨_, rfl, rfl, _, rfl, vi_ne (by decide) ?_⟩
        refine ⟨_, rfl, rfl, _, rfl, vi_ne (by decide) ?_⟩
        refine ⟨_, rfl, rfl, _, rfl, vi_ne (by decide) ?_⟩
        refine ⟨_, rfl, rfl, _, rfl, vi_ne (by decide) ?_⟩
        refine ⟨_, rfl, rfl, _, rfl, vi_eq rfl ?_⟩
        exact ⟨_, rfl, _, rfl, n, p, rfl, hb.elim (fun z => absurd z.1 (by decide)) (fun z => z.2.2), e _ (Same.refl _)⟩
      | 6, _ =>
        refine ⟨_, rfl, rfl, _, rfl, vi_ne (by decide) ?_⟩
        refine ⟨_, rfl, rfl, _, rfl, vi_ne (by decide) ?_⟩
        refine ⟨_, rfl, rfl, _, rfl, vi_ne (by decide) ?_⟩
        refine ⟨_, rfl, rfl, _, rfl, vi_ne (by decide) ?_⟩
        refine ⟨_, rfl, rfl, _, rfl, vi_ne (by decide) ?_⟩
        refine ⟨_, rfl, rfl, _, rfl, vi_ne (by decide) ?_⟩
        refine ⟨_, rfl, rfl, _, rfl, vi_eq rfl ?_⟩
        exact ⟨_, rfl, _, rfl, n, p, rfl, hb.elim (fun z => absurd z.1 (by decide)) (fun z => z.2.2), e _ (Same.refl _)⟩
      | 7, _ =>
        refine ⟨_, rfl, rfl, _, rfl, vi_ne (by decide) ?_⟩
        refine ⟨_, rfl, rfl, _, rfl, vi_ne (by decide) ?_⟩
        refine ⟨_, rfl, rfl, _, rfl, vi_ne (by decide) ?_⟩
        refine ⟨_, rfl, rfl, _, rfl, vi_ne (by decide) ?_⟩
        refine ⟨_, rfl, rfl, _, rfl, vi_ne (by decide) ?_⟩
        refine ⟨_, rfl, rfl, _, rfl, vi_ne (by decide) ?_⟩
        refine ⟨_, rfl, rfl, _, rfl, vi_ne (by decide) ?_⟩
        refine ⟨_, rfl, rfl, _, rfl, vi_eq rfl ?_⟩
        exact .inr ⟨_, rfl, fun x dx hx hdx hne => ⟨x, dx, n, rfl, hb.elim (fun z => absurd z.1 (by decide)) (fun z => z.2.2), upd_same, e _ (new_inst hx hdx)⟩⟩
    · unfold goodR at hg
      rcases hg with ⟨h0 | h0, rfl⟩ | ⟨h0 | h0, rfl⟩
      · subst h0
        refine ⟨_, rfl, rfl, _, rfl, vi_eq rfl ?_⟩
        refine .inl ⟨_, rfl, 40, rfl, by decide, ?_⟩
        refine ⟨_, rfl, rfl, _, rfl, vi_ne (by decide) ?_⟩
        refine ⟨_, rfl, rfl, _, rfl, vi_ne (by decide) ?_⟩
        refine ⟨_, rfl, rfl, _, rfl, vi_ne (by decide) ?_⟩
        refine ⟨_, rfl, rfl, _, rfl, vi_ne (by decide) ?_⟩
        refine ⟨_, rfl, rfl, _, rfl, vi_ne (by decide) ?_⟩
        refine ⟨_, rfl, rfl, _, rfl, vi_ne (by decide) ?_⟩
        refine ⟨_, rfl, rfl, _, rfl, vi_ne (by decide) ?_⟩
        exact q _ (Same.refl _)
      · subst h0
        refine ⟨_, rfl, rfl, _, rfl, vi_ne (by decide) ?_⟩
        refine ⟨_, rfl, rfl, _, rfl, vi_ne (by decide) ?_⟩
        refine ⟨_, rfl, rfl, _, rfl, vi_ne (by decide) ?_⟩
        refine ⟨_, rfl, rfl, _, rfl, vi_eq rfl ?_⟩
        refine .inl ⟨_, rfl, fun x dx hx hdx hne => ⟨x, dx, 40, rfl, by decide, upd_same, rfl, ?_⟩⟩
        refine ⟨_, rfl, rfl, _, rfl, vi_ne (by decide) ?_⟩
        refine ⟨_, rfl, rfl, _, rfl, vi_ne (by decide) ?_⟩
        refine ⟨_, rfl, rfl, _, rfl, vi_ne (by decide) ?_⟩
        refine ⟨_, rfl, rfl, _, rfl, vi_ne (by decide) ?_⟩
        exact q _ (new_inst2 hx hdx)
      · subst h0
        refine ⟨_, rfl, rfl, _, rfl, vi_ne (by decide) ?_⟩
        refine ⟨_, rfl, rfl, _, rfl, vi_ne (by decide) ?_⟩
        refine ⟨_, rfl, rfl, _, rfl, vi_ne (by decide) ?_⟩
        refine ⟨_, rfl, rfl, _, rfl, vi_ne (by decide) ?_⟩
        refine ⟨_, rfl, rfl, _, rfl, vi_eq rfl ?_⟩
        refine .inl ⟨_, rfl, 20, rfl, by decide, ?_⟩
        refine ⟨_, rfl, rfl, _, rfl, vi_ne (by decide) ?_⟩
        refine ⟨_, rfl, rfl, _, rfl, vi_ne (by decide) ?_⟩
        refine ⟨_, rfl, rfl, _, rfl, vi_ne (by decide) ?_⟩
        exact q _ (Same.refl _)
      · subst h0
        refine ⟨_, rfl, rfl, _, rfl, vi_ne (by decide) ?_⟩
        refine ⟨_, rfl, rfl, _, rfl, vi_ne (by decide) ?_⟩
        refine ⟨_, rfl, rfl, _, rfl, vi_ne (by decide) ?_⟩
        refine ⟨_, rfl, rfl, _, rfl, vi_ne (by decide) ?_⟩
        refine ⟨_, rfl, rfl, _, rfl, vi_ne (by decide) ?_⟩
        refine ⟨_, rfl, rfl, _, rfl, vi_ne (by decide) ?_⟩
        refine ⟨_, rfl, rfl, _, rfl, vi_ne (by decide) ?_⟩
        refine ⟨_, rfl, rfl, _, rfl, vi_eq rfl ?_⟩
        refine .inl ⟨_, rfl, fun x dx hx hdx hne => ⟨x, dx, 20, rfl, by decide, upd_same, rfl, ?_⟩⟩
        exact q _ (new_inst2 hx hdx)
theorem scSA : FnScope ["which", "things", "some", "place"] ["which", "things", "some", "place"] (defScope sSA) := ⟨rfl, rfl, rfl, by decide +kernel, rfl, by decide +kernel, by decide +kernel⟩
theorem dx_sa (F : Fn0 K mg "_law_sets_asked" sSA) (D0 : Df P w K mg base 2 "sets" ["things", "some"] spSets) (X0 : Dx P w K mg base 2 "sets" ["things", "some"] (spSetsS c0)) (X1 : Dx P w K mg base 3 "set_at" ["things", "some", "place"] (spSetAtS c0)) (X2 : Dx P w K mg base 3 "set_step" ["things", "some", "place"] (spSetAtS c0))
    (h2 : mg "SetWalker" = some (.ref C2)) (M2 : Mk K C2 f2) (I2 : Mf P w K mg base 3 f2 ["self", "things", "some"] (spSInit C2)) (J2 : Mx P w K mg base 3 f2 ["self", "things", "some"] (spInit2S c0 C2))
    (D4 : Df P w K mg base 2 "place_of_set" ["things", "members"] spPlcSet) (X4 : Dx P w K mg base 2 "place_of_set" ["things", "members"] (spPlcSetS c0)) : Dx P w K mg base 6 "_law_sets_asked" ["which", "things", "some", "place"] (spSA c0) := by
  refine F.dx scSA (fun _ _ _ _ _ _ us hl => match us, hl with | [_, _, _, _], _ => rfl) (fun vs H Q E h => ?_) (fun f cdv A outer s' H vs Q E hr h => ?_)
  · obtain ⟨w, n, k, p, rfl, _⟩ := h
    rfl
  · obtain ⟨wh, n, k, p, rfl, h⟩ := h
    refine ⟨_, pss_cons (ps_if (pt_cmpR op_eq (pv 0) pe_int (nomark _)) (pss_one (ps_expr (pe_two (pe_df D0 hr (pa_cons (pv 1) (pa_cons (pv 2) pa_nil))) (pe_dx X0 hr passes1 (pa_cons (pv 1) (pa_cons (pv 2) pa_nil)))))) pss_nil)
      (pss_cons (ps_if (pt_cmpR op_eq (pv 0) pe_int (nomark _)) (pss_one (ps_expr (pe_dx X1 hr passes1 (pa_cons (pv 1) (pa_cons (pv 2) (pa_cons (pv 3) pa_nil)))))) pss_nil)
      (pss_cons (ps_if (pt_cmpR op_eq (pv 0) pe_int (nomark _)) (pss_one (ps_expr (pe_dx X2 hr passes1 (pa_cons (pv 1) (pa_cons (pv 2) (pa_cons (pv 3) pa_nil)))))) pss_nil)
      (pss_cons (ps_if (pt_cmpR op_eq (pv 0) pe_int (nomark _)) (pss_one (ps_expr (pe_two (pe_mk I2 hr M2 h2 (pa_cons (pv 1) (pa_cons (pv 2) pa_nil))) (pe_mkx J2 hr passes1 M2 h2 (pa_cons (pv 1) (pa_cons (pv 2) pa_nil)))))) pss_nil)
      (pss_cons (ps_if (pt_cmpR op_eq (pv 0) pe_int (nomark _)) (pss_one (ps_expr (pe_two (pe_df D4 hr (pa_cons (pv 1) (pa_cons (pe_lst pa_nil) pa_nil))) (pe_dx X4 hr passes1 (pa_cons (pv 1) (pa_cons (pe_lst pa_nil) pa_nil)))))) pss_nil)
      (pss_one (ps_if (pt_cmpR op_eq (pv 0) pe_int (nomark _)) (pss_one (ps_expr (pe_dx X4 hr passes1 (pa_cons (pv 1) (pa_cons (pe_ix ix_list (pe_lst (pa_cons (pe_lst (pa_cons pe_int (pa_cons pe_int pa_nil))) (pa_cons (pe_lst (pa_cons (pe_un un_neg pe_int) pa_nil)) (pa_cons (pe_lst (pa_cons pe_int pa_nil)) pa_nil)))) (pe_op op_mod (pv 2) pe_int) (fun _ _ => rfl)) pa_nil))))) pss_nil)))))), ?_⟩
    rcases h with ⟨h8, q⟩ | ⟨hb, e⟩ | ⟨hg, q⟩
    · refine ⟨_, rfl, rfl, _, rfl, vi_ne (by omega) ?_⟩
      refine ⟨_, rfl, rfl, _, rfl, vi_ne (by omega) ?_⟩
      refine ⟨_, rfl, rfl, _, rfl, vi_ne (by omega) ?_⟩
      refine ⟨_, rfl, rfl, _, rfl, vi_ne (by omega) ?_⟩
      refine ⟨_, rfl, rfl, _, rfl, vi_ne (by omega) ?_⟩
      refine ⟨_, rfl, rfl, _, rfl, vi_ne (by omega) ?_⟩
      exact q
    · unfold badS at hb
      obtain ⟨h8, h14, hb⟩ := hb
      have hb4 : wh < 12 → (bad40 n ∨ (0 ≤ n ∧ n ≤ 40 ∧ (k < 0 ∨ n < k))) := fun _ => hb.elim .inl fun z => .inr z.2
      have hb6 : 12 ≤ wh → bad40 n := fun y => hb.elim id fun z => absurd z.1 (by omega)
      obtain ⟨j, rfl⟩ : ∃ j, wh = j + 8 := ⟨wh - 8, by omega⟩
      match j, h14 with
      | 0, _ =>
        refine ⟨_, rfl, rfl, _, rfl, vi_eq rfl ?_⟩
        exact .inr ⟨_, rfl, _, rfl, n, k, rfl, hb4 (by decide), e _ (Same.refl _)⟩
      | 1, _ =>
        refine ⟨_, rfl, rfl, _, rfl, vi_ne (by decide) ?_⟩
        refine ⟨_, rfl, rfl, _, rfl, vi_eq rfl ?_⟩
        exact ⟨_, rfl, _, rfl, _, rfl, n, k, p, rfl, hb4 (by decide), e _ (Same.refl _)⟩
      | 2, _ =>
        refine ⟨_, rfl, rfl, _, rfl, vi_ne (by decide) ?_⟩
        refine ⟨_, rfl, rfl, _, rfl, vi_ne (by decide) ?_⟩
        refine ⟨_, rfl, rfl, _, rfl, vi_eq rfl ?_⟩
        exact ⟨_, rfl, _, rfl, _, rfl, n, k, p, rfl, hb4 (by decide), e _ (Same.refl _)⟩
      | 3, _ =>
        refine ⟨_, rfl, rfl, _, rfl, vi_ne (by decide) ?_⟩
        refine ⟨_, rfl, rfl, _, rfl, vi_ne (by decide) ?_⟩
        refine ⟨_, rfl, rfl, _, rfl, vi_ne (by decide) ?_⟩
        refine ⟨_, rfl, rfl, _, rfl, vi_eq rfl ?_⟩
        exact .inr ⟨_, rfl, _, rfl, fun x dx hx hdx hne => ⟨x, dx, n, k, rfl, hb4 (by decide), upd_same, e _ (new_inst hx hdx)⟩⟩
      | 4, _ =>
        refine ⟨_, rfl, rfl, _, rfl, vi_ne (by decide) ?_⟩
        refine ⟨_, rfl, rfl, _, rfl, vi_ne (by decide) ?_⟩
        refine ⟨_, rfl, rfl, _, rfl, vi_ne (by decide) ?_⟩
        refine ⟨_, rfl, rfl, _, rfl, vi_ne (by decide) ?_⟩
        refine ⟨_, rfl, rfl, _, rfl, vi_eq rfl ?_⟩
        exact .inr ⟨_, rfl, by show 0 ≤ sizeLine; decide, fun l hl => ⟨n, _, rfl, hb6 (by decide), e _ (same_upd hl)⟩⟩
      | 5, _ =>
        refine ⟨_, rfl, rfl, _, rfl, vi_ne (by decide) ?_⟩
        refine ⟨_, rfl, rfl, _, rfl, vi_ne (by decide) ?_⟩
        refine ⟨_, rfl, rfl, _, rfl, vi_ne (by decide) ?_⟩
        refine ⟨_, rfl, rfl, _, rfl, vi_ne (by decide) ?_⟩
        refine ⟨_, rfl, rfl, _, rfl, vi_ne (by decide) ?_⟩
        refine ⟨_, rfl, rfl, _, rfl, vi_eq rfl ?_⟩
        obtain ⟨y, ey, hy⟩ : ∃ y : Nat, k % 3 = (y : Int) ∧ y < 3 := ⟨(k % 3).toNat, by omega, by omega⟩
        refine ⟨_, rfl, by show 2 ≤ sizeLine; decide, fun l1 e1 => ⟨_, rfl, by show 1 ≤ sizeLine; decide, fun l2 e2 => ⟨by show 1 ≤ sizeLine; decide, fun l3 e3 => ⟨by show 3 ≤ sizeLine; decide, fun l4 e4 => ?_⟩⟩⟩⟩
        obtain ⟨v, hv⟩ : ∃ v, ([V.ref l1, V.ref l2, V.ref l3] : List V)[y]? = some v := by
          match y, hy with
          | 0, _ => exact ⟨_, rfl⟩
          | 1, _ => exact ⟨_, rfl⟩
          | 2, _ => exact ⟨_, rfl⟩
        exact ⟨_, rfl, _, _, rfl, rfl, (by show (0 : Int) < 3; decide), l4, _, (y : Int), v, rfl, (by show V.int (k % 3) = _; rw [ey]), SqL.of upd_same, atI_nat hv, n, v, rfl, hb6 (by decide), e _ ((same_upd e1).trans ((same_upd e2).trans ((same_upd e3).trans (same_upd e4))))⟩
    · unfold goodS at hg
      obtain ⟨hw, rfl, rfl⟩ := hg
      rcases hw with rfl | rfl | rfl
      · refine ⟨_, rfl, rfl, _, rfl, vi_eq rfl ?_⟩
        refine .inl ⟨_, rfl, _, rfl, 40, 20, rfl, by decide, by decide, ?_⟩
        refine ⟨_, rfl, rfl, _, rfl, vi_ne (by decide) ?_⟩
        refine ⟨_, rfl, rfl, _, rfl, vi_ne (by decide) ?_⟩
        refine ⟨_, rfl, rfl, _, rfl, vi_ne (by decide) ?_⟩
        refine ⟨_, rfl, rfl, _, rfl, vi_ne (by decide) ?_⟩
        refine ⟨_, rfl, rfl, _, rfl, vi_ne (by decide) ?_⟩
        exact q _ (Same.refl _)
      · refine ⟨_, rfl, rfl, _, rfl, vi_ne (by decide) ?_⟩
        refine ⟨_, rfl, rfl, _, rfl, vi_ne (by decide) ?_⟩
        refine ⟨_, rfl, rfl, _, rfl, vi_ne (by decide) ?_⟩
        refine ⟨_, rfl, rfl, _, rfl, vi_eq rfl ?_⟩
        refine .inl ⟨_, rfl, _, rfl, fun x dx hx hdx hne => ⟨x, dx, 40, 20, rfl, by decide, by decide, upd_same, rfl, ?_⟩⟩
        refine ⟨_, rfl, rfl, _, rfl, vi_ne (by decide) ?_⟩
        refine ⟨_, rfl, rfl, _, rfl, vi_ne (by decide) ?_⟩
        exact q _ (new_inst2 hx hdx)
      · refine ⟨_, rfl, rfl, _, rfl, vi_ne (by decide) ?_⟩
        refine ⟨_, rfl, rfl, _, rfl, vi_ne (by decide) ?_⟩
        refine ⟨_, rfl, rfl, _, rfl, vi_ne (by decide) ?_⟩
        refine ⟨_, rfl, rfl, _, rfl, vi_ne (by decide) ?_⟩
        refine ⟨_, rfl, rfl, _, rfl, vi_eq rfl ?_⟩
        refine .inl ⟨_, rfl, by show 0 ≤ sizeLine; decide, fun l hl => ⟨40, l, [], rfl, by decide, upd_same, .nil, (fun x hx => nomatch hx), fun H2 s2 => ?_⟩⟩
        refine ⟨_, rfl, rfl, _, rfl, vi_ne (by decide) ?_⟩
        exact q _ ((same_upd hl).trans s2)
def badT (w : Nat) (n k : Int) : Prop := badR w n ∨ badS w n k
def goodT (w : Nat) (n k : Int) : Prop := goodR w n ∨ goodS w n k
def spTried : Sp := fun vs H Q _ => ∃ (w : Nat) (n k p : Int), vs = [.int (w : Int), .int n, .int k, .int p] ∧ ((badT w n k ∧ ∀ H', Same H H' → Q (.str "size") H') ∨ (goodT w n k ∧ ¬ badT w n k ∧ ∀ H', Same H H' → Q (.str "done") H'))
theorem scTried : FnScope ["which", "size", "some", "place", "e"] ["which", "size", "some", "place"] (defScope sTried) := ⟨rfl, rfl, rfl, by decide +kernel, rfl, by decide +kernel, by decide +kernel⟩
theorem df_tried (F : Fn0 K mg "_law_tried" sTried) (S : XS K mg c0 c1 c2 c3 cS) (DW : Dm P w K mg base 1 "_law_word_of" ["e"] (spWord K c0 c1 c2 c3 cS))
    (DA : Dx P w K mg base 6 "_law_rows_asked" ["which", "size", "place"] (spRA c0)) (DB : Dx P w K mg base 6 "_law_sets_asked" ["which", "things", "some", "place"] (spSA c0)) : Df P w K mg base 7 "_law_tried" ["which", "size", "some", "place"] spTried := by
  refine F.df scTried (fun _ _ _ _ _ _ us hl => match us, hl with | [_, _, _, _], _ => rfl) (fun vs H Q E h => ?_) (fun f cdv A outer s' H vs Q E hr h => ?_)
  · obtain ⟨w, n, k, p, rfl, _⟩ := h
    rfl
  · obtain ⟨wh, n, k, p, rfl, h⟩ := h
    refine ⟨_, pss_cons (ps_try (i := 4) (fun C o H' => badT wh n k ∧ exW K c0 c1 c2 c3 cS H "size" C o H') S.mS scTried.nd rfl rfl
      (fun pn E1 pass => pss_cons (ps_expr (pe_dx DA hr pass (pa_cons (pv 0) (pa_cons (pv 1) (pa_cons (pv 3) pa_nil))))) (pss_one (ps_expr (pe_dx DB hr pass (pa_cons (pv 0) (pa_cons (pv 1) (pa_cons (pv 2) (pa_cons (pv 3) pa_nil))))))))
      (fun pn a => pss_one (ps_ret (pe_dm DW (hr.marked _) (pa_cons (pv 4) pa_nil))))) (pss_one (ps_ret pe_str)), ?_⟩
    refine ⟨⟨_, rfl, _, rfl, _, rfl, wh, n, p, rfl, ?_⟩, fun C' a H' σ' ⟨nb, c, j, eC, hj, X, sm, du⟩ hn' hl' => ?_⟩
    · rcases h with ⟨hb, q⟩ | ⟨hg, nb, q⟩
      · rcases hb with hb | hb
        · exact .inr (.inl ⟨hb, fun H' s2 => ⟨.inl hb, c0, 0, rfl, by decide, S.e0, s2, rfl⟩⟩)
        · refine .inl ⟨hb.1, ?_⟩
          exact ⟨_, rfl, _, rfl, _, rfl, _, rfl, wh, n, k, p, rfl, .inr (.inl ⟨hb, fun H' s2 => ⟨.inr hb, c0, 0, rfl, by decide, S.e0, s2, rfl⟩⟩)⟩
      · rcases hg with hg | hg
        · refine .inr (.inr ⟨hg, fun H2 s2 => ?_⟩)
          exact ⟨_, rfl, _, rfl, _, rfl, _, rfl, wh, n, k, p, rfl, .inl ⟨by unfold goodR at hg; omega, q _ s2⟩⟩
        · refine .inl ⟨by unfold goodS at hg; omega, ?_⟩
          exact ⟨_, rfl, _, rfl, _, rfl, _, rfl, wh, n, k, p, rfl, .inr (.inr ⟨hg, q⟩)⟩
    · subst eC
      rcases h with ⟨hb, q⟩ | ⟨hg, nb', q⟩
      · refine ⟨X.m, .ref a, ?_, a, c, j, rfl, upd_same, hj, X, fun H2 s2 => ?_⟩
        · rw [List.getElem?_set_self (by rw [hl']; show 4 < 5; decide)]
        · rw [← du]
          exact q _ (sm.trans ((same_upd hn').trans s2))
      · exact absurd nb nb'
end
/-! ### law -/
def plc15 (far : Int) : Nat → Int
  | 0 => 0
  | 1 => -1
  | 2 => far
  | _ => -1 - far
theorem plc15_at {far : Int} {y : Nat} (hy : y < 4) : ([V.int 0, V.int (-1), V.int far, V.int (-1 - far)] : List V)[y]? = some (V.int (plc15 far y)) := by
  match y, hy with
  | 0, _ => rfl
  | 1, _ => rfl
  | 2, _ => rfl
  | 3, _ => rfl
def badN (most far : Int) : Nat → Int
  | 0 => -1
  | 1 => most + 1
  | 2 => -1 - far
  | _ => most + 1 + far
theorem badN_at {most far : Int} {y : Nat} (hy : y < 4) : ([V.int (-1), V.int (most + 1), V.int (-1 - far), V.int (most + 1 + far)] : List V)[y]? = some (V.int (badN most far y)) := by
  match y, hy with
  | 0, _ => rfl
  | 1, _ => rfl
  | 2, _ => rfl
  | 3, _ => rfl
theorem badN_no {most far : Int} {y : Nat} (hf : 0 ≤ far) (hy : y < 4) : badN most far y < 0 ∨ most < badN most far y := by
  match y, hy with
  | 0, _ => left; show (-1 : Int) < 0; omega
  | 1, _ => right; show most < most + 1; omega
  | 2, _ => left; show -1 - far < 0; omega
  | 3, _ => right; show most < most + 1 + far; omega
theorem bad_20 {far k : Int} {y i : Nat} (hf : 0 ≤ far) (hy : y < 4) (h4 : 4 ≤ i) (h7 : i ≤ 7) : badT i (badN 20 far y) k :=
  .inl (.inr ⟨h4, by omega, badN_no hf hy⟩)
theorem bad_40 {far k : Int} {y i : Nat} (hf : 0 ≤ far) (hy : y < 4) (hi : i < 14) (h : ¬ (4 ≤ i ∧ i ≤ 7)) : badT i (badN 40 far y) k := by
  by_cases h4 : i < 4
  · exact .inl (.inl ⟨h4, badN_no hf hy⟩)
  · exact .inr ⟨by omega, hi, .inl (badN_no hf hy)⟩
theorem bad_some {t far : Int} {y i : Nat} (hf : 0 ≤ far) (hy : y < 4) (h8 : 8 ≤ i) (h12 : i < 12) (t0 : 0 ≤ t) (t1 : t ≤ 40) : badT i t (badN t far y) :=
  .inr ⟨h8, by omega, .inr ⟨h12, t0, t1, badN_no hf hy⟩⟩
theorem seven_at {i : Nat} {x : V} (h : ([.int 0, .int 3, .int 4, .int 7, .int 8, .int 11, .int 12] : List V)[i]? = some x) : ∃ w : Nat, x = .int (w : Int) ∧ (w = 0 ∨ w = 3 ∨ w = 4 ∨ w = 7 ∨ w = 8 ∨ w = 11 ∨ w = 12) := by
  match i, h with
  | 0, h => exact ⟨0, (Option.some.inj h).symm, by decide⟩
  | 1, h => exact ⟨3, (Option.some.inj h).symm, by decide⟩
  | 2, h => exact ⟨4, (Option.some.inj h).symm, by decide⟩
  | 3, h => exact ⟨7, (Option.some.inj h).symm, by decide⟩
  | 4, h => exact ⟨8, (Option.some.inj h).symm, by decide⟩
  | 5, h => exact ⟨11, (Option.some.inj h).symm, by decide⟩
  | 6, h => exact ⟨12, (Option.some.inj h).symm, by decide⟩
  | n + 7, h => exact nomatch h
theorem good_20 {i : Nat} (h : i = 0 ∨ i = 3 ∨ i = 4 ∨ i = 7 ∨ i = 8 ∨ i = 11 ∨ i = 12) (h4 : 4 ≤ i) (h7 : i ≤ 7) : goodT i 20 20 ∧ ¬ badT i 20 20 := by
  unfold goodT badT goodR goodS badR badS bad40 bad20
  refine ⟨.inl (.inr ⟨by omega, rfl⟩), fun z => ?_⟩
  rcases z with z | z
  · omega
  · omega
theorem good_40 {i : Nat} (h : i = 0 ∨ i = 3 ∨ i = 4 ∨ i = 7 ∨ i = 8 ∨ i = 11 ∨ i = 12) (h4 : ¬ (4 ≤ i ∧ i ≤ 7)) : goodT i 40 20 ∧ ¬ badT i 40 20 := by
  unfold goodT badT goodR goodS badR badS bad40 bad20
  constructor
  · by_cases hs : i < 4
    · exact .inl (.inl ⟨by omega, rfl⟩)
    · exact .inr ⟨by omega, rfl, rfl⟩
  · intro z
    rcases z with z | z
    · omega
    · omega
def spLaw (K : PySem.W.Frag) : Sp := fun vs H Q _ => ∃ (a : Addr) (ns : List Int), vs = [.ref a] ∧ SqL K H a (ns.map V.int) ∧ ns.length ≤ 63 ∧ ∀ H', Q (.bl true) H'
section
variable {P : Program} {w : World} {K : PySem.W.Frag} {mg : Str → Option Value} {base : Heap}
theorem scLaw : FnScope ["script", "far", "place", "way", "which", "most", "bad", "things"] ["script"] (defScope sLaw) := ⟨rfl, rfl, rfl, by decide +kernel, rfl, by decide +kernel, by decide +kernel⟩
set_option maxHeartbeats 0 in
theorem ok_law {f : Addr} {fd : FuncData} (F : Fun K "law" "law" sLaw f fd) (hrg : mg "range" = none) (D1 : Df P w K mg base 1 "_law_cell_at" ["script", "k"] (spCell K))
    (DT : Df P w K mg base 7 "_law_tried" ["which", "size", "some", "place"] spTried) : FnOk P w K mg base CX0 10 f fd ["script"] (spLaw K) := by
  refine F.ok scLaw (fun vs H Q E h => ?_) (fun cdv A outer s H vs Q E hr h => ?_)
  · obtain ⟨a, ns, rfl, _⟩ := h
    rfl
  · obtain ⟨a, ns, rfl, hS, hl, q⟩ := h
    refine ⟨_, pss_cons (ps_set (i := 1) scLaw.nd rfl (Or.inl rfl) (pe_op op_mod (pe_df D1 hr (pa_cons (pv 0) (pa_cons pe_int pa_nil))) (pe_op op_pow pe_int pe_int)))
      (pss_cons (ps_set (i := 2) scLaw.nd rfl (Or.inl rfl) (pe_ix ix_list (pe_lst (pa_cons pe_int (pa_cons (pe_un un_neg pe_int) (pa_cons (pv 1) (pa_cons (pe_op op_sub (pe_un un_neg pe_int) (pv 1)) pa_nil))))) (pe_op op_mod (pe_df D1 hr (pa_cons (pv 0) (pa_cons pe_int pa_nil))) pe_int) (fun _ _ => rfl)))
      (pss_cons (ps_set (i := 3) scLaw.nd rfl (Or.inl rfl) (pe_op op_mod (pe_df D1 hr (pa_cons (pv 0) (pa_cons pe_int pa_nil))) pe_int))
      (pss_cons (ps_for PassesOwn.never rfl (pi_range1 rfl hrg (pa_cons pe_int pa_nil)) (pg_name (i := 4) scLaw.nd rfl (Or.inl rfl))
        (pss_cons (ps_set (i := 5) scLaw.nd rfl (Or.inl rfl) (pe_ifExp (pt_chain op_le op_le pe_int (pv 4) pe_int) pe_int pe_int))
        (pss_cons (ps_set (i := 6) scLaw.nd rfl (Or.inl rfl) (pe_ix ix_list (pe_lst (pa_cons (pe_un un_neg pe_int) (pa_cons (pe_op op_add (pv 5) pe_int) (pa_cons (pe_op op_sub (pe_un un_neg pe_int) (pv 1)) (pa_cons (pe_op op_add (pe_op op_add (pv 5) pe_int) (pv 1)) pa_nil))))) (pv 3) (fun _ _ => rfl)))
        (pss_one (ps_if (pt_cmpR op_ne (pe_df DT hr (pa_cons (pv 4) (pa_cons (pv 6) (pa_cons (pe_op op_mod (pe_df D1 hr (pa_cons (pv 0) (pa_cons pe_int pa_nil))) pe_int) (pa_cons (pv 2) pa_nil))))) pe_str (nomark _)) (pss_one (ps_ret pe_bl)) pss_nil)))))
      (pss_cons (ps_set (i := 7) scLaw.nd rfl (Or.inl rfl) (pe_op op_mod (pe_df D1 hr (pa_cons (pv 0) (pa_cons pe_int pa_nil))) pe_int))
      (pss_cons (ps_for PassesOwn.never rfl (pi_range2 rfl hrg (pa_cons pe_int (pa_cons pe_int pa_nil))) (pg_name (i := 4) scLaw.nd rfl (Or.inl rfl))
        (pss_one (ps_if (pt_cmpR op_ne (pe_df DT hr (pa_cons (pv 4) (pa_cons (pv 7) (pa_cons (pe_ix ix_list (pe_lst (pa_cons (pe_un un_neg pe_int) (pa_cons (pe_op op_add (pv 7) pe_int) (pa_cons (pe_op op_sub (pe_un un_neg pe_int) (pv 1)) (pa_cons (pe_op op_add (pe_op op_add (pv 7) pe_int) (pv 1)) pa_nil))))) (pv 3) (fun _ _ => rfl)) (pa_cons (pv 2) pa_nil))))) pe_str (nomark _)) (pss_one (ps_ret pe_bl)) pss_nil)))
      (pss_cons (ps_for PassesOwn.never rfl (pi_list (pe_lst (pa_cons pe_int (pa_cons pe_int (pa_cons pe_int (pa_cons pe_int (pa_cons pe_int (pa_cons pe_int (pa_cons pe_int pa_nil))))))))) (pg_name (i := 4) scLaw.nd rfl (Or.inl rfl))
        (pss_one (ps_if (pt_cmpR op_ne (pe_df DT hr (pa_cons (pv 4) (pa_cons (pe_ifExp (pt_chain op_le op_le pe_int (pv 4) pe_int) pe_int pe_int) (pa_cons pe_int (pa_cons pe_int pa_nil))))) pe_str (nomark _)) (pss_one (ps_ret pe_bl)) pss_nil)))
      (pss_one (ps_ret pe_bl)))))))), ?_⟩
    have hfar : 0 ≤ cellN ns 0 % (10 ^ Int.toNat 30) := Int.emod_nonneg _ (by decide)
    obtain ⟨x, ex, hx⟩ : ∃ x : Nat, cellN ns 1 % 4 = (x : Int) ∧ x < 4 := ⟨(cellN ns 1 % 4).toNat, by omega, by omega⟩
    obtain ⟨y, ey, hy⟩ : ∃ y : Nat, cellN ns 2 % 4 = (y : Int) ∧ y < 4 := ⟨(cellN ns 2 % 4).toNat, by omega, by omega⟩
    refine ⟨_, rfl, a, ns, 0, rfl, hS, _, _, rfl, rfl, ⟨by decide, by decide, by decide⟩, _, _, rfl, rfl, (by show (0 : Int) < 10 ^ Int.toNat 30; decide), ?_⟩
    dsimp only
    generalize cellN ns 0 % (10 ^ Int.toNat 30) = far at hfar ⊢
    refine ⟨_, rfl, _, rfl, _, rfl, _, rfl, _, _, rfl, rfl, by show 4 ≤ sizeLine; decide, fun l0 hl0 => ?_⟩
    have S1 : Same H (upd H l0 (.lst [V.int 0, V.int (-1), V.int far, V.int (-1 - far)])) := same_upd hl0
    refine ⟨_, rfl, a, ns, 1, rfl, S1.seq hS, _, _, rfl, rfl, (by show (0 : Int) < 4; decide), l0, _, (x : Int), V.int (plc15 far x), rfl, (by show V.int (cellN ns 1 % 4) = _; rw [ex]), SqL.of upd_same, atI_nat (plc15_at hx), ?_⟩
    generalize plc15 far x = pl
    have hS1 := S1.seq hS
    dsimp only
    generalize upd H l0 (.lst [V.int 0, V.int (-1), V.int far, V.int (-1 - far)]) = H1 at hS1 ⊢
    refine ⟨_, rfl, a, ns, 2, rfl, hS1, _, _, rfl, rfl, (by show (0 : Int) < 4; decide), ?_⟩
    dsimp only
    rw [ey]
    refine ⟨14, rfl, by decide, by decide, for_range (n := 14) (fun i σ4 H4 => (∃ v4 v5 v6, σ4 = [some (.ref a), some (.int far), some (.int pl), some (.int (y : Int)), v4, v5, v6, none]) ∧ Same H1 H4) ⟨⟨_, _, _, rfl⟩, Same.refl _⟩ ?_ ?_⟩
    · rintro i σ4 H4 hi ⟨⟨v4, v5, v6, rfl⟩, s4⟩
      rw [show (0 : Int) + (i : Int) = (i : Int) by omega]
      refine ⟨_, rfl, _, _, rfl, rfl, _, rfl, ite2 (fun z => ?_) (fun z => ?_)⟩
      · have z : (4 : Int) ≤ (i : Int) := of_decide_eq_true z
        refine ⟨_, _, rfl, rfl, _, rfl, ite2 (fun z2 => ?_) (fun z2 => ?_)⟩
        · have z2 : (i : Int) ≤ 7 := of_decide_eq_true z2
          refine ⟨_, rfl, _, rfl, _, _, rfl, rfl, _, rfl, _, rfl, _, _, rfl, rfl, _, rfl, _, _, rfl, rfl, _, rfl, _, _, rfl, rfl, by show 4 ≤ sizeLine; decide, fun l hl => ?_⟩
          refine ⟨_, rfl, l, _, (y : Int), V.int (badN 20 far y), rfl, rfl, SqL.of upd_same, atI_nat (badN_at hy), ?_⟩
          exact ⟨_, rfl, _, rfl, _, rfl, a, ns, 3, rfl, (s4.trans (same_upd hl)).seq hS1, _, _, rfl, rfl, (by show (0 : Int) < 5; decide), _, rfl, i, _, _, _, rfl, .inl ⟨bad_20 hfar hy (by omega) (by omega), fun H6 s6 => ⟨rfl, _, rfl, iteNS rfl ⟨⟨_, _, _, rfl⟩, s4.trans ((same_upd hl).trans s6)⟩⟩⟩⟩
        · have z2 : ¬ (i : Int) ≤ 7 := fun c => z2 (decide_eq_true c)
          refine ⟨_, rfl, _, rfl, _, _, rfl, rfl, _, rfl, _, rfl, _, _, rfl, rfl, _, rfl, _, _, rfl, rfl, _, rfl, _, _, rfl, rfl, by show 4 ≤ sizeLine; decide, fun l hl => ?_⟩
          refine ⟨_, rfl, l, _, (y : Int), V.int (badN 40 far y), rfl, rfl, SqL.of upd_same, atI_nat (badN_at hy), ?_⟩
          exact ⟨_, rfl, _, rfl, _, rfl, a, ns, 3, rfl, (s4.trans (same_upd hl)).seq hS1, _, _, rfl, rfl, (by show (0 : Int) < 5; decide), _, rfl, i, _, _, _, rfl, .inl ⟨bad_40 hfar hy hi (by omega), fun H6 s6 => ⟨rfl, _, rfl, iteNS rfl ⟨⟨_, _, _, rfl⟩, s4.trans ((same_upd hl).trans s6)⟩⟩⟩⟩
      · have z : ¬ (4 : Int) ≤ (i : Int) := fun c => z (decide_eq_true c)
        refine ⟨_, rfl, iteF ?_⟩
        refine ⟨_, rfl, _, rfl, _, _, rfl, rfl, _, rfl, _, rfl, _, _, rfl, rfl, _, rfl, _, _, rfl, rfl, _, rfl, _, _, rfl, rfl, by show 4 ≤ sizeLine; decide, fun l hl => ?_⟩
        refine ⟨_, rfl, l, _, (y : Int), V.int (badN 40 far y), rfl, rfl, SqL.of upd_same, atI_nat (badN_at hy), ?_⟩
        exact ⟨_, rfl, _, rfl, _, rfl, a, ns, 3, rfl, (s4.trans (same_upd hl)).seq hS1, _, _, rfl, rfl, (by show (0 : Int) < 5; decide), _, rfl, i, _, _, _, rfl, .inl ⟨bad_40 hfar hy hi (by omega), fun H6 s6 => ⟨rfl, _, rfl, iteNS rfl ⟨⟨_, _, _, rfl⟩, s4.trans ((same_upd hl).trans s6)⟩⟩⟩⟩
    · rintro σ4 H4 ⟨⟨v4, v5, v6, rfl⟩, s4⟩
      have hS4 := s4.seq hS1
      obtain ⟨t, et, ht⟩ : ∃ t : Nat, cellN ns 4 % 41 = (t : Int) ∧ t ≤ 40 := ⟨(cellN ns 4 % 41).toNat, by omega, by omega⟩
      refine ⟨_, rfl, a, ns, 4, rfl, hS4, _, _, rfl, rfl, (by show (0 : Int) < 41; decide), ?_⟩
      dsimp only
      rw [et]
      refine ⟨8, 12, rfl, ⟨by decide, by decide, by decide, by decide⟩, for_range (lo := 8) (n := 4) (fun i σ5 H5 => (∃ v4 v5 v6, σ5 = [some (.ref a), some (.int far), some (.int pl), some (.int (y : Int)), v4, v5, v6, some (.int (t : Int))]) ∧ Same H4 H5) ⟨⟨_, _, _, rfl⟩, Same.refl _⟩ ?_ ?_⟩
      · rintro i σ5 H5 hi ⟨⟨v4, v5, v6, rfl⟩, s5⟩
        rw [show (8 : Int) + (i : Int) = ((8 + i : Nat) : Int) by omega]
        refine ⟨_, rfl, _, rfl, _, rfl, _, rfl, _, _, rfl, rfl, _, rfl, _, rfl, _, _, rfl, rfl, _, rfl, _, _, rfl, rfl, _, rfl, _, _, rfl, rfl, by show 4 ≤ sizeLine; decide, fun l hl => ?_⟩
        refine ⟨_, rfl, l, _, (y : Int), V.int (badN (t : Int) far y), rfl, rfl, SqL.of upd_same, atI_nat (badN_at hy), ?_⟩
        exact ⟨_, rfl, 8 + i, _, _, _, rfl, .inl ⟨bad_some hfar hy (by omega) (by omega) (by omega) (by omega), fun H6 s6 => ⟨rfl, _, rfl, iteNS rfl ⟨⟨_, _, _, rfl⟩, s5.trans ((same_upd hl).trans s6)⟩⟩⟩⟩
      · rintro σ5 H5 ⟨⟨v4, v5, v6, rfl⟩, s5⟩
        refine ⟨by show 7 ≤ sizeLine; decide, fun l hl => ⟨l, rfl, ⟨_, SqL.of upd_same⟩, for_list (xs := [.int 0, .int 3, .int 4, .int 7, .int 8, .int 11, .int 12]) (fun i σ7 H7 => (∃ v4 v5 v6, σ7 = [some (.ref a), some (.int far), some (.int pl), some (.int (y : Int)), v4, v5, v6, some (.int (t : Int))]) ∧ Same (upd H5 l (.lst [.int 0, .int 3, .int 4, .int 7, .int 8, .int 11, .int 12])) H7) ⟨⟨_, _, _, rfl⟩, Same.refl _⟩ (fun i σ7 H7 _ z => SqL.of (z.2 _ _ upd_same)) ?_ ?_⟩⟩
        · rintro i x σ7 H7 hix ⟨⟨v4, v5, v6, rfl⟩, s7⟩
          obtain ⟨wh, rfl, hwh⟩ := seven_at hix
          refine ⟨_, rfl, _, rfl, _, _, rfl, rfl, _, rfl, ite2 (fun z => ?_) (fun z => ?_)⟩
          · have z : (4 : Int) ≤ (wh : Int) := of_decide_eq_true z
            refine ⟨_, _, rfl, rfl, _, rfl, ite2 (fun z2 => ?_) (fun z2 => ?_)⟩
            · have z2 : (wh : Int) ≤ 7 := of_decide_eq_true z2
              have g := good_20 hwh (by omega) (by omega)
              exact ⟨wh, _, _, _, rfl, .inr ⟨g.1, g.2, fun H8 s8 => ⟨rfl, _, rfl, iteNS rfl ⟨⟨_, _, _, rfl⟩, s7.trans s8⟩⟩⟩⟩
            · have z2 : ¬ (wh : Int) ≤ 7 := fun c => z2 (decide_eq_true c)
              have g := good_40 hwh (by omega)
              exact ⟨wh, _, _, _, rfl, .inr ⟨g.1, g.2, fun H8 s8 => ⟨rfl, _, rfl, iteNS rfl ⟨⟨_, _, _, rfl⟩, s7.trans s8⟩⟩⟩⟩
          · have z : ¬ (4 : Int) ≤ (wh : Int) := fun c => z (decide_eq_true c)
            have g := good_40 hwh (by omega)
            exact ⟨_, rfl, iteF ⟨wh, _, _, _, rfl, .inr ⟨g.1, g.2, fun H8 s8 => ⟨rfl, _, rfl, iteNS rfl ⟨⟨_, _, _, rfl⟩, s7.trans s8⟩⟩⟩⟩⟩
        · rintro σ7 H7 _
          exact q H7
end
end On
open PySem PySem.W PyProof.Rows
set_option maxRecDepth 100000 in
set_option maxHeartbeats 0 in
theorem PySem.Challenge.cw_onestep_k15_refused_sizes_holds : PySem.Challenge.rw_onestep_k15_refused_sizes.Holds := by
  w_on; o_law; k_head; (case hw => w_witness2)
  k_fill
  refine L2.walkG (l := PySem.Challenge.rw_onestep_k15_refused_sizes) (k := 10) (st := On.sLaw) (sp := On.spLaw) rfl rfl ⟨rfl, by decide, by decide⟩ (fun w h Y => PySem.W.kIn_of Y) rfl (fun _ _ _ _ _ _ _ => rfl) (fun K H a ns hl hS => ⟨a, ns, rfl, hS, hl, fun _ => rfl⟩) ?F
  case F =>
    intro w mg h KX G
    obtain ⟨_, c_MOST_SWITCHES⟩ : ∃ t, mg "MOST_SWITCHES" = some (.int 40 t) := by
      have e : ∃ u, mg "MOST_SWITCHES" = some u ∧ ∃ t, u = Value.int 40 t := by
        refine' ⟨_, PySem.W.mg_of KX G ?zc0, ?yc0⟩
        (case zc0 => k_is)
        exact ⟨_, rfl⟩
      obtain ⟨u, e1, t, e2⟩ := e
      exact ⟨t, by rw [e1, e2]⟩
    obtain ⟨_, c_MS⟩ : ∃ t, mg "MOST_THINGS_sets" = some (.int 40 t) := by
      have e : ∃ u, mg "MOST_THINGS_sets" = some u ∧ ∃ t, u = Value.int 40 t := by
        refine' ⟨_, PySem.W.mg_of KX G ?zc1, ?yc1⟩
        (case zc1 => k_is)
        exact ⟨_, rfl⟩
      obtain ⟨u, e1, t, e2⟩ := e
      exact ⟨t, by rw [e1, e2]⟩
    obtain ⟨_, c_MO⟩ : ∃ t, mg "MOST_THINGS_orders" = some (.int 20 t) := by
      have e : ∃ u, mg "MOST_THINGS_orders" = some u ∧ ∃ t, u = Value.int 20 t := by
        refine' ⟨_, PySem.W.mg_of KX G ?zc2, ?yc2⟩
        (case zc2 => k_is)
        exact ⟨_, rfl⟩
      obtain ⟨u, e1, t, e2⟩ := e
      exact ⟨t, by rw [e1, e2]⟩
    have z_len : mg "len" = none := by
      refine' PySem.W.mg_none_of KX G ?z
      (case z => k_is)
    have z_range : mg "range" = none := by
      refine' PySem.W.mg_none_of KX G ?z
      (case z => k_is)
    have z_enumerate : mg "enumerate" = none := by
      refine' PySem.W.mg_none_of KX G ?z
      (case z => k_is)
    have z_isinstance : mg "isinstance" = none := by
      refine' PySem.W.mg_none_of KX G ?z
      (case z => k_is)
    have z_ValueError : mg "ValueError" = none := by
      refine' PySem.W.mg_none_of KX G ?z
      (case z => k_is)
    have F__law_cell_at : L2.Fn0 (L2.KOf KX) mg "_law_cell_at" On.sCell := by
      dsimp only [L2.KOf]
      refine' L2.fn0_mk KX G ?a ?l ?c ?k
      (case a => k_is); (case l => k_is); (case c => k_is); (case k => k_is)
    have F_rows : L2.Fn0 (L2.KOf KX) mg "rows" On.sRows := by
      dsimp only [L2.KOf]
      refine' L2.fn0_mk KX G ?a ?l ?c ?k
      (case a => k_is); (case l => k_is); (case c => k_is); (case k => k_is)
    have F_check_place : L2.Fn0 (L2.KOf KX) mg "check_place" On.sChk := by
      dsimp only [L2.KOf]
      refine' L2.fn0_mk KX G ?a ?l ?c ?k
      (case a => k_is); (case l => k_is); (case c => k_is); (case k => k_is)
    have F_row_at : L2.Fn0 (L2.KOf KX) mg "row_at" On.sRowAt := by
      dsimp only [L2.KOf]
      refine' L2.fn0_mk KX G ?a ?l ?c ?k
      (case a => k_is); (case l => k_is); (case c => k_is); (case k => k_is)
    have F_row_step : L2.Fn0 (L2.KOf KX) mg "row_step" On.sRowStep := by
      dsimp only [L2.KOf]
      refine' L2.fn0_mk KX G ?a ?l ?c ?k
      (case a => k_is); (case l => k_is); (case c => k_is); (case k => k_is)
    have F_check_things : L2.Fn0 (L2.KOf KX) mg "check_things" On.sChkT := by
      dsimp only [L2.KOf]
      refine' L2.fn0_mk KX G ?a ?l ?c ?k
      (case a => k_is); (case l => k_is); (case c => k_is); (case k => k_is)
    have F_count_sets : L2.Fn0 (L2.KOf KX) mg "count_sets" On.sCnt := by
      dsimp only [L2.KOf]
      refine' L2.fn0_mk KX G ?a ?l ?c ?k
      (case a => k_is); (case l => k_is); (case c => k_is); (case k => k_is)
    have F_sets : L2.Fn0 (L2.KOf KX) mg "sets" On.sSets := by
      dsimp only [L2.KOf]
      refine' L2.fn0_mk KX G ?a ?l ?c ?k
      (case a => k_is); (case l => k_is); (case c => k_is); (case k => k_is)
    have F_set_at : L2.Fn0 (L2.KOf KX) mg "set_at" On.sSetAt := by
      dsimp only [L2.KOf]
      refine' L2.fn0_mk KX G ?a ?l ?c ?k
      (case a => k_is); (case l => k_is); (case c => k_is); (case k => k_is)
    have F_set_step : L2.Fn0 (L2.KOf KX) mg "set_step" On.sSetStep := by
      dsimp only [L2.KOf]
      refine' L2.fn0_mk KX G ?a ?l ?c ?k
      (case a => k_is); (case l => k_is); (case c => k_is); (case k => k_is)
    have F_check_set : L2.Fn0 (L2.KOf KX) mg "check_set" On.sChkS := by
      dsimp only [L2.KOf]
      refine' L2.fn0_mk KX G ?a ?l ?c ?k
      (case a => k_is); (case l => k_is); (case c => k_is); (case k => k_is)
    have F_place_of_set : L2.Fn0 (L2.KOf KX) mg "place_of_set" On.sPlcS := by
      dsimp only [L2.KOf]
      refine' L2.fn0_mk KX G ?a ?l ?c ?k
      (case a => k_is); (case l => k_is); (case c => k_is); (case k => k_is)
    have F_orders : L2.Fn0 (L2.KOf KX) mg "orders" On.sOrds := by
      dsimp only [L2.KOf]
      refine' L2.fn0_mk KX G ?a ?l ?c ?k
      (case a => k_is); (case l => k_is); (case c => k_is); (case k => k_is)
    have F_order_at : L2.Fn0 (L2.KOf KX) mg "order_at" On.sOrdAt := by
      dsimp only [L2.KOf]
      refine' L2.fn0_mk KX G ?a ?l ?c ?k
      (case a => k_is); (case l => k_is); (case c => k_is); (case k => k_is)
    have F_order_step : L2.Fn0 (L2.KOf KX) mg "order_step" On.sOrdStep := by
      dsimp only [L2.KOf]
      refine' L2.fn0_mk KX G ?a ?l ?c ?k
      (case a => k_is); (case l => k_is); (case c => k_is); (case k => k_is)
    have F_law : L2.Fn0 (L2.KOf KX) mg "law" On.sLaw := by
      dsimp only [L2.KOf]
      refine' L2.fn0_mk KX G ?a ?l ?c ?k
      (case a => k_is); (case l => k_is); (case c => k_is); (case k => k_is)
    have F__law_word_of : L2.Fn0 (L2.KOf KX) mg "_law_word_of" On.sWord := by
      dsimp only [L2.KOf]
      refine' L2.fn0_mk KX G ?a ?l ?c ?k
      (case a => k_is); (case l => k_is); (case c => k_is); (case k => k_is)
    have F__law_tried : L2.Fn0 (L2.KOf KX) mg "_law_tried" On.sTried := by
      dsimp only [L2.KOf]
      refine' L2.fn0_mk KX G ?a ?l ?c ?k
      (case a => k_is); (case l => k_is); (case c => k_is); (case k => k_is)
    have F__law_rows_asked : L2.Fn0 (L2.KOf KX) mg "_law_rows_asked" On.sRA := by
      dsimp only [L2.KOf]
      refine' L2.fn0_mk KX G ?a ?l ?c ?k
      (case a => k_is); (case l => k_is); (case c => k_is); (case k => k_is)
    have F__law_sets_asked : L2.Fn0 (L2.KOf KX) mg "_law_sets_asked" On.sSA := by
      dsimp only [L2.KOf]
      refine' L2.fn0_mk KX G ?a ?l ?c ?k
      (case a => k_is); (case l => k_is); (case c => k_is); (case k => k_is)
    obtain ⟨B, fW, hB, cB, FW⟩ : ∃ B fW, mg "Walker" = some (.ref B) ∧ L2.ClsFn (L2.KOf KX) B fW "__init__" ∧ L2.Fn1 (L2.KOf KX) "__init__" "Walker.__init__" On.sWInit fW := by
      dsimp only [L2.KOf]
      refine' ⟨_, _, PySem.W.mg_of KX G ?wqa, ⟨?wqg, ?wqr, ?wqf, ?wqk⟩, L2.fn1_mk ?wql ?wqc ?wqq⟩
      (case wqa => k_is); (case wqg => k_is); (case wqr => k_is); (case wqf => k_is); (case wqk => k_is); (case wql => k_is); (case wqc => k_is); (case wqq => k_is)
    obtain ⟨C1, fI1, fH1, fG1, fL1, fP1, fM1, CW1⟩ : ∃ C fI fH fG fL fP fM, On.CFull (L2.KOf KX) mg "RowWalker" "RowWalker.__init__" "RowWalker.here" On.sRInit On.sRHere "size" "size" C fI fH fG fL fP fM := by
      dsimp only [L2.KOf]
      refine' ⟨_, _, _, _, _, _, _, On.cfull_mk KX G ?wqaC1 ?wqpg1 ?wqhd1 ?wqpo1 ?wqsa1 ?wqnP1 ?wqnS1 ?wqmk1 ?wqkc1 ?wqaI1 ?wqiI1 ?wqaH1 ?wqiH1 ?wqkH1 ?wqaG1 ?wqiG1 ?wqkG1 ?wqaL1 ?wqiL1 ?wqkL1 ?wqaP1 ?wqiP1 ?wqkP1 ?wqaM1 ?wqiM1 ?wqkM1 ?wqn11 ?wqn21 (L2.fn1_mk ?wqlI1 ?wqcI1 ?wqqI1) (L2.fn1_mk ?wqlH1 ?wqcH1 ?wqqH1) (L2.fn1_mk ?wqlG1 ?wqcG1 ?wqqG1) (L2.fn1_mk ?wqlL1 ?wqcL1 ?wqqL1) (L2.fn1_mk ?wqlP1 ?wqcP1 ?wqqP1) (L2.fn1_mk ?wqlM1 ?wqcM1 ?wqqM1)⟩
      (case wqaC1 => k_is)
      (case wqpg1 => k_is)
      (case wqhd1 => k_is)
      (case wqpo1 => k_is)
      (case wqsa1 => k_is)
      (case wqnP1 => k_is)
      (case wqnS1 => k_is)
      (case wqmk1 => k_is)
      (case wqkc1 => k_is)
      (case wqaI1 => k_is)
      (case wqiI1 => k_is)
      (case wqaH1 => k_is)
      (case wqiH1 => k_is)
      (case wqkH1 => k_is)
      (case wqaG1 => k_is)
      (case wqiG1 => k_is)
      (case wqkG1 => k_is)
      (case wqaL1 => k_is)
      (case wqiL1 => k_is)
      (case wqkL1 => k_is)
      (case wqaP1 => k_is)
      (case wqiP1 => k_is)
      (case wqkP1 => k_is)
      (case wqaM1 => k_is)
      (case wqiM1 => k_is)
      (case wqkM1 => k_is)
      (case wqn11 => k_is)
      (case wqn21 => k_is)
      (case wqlI1 => k_is)
      (case wqcI1 => k_is)
      (case wqqI1 => k_is)
      (case wqlH1 => k_is)
      (case wqcH1 => k_is)
      (case wqqH1 => k_is)
      (case wqlG1 => k_is)
      (case wqcG1 => k_is)
      (case wqqG1 => k_is)
      (case wqlL1 => k_is)
      (case wqcL1 => k_is)
      (case wqqL1 => k_is)
      (case wqlP1 => k_is)
      (case wqcP1 => k_is)
      (case wqqP1 => k_is)
      (case wqlM1 => k_is)
      (case wqcM1 => k_is)
      (case wqqM1 => k_is)
    obtain ⟨C2, fI2, fH2, fG2, fL2, fP2, fM2, CW2⟩ : ∃ C fI fH fG fL fP fM, On.CFull (L2.KOf KX) mg "SetWalker" "SetWalker.__init__" "SetWalker.here" On.sSInit On.sSHere "things" "some" C fI fH fG fL fP fM := by
      dsimp only [L2.KOf]
      refine' ⟨_, _, _, _, _, _, _, On.cfull_mk KX G ?wqaC2 ?wqpg2 ?wqhd2 ?wqpo2 ?wqsa2 ?wqnP2 ?wqnS2 ?wqmk2 ?wqkc2 ?wqaI2 ?wqiI2 ?wqaH2 ?wqiH2 ?wqkH2 ?wqaG2 ?wqiG2 ?wqkG2 ?wqaL2 ?wqiL2 ?wqkL2 ?wqaP2 ?wqiP2 ?wqkP2 ?wqaM2 ?wqiM2 ?wqkM2 ?wqn12 ?wqn22 (L2.fn1_mk ?wqlI2 ?wqcI2 ?wqqI2) (L2.fn1_mk ?wqlH2 ?wqcH2 ?wqqH2) (L2.fn1_mk ?wqlG2 ?wqcG2 ?wqqG2) (L2.fn1_mk ?wqlL2 ?wqcL2 ?wqqL2) (L2.fn1_mk ?wqlP2 ?wqcP2 ?wqqP2) (L2.fn1_mk ?wqlM2 ?wqcM2 ?wqqM2)⟩
      (case wqaC2 => k_is)
      (case wqpg2 => k_is)
      (case wqhd2 => k_is)
      (case wqpo2 => k_is)
      (case wqsa2 => k_is)
      (case wqnP2 => k_is)
      (case wqnS2 => k_is)
      (case wqmk2 => k_is)
      (case wqkc2 => k_is)
      (case wqaI2 => k_is)
      (case wqiI2 => k_is)
      (case wqaH2 => k_is)
      (case wqiH2 => k_is)
      (case wqkH2 => k_is)
      (case wqaG2 => k_is)
      (case wqiG2 => k_is)
      (case wqkG2 => k_is)
      (case wqaL2 => k_is)
      (case wqiL2 => k_is)
      (case wqkL2 => k_is)
      (case wqaP2 => k_is)
      (case wqiP2 => k_is)
      (case wqkP2 => k_is)
      (case wqaM2 => k_is)
      (case wqiM2 => k_is)
      (case wqkM2 => k_is)
      (case wqn12 => k_is)
      (case wqn22 => k_is)
      (case wqlI2 => k_is)
      (case wqcI2 => k_is)
      (case wqqI2 => k_is)
      (case wqlH2 => k_is)
      (case wqcH2 => k_is)
      (case wqqH2 => k_is)
      (case wqlG2 => k_is)
      (case wqcG2 => k_is)
      (case wqqG2 => k_is)
      (case wqlL2 => k_is)
      (case wqcL2 => k_is)
      (case wqqL2 => k_is)
      (case wqlP2 => k_is)
      (case wqcP2 => k_is)
      (case wqqP2 => k_is)
      (case wqlM2 => k_is)
      (case wqcM2 => k_is)
      (case wqqM2 => k_is)
    obtain ⟨C3, fI3, fH3, fG3, fL3, fP3, fM3, CW3⟩ : ∃ C fI fH fG fL fP fM, On.CFull (L2.KOf KX) mg "OrderWalker" "OrderWalker.__init__" "OrderWalker.here" On.sOInit On.sOHere "things" "things" C fI fH fG fL fP fM := by
      dsimp only [L2.KOf]
      refine' ⟨_, _, _, _, _, _, _, On.cfull_mk KX G ?wqaC3 ?wqpg3 ?wqhd3 ?wqpo3 ?wqsa3 ?wqnP3 ?wqnS3 ?wqmk3 ?wqkc3 ?wqaI3 ?wqiI3 ?wqaH3 ?wqiH3 ?wqkH3 ?wqaG3 ?wqiG3 ?wqkG3 ?wqaL3 ?wqiL3 ?wqkL3 ?wqaP3 ?wqiP3 ?wqkP3 ?wqaM3 ?wqiM3 ?wqkM3 ?wqn13 ?wqn23 (L2.fn1_mk ?wqlI3 ?wqcI3 ?wqqI3) (L2.fn1_mk ?wqlH3 ?wqcH3 ?wqqH3) (L2.fn1_mk ?wqlG3 ?wqcG3 ?wqqG3) (L2.fn1_mk ?wqlL3 ?wqcL3 ?wqqL3) (L2.fn1_mk ?wqlP3 ?wqcP3 ?wqqP3) (L2.fn1_mk ?wqlM3 ?wqcM3 ?wqqM3)⟩
      (case wqaC3 => k_is)
      (case wqpg3 => k_is)
      (case wqhd3 => k_is)
      (case wqpo3 => k_is)
      (case wqsa3 => k_is)
      (case wqnP3 => k_is)
      (case wqnS3 => k_is)
      (case wqmk3 => k_is)
      (case wqkc3 => k_is)
      (case wqaI3 => k_is)
      (case wqiI3 => k_is)
      (case wqaH3 => k_is)
      (case wqiH3 => k_is)
      (case wqkH3 => k_is)
      (case wqaG3 => k_is)
      (case wqiG3 => k_is)
      (case wqkG3 => k_is)
      (case wqaL3 => k_is)
      (case wqiL3 => k_is)
      (case wqkL3 => k_is)
      (case wqaP3 => k_is)
      (case wqiP3 => k_is)
      (case wqkP3 => k_is)
      (case wqaM3 => k_is)
      (case wqiM3 => k_is)
      (case wqkM3 => k_is)
      (case wqn13 => k_is)
      (case wqn23 => k_is)
      (case wqlI3 => k_is)
      (case wqcI3 => k_is)
      (case wqqI3 => k_is)
      (case wqlH3 => k_is)
      (case wqcH3 => k_is)
      (case wqqH3 => k_is)
      (case wqlG3 => k_is)
      (case wqcG3 => k_is)
      (case wqqG3 => k_is)
      (case wqlL3 => k_is)
      (case wqcL3 => k_is)
      (case wqqL3 => k_is)
      (case wqlP3 => k_is)
      (case wqcP3 => k_is)
      (case wqqP3 => k_is)
      (case wqlM3 => k_is)
      (case wqcM3 => k_is)
      (case wqqM3 => k_is)
    obtain ⟨c0, c1, c2, c3, cS, XS0⟩ : ∃ c0 c1 c2 c3 cS, On.XS (L2.KOf KX) mg c0 c1 c2 c3 cS := by
      dsimp only [L2.KOf]
      refine' ⟨_, _, _, _, _, PySem.W.mg_of KX G ?xnS, ⟨PySem.W.mg_of KX G ?xn0, ?xo0⟩, ⟨PySem.W.mg_of KX G ?xn1, ?xo1⟩, ⟨PySem.W.mg_of KX G ?xn2, ?xo2⟩, ⟨PySem.W.mg_of KX G ?xn3, ?xo3⟩, (On.xe_mk ?xea0 ?xeb0 ?xec0 ?xed0 ?xee0 ?xef0 ?xeg0 ?xeh0 ?xk00 ?xk10 ?xk20 ?xk30 ?xkv0 ?xm0), (On.xe_mk ?xea1 ?xeb1 ?xec1 ?xed1 ?xee1 ?xef1 ?xeg1 ?xeh1 ?xk01 ?xk11 ?xk21 ?xk31 ?xkv1 ?xm1), (On.xe_mk ?xea2 ?xeb2 ?xec2 ?xed2 ?xee2 ?xef2 ?xeg2 ?xeh2 ?xk02 ?xk12 ?xk22 ?xk32 ?xkv2 ?xm2), (On.xe_mk ?xea3 ?xeb3 ?xec3 ?xed3 ?xee3 ?xef3 ?xeg3 ?xeh3 ?xk03 ?xk13 ?xk23 ?xk33 ?xkv3 ?xm3)⟩
      (case xnS => k_is); (case xn0 => k_is); (case xn1 => k_is); (case xn2 => k_is); (case xn3 => k_is)
      (case xo0 => k_exc); (case xo1 => k_exc); (case xo2 => k_exc); (case xo3 => k_exc)
      (case xea0 => k_is); (case xeb0 => k_is); (case xec0 => k_is); (case xed0 => k_is); (case xee0 => k_is); (case xef0 => k_is); (case xeg0 => k_is); (case xeh0 => k_is)
      (case xk00 => kit_is); (case xk10 => kit_is); (case xk20 => kit_is); (case xk30 => kit_is); (case xkv0 => kit_is); (case xm0 => kts_exm)
      (case xea1 => k_is); (case xeb1 => k_is); (case xec1 => k_is); (case xed1 => k_is); (case xee1 => k_is); (case xef1 => k_is); (case xeg1 => k_is); (case xeh1 => k_is)
      (case xk01 => kit_is); (case xk11 => kit_is); (case xk21 => kit_is); (case xk31 => kit_is); (case xkv1 => kit_is); (case xm1 => kts_exm)
      (case xea2 => k_is); (case xeb2 => k_is); (case xec2 => k_is); (case xed2 => k_is); (case xee2 => k_is); (case xef2 => k_is); (case xeg2 => k_is); (case xeh2 => k_is)
      (case xk02 => kit_is); (case xk12 => kit_is); (case xk22 => kit_is); (case xk32 => kit_is); (case xkv2 => kit_is); (case xm2 => kts_exm)
      (case xea3 => k_is); (case xeb3 => k_is); (case xec3 => k_is); (case xed3 => k_is); (case xee3 => k_is); (case xef3 => k_is); (case xeg3 => k_is); (case xeh3 => k_is)
      (case xk03 => kit_is); (case xk13 => kit_is); (case xk23 => kit_is); (case xk33 => kit_is); (case xkv3 => kit_is); (case xm3 => kts_exm)
    obtain ⟨f, fd, hF, hm⟩ := F_law.ex
    refine ⟨f, fd, hF, hm, fun base => ?_⟩
    have D__law_cell_at := On.df_cell (P := (PySem.Challenge.rw_onestep_k15_refused_sizes).prog) (w := w) (base := base) F__law_cell_at z_len
    have D_rows := On.df_rows (P := (PySem.Challenge.rw_onestep_k15_refused_sizes).prog) (w := w) (base := base) F_rows c_MOST_SWITCHES z_range
    have D_check_place := On.df_chk (P := (PySem.Challenge.rw_onestep_k15_refused_sizes).prog) (w := w) (base := base) F_check_place 
    have D_check_things := On.df_chkT (P := (PySem.Challenge.rw_onestep_k15_refused_sizes).prog) (w := w) (base := base) F_check_things c_MS
    have D_count_sets := On.df_cnt (P := (PySem.Challenge.rw_onestep_k15_refused_sizes).prog) (w := w) (base := base) F_count_sets z_range
    have D_sets := On.df_sets (P := (PySem.Challenge.rw_onestep_k15_refused_sizes).prog) (w := w) (base := base) F_sets D_check_things D_count_sets
    have D_check_set := On.df_chkS (P := (PySem.Challenge.rw_onestep_k15_refused_sizes).prog) (w := w) (base := base) F_check_set z_range
    have D_place_of_set := On.df_plcS (P := (PySem.Challenge.rw_onestep_k15_refused_sizes).prog) (w := w) (base := base) F_place_of_set z_enumerate D_check_things D_check_set D_count_sets
    have D_orders := On.df_ords (P := (PySem.Challenge.rw_onestep_k15_refused_sizes).prog) (w := w) (base := base) F_orders c_MO z_range
    have MW := On.mf_winit (P := (PySem.Challenge.rw_onestep_k15_refused_sizes).prog) (w := w) (base := base) (mg := mg) FW
    have RI := On.mf_rinit CW1.FI CW1.wc CW1.n1 hB cB MW D_rows
    have SI := On.mf_sinit CW2.FI CW2.wc CW2.n1 CW2.n2 hB cB MW D_sets
    have OI := On.mf_oinit CW3.FI CW3.wc CW3.n1 hB cB MW D_orders
    have XR := On.dx_rowsS (P := (PySem.Challenge.rw_onestep_k15_refused_sizes).prog) (w := w) (base := base) F_rows c_MOST_SWITCHES XS0.x0
    have XO := On.dx_ordsS (P := (PySem.Challenge.rw_onestep_k15_refused_sizes).prog) (w := w) (base := base) F_orders c_MO XS0.x0
    have XT := On.dx_chkTS (P := (PySem.Challenge.rw_onestep_k15_refused_sizes).prog) (w := w) (base := base) F_check_things c_MS XS0.x0
    have XS1 := On.dx_setsS (P := (PySem.Challenge.rw_onestep_k15_refused_sizes).prog) (w := w) (base := base) F_sets XS0.x0 D_check_things XT
    have XRA := On.dx_rowAtS (P := (PySem.Challenge.rw_onestep_k15_refused_sizes).prog) (w := w) (base := base) F_row_at XR
    have XRS := On.dx_rowStepS (P := (PySem.Challenge.rw_onestep_k15_refused_sizes).prog) (w := w) (base := base) F_row_step D_check_place XR
    have XOA := On.dx_ordAtS (P := (PySem.Challenge.rw_onestep_k15_refused_sizes).prog) (w := w) (base := base) F_order_at D_check_place XO
    have XOS := On.dx_ordStepS (P := (PySem.Challenge.rw_onestep_k15_refused_sizes).prog) (w := w) (base := base) F_order_step XO
    have XSA := On.dx_setAtS (P := (PySem.Challenge.rw_onestep_k15_refused_sizes).prog) (w := w) (base := base) F_set_at D_check_place XS1
    have XSS := On.dx_setStepS (P := (PySem.Challenge.rw_onestep_k15_refused_sizes).prog) (w := w) (base := base) F_set_step XS1
    have XP := On.dx_plcSetS (P := (PySem.Challenge.rw_onestep_k15_refused_sizes).prog) (w := w) (base := base) F_place_of_set XT
    have J1 := On.mx_rinitS (C := C1) CW1.FI hB cB MW XR
    have J2 := On.mx_sinitS (C := C2) CW2.FI hB cB MW XS1
    have J3 := On.mx_oinitS (C := C3) CW3.FI hB cB MW XO
    have DW := On.dm_word (P := (PySem.Challenge.rw_onestep_k15_refused_sizes).prog) (w := w) (base := base) F__law_word_of z_isinstance z_ValueError XS0
    have DA := On.dx_ra (P := (PySem.Challenge.rw_onestep_k15_refused_sizes).prog) (w := w) (base := base) F__law_rows_asked D_rows XR XRA XRS CW1.mgC CW1.mkC RI J1 D_orders XO XOA XOS CW3.mgC CW3.mkC OI J3
    have DB := On.dx_sa (P := (PySem.Challenge.rw_onestep_k15_refused_sizes).prog) (w := w) (base := base) F__law_sets_asked D_sets XS1 XSA XSS CW2.mgC CW2.mkC SI J2 D_place_of_set XP
    have DT := On.df_tried (P := (PySem.Challenge.rw_onestep_k15_refused_sizes).prog) (w := w) (base := base) F__law_tried XS0 DW DA DB
    exact On.ok_law hF z_range D__law_cell_at DT
