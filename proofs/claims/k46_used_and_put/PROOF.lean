import PyProof.Rows.All
import Wide.All
import OpenK.AllK
import Wide.FinOn
import Lean
import PyProof.EqAt
import PyProof.EqKinds
import PyProof.TupleCall
import PySem.Challenge.RW_markrun_k46_used_and_put
set_option Elab.async false
set_option linter.all false
set_option maxRecDepth 100000
/-! THE HAND LAYER, for ints, bools, texts, own classes, LISTS and tuples (index, slices, in, append, pop ..), calls, loops. Paste it whole ahead of your own text; what your proof does not reach may be deleted. -/
namespace L2
open PySem PySem.Spec PyProof.Rows

/-- a key: an int or a str -/
abbrev Key := Sum Int Str
def keyIs : Key → Value → Bool
  | .inl k, v => Value.isInt k v
  | .inr x, v => Value.isStrOf x v
def keyH (w : World) : Key → Int
  | .inl k => hashInt k
  | .inr x => hashStr w x
theorem keyIs_shape : ∀ {k : Key} {v : Value}, keyIs k v = true → (∃ i t, k = Sum.inl i ∧ v = Value.int i t) ∨ (∃ x t, k = Sum.inr x ∧ v = Value.str x t)
  | .inl i, v, h => by
    obtain ⟨t, e⟩ := Value.isInt_shape (k := i) (v := v) h
    exact .inl ⟨i, t, rfl, e⟩
  | .inr x, v, h => by
    obtain ⟨t, e⟩ := Value.isStrOf_shape (x := x) (v := v) h
    exact .inr ⟨x, t, rfl, e⟩
theorem keyIs_int (i : Int) (t : Tok) : keyIs (.inl i) (.int i t) = true := by simp [keyIs, Value.isInt]
theorem keyIs_str (x : Str) (t : Tok) : keyIs (.inr x) (.str x t) = true := by simp [keyIs, Value.isStrOf]
theorem key_ll (a b : Int) : decide ((Sum.inl a : Key) = Sum.inl b) = (a == b) := by
  by_cases e : a = b
  · subst e; simp
  · have h : ¬ (Sum.inl a : Key) = Sum.inl b := fun q => e (Sum.inl.inj q)
    rw [decide_eq_false h]
    exact (beq_eq_false_iff_ne.mpr e).symm
theorem key_rr (a b : Str) : decide ((Sum.inr a : Key) = Sum.inr b) = decide (a = b) := by
  by_cases e : a = b
  · subst e; simp
  · have h : ¬ (Sum.inr a : Key) = Sum.inr b := fun q => e (Sum.inr.inj q)
    rw [decide_eq_false h, decide_eq_false e]
theorem key_lr (a : Int) (b : Str) : decide ((Sum.inl a : Key) = Sum.inr b) = false := decide_eq_false (fun q => nomatch q)
theorem key_rl (a : Str) (b : Int) : decide ((Sum.inr a : Key) = Sum.inl b) = false := decide_eq_false (fun q => nomatch q)

def mixKind (prog : Program) (w : World) : PySem.KeyKind prog w Key where
  is := keyIs
  hash := keyH w
  inj := fun v a b ha hb => by
    rcases keyIs_shape ha with ⟨i, t, rfl, rfl⟩ | ⟨x, t, rfl, rfl⟩
    · rcases keyIs_shape hb with ⟨j, u, rfl, e⟩ | ⟨y, u, rfl, e⟩
      · injection e with e1 _; rw [e1]
      · exact nomatch e
    · rcases keyIs_shape hb with ⟨j, u, rfl, e⟩ | ⟨y, u, rfl, e⟩
      · exact nomatch e
      · injection e with e1 _; rw [e1]
  byValue := fun k v h => by
    rcases keyIs_shape h with ⟨i, t, rfl, rfl⟩ | ⟨x, t, rfl, rfl⟩ <;> rfl
  pyHash := fun hv h => by
    rcases keyIs_shape hv with ⟨i, t, rfl, rfl⟩ | ⟨x, t, rfl, rfl⟩
    · exact wpAny_pyHash_int h
    · exact wpAny_pyHash_str h
  eqBool := fun hu hv h => by
    rcases keyIs_shape hu with ⟨i, t, rfl, rfl⟩ | ⟨x, t, rfl, rfl⟩
    · rcases keyIs_shape hv with ⟨j, u, rfl, rfl⟩ | ⟨y, u, rfl, rfl⟩
      · rw [key_ll] at h; exact wpAny_eqBool_int h
      · rw [key_lr] at h; exact SeqAt.EqAt.int_str i t y u _ _ _ _ h
    · rcases keyIs_shape hv with ⟨j, u, rfl, rfl⟩ | ⟨y, u, rfl, rfl⟩
      · rw [key_rl] at h; exact SeqAt.EqAt.str_int x t j u _ _ _ _ h
      · rw [key_rr] at h; exact wpAny_eqBool_str h
  «strs» := fun k x t v h => by
    rcases keyIs_shape h with ⟨i, u, rfl, e⟩ | ⟨y, u, rfl, e⟩
    · exact nomatch e
    · injection e with e1 _
      subst e1
      cases v <;> rfl

theorem mixKind_int (prog : Program) (w : World) (i : Int) (t : Tok) : (mixKind prog w).is (.inl i) (.int i t) = true := keyIs_int i t
theorem mixKind_str (prog : Program) (w : World) (x : Str) (t : Tok) : (mixKind prog w).is (.inr x) (.str x t) = true := keyIs_str x t
end L2

namespace L2
open PySem PySem.Spec PyProof.Rows

/-- a value, without the heap -/
inductive V where
  | non | bl (b : Bool) | int (i : Int) | str (x : Str) | byt (b : Array UInt8) | flt (b : UInt64) | ref (a : Addr) | ty (n : String)
  deriving DecidableEq

def RelV : V → Value → Prop
  | .non, u => u = Value.none
  | .bl b, u => u = Value.bool b
  | .int i, u => ∃ t, u = Value.int i t
  | .str x, u => ∃ t, u = Value.str x t
  | .byt b, u => ∃ t, u = Value.bytes b t
  | .flt b, u => ∃ t, u = Value.float b t
  | .ref a, u => u = Value.ref a
  | .ty n, u => u = Value.type n

abbrev Vals : List V → List Value → Prop := Paired RelV
theorem Vals.length {xs : List V} {us : List Value} (r : Vals xs us) : xs.length = us.length := Paired.length r
theorem Vals.get : ∀ {xs : List V} {us : List Value} {i : Nat} {x : V}, Vals xs us → xs[i]? = some x → ∃ u, us[i]? = some u ∧ RelV x u
  | _, _, _, _, .nil, e => by simp at e
  | _, _, 0, _, .cons r _, e => by simp at e; subst e; exact ⟨_, rfl, r⟩
  | _, _, i + 1, x, .cons _ t, e => by
    obtain ⟨u, h1, h2⟩ := Vals.get (i := i) (x := x) t (by simpa using e)
    exact ⟨u, by simpa using h1, h2⟩
theorem Vals.append : ∀ {xs ys : List V} {us ws : List Value}, Vals xs us → Vals ys ws → Vals (xs ++ ys) (us ++ ws)
  | _, _, _, _, .nil, s => s
  | _, _, _, _, .cons r t, s => .cons r (Vals.append t s)
def RelO : Option V → Option Value → Prop
  | some v, some u => RelV v u
  | none, none => True
  | _, _ => False
def KV {κ : Type} : List (κ × V) → List (κ × Value) → Prop := Paired fun (p : κ × V) (q : κ × Value) => p.1 = q.1 ∧ RelV p.2 q.2

/-- a key of a dict (00_mix): an int or a text -/
def kV : Key → V
  | .inl i => .int i
  | .inr x => .str x

/-- what stands at a tracked address -/
inductive HO where
  /-- a list -/
  | lst (xs : List V)
  /-- a tuple (never changes) -/
  | tup (xs : List V)
  /-- a dict whose keys are ints and texts; one whose keys are tuples of ints and texts (the empty one is both) -/
  | dK (kvs : List (Key × V)) | dT (kvs : List (List Key × V))
  /-- a set of ints: its members, its size -/
  | set (S : Int → Bool) (n : Nat)
  /-- an instance of the class at C, its dict at dx, its attributes -/
  | ins (C dx : Addr) (fs : List (Str × V))
  /-- the dict of the instance at x -/
  | own (x : Addr)
  /-- the dict of an exception -/
  | xd (fs : List (Str × V))
  /-- a bound method, f of x -/
  | met (f x : Addr)
  /-- a range object lo, lo + 1, .. below hi -/
  | rng (lo hi : Int)
  /-- a thing that is known to the object (the script; a dict while a loop walks it): read, never written while it is so -/
  | frz (o : Obj) (u : HO)
  /-- a code object's table -/
  | tbl (ps : Array Value)
  /-- any other thing, by what is true of its one object (a def of one's own: SetO a S n := HO.ext fun h => ..) -/
  | ext (φ : Heap → Prop)

abbrev Hp := Addr → Option HO
def upd (H : Hp) (a : Addr) (o : HO) : Hp := fun b => if b = a then some o else H b
theorem upd_same {H : Hp} {a : Addr} {o : HO} : upd H a o a = some o := by unfold upd; rw [if_pos rfl]
theorem upd_ne {H : Hp} {a b : Addr} {o : HO} (h : b ≠ a) : upd H a o b = H b := by unfold upd; rw [if_neg h]
theorem ne_of_none {H : Hp} {a b : Addr} {o : HO} (h : H a = some o) (h' : H b = none) : a ≠ b := by
  intro e; subst e; rw [h] at h'; cases h'

section
variable (P : Program) (w : World)
def ObjOk (H : Hp) (h : Heap) (a : Addr) : HO → Prop
  | .lst xs => xs.length ≤ sizeLine ∧ ∃ (its : List Value) (n : Nat), Vals xs its ∧ h.get? a = some { cls := .type "list", data := .seq its.toArray n }
  | .tup xs => xs.length ≤ sizeLine ∧ ∃ its : List Value, Vals xs its ∧ IsTup h a its.toArray
  | .dK kvs => kvs.length ≤ sizeLine ∧ (a == sysModules) = false ∧ ∃ vs, KV kvs vs ∧ h.DictOf (mixKind P w) a vs
  | .dT kvs => kvs.length ≤ sizeLine ∧ (a == sysModules) = false ∧ ∃ xs : List (List Key × Addr × Value),
      Paired (fun (p : List Key × V) (q : List Key × Addr × Value) => p.1 = q.1 ∧ H q.2.1 = some (.tup (p.1.map kV)) ∧ RelV p.2 q.2.2) kvs xs ∧
      ∃ o es ep, h.get? a = some o ∧ o.ExactDict ∧ o.data = .dict es ep ∧ es.toList = xs.map (entryOfKey (tupleKind (mixKind P w))) ∧ (xs.map (·.1)).Nodup
  | .set S n => h.SetOf (intKind P w) a S n
  | .ins C dx fs => H dx = some (.own a) ∧ fs.length ≤ 1000 ∧ dx ≠ a ∧ h.get? a = some (PySem.W.instObj C dx) ∧
      ∃ mA, h.Ns1 dx mA ∧ (∀ f, RelO (fs.lookup f) (mA f)) ∧ PySem.Within mA (fs.map (·.1))
  | .own _ => ∃ o, h.get? a = some o
  | .xd fs => ∃ mA, h.Ns1 a mA ∧ ∀ f, RelO (fs.lookup f) (mA f)
  | .rng lo hi => ∃ t u v, h.get? a = some { cls := .type "range", data := .fields #[.int lo t, .int hi u, .int 1 v] }
  | .frz o u => h.get? a = some o ∧ ObjOk H h a u
  | .tbl ps => h.get? a = some { cls := .none, data := .fields ps }
  | .met f x => h.get? a = some (PySem.W.methodObj (.ref f) (.ref x))
  | .ext φ => φ h ∧ (∃ o, h.get? a = some o) ∧ ∀ h1 h2 : Heap, φ h1 → (∀ o, h1.get? a = some o → h2.get? a = some o) → φ h2
/-- the abstract heap is held -/
def HOk (H : Hp) (h : Heap) : Prop := ∀ a o, H a = some o → ObjOk P w H h a o
end

section
variable {P : Program} {w : World} {H H' : Hp} {h h' : Heap} {a : Addr} {o : HO}
theorem ObjOk.lt (x : ObjOk P w H h a o) : a < h.objs.size := by
  cases o with
  | lst xs => obtain ⟨_, _, _, _, e⟩ := x; exact Heap.lt_size e
  | tup xs => obtain ⟨_, _, _, p⟩ := x; exact p.lt
  | dK kvs => obtain ⟨_, _, _, _, o, _, _, e, _⟩ := x; exact Heap.lt_size e
  | dT kvs => obtain ⟨_, _, _, _, o, _, _, e, _⟩ := x; exact Heap.lt_size e
  | set S n => obtain ⟨o, _, _, _, e, _⟩ := x; exact Heap.lt_size e
  | ins C dx fs => obtain ⟨_, _, _, e, _⟩ := x; exact Heap.lt_size e
  | own y => obtain ⟨_, e⟩ := x; exact Heap.lt_size e
  | xd fs => obtain ⟨_, ⟨_, _, _, e, _⟩, _⟩ := x; exact Heap.lt_size e
  | rng lo hi => obtain ⟨_, _, _, e⟩ := x; exact Heap.lt_size e
  | frz ob u => obtain ⟨e, _⟩ := x; exact Heap.lt_size e
  | tbl ps => exact Heap.lt_size (show h.get? a = some _ from x)
  | met f y => exact Heap.lt_size (show h.get? a = some _ from x)
  | ext φ => obtain ⟨_, ⟨_, e⟩, _⟩ := x; exact Heap.lt_size e
theorem Paired.mapP {α β : Type} {F G : α → β → Prop} : ∀ {l₁ : List α} {l₂ : List β}, Paired F l₁ l₂ → (∀ a b, F a b → G a b) → Paired G l₁ l₂
  | _, _, .nil, _ => .nil
  | _, _, .cons r t, f => .cons (f _ _ r) (Paired.mapP t f)
/-- what an object's description leans on: its own object, its own dict, the tuples -/
theorem ObjOk.stay (x : ObjOk P w H h a o) (k : ∀ b u, (b = a ∨ H b = some (.own a)) → h.get? b = some u → h'.get? b = some u)
    (ho : ∀ b, H b = some (.own a) → H' b = some (.own a)) (ht : ∀ b xs, H b = some (.tup xs) → H' b = some (.tup xs)) : ObjOk P w H' h' a o := by
  induction o with
  | lst xs => obtain ⟨z, its, n, r, e⟩ := x; exact ⟨z, its, n, r, k _ _ (.inl rfl) e⟩
  | tup xs => obtain ⟨z, its, r, ob, e, c⟩ := x; exact ⟨z, its, r, ob, k _ _ (.inl rfl) e, c⟩
  | dK kvs => obtain ⟨z, y, vs, r, ob, es, ep, e, c⟩ := x; exact ⟨z, y, vs, r, ob, es, ep, k _ _ (.inl rfl) e, c⟩
  | dT kvs =>
    obtain ⟨z, y, xs, r, ob, es, ep, e, c⟩ := x
    exact ⟨z, y, xs, Paired.mapP r fun p q z => ⟨z.1, ht _ _ z.2.1, z.2.2⟩, ob, es, ep, k _ _ (.inl rfl) e, c⟩
  | set S n => obtain ⟨ob, es, ep, t, e, c⟩ := x; exact ⟨ob, es, ep, t, k _ _ (.inl rfl) e, c⟩
  | ins C dx fs =>
    obtain ⟨d, z, ne, e, mA, ⟨od, es, ep, e2, c⟩, r⟩ := x
    exact ⟨ho _ d, z, ne, k _ _ (.inl rfl) e, mA, ⟨od, es, ep, k _ _ (.inr d) e2, c⟩, r⟩
  | own y => obtain ⟨ob, e⟩ := x; exact ⟨ob, k _ _ (.inl rfl) e⟩
  | xd fs => obtain ⟨mA, ⟨od, es, ep, e, c⟩, r⟩ := x; exact ⟨mA, ⟨od, es, ep, k _ _ (.inl rfl) e, c⟩, r⟩
  | rng lo hi => obtain ⟨t, u, v, e⟩ := x; exact ⟨t, u, v, k _ _ (.inl rfl) e⟩
  | frz ob u ih => obtain ⟨e, q⟩ := x; exact ⟨k _ _ (.inl rfl) e, ih q⟩
  | tbl ps =>
    have e : h.get? a = some { cls := .none, data := .fields ps } := x
    show h'.get? a = some { cls := .none, data := .fields ps }
    exact k a _ (.inl rfl) e
  | met f y =>
    have e : h.get? a = some (PySem.W.methodObj (.ref f) (.ref y)) := x
    show h'.get? a = some (PySem.W.methodObj (.ref f) (.ref y))
    exact k a _ (.inl rfl) e
  | ext φ => obtain ⟨p, ⟨o, e⟩, st⟩ := x; exact ⟨st _ _ p fun o q => k _ _ (.inl rfl) q, ⟨o, k _ _ (.inl rfl) e⟩, st⟩
theorem HOk.lt (x : HOk P w H h) (e : H a = some o) : a < h.objs.size := (x a o e).lt
theorem HOk.fresh (x : HOk P w H h) (e : h.objs.size ≤ a) : H a = none := by
  cases q : H a with
  | none => rfl
  | some u => exact absurd (Nat.lt_of_lt_of_le (x.lt q) e) (Nat.lt_irrefl _)
/-- every object of the heap is kept -/
theorem HOk.kept (x : HOk P w H h) (k : ∀ b u, h.get? b = some u → h'.get? b = some u) : HOk P w H h' := fun a o e =>
  (x a o e).stay (fun b u _ q => k b u q) (fun _ q => q) fun _ _ q => q
/-- a new object is laid and tracked -/
theorem HOk.laid (x : HOk P w H h) (k : ∀ b u, h.get? b = some u → h'.get? b = some u) (hp : h.objs.size ≤ a) (new : ObjOk P w (upd H a o) h' a o) : HOk P w (upd H a o) h' := fun b u e => by
  have hn := x.fresh hp
  by_cases hb : b = a
  · subst hb; rw [upd_same] at e; cases e; exact new
  · rw [upd_ne hb] at e
    exact (x b u e).stay (fun c v _ q => k c v q) (fun c q => by rw [upd_ne (ne_of_none q hn)]; exact q) fun c xs q => by rw [upd_ne (ne_of_none q hn)]; exact q
end

/-- what may be read as u: it is u, or a known u -/
def Rd (H : Hp) (a : Addr) (u : HO) : Prop := H a = some u ∨ ∃ o, H a = some (.frz o u)
theorem Rd.ok {P : Program} {w : World} {H : Hp} {h : Heap} {a : Addr} {u : HO} (r : Rd H a u) (x : HOk P w H h) : ObjOk P w H h a u := by
  rcases r with r | ⟨o, r⟩
  · exact x a u r
  · obtain ⟨_, q⟩ := x a _ r
    exact q
/-- what may be written -/
def Mut : Option HO → Prop
  | some (.lst _) => True
  | some (.dK _) => True
  | some (.dT _) => True
  | some (.set _ _) => True
  | some (.ins _ _ _) => True
  | some (.ext _) => True
  | _ => False
section
variable {P : Program} {w : World} {H : Hp} {h h' : Heap} {x e : Addr} {o' : HO}
/-- the object at e is changed: x itself, or the dict of the instance x -/
theorem HOk.write (ok : HOk P w H h) (mu : Mut (H x)) (he : e = x ∨ H e = some (.own x)) (k : ∀ b u, b ≠ e → h.get? b = some u → h'.get? b = some u) (heo : ∃ u, h'.get? e = some u)
    (new : ObjOk P w (upd H x o') h' x o') : HOk P w (upd H x o') h' := fun b u q => by
  have nown : ∀ c y, H c = some (.own y) → c ≠ x := fun c y r z => by subst z; rw [r] at mu; exact mu
  have ntup : ∀ c xs, H c = some (.tup xs) → c ≠ x := fun c xs r z => by subst z; rw [r] at mu; exact mu
  by_cases hb : b = x
  · subst hb; rw [upd_same] at q; cases q; exact new
  · rw [upd_ne hb] at q
    by_cases hbe : b = e
    · have q' : H b = some (.own x) := by
        rcases he with z | z
        · exact absurd (hbe.trans z) hb
        · rw [hbe]; exact z
      rw [q] at q'; cases q'
      obtain ⟨v, hv⟩ := heo
      exact ⟨v, by rw [hbe]; exact hv⟩
    · refine (ok b u q).stay (fun c v hc r => k c v ?_ r) (fun c r => by rw [upd_ne (nown c b r)]; exact r) fun c xs r => by rw [upd_ne (ntup c xs r)]; exact r
      rcases hc with rfl | hc
      · exact hbe
      · rintro rfl
        rcases he with z | z
        · exact nown c b hc z
        · rw [hc] at z; cases z; exact hb rfl
end

structure Un (fs ex : List Addr) (H H' : Hp) (h h' : Heap) : Prop where
  keep : ∀ b o, h.get? b = some o → H b = none → b ∉ fs → b ∉ ex → h'.get? b = some o
  slot : ∀ b o, h.get? b = some o → H b = none → b ∈ fs → b ∉ ex → ∃ sl, h'.get? b = some { o with slots := sl }
  free : ∀ b o, h.get? b = some o → H b = none → b ∉ ex → H' b = none
  there : ∀ b o, h.get? b = some o → b ∉ ex → ∃ o', h'.get? b = some o'
  tups : ∀ b xs, H b = some (.tup xs) → H' b = some (.tup xs)
  frzs : ∀ b o u, H b = some (.frz o u) → H' b = some (.frz o u)
  tbls : ∀ b ps, H b = some (.tbl ps) → ∃ more, H' b = some (.tbl (ps ++ more))
section
variable {fs fs' ex ex' : List Addr} {H H1 H2 : Hp} {h h1 h2 h' : Heap} {a x e : Addr} {o : HO}
theorem Un.any (u : Un fs ex H H1 h h1) {b : Addr} {ob : Obj} (q : h.get? b = some ob) (n : H b = none) (hx : b ∉ ex) : ∃ sl, h1.get? b = some { ob with slots := sl } := by
  by_cases hb : b ∈ fs
  · exact u.slot b ob q n hb hx
  · exact ⟨ob.slots, u.keep b ob q n hb hx⟩
theorem Un.kept (k : ∀ b u, h.get? b = some u → h'.get? b = some u) : Un fs ex H H h h' :=
  ⟨fun b ob q _ _ _ => k b ob q, fun b ob q _ _ _ => ⟨ob.slots, k b ob q⟩, fun _ _ _ n _ => n, fun b ob q _ => ⟨ob, k b ob q⟩, fun _ _ q => q, fun _ _ _ q => q, fun _ ps q => ⟨#[], by rw [q]; simp⟩⟩
theorem Un.refl : Un fs ex H H h h := Un.kept fun _ _ q => q
theorem Un.laid (k : ∀ b u, h.get? b = some u → h'.get? b = some u) (hp : h.objs.size ≤ a) (hn : H a = none) : Un fs ex H (upd H a o) h h' where
  keep := fun b u q _ _ _ => k b u q
  slot := fun b u q _ _ _ => ⟨u.slots, k b u q⟩
  free := fun b u q n _ => by rw [upd_ne (Nat.ne_of_lt (Nat.lt_of_lt_of_le (Heap.lt_size q) hp))]; exact n
  there := fun b u q _ => ⟨u, k b u q⟩
  tups := fun b xs q => by rw [upd_ne (ne_of_none q hn)]; exact q
  frzs := fun b u xs q => by rw [upd_ne (ne_of_none q hn)]; exact q
  tbls := fun b ps q => ⟨#[], by rw [upd_ne (ne_of_none q hn), q]; simp⟩
theorem Un.write (mu : Mut (H x)) (he : e = x ∨ H e = some (.own x)) (k : ∀ b u, b ≠ e → h.get? b = some u → h'.get? b = some u) (heo : ∃ u, h'.get? e = some u) : Un fs ex H (upd H x o) h h' := by
  have hx : ∀ b, H b = none → b ≠ x := fun b n z => by subst z; rw [n] at mu; exact mu
  have hb : ∀ b, H b = none → b ≠ e := fun b n z => by
    subst z
    rcases he with r | r
    · exact hx b n r
    · rw [n] at r; cases r
  have hm : ∀ b u, H b = some u → ¬ Mut (some u) → b ≠ x := fun b u q nm z => by subst z; rw [q] at mu; exact nm mu
  refine ⟨fun b u q n _ _ => k b u (hb b n) q, fun b u q n _ _ => ⟨u.slots, k b u (hb b n) q⟩, fun b u q n _ => by rw [upd_ne (hx b n)]; exact n, fun b u q _ => ?_,
    fun b xs q => by rw [upd_ne (hm b _ q fun z => z)]; exact q, fun b u xs q => by rw [upd_ne (hm b _ q fun z => z)]; exact q, fun b ps q => ⟨#[], by rw [upd_ne (hm b _ q fun z => z), q]; simp⟩⟩
  by_cases hbe : b = e
  · subst hbe; exact heo
  · exact ⟨u, k b u hbe q⟩
end

def trk (h : Heap) (H : Hp) : List Addr := (List.range h.objs.size).filter fun a => (H a).isSome
def hidT (h : Heap) (H : Hp) : Heap := PySem.W.hideAll h (trk h H)
theorem hidT_size (h : Heap) (H : Hp) : (hidT h H).objs.size = h.objs.size := PySem.W.hideAll_size _ _
theorem hidT_get {h : Heap} {H : Hp} {b : Addr} {o : Obj} (e : h.get? b = some o) (n : H b = none) : (hidT h H).get? b = some o :=
  PySem.W.hideAll_get _ e fun hm => by
    have q : (H b).isSome = true := (List.mem_filter.mp hm).2
    rw [n] at q; simp at q
theorem of_hidT {h : Heap} {H : Hp} {b : Addr} {o : Obj} (e : (hidT h H).get? b = some o) : h.get? b = some o ∧ H b = none := by
  have e' : h.get? b = some o := PySem.W.of_hideAll (trk h H) e
  refine ⟨e', ?_⟩
  cases q : H b with
  | none => rfl
  | some x =>
    have hm : b ∈ trk h H := List.mem_filter.mpr ⟨List.mem_range.mpr (Heap.lt_size e'), by simp [q]⟩
    have z : (hidT h H).get? b = none := PySem.W.hideAll_none (trk h H) hm
    rw [z] at e; cases e

end L2

namespace L2
open PySem PySem.Spec PyProof.Rows

/-- the module's facts, over the base: the heap at the law's entry without what is tracked there -/
structure Mod (K : PySem.W.Frag) (mg : Str → Option Value) (base : Heap) : Prop where
  kin : K.In base
  glob : base.Ns mainGlobals mg
  blt : ∃ mb, base.Ns builtinsNs mb ∧ ∀ x : Str, x ≠ "__name__" → mb x = bootBuiltins x
  nolimit : base.NoLimit

/-- the context: a def's body (or a comprehension's block) running. base: fixed through the whole law; s₀, H₀: the entry; outer: the frames whose slots others may change (a def's callers); stack: all frames that run;
   ex: iterators that were made ahead of the entry and are walked here (a comprehension's); fn: the names whose cells were made at the entry (a def: all; a comprehension's block: its own); calm: not within an except suite; pn: pins that every state bears; xe: what is wanted of an exception that leaves the code -/
structure Cx where
  prog : Program
  w : World
  K : PySem.W.Frag
  mg : Str → Option Value
  base : Heap
  A : Around
  N : List Str
  s₀ : Shared
  H₀ : Hp
  env : Env
  outer : List Env
  stack : List Env
  ex : List Addr
  fn : Str → Bool
  calm : Bool
  pn : List (Addr × Obj)
  xe : Value → Shared → Prop
/-- the callers' frames -/
def frs (l : List Env) : List Addr := l.filterMap (·.frame)
abbrev Cx.fs (X : Cx) : List Addr := frs X.outer

def Vis (sc : Scope) (x : Str) : Prop := sc.names.lookup x = some .local ∨ sc.names.lookup x = some .cell ∨ sc.names.lookup x = some .free
def Loc (sc : Scope) (x : Str) : Prop := sc.names.lookup x = some .local ∨ sc.names.lookup x = some .cell
def Look (env : Env) (h : Heap) (m : Str → Option Value) (x : Str) (u : Value) : Prop :=
  (env.kindOf x = some .local ∧ m x = some u) ∨ ((env.kindOf x = some .cell ∨ env.kindOf x = some .free) ∧ ∃ c, env.cells.lookup x = some c ∧ h.IsCell c (some u))

structure Cx.Ok (X : Cx) : Prop where
  mod : Mod X.K X.mg X.base
  kind : X.env.scope.kind = .function
  glob : X.env.globals = mainGlobals
  blt : X.env.builtins = builtinsNs
  above : X.s₀.heap.objs.size ≤ X.env.locals
  inj : ∀ x y c, X.env.cells.lookup x = some c → X.env.cells.lookup y = some c → x = y
  has : ∀ x, (X.env.kindOf x = some .cell ∨ X.env.kindOf x = some .free) → ∃ c, X.env.cells.lookup x = some c
  cab : ∀ x c, X.fn x = true → X.env.cells.lookup x = some c → X.s₀.heap.objs.size ≤ c
  hd : X.calm = true → X.A.handled = none
  frames : X.A.frames = some X.stack
  stk : X.stack = X.outer ∨ (X.stack = X.env :: X.outer ∧ X.env.frame = some X.env.locals)
  exf : ∀ b ∈ X.ex, b ≠ X.env.locals ∧ ∀ x c, X.env.cells.lookup x = some c → c ≠ b
  bs : ∀ b o, X.base.get? b = some o → X.s₀.heap.get? b = some o ∧ X.H₀ b = none
  bsz : X.base.objs.size ≤ X.s₀.heap.objs.size
  noex : ∀ b o, X.base.get? b = some o → b ∉ X.ex
  exfs : ∀ b ∈ X.ex, b ∉ X.fs
  funs : X.s₀.heap.FunFrames X.base X.outer
  frf : ∀ b ∈ X.fs, X.H₀ b = none

structure Inv (X : Cx) (pins : List (Addr × Obj)) (σ : List (Option V)) (H : Hp) (s : Shared) : Prop where
  ok : X.Ok
  os : s.os = X.s₀.os
  bare : AllBare s.gens
  base : Un X.fs X.ex X.H₀ H X.s₀.heap s.heap
  loc : ∃ m, s.heap.Ns X.env.locals m ∧ ∀ (i : Nat) (x : Str) (v : V), X.N[i]? = some x → σ[i]? = some (some v) → Vis X.env.scope x → ∃ u, RelV v u ∧ Look X.env s.heap m x u
  cell : ∀ x c, X.env.cells.lookup x = some c → ∃ v, s.heap.IsCell c v
  free : H X.env.locals = none
  freeC : ∀ x c, X.env.cells.lookup x = some c → H c = none
  pin : ∀ p ∈ X.pn ++ pins, s.heap.get? p.1 = some p.2 ∧ H p.1 = none ∧ p.1 ≠ X.env.locals ∧ p.1 ∉ X.fs ∧ ∀ v, p.2.data ≠ .cell v
  hok : HOk X.prog X.w H s.heap
  len : σ.length = X.N.length

section
variable {X : Cx} {pins : List (Addr × Obj)} {σ : List (Option V)} {H H' : Hp} {s : Shared} {h' : Heap}

theorem Cx.Ok.nofr (ok : X.Ok) {b : Addr} {o : Obj} (e : X.base.get? b = some o) : b ∉ X.fs := fun hb => by
  have := (ok.funs.mem hb).1
  rw [e] at this; cases this
theorem Inv.bs (I : Inv X pins σ H s) : ∀ b o, X.base.get? b = some o → s.heap.get? b = some o ∧ H b = none := fun b o e =>
  ⟨I.base.keep b o (I.ok.bs b o e).1 (I.ok.bs b o e).2 (I.ok.nofr e) (I.ok.noex b o e), I.base.free b o (I.ok.bs b o e).1 (I.ok.bs b o e).2 (I.ok.noex b o e)⟩
theorem Inv.bk (I : Inv X pins σ H s) : ∀ b o, X.base.get? b = some o → s.heap.get? b = some o := fun b o e => (I.bs b o e).1
theorem Inv.mod (I : Inv X pins σ H s) : Mod X.K X.mg X.base := I.ok.mod
theorem Inv.kIn (I : Inv X pins σ H s) : X.K.In s.heap := I.ok.mod.kin.keeps I.bk
theorem Inv.lt (I : Inv X pins σ H s) : X.env.locals < s.heap.objs.size := let ⟨_, hn, _⟩ := I.loc; hn.lt
theorem Inv.sz (I : Inv X pins σ H s) : X.s₀.heap.objs.size ≤ s.heap.objs.size := Nat.le_trans I.ok.above (Nat.le_of_lt I.lt)
theorem Inv.nofs (I : Inv X pins σ H s) {a : Addr} (h : s.heap.objs.size ≤ a) : a ∉ X.fs := fun hb => by
  obtain ⟨_, o, ho, _⟩ := I.ok.funs.mem hb
  exact absurd (Nat.lt_of_lt_of_le (Heap.lt_size ho) (Nat.le_trans I.sz h)) (Nat.lt_irrefl _)
theorem Inv.cne (I : Inv X pins σ H s) : ∀ x c, X.env.cells.lookup x = some c → c ≠ X.env.locals := fun x c e z => by
  obtain ⟨v, o, ho, hd⟩ := I.cell x c e
  obtain ⟨m, ⟨o', es, ep, ho', hd', _⟩, _⟩ := I.loc
  rw [z, ho'] at ho; cases ho; rw [hd'] at hd; cases hd
theorem Inv.funs (I : Inv X pins σ H s) : s.heap.FunFrames X.base X.outer := by
  have all : ∀ (l : List Env), (∀ b ∈ frs l, b ∈ X.fs) → X.s₀.heap.FunFrames X.base l → s.heap.FunFrames X.base l := by
    intro l
    induction l with
    | nil => intro _ _; trivial
    | cons env r ih =>
      intro hs hl
      obtain ⟨hk, ⟨L, o, hf, hn, ho, hd⟩, hr⟩ := hl
      have hL : L ∈ X.fs := hs L (by unfold frs; rw [List.filterMap_cons, hf]; exact List.mem_cons_self)
      obtain ⟨sl, e⟩ := I.base.slot L o ho (I.ok.frf L hL) hL fun z => I.ok.exfs L z hL
      exact ⟨hk, ⟨L, _, hf, hn, e, hd⟩, ih (fun b hb => hs b (by unfold frs; rw [List.filterMap_cons, hf]; exact List.mem_cons_of_mem _ hb)) hr⟩
  exact all X.outer (fun _ hb => hb) I.ok.funs

/-- the frames that run, for a call -/
theorem Inv.stack (I : Inv X pins σ H s) : s.heap.FunFrames X.base X.stack := by
  rcases I.ok.stk with e | ⟨e, hf⟩
  · rw [e]; exact I.funs
  · rw [e]
    obtain ⟨m, hn, _⟩ := I.loc
    refine .cons (by rw [I.ok.kind]; decide) hf hn ?_ I.funs
    exact Heap.get?_none_of_le (Nat.le_trans I.ok.bsz I.ok.above)
theorem Inv.stkSub (I : Inv X pins σ H s) : ∀ b ∈ frs X.stack, b ∈ X.env.locals :: X.fs := fun b hb => by
  rcases I.ok.stk with e | ⟨e, hf⟩
  · rw [e] at hb; exact List.mem_cons_of_mem _ hb
  · rw [e] at hb
    unfold frs at hb
    rw [List.filterMap_cons, hf] at hb
    exact hb
theorem Inv.stkFree (I : Inv X pins σ H s) : ∀ b ∈ frs X.stack, H b = none := fun b hb => by
  rcases List.mem_cons.mp (I.stkSub b hb) with e | hb
  · rw [e]; exact I.free
  · obtain ⟨_, o, ho, _⟩ := I.ok.funs.mem hb
    exact I.base.free b o ho (I.ok.frf b hb) fun z => I.ok.exfs b z hb

/-- THE STEP: the untracked objects but the frame and the records at ch are kept (the callers' frames up to slots), the frame's map is kept, the new abstract heap is held -/
theorem Inv.step {g' : Array GenState} {t' : Nat} {d' : Drawn} {ch : List Addr} (I : Inv X pins σ H s)
    (hch : ∀ b ∈ ch, (b ∈ X.ex ∨ X.s₀.heap.objs.size ≤ b) ∧ b ≠ X.env.locals ∧ (∀ x c, X.env.cells.lookup x = some c → c ≠ b) ∧ ∀ p ∈ X.pn ++ pins, p.1 ≠ b)
    (keep : ∀ b o, b ≠ X.env.locals → b ∉ X.fs → b ∉ ch → s.heap.get? b = some o → H b = none → h'.get? b = some o)
    (slot : ∀ b o, b ≠ X.env.locals → b ∈ X.fs → b ∉ ch → s.heap.get? b = some o → H b = none → ∃ sl, h'.get? b = some { o with slots := sl }) (free : ∀ b o, b ∉ ch → s.heap.get? b = some o → H b = none → H' b = none)
    (there : ∀ b o, b ∉ ch → s.heap.get? b = some o → ∃ o', h'.get? b = some o')
    (tups : ∀ b xs, H b = some (.tup xs) → H' b = some (.tup xs)) (frzs : ∀ b o u, H b = some (.frz o u) → H' b = some (.frz o u)) (tbls : ∀ b ps, H b = some (.tbl ps) → ∃ more, H' b = some (.tbl (ps ++ more)))
    (ns : ∀ m, s.heap.Ns X.env.locals m → h'.Ns X.env.locals m) (hok : HOk X.prog X.w H' h') (hg : AllBare g') :
    Inv X pins σ H' { s with heap := h', gens := g', drawn := d', toks := t' } := by
  have neL : ∀ b o, X.s₀.heap.get? b = some o → b ≠ X.env.locals := fun b o e => Nat.ne_of_lt (Nat.lt_of_lt_of_le (Heap.lt_size e) I.ok.above)
  have neC : ∀ b o, X.s₀.heap.get? b = some o → b ∉ X.ex → b ∉ ch := fun b o e hx hb => by
    rcases (hch b hb).1 with z | z
    · exact hx z
    · exact absurd (Nat.lt_of_lt_of_le (Heap.lt_size e) z) (Nat.lt_irrefl _)
  have cellK : ∀ x c, X.env.cells.lookup x = some c → ∀ v, s.heap.IsCell c v → h'.IsCell c v := fun x c e v ⟨o, ho, hd⟩ => by
    have nch : c ∉ ch := fun z => (hch c z).2.2.1 x c e rfl
    by_cases hc : c ∈ X.fs
    · obtain ⟨sl, q⟩ := slot c o (I.cne x c e) hc nch ho (I.freeC x c e)
      exact ⟨_, q, hd⟩
    · exact ⟨o, keep c o (I.cne x c e) hc nch ho (I.freeC x c e), hd⟩
  refine ⟨I.ok, I.os, hg, ⟨fun b o e n hb hx => ?_, fun b o e n hb hx => ?_, fun b o e n hx => ?_, fun b o e hx => ?_, fun b xs e => tups b xs (I.base.tups b xs e), fun b o xs e => frzs b o xs (I.base.frzs b o xs e), fun b ps e => ?_⟩, ?_, fun x c e => ?_, ?_, fun x c e => ?_, fun p hp => ?_, hok, I.len⟩
  · exact keep b o (neL b o e) hb (neC b o e hx) (I.base.keep b o e n hb hx) (I.base.free b o e n hx)
  · obtain ⟨sl, e1⟩ := I.base.slot b o e n hb hx
    obtain ⟨sl', e2⟩ := slot b _ (neL b o e) hb (neC b o e hx) e1 (I.base.free b o e n hx)
    exact ⟨sl', e2⟩
  · obtain ⟨o', e1⟩ := I.base.there b o e hx
    exact free b o' (neC b o e hx) e1 (I.base.free b o e n hx)
  · obtain ⟨o', e1⟩ := I.base.there b o e hx
    exact there b o' (neC b o e hx) e1
  · obtain ⟨m1, e1⟩ := I.base.tbls b ps e
    obtain ⟨m2, e2⟩ := tbls b _ e1
    exact ⟨m1 ++ m2, by rw [e2, Array.append_assoc]⟩
  · obtain ⟨m, hn, hl⟩ := I.loc
    refine ⟨m, ns m hn, fun i x v e1 e2 e3 => ?_⟩
    obtain ⟨u, r, l⟩ := hl i x v e1 e2 e3
    refine ⟨u, r, ?_⟩
    rcases l with l | ⟨k, c, e, z⟩
    · exact .inl l
    · exact .inr ⟨k, c, e, cellK x c e _ z⟩
  · obtain ⟨v, z⟩ := I.cell x c e
    exact ⟨v, cellK x c e v z⟩
  · obtain ⟨m, ⟨o, _, _, ho, _⟩, _⟩ := I.loc
    exact free _ o (fun z => (hch _ z).2.1 rfl) ho I.free
  · obtain ⟨v, o, ho, hd⟩ := I.cell x c e
    exact free c o (fun z => (hch c z).2.2.1 x c e rfl) ho (I.freeC x c e)
  · obtain ⟨e, n, ne, nf, d⟩ := I.pin p hp
    have nch : p.1 ∉ ch := fun z => (hch p.1 z).2.2.2 p hp rfl
    exact ⟨keep p.1 p.2 ne nf nch e n, free p.1 p.2 nch e n, ne, nf, d⟩
/-- .. where the frame's own object is kept too -/
theorem Inv.un {t' : Nat} (I : Inv X pins σ H s) (u : Un X.fs [] H H' s.heap h') (hok : HOk X.prog X.w H' h') : Inv X pins σ H' { s with heap := h', toks := t' } := by
  obtain ⟨m, ⟨o, es, ep, ho, r⟩, _⟩ := id I.loc
  obtain ⟨sl, hL⟩ := u.any ho I.free (by simp)
  exact I.step (g' := s.gens) (d' := s.drawn) (ch := []) (fun _ z => nomatch z) (fun b o _ hb _ e n => u.keep b o e n hb (by simp)) (fun b o _ hb _ e n => u.slot b o e n hb (by simp)) (fun b o _ e n => u.free b o e n (by simp)) (fun b o _ e => u.there b o e (by simp)) u.tups u.frzs u.tbls (fun m' hm => by
    obtain ⟨o', es', ep', ho', r'⟩ := hm
    rw [ho] at ho'; cases ho'
    exact ⟨_, es', ep', hL, r'⟩) hok I.bare
/-- behind a call (or a comprehension's block): the slots of this frame may have changed too, the records at ch may have turned -/
theorem Inv.call {g' : Array GenState} {t' : Nat} {d' : Drawn} {ch : List Addr} (I : Inv X pins σ H s) (u : Un (frs X.stack) ch H H' s.heap h') (hok : HOk X.prog X.w H' h') (hg : AllBare g')
    (hch : ∀ b ∈ ch, (b ∈ X.ex ∨ X.s₀.heap.objs.size ≤ b) ∧ b ≠ X.env.locals ∧ (∀ x c, X.env.cells.lookup x = some c → c ≠ b) ∧ ∀ p ∈ X.pn ++ pins, p.1 ≠ b) :
    Inv X pins σ H' { s with heap := h', gens := g', drawn := d', toks := t' } := by
  obtain ⟨m, ⟨o, es, ep, ho, r⟩, _⟩ := id I.loc
  obtain ⟨sl, hL⟩ := u.any ho I.free fun z => (hch _ z).2.1 rfl
  exact I.step (ch := ch) hch (fun b o hL hb hc e n => u.keep b o e n (fun z => (List.mem_cons.mp (I.stkSub b z)).elim hL hb) hc) (fun b o _ _ hc e n => u.any e n hc) (fun b o hc e n => u.free b o e n hc) (fun b o hc e => u.there b o e hc) u.tups u.frzs u.tbls (fun m' hm => by
    obtain ⟨o', es', ep', ho', r'⟩ := hm
    rw [ho] at ho'; cases ho'
    exact ⟨_, es', ep', hL, r'⟩) hok hg
/-- an untracked record of ours (an iterator) has turned -/
theorem Inv.turned {t' : Nat} {it : Addr} (I : Inv X pins σ H s) (k : ∀ b o, b ≠ it → s.heap.get? b = some o → h'.get? b = some o) (hn : H it = none) (hL : it ≠ X.env.locals)
    (h1 : it ∈ X.ex ∨ X.s₀.heap.objs.size ≤ it) (h2 : ∀ x c, X.env.cells.lookup x = some c → c ≠ it) (h3 : ∀ p ∈ X.pn ++ pins, p.1 ≠ it) : Inv X pins σ H { s with heap := h', toks := t' } := by
  have nit : ∀ b u, H b = some u → b ≠ it := fun b u e z => by rw [z, hn] at e; cases e
  refine I.step (g' := s.gens) (d' := s.drawn) (ch := [it]) (fun b hb => ?_) (fun b o _ _ hc e _ => k b o (fun z => hc (by simp [z])) e) (fun b o _ _ hc e _ => ⟨o.slots, k b o (fun z => hc (by simp [z])) e⟩) (fun _ _ _ _ n => n)
    (fun b o hc e => ⟨o, k b o (fun z => hc (by simp [z])) e⟩) (fun _ _ e => e) (fun _ _ _ e => e) (fun b ps e => ⟨#[], by rw [e]; simp⟩) (fun m hm => ?_) (fun b u e => ?_) I.bare
  · have e : b = it := by simpa using hb
    subst e
    exact ⟨h1, hL, h2, h3⟩
  · obtain ⟨o, es, ep, ho, r⟩ := hm
    exact ⟨o, es, ep, k _ o (Ne.symm hL) ho, r⟩
  · refine (I.hok b u e).stay (fun c v hc q => k c v ?_ q) (fun _ q => q) fun _ _ q => q
    rcases hc with z | z
    · rw [z]; exact nit b u e
    · exact nit c _ z
theorem Inv.tok (I : Inv X pins σ H s) (t : Nat) : Inv X pins σ H { s with toks := t } := I.un (h' := s.heap) (t' := t) Un.refl I.hok
/-- all objects kept -/
theorem Inv.kept {t' : Nat} (I : Inv X pins σ H s) (k : ∀ b u, s.heap.get? b = some u → h'.get? b = some u) : Inv X pins σ H { s with heap := h', toks := t' } := I.un (Un.kept k) (I.hok.kept k)
/-- a new object laid and tracked -/
theorem Inv.laid {a : Addr} {o : HO} {t' : Nat} (I : Inv X pins σ H s) (k : ∀ b u, s.heap.get? b = some u → h'.get? b = some u) (hp : s.heap.objs.size ≤ a) (new : ObjOk X.prog X.w (upd H a o) h' a o) :
    Inv X pins σ (upd H a o) { s with heap := h', toks := t' } := I.un (Un.laid k hp (I.hok.fresh hp)) (I.hok.laid k hp new)
/-- an object written -/
theorem Inv.write {x e : Addr} {o : HO} {t' : Nat} (I : Inv X pins σ H s) (mu : Mut (H x)) (he : e = x ∨ H e = some (.own x)) (k : ∀ b u, b ≠ e → s.heap.get? b = some u → h'.get? b = some u) (heo : ∃ u, h'.get? e = some u)
    (new : ObjOk X.prog X.w (upd H x o) h' x o) : Inv X pins σ (upd H x o) { s with heap := h', toks := t' } := I.un (Un.write mu he k heo) (I.hok.write mu he k heo new)
theorem Inv.pins_of {pins' : List (Addr × Obj)} (I : Inv X pins σ H s) (h : ∀ p ∈ pins', s.heap.get? p.1 = some p.2 ∧ H p.1 = none ∧ p.1 ≠ X.env.locals ∧ p.1 ∉ X.fs ∧ ∀ v, p.2.data ≠ .cell v) : Inv X pins' σ H s :=
  ⟨I.ok, I.os, I.bare, I.base, I.loc, I.cell, I.free, I.freeC, fun p hp => (List.mem_append.mp hp).elim (fun z => I.pin p (List.mem_append_left _ z)) (h p), I.hok, I.len⟩

theorem nodup_ix {N : List Str} (hN : N.Nodup) {i j : Nat} {x : Str} (a : N[i]? = some x) (b : N[j]? = some x) : i = j := by
  obtain ⟨h1, e1⟩ := List.getElem?_eq_some_iff.mp a
  obtain ⟨h2, e2⟩ := List.getElem?_eq_some_iff.mp b
  exact (List.getElem_inj hN).mp (e1.trans e2.symm)

/-- a name is stored; what changed -/
theorem store_ok2 {M : Model} {A : Around} {E : Value → Shared → Prop} {i : Nat} {x : Str} {v : V} {u : Value} {Q : Unit → Shared → Prop} (I : Inv X pins σ H s) (hN : X.N.Nodup) (hi : X.N[i]? = some x) (hx : Loc X.env.scope x) (r : RelV v u)
    (h : ∀ s', Inv X pins (σ.set i (some v)) H s' → (∃ a, Heap.SameBut a s.heap s'.heap ∧ (a = X.env.locals ∨ X.env.cells.lookup x = some a)) → Q () s') (hf : X.fn x = true ∨ X.env.scope.names.lookup x = some .local := by first | exact .inl rfl | exact .inr rfl | assumption) : wpAny M A (storeName X.env x u) Q E s := by
  obtain ⟨m, hn, hl⟩ := id I.loc
  have hcls : (X.env.scope.kind == .class || (X.env.scope.kind == .module && X.env.locals != X.env.globals)) = false := by rw [I.ok.kind]; rfl
  have hiσ : i < σ.length := by rw [I.len]; exact (List.getElem?_eq_some_iff.mp hi).1
  have cne := I.cne
  have tracked : ∀ {a : Addr} {h' : Heap}, (∃ o, s.heap.get? a = some o ∧ H a = none) → Heap.SameBut a s.heap h' → HOk X.prog X.w H h' := fun {a h'} ha hs b ob e => by
    obtain ⟨_, _, hfree⟩ := ha
    refine (I.hok b ob e).stay (fun c w' hc q => (hs.2 c ?_).trans q) (fun _ q => q) fun _ _ q => q
    rintro rfl
    rcases hc with rfl | hc
    · rw [hfree] at e; cases e
    · rw [hfree] at hc; cases hc
  rcases hx with hk | hk
  · refine wpAny_storeName_local hk hn (fun h' hn' hs => ?_) hcls
    obtain ⟨oL, _, _, hoL, _⟩ := id hn
    refine h _ ⟨I.ok, I.os, I.bare, ⟨fun b o e n hb hx => ?_, fun b o e n hb hx => ?_, I.base.free, fun b o e hx => ?_, I.base.tups, I.base.frzs, I.base.tbls⟩, ⟨_, hn', fun j y v' e1 e2 e3 => ?_⟩, fun y c e => ?_, I.free, I.freeC, fun p hp => ?_, tracked ⟨oL, hoL, I.free⟩ hs, by simpa using I.len⟩ ⟨_, hs, .inl rfl⟩
    · exact (hs.2 b (Nat.ne_of_lt (Nat.lt_of_lt_of_le (Heap.lt_size e) I.ok.above))).trans (I.base.keep b o e n hb hx)
    · obtain ⟨sl, e1⟩ := I.base.slot b o e n hb hx
      exact ⟨sl, (hs.2 b (Nat.ne_of_lt (Nat.lt_of_lt_of_le (Heap.lt_size e) I.ok.above))).trans e1⟩
    · obtain ⟨o', e1⟩ := I.base.there b o e hx
      exact ⟨o', (hs.2 b (Nat.ne_of_lt (Nat.lt_of_lt_of_le (Heap.lt_size e) I.ok.above))).trans e1⟩
    · by_cases hj : j = i
      · subst hj
        rw [hi] at e1; cases e1
        rw [List.getElem?_set_self hiσ] at e2
        cases e2
        exact ⟨u, r, .inl ⟨hk, by simp⟩⟩
      · rw [List.getElem?_set_ne (Ne.symm hj)] at e2
        obtain ⟨u', r', q⟩ := hl j y v' e1 e2 e3
        refine ⟨u', r', ?_⟩
        rcases q with ⟨k, e⟩ | ⟨k, c, e, z⟩
        · refine .inl ⟨k, ?_⟩
          have : y ≠ x := fun e => hj (nodup_ix hN e1 (e ▸ hi))
          simp [this, e]
        · exact .inr ⟨k, c, e, z.sameBut hs (cne y c e)⟩
    · obtain ⟨w', z⟩ := I.cell y c e
      exact ⟨w', z.sameBut hs (cne y c e)⟩
    · obtain ⟨e, n, ne, nf, d⟩ := I.pin p hp
      exact ⟨(hs.2 p.1 ne).trans e, n, ne, nf, d⟩
  · have hfn : X.fn x = true := by
      rcases hf with z | z
      · exact z
      · rw [z] at hk; cases hk
    obtain ⟨c, hc⟩ := I.ok.has x (.inl hk)
    obtain ⟨w', z⟩ := I.cell x c hc
    refine wpAny_storeName_cell I.ok.kind hk hc z (fun h' hc' hs => ?_)
    obtain ⟨oc, hoc, hocd⟩ := id z
    refine h { s with heap := h' } ⟨I.ok, I.os, I.bare, ⟨fun b o e n hb hx => ?_, fun b o e n hb hx => ?_, I.base.free, fun b o e hx => ?_, I.base.tups, I.base.frzs, I.base.tbls⟩, ⟨m, hn.sameBut hs (Ne.symm (cne x c hc)), fun j y v' e1 e2 e3 => ?_⟩, fun y c' e => ?_, I.free, I.freeC, fun p hp => ?_, tracked ⟨oc, hoc, I.freeC x c hc⟩ hs, by simpa using I.len⟩ ⟨c, hs, .inr hc⟩
    · exact (hs.2 b (Nat.ne_of_lt (Nat.lt_of_lt_of_le (Heap.lt_size e) (I.ok.cab x c hfn hc)))).trans (I.base.keep b o e n hb hx)
    · obtain ⟨sl, e1⟩ := I.base.slot b o e n hb hx
      exact ⟨sl, (hs.2 b (Nat.ne_of_lt (Nat.lt_of_lt_of_le (Heap.lt_size e) (I.ok.cab x c hfn hc)))).trans e1⟩
    · obtain ⟨o', e1⟩ := I.base.there b o e hx
      exact ⟨o', (hs.2 b (Nat.ne_of_lt (Nat.lt_of_lt_of_le (Heap.lt_size e) (I.ok.cab x c hfn hc)))).trans e1⟩
    · by_cases hj : j = i
      · subst hj
        rw [hi] at e1; cases e1
        rw [List.getElem?_set_self hiσ] at e2
        cases e2
        exact ⟨u, r, .inr ⟨.inl hk, c, hc, hc'⟩⟩
      · rw [List.getElem?_set_ne (Ne.symm hj)] at e2
        obtain ⟨u', r', q⟩ := hl j y v' e1 e2 e3
        refine ⟨u', r', ?_⟩
        rcases q with q | ⟨k, c', e, z'⟩
        · exact .inl q
        · refine .inr ⟨k, c', e, z'.sameBut hs ?_⟩
          rintro rfl
          exact hj (nodup_ix hN e1 (I.ok.inj _ _ _ e hc ▸ hi))
    · by_cases hcc : c' = c
      · subst hcc; exact ⟨_, hc'⟩
      · obtain ⟨w2, z2⟩ := I.cell y c' e
        exact ⟨w2, z2.sameBut hs hcc⟩
    · obtain ⟨e, n, ne, nf, d⟩ := I.pin p hp
      refine ⟨(hs.2 p.1 ?_).trans e, n, ne, nf, d⟩
      intro q
      rw [q, hoc] at e
      have q' : oc = p.2 := Option.some.inj e
      exact d w' (by rw [← q']; exact hocd)
theorem store_ok {M : Model} {A : Around} {E : Value → Shared → Prop} {i : Nat} {x : Str} {v : V} {u : Value} {Q : Unit → Shared → Prop} (I : Inv X pins σ H s) (hN : X.N.Nodup) (hi : X.N[i]? = some x) (hx : Loc X.env.scope x) (r : RelV v u)
    (h : ∀ s', Inv X pins (σ.set i (some v)) H s' → Q () s') (hf : X.fn x = true ∨ X.env.scope.names.lookup x = some .local := by first | exact .inl rfl | exact .inr rfl | assumption) : wpAny M A (storeName X.env x u) Q E s :=
  store_ok2 I hN hi hx r (fun s' I' _ => h s' I') hf
end

/-- an exception: its class, its own dict's address (where it has one), the abstract heap behind it -/
abbrev XK := Value → Option Addr → Hp → Prop
abbrev St := List (Option V)
abbrev VK := V → Hp → Prop
/-- an expression's reading; a test's; an argument list's -/
abbrev TE := St → Hp → VK → Prop
abbrev TT := St → Hp → (Bool → Hp → Prop) → Prop
abbrev TA := St → Hp → (List V → Hp → Prop) → Prop
/-- what is wanted behind a statement -/
structure Ends where
  nx : St → Hp → Prop
  rt : VK
  bk : St → Hp → Prop := fun _ _ => False
  ct : St → Hp → Prop := fun _ _ => False
abbrev TS := Ends → St → Hp → Prop

def EP (X : Cx) (pins : List (Addr × Obj)) (σ : St) (Q : VK) (u : Value) (s' : Shared) : Prop := ∃ v H', Inv X pins σ H' s' ∧ RelV v u ∧ Q v H'
def TP (X : Cx) (pins : List (Addr × Obj)) (σ : St) (Q : Bool → Hp → Prop) (b : Bool) (s' : Shared) : Prop := ∃ H', Inv X pins σ H' s' ∧ Q b H'
def AP (X : Cx) (pins : List (Addr × Obj)) (σ : St) (Q : List V → Hp → Prop) (us : List Value) (s' : Shared) : Prop := ∃ vs H', Inv X pins σ H' s' ∧ Vals vs us ∧ Q vs H'
def SP (X : Cx) (pins : List (Addr × Obj)) (D : Ends) (f : Flow) (s' : Shared) : Prop :=
  match f with
  | .next => ∃ σ' H', Inv X pins σ' H' s' ∧ D.nx σ' H'
  | .brk => ∃ σ' H', Inv X pins σ' H' s' ∧ D.bk σ' H'
  | .cont => ∃ σ' H', Inv X pins σ' H' s' ∧ D.ct σ' H'
  | .ret u => ∃ v σ' H', Inv X pins σ' H' s' ∧ RelV v u ∧ D.rt v H'

def PE (X : Cx) (e : Expr) (t : TE) : Prop :=
  ∀ (pins : List (Addr × Obj)) (s : Shared) (σ : St) (H : Hp) (Q : VK), Inv X pins σ H s → t σ H Q → wpAny (model X.prog X.w) X.A (eval e X.env) (EP X pins σ Q) X.xe s
def PT (X : Cx) (e : Expr) (t : TT) : Prop :=
  ∀ (pins : List (Addr × Obj)) (s : Shared) (σ : St) (H : Hp) (Q : Bool → Hp → Prop), Inv X pins σ H s → t σ H Q → wpAny (model X.prog X.w) X.A (isTrue e X.env (eval e X.env)) (TP X pins σ Q) X.xe s
/-- a test whatever its 'whole' is (and, or) -/
def PW (X : Cx) (e : Expr) (t : TT) : Prop :=
  ∀ (whole : Sem Value) (pins : List (Addr × Obj)) (s : Shared) (σ : St) (H : Hp) (Q : Bool → Hp → Prop), Inv X pins σ H s → t σ H Q → wpAny (model X.prog X.w) X.A (isTrue e X.env whole) (TP X pins σ Q) X.xe s
theorem PW.pt {X : Cx} {e : Expr} {t : TT} (h : PW X e t) : PT X e t := h _
/-- an argument list (no star), from the left -/
def PA (X : Cx) (es : List Expr) (t : TA) : Prop :=
  ∀ (pos : Pos) (pins : List (Addr × Obj)) (s : Shared) (σ : St) (H : Hp) (Q : List V → Hp → Prop), Inv X pins σ H s → t σ H Q → wpAny (model X.prog X.w) X.A (spliced (backTo pos (starEach es X.env))) (AP X pins σ Q) X.xe s
def PS (X : Cx) (st : Stmt) (t : TS) : Prop :=
  ∀ (pins : List (Addr × Obj)) (s : Shared) (σ : St) (H : Hp) (D : Ends), Inv X pins σ H s → t D σ H → wpAny (model X.prog X.w) X.A (exec st X.env) (SP X pins D) X.xe s
def PSs (X : Cx) (st : List Stmt) (t : TS) : Prop :=
  ∀ (pins : List (Addr × Obj)) (s : Shared) (σ : St) (H : Hp) (D : Ends), Inv X pins σ H s → t D σ H → wpAny (model X.prog X.w) X.A (execs st X.env) (SP X pins D) X.xe s
/-- weaken the end -/
theorem thn {α : Type} {t : Sem α} {Q Q' : α → Shared → Prop} {M : Model} {A : Around} {E : Value → Shared → Prop} {s : Shared} (h : wpAny M A t Q E s) (hQ : ∀ a s, Q a s → Q' a s) : wpAny M A t Q' E s := wpAny_mono h hQ fun _ _ x => x
end L2

namespace L2
open PySem PySem.Spec PyProof.Rows
section
variable {X : Cx}

def tVar (i : Nat) : TE := fun σ H Q => ∃ v, σ[i]? = some (some v) ∧ Q v H
def tC (v : V) : TE := fun _ H Q => Q v H
theorem pe_var {i : Nat} {x : Str} {pos : Pos} (hN : X.N[i]? = some x) (hv : Vis X.env.scope x) (hd : (x == ("__debug__" : Str)) = false := by decide) (hcd : (x == ("__classdict__" : Str)) = false := by decide) : PE X (.Name x pos) (tVar i) := by
  intro pins s σ H Q I h
  obtain ⟨v, e, h⟩ := h
  obtain ⟨m, hn, hl⟩ := I.loc
  obtain ⟨u, r, l⟩ := hl i x v hN e hv
  have fin : EP X pins σ Q u s := ⟨v, H, I, r, h⟩
  rcases l with ⟨hk, hm⟩ | ⟨hk, c, hc, hcell⟩
  · exact wpAny_Name (wpAny_loadName_local I.ok.kind hk hn hm fin) hd
  · rcases hk with hk | hk
    · exact wpAny_Name (wpAny_loadName_cell I.ok.kind hk hc hcell fin) hd
    · exact wpAny_Name (wpAny_loadName_free I.ok.kind hk hc hcell fin hcd) hd
theorem pe_int {i j pos} : PE X (.Constant (.int i) j pos) (tC (.int i)) := fun _ _ _ H _ I h => wpAny_Constant_int ⟨.int i, H, I.tok _, ⟨_, rfl⟩, h⟩
theorem pe_bl {b j pos} : PE X (.Constant (.bool b) j pos) (tC (.bl b)) := fun _ _ _ H _ I h => Constant_bool ⟨.bl b, H, I, rfl, h⟩
theorem pe_str {x j pos} : PE X (.Constant (.str x) j pos) (tC (.str x)) := fun _ _ _ H _ I h => Calls.Constant_str ⟨.str x, H, I.tok _, ⟨_, rfl⟩, h⟩

/-- a global name of the def -/
def Gl (X : Cx) (x : Str) : Prop := X.env.kindOf x = some .globalImplicit
theorem ld_glob {E : Value → Shared → Prop} {pins : List (Addr × Obj)} {s : Shared} {σ : St} {H : Hp} {x : Str} {u : Value} {pos : Pos} {Q : Value → Shared → Prop} (I : Inv X pins σ H s) (hg : Gl X x) (hm : X.mg x = some u) (h : Q u s)
    (hd : (x == ("__debug__" : Str)) = false := by decide) : wpAny (model X.prog X.w) X.A (eval (.Name x pos) X.env) Q E s :=
  Calls.Name_function_global I.ok.kind hg (Calls.loadGlobal_global (by rw [I.ok.glob]; exact I.mod.glob.keeps I.bk) hm h) hd
theorem ld_blt {E : Value → Shared → Prop} {pins : List (Addr × Obj)} {s : Shared} {σ : St} {H : Hp} {x : Str} {u : Value} {pos : Pos} {Q : Value → Shared → Prop} (I : Inv X pins σ H s) (hg : Gl X x) (hm : X.mg x = none) (hv : bootBuiltins x = some u) (h : Q u s)
    (hn : x ≠ "__name__" := by decide) (hd : (x == ("__debug__" : Str)) = false := by decide) : wpAny (model X.prog X.w) X.A (eval (.Name x pos) X.env) Q E s := by
  obtain ⟨mb, h1, h2⟩ := I.mod.blt
  exact Calls.Name_function_global I.ok.kind hg (Calls.loadGlobal_builtin (by rw [I.ok.glob]; exact I.mod.glob.keeps I.bk) hm (by rw [I.ok.blt]; exact h1.keeps I.bk) ((h2 x hn).trans hv) h) hd
/-- a module's constant, a class, a function, as a value -/
theorem pe_glob {x : Str} {v : V} {u : Value} {pos : Pos} (hg : Gl X x) (hm : X.mg x = some u) (r : RelV v u) (hd : (x == ("__debug__" : Str)) = false := by decide) : PE X (.Name x pos) (tC v) :=
  fun _ _ _ H _ I h => ld_glob I hg hm ⟨v, H, I, r, h⟩ hd
theorem pe_bltn {x : Str} {v : V} {u : Value} {pos : Pos} (hg : Gl X x) (hm : X.mg x = none) (hv : bootBuiltins x = some u) (r : RelV v u) (hn : x ≠ "__name__" := by decide) (hd : (x == ("__debug__" : Str)) = false := by decide) : PE X (.Name x pos) (tC v) :=
  fun _ _ _ H _ I h => ld_blt I hg hm hv ⟨v, H, I, r, h⟩ hn hd

variable {a b : Expr} {ta tb : TE} {pos : Pos}
/-- a comparison as a value, as a test -/
def tB (t : TE) : TT := fun σ H Q => t σ H fun x H1 => ∃ c, x = .bl c ∧ Q c H1
/-- an expression whose value is a bool, as a test -/
theorem pt_val {e : Expr} {t : TE} (h : PE X e t) (he : ∀ whole, isTrue e X.env whole = (do let v ← whole; standAt e.pos; holding [v] (truthy v)) := by intro _; rfl) : PT X e (tB t) := by
  intro pins s σ H Q I hw
  refine isTrue_plain (thn (h pins s σ H _ I hw) fun v s1 ⟨x, H1, I1, r1, q1⟩ => ?_) (he _)
  obtain ⟨d, rfl, q⟩ := q1
  cases r1
  exact wpAny_truthy_bool ⟨H1, I1, q⟩

variable {tA tB' : TT} {rest : List Expr}
def tAnd (t u : TT) : TT := fun σ H Q => t σ H fun c H1 => if c = true then u σ H1 Q else Q false H1
def tOr (t u : TT) : TT := fun σ H Q => t σ H fun c H1 => if c = true then Q true H1 else u σ H1 Q
def tNot (t : TT) : TT := fun σ H Q => t σ H fun c H1 => Q (!c) H1
theorem pw_and1 (ha : PT X a tA) : PW X (.BoolOp .And [a] pos) tA := by
  intro wh pins s σ H Q I h
  refine isTrue_and (thn (ha pins s σ H Q I h) fun c s1 e => ?_)
  cases c with
  | true => exact isTrue_and_nil e
  | false => exact e
theorem pw_or1 (ha : PT X a tA) : PW X (.BoolOp .Or [a] pos) tA := by
  intro wh pins s σ H Q I h
  refine isTrue_or (thn (ha pins s σ H Q I h) fun c s1 e => ?_)
  cases c with
  | false => exact isTrue_or_nil e
  | true => exact e
theorem pw_and (ha : PT X a tA) (hb : PW X (.BoolOp .And (b :: rest) pos) tB') : PW X (.BoolOp .And (a :: b :: rest) pos) (tAnd tA tB') := by
  intro wh pins s σ H Q I h
  refine isTrue_and (thn (ha pins s σ H _ I h) fun c s1 ⟨H1, I1, q1⟩ => ?_)
  cases c with
  | true => exact hb wh pins s1 σ H1 Q I1 q1
  | false => exact ⟨H1, I1, q1⟩
theorem pw_or (ha : PT X a tA) (hb : PW X (.BoolOp .Or (b :: rest) pos) tB') : PW X (.BoolOp .Or (a :: b :: rest) pos) (tOr tA tB') := by
  intro wh pins s σ H Q I h
  refine isTrue_or (thn (ha pins s σ H _ I h) fun c s1 ⟨H1, I1, q1⟩ => ?_)
  cases c with
  | true => exact ⟨H1, I1, q1⟩
  | false => exact hb wh pins s1 σ H1 Q I1 q1
theorem pt_not (ha : PT X a tA) : PT X (.UnaryOp .Not a pos) (tNot tA) := by
  intro pins s σ H Q I h
  exact isTrue_not (ha pins s σ H (fun c H1 => Q (!c) H1) I h)
/-- .. as values (bools) -/
def tAndV (ta tb : TE) : TE := fun σ H Q => ta σ H fun x H1 => ∃ c, x = .bl c ∧ if c = true then tb σ H1 Q else Q (.bl false) H1
def tOrV (ta tb : TE) : TE := fun σ H Q => ta σ H fun x H1 => ∃ c, x = .bl c ∧ if c = true then Q (.bl true) H1 else tb σ H1 Q
def tNotV (ta : TE) : TE := fun σ H Q => ta σ H fun x H1 => ∃ c, x = .bl c ∧ Q (.bl (!c)) H1
theorem pe_one {op} {t : TE} (h : PE X a t) : PE X (.BoolOp op [a] pos) t := fun pins s σ H Q I hw => BoolOp_one (h pins s σ H Q I hw)
theorem pe_and (ha : PE X a ta) (hb : PE X (.BoolOp .And (b :: rest) pos) tb) : PE X (.BoolOp .And (a :: b :: rest) pos) (tAndV ta tb) := by
  intro pins s σ H Q I h
  refine BoolOp_and (thn (ha pins s σ H _ I h) fun v s1 ⟨x, H1, I1, r1, q1⟩ => ?_)
  obtain ⟨c, rfl, q1⟩ := q1
  cases r1
  refine wpAny_truthy_bool ?_
  cases c with
  | true => exact hb pins s1 σ H1 Q I1 q1
  | false => exact ⟨.bl false, H1, I1, rfl, q1⟩
theorem pe_or (ha : PE X a ta) (hb : PE X (.BoolOp .Or (b :: rest) pos) tb) : PE X (.BoolOp .Or (a :: b :: rest) pos) (tOrV ta tb) := by
  intro pins s σ H Q I h
  refine BoolOp_or (thn (ha pins s σ H _ I h) fun v s1 ⟨x, H1, I1, r1, q1⟩ => ?_)
  obtain ⟨c, rfl, q1⟩ := q1
  cases r1
  refine wpAny_truthy_bool ?_
  cases c with
  | false => exact hb pins s1 σ H1 Q I1 q1
  | true => exact ⟨.bl true, H1, I1, rfl, q1⟩
theorem pe_not (ha : PE X a ta) : PE X (.UnaryOp .Not a pos) (tNotV ta) := by
  intro pins s σ H Q I h
  refine UnaryOp_ (thn (ha pins s σ H _ I h) fun v s1 ⟨x, H1, I1, r1, q1⟩ => ?_)
  obtain ⟨c, rfl, q1⟩ := q1
  cases r1
  exact not_of (wpAny_truthy_bool ⟨.bl (!c), H1, I1, rfl, q1⟩)
end
end L2

namespace L2
open PySem PySem.Spec PyProof.Rows

def SqL (K : PySem.W.Frag) (H : Hp) (a : Addr) (xs : List V) : Prop :=
  Rd H a (.lst xs) ∨
    ∃ (o : Obj) (its : Array Value) (n : Nat), K.lookup a = some o ∧ o.cls = .type "list" ∧ o.dict = none ∧ o.data = .seq its n ∧ its.size ≤ sizeLine ∧ Vals xs its.toList
def SqT (K : PySem.W.Frag) (H : Hp) (a : Addr) (xs : List V) : Prop :=
  Rd H a (.tup xs) ∨
    ∃ (o : Obj) (its : Array Value) (n : Nat), K.lookup a = some o ∧ o.cls = .type "tuple" ∧ o.data = .seq its n ∧ its.size ≤ sizeLine ∧ Vals xs its.toList
def absV : Value → Option V
  | .none => some .non
  | .bool b => some (.bl b)
  | .int i _ => some (.int i)
  | .str x _ => some (.str x)
  | .bytes b _ => some (.byt b)
  | .float b _ => some (.flt b)
  | .ref a => some (.ref a)
  | .type n => some (.ty n)
  | _ => none
theorem RelV.abs {x : V} {u : Value} (r : RelV x u) : absV u = some x := by
  cases x with
  | non => cases r; rfl
  | bl _ => cases r; rfl
  | int _ => obtain ⟨t, rfl⟩ := r; rfl
  | str _ => obtain ⟨t, rfl⟩ := r; rfl
  | byt _ => obtain ⟨t, rfl⟩ := r; rfl
  | flt _ => obtain ⟨t, rfl⟩ := r; rfl
  | ref _ => cases r; rfl
  | ty _ => cases r; rfl
theorem RelV.inj {x y : V} {u : Value} (r : RelV x u) (q : RelV y u) : x = y := Option.some.inj (r.abs.symm.trans q.abs)
theorem Vals.inj : ∀ {xs ys : List V} {us : List Value}, Vals xs us → Vals ys us → xs = ys
  | _, _, _, .nil, .nil => rfl
  | _, _, _, .cons r t, .cons r' t' => by rw [r.inj r', Vals.inj t t']
section
variable {X : Cx} {pins : List (Addr × Obj)} {σ : St} {H : Hp} {s : Shared} {a : Addr} {xs ys : List V}
theorem SqL.of {K : PySem.W.Frag} (h : H a = some (.lst xs)) : SqL K H a xs := .inl (.inl h)
theorem SqT.of {K : PySem.W.Frag} (h : H a = some (.tup xs)) : SqT K H a xs := .inl (.inl h)
theorem Inv.list (I : Inv X pins σ H s) (h : SqL X.K H a xs) : ∃ its : List Value, Vals xs its ∧ PlainL s.heap a its.toArray ∧ xs.length ≤ sizeLine := by
  rcases h with h | ⟨o, its, n, hk, hc, hd, hs, hz, r⟩
  · obtain ⟨z, its, n, r, e⟩ := h.ok I.hok
    exact ⟨its, r, ⟨_, n, e, rfl, rfl, rfl⟩, z⟩
  · refine ⟨its.toList, r, ⟨o, n, I.kIn a o hk, hc, hd, by simpa using hs⟩, ?_⟩
    have e := r.length
    simp only [Array.length_toList] at e
    omega
theorem Inv.tuple (I : Inv X pins σ H s) (h : SqT X.K H a xs) : ∃ its : List Value, Vals xs its ∧ IsTup s.heap a its.toArray ∧ xs.length ≤ sizeLine := by
  rcases h with h | ⟨o, its, n, hk, hc, hs, hz, r⟩
  · obtain ⟨z, its, r, p⟩ := h.ok I.hok
    exact ⟨its, r, p, z⟩
  · refine ⟨its.toList, r, ⟨o, I.kIn a o hk, hc, n, by simpa using hs⟩, ?_⟩
    have e := r.length
    simp only [Array.length_toList] at e
    omega
theorem Inv.list_inj (I : Inv X pins σ H s) (h : SqL X.K H a xs) (h' : SqL X.K H a ys) : xs = ys := by
  obtain ⟨its, r, ⟨o, n, e, _, _, d⟩, _⟩ := I.list h
  obtain ⟨its', r', ⟨o', n', e', _, _, d'⟩, _⟩ := I.list h'
  rw [e] at e'; cases e'
  rw [d] at d'
  injection d' with d1 _
  have : its = its' := by simpa using congrArg Array.toList d1
  subst this
  exact r.inj r'
theorem Inv.tuple_inj (I : Inv X pins σ H s) (h : SqT X.K H a xs) (h' : SqT X.K H a ys) : xs = ys := by
  obtain ⟨its, r, ⟨o, e, _, n, d⟩, _⟩ := I.tuple h
  obtain ⟨its', r', ⟨o', e', _, n', d'⟩, _⟩ := I.tuple h'
  rw [e] at e'; cases e'
  rw [d] at d'
  injection d' with d1 _
  have : its = its' := by simpa using congrArg Array.toList d1
  subst this
  exact r.inj r'
end

abbrev Cx.wish (X : Cx) (E : Value → Shared → Prop) : Cx := { X with xe := E }
/-- no exception leaves -/
abbrev Cx.nox (X : Cx) : Cx := X.wish fun _ _ => False
theorem Cx.Ok.wish {X : Cx} (ok : X.Ok) (E : Value → Shared → Prop) : (X.wish E).Ok :=
  ⟨ok.mod, ok.kind, ok.glob, ok.blt, ok.above, ok.inj, ok.has, ok.cab, ok.hd, ok.frames, ok.stk, ok.exf, ok.bs, ok.bsz, ok.noex, ok.exfs, ok.funs, ok.frf⟩
theorem Cx.Ok.unwish {X : Cx} {E : Value → Shared → Prop} (ok : (X.wish E).Ok) : X.Ok :=
  ⟨ok.mod, ok.kind, ok.glob, ok.blt, ok.above, ok.inj, ok.has, ok.cab, ok.hd, ok.frames, ok.stk, ok.exf, ok.bs, ok.bsz, ok.noex, ok.exfs, ok.funs, ok.frf⟩
section
variable {X : Cx} {pins : List (Addr × Obj)} {σ : St} {H : Hp} {s : Shared} {E : Value → Shared → Prop}
theorem Inv.wish (I : Inv X pins σ H s) (E : Value → Shared → Prop) : Inv (X.wish E) pins σ H s := ⟨I.ok.wish E, I.os, I.bare, I.base, I.loc, I.cell, I.free, I.freeC, I.pin, I.hok, I.len⟩
theorem Inv.unwish (I : Inv (X.wish E) pins σ H s) : Inv X pins σ H s := ⟨I.ok.unwish, I.os, I.bare, I.base, I.loc, I.cell, I.free, I.freeC, I.pin, I.hok, I.len⟩
theorem SP.unwish {D : Ends} {f : Flow} {s' : Shared} (h : SP (X.wish E) pins D f s') : SP X pins D f s' := by
  cases f with
  | next => obtain ⟨σ', H', I, q⟩ := h; exact ⟨σ', H', I.unwish, q⟩
  | brk => obtain ⟨σ', H', I, q⟩ := h; exact ⟨σ', H', I.unwish, q⟩
  | cont => obtain ⟨σ', H', I, q⟩ := h; exact ⟨σ', H', I.unwish, q⟩
  | ret u => obtain ⟨v, σ', H', I, r, q⟩ := h; exact ⟨v, σ', H', I.unwish, r, q⟩
theorem PSs.nox {st : List Stmt} {t : TS} (h : PSs X.nox st t) : PSs X st t := fun pins s σ H D I hw =>
  wpAny_mono (h pins s σ H D (I.wish _) hw) (fun _ _ q => q.unwish) fun _ _ z => False.elim z
end

section
variable {X : Cx} {st : Stmt} {rest : List Stmt} {t u : TS} {e : Expr} {te : TE} {pos : Pos}
def tNext : TS := fun D σ H => D.nx σ H
def tSeq (t u : TS) : TS := fun D σ H => t { D with nx := u D } σ H
theorem pss_nil : PSs X [] tNext := fun _ _ σ H _ I h => wpAny_execs_nil ⟨σ, H, I, h⟩
theorem pss_cons (h1 : PS X st t) (h2 : PSs X rest u) : PSs X (st :: rest) (tSeq t u) := by
  intro pins s σ H D I h
  refine wpAny_execs_cons (thn (h1 pins s σ H { D with nx := u D } I h) fun f s1 q => ?_)
  cases f with
  | next =>
    obtain ⟨σ', H', I', q⟩ := q
    exact h2 pins s1 σ' H' D I' q
  | ret v => exact q
  | brk => exact q
  | cont => exact q
theorem pss_one (h1 : PS X st t) : PSs X [st] t := by
  intro pins s σ H D I h
  refine wpAny_execs_cons (thn (h1 pins s σ H D I h) fun f s1 q => ?_)
  cases f with
  | next => exact wpAny_execs_nil q
  | ret v => exact q
  | brk => exact q
  | cont => exact q
def tRet (te : TE) : TS := fun D σ H => te σ H D.rt
theorem ps_ret (he : PE X e te) : PS X (.Return (some e) pos) (tRet te) := by
  intro pins s σ H D I h
  exact wpAny_Return_some (thn (he pins s σ H _ I h) fun v s1 ⟨x, H1, I1, r1, q1⟩ => ⟨x, σ, H1, I1, r1, q1⟩)
def tIfS (c : TT) (t u : TS) : TS := fun D σ H => c σ H fun b H1 => if b = true then t D σ H1 else u D σ H1
theorem ps_if {c : Expr} {a b : List Stmt} {tc : TT} (hc : PT X c tc) (ha : PSs X a t) (hb : PSs X b u) : PS X (.If c a b pos) (tIfS tc t u) := by
  intro pins s σ H D I h
  refine wpAny_If (thn (hc pins s σ H _ I h) fun d s1 ⟨H1, I1, q1⟩ => ?_)
  cases d with
  | true => exact ha pins s1 σ H1 D I1 q1
  | false => exact hb pins s1 σ H1 D I1 q1
end

abbrev TG := V → St → Hp → (St → Hp → Prop) → Prop
def PG (X : Cx) (target : Expr) (t : TG) : Prop :=
  ∀ (pins : List (Addr × Obj)) (s : Shared) (σ : St) (H : Hp) (v : V) (u : Value) (Q : St → Hp → Prop), Inv X pins σ H s → RelV v u → t v σ H Q →
    wpAny (model X.prog X.w) X.A (assign target X.env u) (fun _ s' => ∃ σ' H', Inv X pins σ' H' s' ∧ Q σ' H') X.xe s
section
variable {X : Cx} {pos : Pos}
def gName (i : Nat) : TG := fun v σ H Q => Q (σ.set i (some v)) H
theorem pg_name {i : Nat} {x : Str} (hN : X.N.Nodup) (hi : X.N[i]? = some x) (hx : Loc X.env.scope x) (hf : X.fn x = true ∨ X.env.scope.names.lookup x = some .local := by first | exact .inl rfl | exact .inr rfl | assumption) : PG X (.Name x pos) (gName i) := by
  intro pins s σ H v u Q I r h
  exact wpAny_assign_Name (store_ok I hN hi hx r (fun s' I' => ⟨_, H, I', h⟩) hf)
/-- target = value -/
def tAsg (te : TE) (g : TG) : TS := fun D σ H => te σ H fun x H1 => g x σ H1 D.nx
/-- name = value -/
theorem ps_set {i : Nat} {x : Str} {e : Expr} {te : TE} {pos' : Pos} (hN : X.N.Nodup) (hi : X.N[i]? = some x) (hx : Loc X.env.scope x) (he : PE X e te) (hs : swapsWith e (some (.Name x pos')) pos.line X.env = pure false := by rfl) (hf : X.fn x = true ∨ X.env.scope.names.lookup x = some .local := by first | exact .inl rfl | exact .inr rfl | assumption) :
    PS X (.Assign [.Name x pos'] e pos) (tAsg te (gName i)) := by
  intro pins s σ H D I h
  refine wpAny_Assign_Name (thn (he pins s σ H _ I h) fun v s1 ⟨y, H1, I1, r1, q1⟩ => ?_) hs
  exact store_ok I1 hN hi hx r1 (fun s2 I2 => ⟨_, H1, I2, q1⟩) hf
end

section
variable {X : Cx} {pos : Pos}
end

/-- at turn i: it yields x (the heap may grow), or it stops -/
structure It where
  go : Nat → Hp → Prop
  yld : Nat → Hp → V → Hp → Prop
  stop : Nat → Hp → Prop
/-- the iterator's own objects may turn: they are not the frame's, not pinned, younger than the entry (or a comprehension's own) -/
def FpOk (X : Cx) (pins : List (Addr × Obj)) (H : Hp) (b : Addr) : Prop :=
  H b = none ∧ b ≠ X.env.locals ∧ b ∉ X.fs ∧ (b ∈ X.ex ∨ X.s₀.heap.objs.size ≤ b) ∧ (∀ x c, X.env.cells.lookup x = some c → c ≠ b) ∧ ∀ p ∈ X.pn ++ pins, p.1 ≠ b
theorem Inv.fpOk {X : Cx} {pins : List (Addr × Obj)} {σ : St} {H H' : Hp} {s : Shared} {b : Addr} (I : Inv X pins σ H s) (hb : s.heap.objs.size ≤ b) (hn : H' b = none) : FpOk X pins H' b := by
  refine ⟨hn, Nat.ne_of_gt (Nat.lt_of_lt_of_le I.lt hb), I.nofs hb, .inr (Nat.le_trans I.sz hb), fun x c e z => ?_, fun p hp z => ?_⟩
  · obtain ⟨v, q⟩ := I.cell x c e
    exact absurd (Nat.lt_of_lt_of_le q.lt (by rw [z]; exact hb)) (Nat.lt_irrefl _)
  · exact absurd (Nat.lt_of_lt_of_le (Heap.lt_size (I.pin p hp).1) (by rw [z]; exact hb)) (Nat.lt_irrefl _)
structure Turn (P : Program) (w : World) (K : PySem.W.Frag) (tg : Expr) (J : It) (fp : List Addr) (it : Addr) (tn : Nat → Heap → Prop) : Prop where
  mem : it ∈ fp
  obj : ∀ i h, tn i h → ∀ b ∈ fp, ∃ o, h.get? b = some o ∧ ∀ v, o.data ≠ .cell v
  keep : ∀ i h h', tn i h → (∀ b ∈ fp, ∀ o, h.get? b = some o → h'.get? b = some o) → tn i h'
  item : ∀ (X : Cx), X.prog = P → X.w = w → X.K = K → X.calm = true → ∀ (i : Nat) (pins : List (Addr × Obj)) (s : Shared) (σ : St) (H : Hp) (E : Value → Shared → Prop), Inv X pins σ H s → (∀ b ∈ fp, FpOk X pins H b) → tn i s.heap → J.go i H →
    wpAny (model P w) X.A (pyNext (.ref it)) (fun r s1 => ∃ u, r = some u ∧
      wpAny (model P w) X.A (letOwnedTupleGo tg (.ref it) u) (fun _ s2 => ∃ x H', Inv X pins σ H' s2 ∧ RelV x u ∧ J.yld i H x H' ∧ tn (i + 1) s2.heap ∧ ∀ b ∈ fp, H' b = none) E s1) E s
  done : ∀ (X : Cx), X.prog = P → X.w = w → X.K = K → X.calm = true → ∀ (i : Nat) (pins : List (Addr × Obj)) (s : Shared) (σ : St) (H : Hp) (E : Value → Shared → Prop), Inv X pins σ H s → (∀ b ∈ fp, FpOk X pins H b) → tn i s.heap → J.stop i H →
    wpAny (model P w) X.A (pyNext (.ref it)) (fun r s1 => r = none ∧ Inv X pins σ H s1) E s
  self : ∀ (A : Around) (i : Nat) (s : Shared) (Q : Value → Shared → Prop) (E : Value → Shared → Prop), tn i s.heap → Q (.ref it) s → wpAny (model P w) A (pyIter (.ref it)) Q E s
abbrev TI := St → Hp → (It → Hp → Prop) → Prop
/-- an iterator has come -/
def PIE (X : Cx) (pins : List (Addr × Obj)) (σ : St) (tg : Expr) (R : It → Hp → Prop) (itv : Value) (s2 : Shared) : Prop :=
  ∃ (it : Addr) (fp : List Addr) (tn : Nat → Heap → Prop) (J : It) (H' : Hp), itv = .ref it ∧ Inv X pins σ H' s2 ∧ Turn X.prog X.w X.K tg J fp it tn ∧ tn 0 s2.heap ∧ (∀ b ∈ fp, FpOk X pins H' b) ∧ R J H'
def PI (X : Cx) (tg iter : Expr) (wi : TI) : Prop :=
  ∀ (pins : List (Addr × Obj)) (s : Shared) (σ : St) (H : Hp) (R : It → Hp → Prop), Inv X pins σ H s → wi σ H R →
    wpAny (model X.prog X.w) X.A (eval iter X.env) (fun v s1 => wpAny (model X.prog X.w) X.A (pyIter v) (PIE X pins σ tg R) X.xe s1) X.xe s

/-- the step ahead of the store is nothing for an iterator that keeps no tuple -/
theorem go_of {M : Model} {A : Around} {E : Value → Shared → Prop} {s : Shared} {tg : Expr} {it : Addr} {u : Value} {o : Obj} {n : String} {vs : Array Value} {Q : Unit → Shared → Prop} (ho : s.heap.get? it = some o) (hc : o.cls = .type n) (hd : o.data = .fields vs)
    (hn : ["enumerate", "zip", "dict_itemiterator", "dict_reverseitemiterator", "odict_iterator", "itertools.zip_longest", "itertools.pairwise"].contains n = false) (hQ : Q () s) : wpAny M A (letOwnedTupleGo tg (.ref it) u) Q E s := by
  unfold letOwnedTupleGo
  cases tg <;> first
    | exact wpAny_pure hQ
    | (cases u <;> first
        | exact wpAny_pure hQ
        | (refine wpAny_bind (wpAny_load ho ?_)
           rw [hc, hd]
           show wpAny M A (if (["enumerate", "zip", "dict_itemiterator", "dict_reverseitemiterator", "odict_iterator", "itertools.zip_longest", "itertools.pairwise"].contains n && vs[0]? == some (rawInt _)) = true then _ else _) Q E s
           rw [if_neg (by intro h; rw [hn, Bool.false_and] at h; cases h)]
           exact wpAny_pure hQ))

/-- the list at a, as it stands at each turn (a loop may append to it) -/
def Itl (K : PySem.W.Frag) (a : Addr) : It :=
  ⟨fun i H => ∃ xs x, SqL K H a xs ∧ xs[i]? = some x, fun i H x H' => H' = H ∧ ∀ xs, SqL K H a xs → xs[i]? = some x, fun i H => ∃ xs, SqL K H a xs ∧ xs.length ≤ i⟩
def Itt (K : PySem.W.Frag) (a : Addr) : It :=
  ⟨fun i H => ∃ xs x, SqT K H a xs ∧ xs[i]? = some x, fun i H x H' => H' = H ∧ ∀ xs, SqT K H a xs → xs[i]? = some x, fun i H => ∃ xs, SqT K H a xs ∧ xs.length ≤ i⟩
/-- lo, lo + 1, .. (n of them) -/
def Itr (lo : Int) (n : Nat) : It := ⟨fun i _ => i < n, fun i H x H' => H' = H ∧ x = .int (lo + i), fun i _ => n ≤ i⟩
theorem turn_list {P : Program} {w : World} {K : PySem.W.Frag} {tg : Expr} (a it : Addr) : Turn P w K tg (Itl K a) [it] it (fun i h => h.IsListIter it a i) where
  mem := by simp
  obj := fun i h st b hb => by
    have e : b = it := by simpa using hb
    subst e
    obtain ⟨o, e, c, d⟩ := st
    exact ⟨o, e, fun v z => by rw [d] at z; cases z⟩
  keep := fun i h h' st k => st.at fun o e => k it (by simp) o e
  item := by
    intro X hP hw hK hc i pins s σ H E I hf st hg
    subst hP hw hK
    obtain ⟨xs, x, hq, hx⟩ := hg
    obtain ⟨its, rv, p, hz⟩ := I.list hq
    obtain ⟨u, hu, ru⟩ := rv.get hx
    obtain ⟨f0, f1, f2, f3, f4, f5⟩ := hf it (by simp)
    refine wpAny_pyNext_list_item st p.isList (x := u) (by simpa using hu) fun h' st' sb => ?_
    have I1 : Inv X pins σ H { s with heap := h' } := I.turned (t' := s.toks) (fun b o hb e => (sb.2 b hb).trans e) f0 f1 f3 f4 f5
    obtain ⟨o, e, c, d⟩ := id st'
    exact ⟨u, rfl, go_of (s := { s with heap := h' }) e c d (by decide) ⟨x, H, I1, ru, ⟨rfl, fun ys hy => by rw [I.list_inj hy hq]; exact hx⟩, st', fun b hb => (hf b hb).1⟩⟩
  done := by
    intro X hP hw hK hc i pins s σ H E I hf st hg
    subst hP hw hK
    obtain ⟨xs, hq, hx⟩ := hg
    obtain ⟨its, rv, p, hz⟩ := I.list hq
    obtain ⟨f0, f1, f2, f3, f4, f5⟩ := hf it (by simp)
    have hl := rv.length
    exact wpAny_pyNext_list_end (I.ok.hd hc) st p.isList (by simp; omega) fun h' eb => ⟨rfl, I.turned (t' := s.toks) (fun b o hb e => eb b o hb e) f0 f1 f3 f4 f5⟩
  self := fun _ _ _ _ _ st h => wpAny_pyIter_listiter st h
theorem turn_tuple {P : Program} {w : World} {K : PySem.W.Frag} {tg : Expr} (a it : Addr) : Turn P w K tg (Itt K a) [it] it (fun i h => h.IsTupleIter it a i) where
  mem := by simp
  obj := fun i h st b hb => by
    have e : b = it := by simpa using hb
    subst e
    obtain ⟨o, e, c, d⟩ := st
    exact ⟨o, e, fun v z => by rw [d] at z; cases z⟩
  keep := fun i h h' st k => st.at fun o e => k it (by simp) o e
  item := by
    intro X hP hw hK hc i pins s σ H E I hf st hg
    subst hP hw hK
    obtain ⟨xs, x, hq, hx⟩ := hg
    obtain ⟨its, rv, p, hz⟩ := I.tuple hq
    obtain ⟨u, hu, ru⟩ := rv.get hx
    obtain ⟨f0, f1, f2, f3, f4, f5⟩ := hf it (by simp)
    refine wpAny_pyNext_tuple_item st (show s.heap.IsTuple a its.toArray from p) (x := u) (by simpa using hu) fun h' st' sb => ?_
    have I1 : Inv X pins σ H { s with heap := h' } := I.turned (t' := s.toks) (fun b o hb e => (sb.2 b hb).trans e) f0 f1 f3 f4 f5
    obtain ⟨o, e, c, d⟩ := id st'
    exact ⟨u, rfl, go_of (s := { s with heap := h' }) e c d (by decide) ⟨x, H, I1, ru, ⟨rfl, fun ys hy => by rw [I.tuple_inj hy hq]; exact hx⟩, st', fun b hb => (hf b hb).1⟩⟩
  done := by
    intro X hP hw hK hc i pins s σ H E I hf st hg
    subst hP hw hK
    obtain ⟨xs, hq, hx⟩ := hg
    obtain ⟨its, rv, p, hz⟩ := I.tuple hq
    obtain ⟨f0, f1, f2, f3, f4, f5⟩ := hf it (by simp)
    have hl := rv.length
    exact wpAny_pyNext_tuple_end (I.ok.hd hc) st (show s.heap.IsTuple a its.toArray from p) (by simp; omega) fun h' eb => ⟨rfl, I.turned (t' := s.toks) (fun b o hb e => eb b o hb e) f0 f1 f3 f4 f5⟩
  self := fun _ _ _ _ _ st h => wpAny_pyIter_tupleiter st h
theorem turn_range {P : Program} {w : World} {K : PySem.W.Frag} {tg : Expr} (it : Addr) (lo : Int) (n : Nat) : Turn P w K tg (Itr lo n) [it] it (fun i h => IsRangeIter h it (lo + (i : Nat) * 1) ((n : Int) - (i : Nat)) 1) where
  mem := by simp
  obj := fun i h st b hb => by
    have e : b = it := by simpa using hb
    subst e
    exact ⟨_, st, fun v z => by
      have z' : Data.fields _ = Data.cell v := z
      cases z'⟩
  keep := fun i h h' st k => k it (by simp) _ st
  item := by
    intro X hP hw hK hc i pins s σ H E I hf st hg
    subst hP hw hK
    obtain ⟨f0, f1, f2, f3, f4, f5⟩ := hf it (by simp)
    have W := Walks.range (prog := X.prog) (w := X.w) (I.ok.hd hc) it lo 1 n
    refine W.item i s _ _ hg st fun v h' tk hv st' kk => ?_
    obtain ⟨t, rfl⟩ := hv
    have I1 : Inv X pins σ H { s with heap := h', toks := tk } := I.turned (fun b o hb e => kk b o (by simpa using hb) e) f0 f1 f3 f4 f5
    refine ⟨_, rfl, go_of (s := { s with heap := h', toks := tk }) (n := "range_iterator") st' rfl rfl (by decide) ⟨.int (lo + i), H, I1, ⟨t, ?_⟩, ⟨rfl, rfl⟩, st', fun b hb => (hf b hb).1⟩⟩
    rw [Int.mul_one]
  done := by
    intro X hP hw hK hc i pins s σ H E I hf st hg
    subst hP hw hK
    obtain ⟨f0, f1, f2, f3, f4, f5⟩ := hf it (by simp)
    exact wpAny_pyNext_range_end (I.ok.hd hc) st (by have : n ≤ i := hg; omega) fun h' eb => ⟨rfl, I.turned (t' := s.toks) (fun b o hb e => eb b o hb e) f0 f1 f3 f4 f5⟩
  self := fun _ _ _ _ _ st h => wpAny_pyIter_rangeiter st h
end L2

namespace L2
open PySem PySem.Spec PyProof.Rows
section
variable {X : Cx} {tg : Expr}
def iList (K : PySem.W.Frag) (tl : TE) : TI := fun σ H R => tl σ H fun x H1 => ∃ a, x = .ref a ∧ (∃ xs, SqL K H1 a xs) ∧ R (Itl K a) H1
def iTup (K : PySem.W.Frag) (tl : TE) : TI := fun σ H R => tl σ H fun x H1 => ∃ a, x = .ref a ∧ (∃ xs, SqT K H1 a xs) ∧ R (Itt K a) H1
theorem pi_list {l : Expr} {tl : TE} (hl : PE X l tl) : PI X tg l (iList X.K tl) := by
  intro pins s σ H R I h
  refine thn (hl pins s σ H _ I h) fun v s1 ⟨x, H1, I1, r1, q1⟩ => ?_
  obtain ⟨a, e, ⟨xs, hq⟩, q⟩ := q1
  subst e
  cases r1
  obtain ⟨its, rv, p, hz⟩ := I1.list hq
  refine wpAny_pyIter_list p.isList ?_
  refine ⟨s1.heap.objs.size, [s1.heap.objs.size], _, _, H1, rfl, I1.kept (t' := s1.toks) fun b o e => Heap.get?_push_of_some _ e, turn_list a _, ⟨_, Heap.get?_push_size _ rfl, rfl, rfl⟩, fun b hb => ?_, q⟩
  have e : b = s1.heap.objs.size := by simpa using hb
  subst e
  exact I1.fpOk (Nat.le_refl _) (I1.hok.fresh (Nat.le_refl _))
theorem pi_tup {l : Expr} {tl : TE} (hl : PE X l tl) : PI X tg l (iTup X.K tl) := by
  intro pins s σ H R I h
  refine thn (hl pins s σ H _ I h) fun v s1 ⟨x, H1, I1, r1, q1⟩ => ?_
  obtain ⟨a, e, ⟨xs, hq⟩, q⟩ := q1
  subst e
  cases r1
  obtain ⟨its, rv, p, hz⟩ := I1.tuple hq
  refine wpAny_pyIter_tuple (show s1.heap.IsTuple a its.toArray from p) ?_
  refine ⟨s1.heap.objs.size, [s1.heap.objs.size], _, _, H1, rfl, I1.kept (t' := s1.toks) fun b o e => Heap.get?_push_of_some _ e, turn_tuple a _, ⟨_, Heap.get?_push_size _ rfl, rfl, rfl⟩, fun b hb => ?_, q⟩
  have e : b = s1.heap.objs.size := by simpa using hb
  subst e
  exact I1.fpOk (Nat.le_refl _) (I1.hok.fresh (Nat.le_refl _))
/-- a range object just made, walked -/
theorem range_it {pins : List (Addr × Obj)} {σ : St} {H : Hp} {s : Shared} {R : It → Hp → Prop} {E : Value → Shared → Prop} {lo hi : Int} {t u v : Tok} {tk : Nat} (I : Inv X pins σ H s) (h1 : -(2 ^ 62) ≤ lo) (h2 : lo < 2 ^ 62) (h3 : -(2 ^ 62) ≤ hi) (h4 : hi < 2 ^ 62)
    (q : R (Itr lo (hi - lo).toNat) H) : wpAny (model X.prog X.w) X.A (pyIter (.ref s.heap.objs.size)) (PIE X pins σ tg R) E { s with heap := s.heap.push { cls := .type "range", data := .fields #[.int lo t, .int hi u, .int 1 v] }, toks := tk } := by
  refine wpAny_pyIter_range (IsRange.new ..) (small_one h1 h2 h3 h4) ?_
  have I1 : Inv X pins σ H { s with heap := s.heap.push { cls := .type "range", data := .fields #[.int lo t, .int hi u, .int 1 v] }, toks := tk } := I.kept fun b o e => Heap.get?_push_of_some _ e
  refine ⟨(s.heap.push { cls := .type "range", data := .fields #[.int lo t, .int hi u, .int 1 v] }).objs.size, [(s.heap.push { cls := .type "range", data := .fields #[.int lo t, .int hi u, .int 1 v] }).objs.size], _, _, H, rfl,
    I1.kept (t' := tk) fun b o e => Heap.get?_push_of_some _ e, turn_range _ lo (hi - lo).toNat, ?_, fun b hb => ?_, q⟩
  · have e1 : lo + ((0 : Nat) : Int) * 1 = lo := by simp
    have e2 : (((hi - lo).toNat : Nat) : Int) - ((0 : Nat) : Int) = Builtin.Range.rangeSize lo hi 1 := by rw [rangeSize_one]; split <;> omega
    show IsRangeIter _ _ (lo + ((0 : Nat) : Int) * 1) ((((hi - lo).toNat : Nat) : Int) - ((0 : Nat) : Int)) 1
    rw [e1, e2]
    exact Heap.get?_push_size _ rfl
  · have e : b = (s.heap.push { cls := .type "range", data := .fields #[.int lo t, .int hi u, .int 1 v] }).objs.size := by simpa using hb
    subst e
    exact I1.fpOk (Nat.le_refl _) (I1.hok.fresh (Nat.le_refl _))
def iRng1 (ta : TA) : TI := fun σ H R => ta σ H fun vs H1 => ∃ j : Int, vs = [.int j] ∧ -(2 ^ 62) ≤ j ∧ j < 2 ^ 62 ∧ R (Itr 0 j.toNat) H1
theorem pi_range1 {a : Expr} {ta : TA} {p pos : Pos} (hg : Gl X "range") (hm : X.mg "range" = none) (ha : PA X [a] ta) (hs : starEach [a] X.env = [(false, eval a X.env)] := by rfl) : PI X tg (.Call (.Name "range" p) [a] [] pos) (iRng1 ta) := by
  intro pins s σ H R I h
  refine Call_ (ld_blt I hg hm boot_range (PyProof.Rows.callWith_type1 (thn (ha pos pins s σ H _ I h) fun us s1 ⟨vs, H1, I1, r1, q1⟩ => ?_) hs rfl))
  obtain ⟨j, e, q1, q2, q⟩ := q1
  subst e
  cases r1 with
  | cons r rr =>
    cases rr
    obtain ⟨t, rfl⟩ := r
    exact call_range_1 (range_it I1 (by omega) (by omega) q1 q2 (by simpa using q))
/-- W: the invariant by the turn and a measure; N: what the body is to reach -/
def tFor (wi : TI) (g : TG) (tb : TS) : TS := fun D σ H => wi σ H fun J H1 => ∃ W : Nat → Nat → St → Hp → Prop, (∃ m, W 0 m σ H1) ∧ ∀ i m σ H, W i m σ H →
  (J.stop i H ∧ D.nx σ H) ∨ (J.go i H ∧ ∃ N : St → Hp → Prop, (∀ σ' H', N σ' H' → ∃ m', m' < m ∧ W (i + 1) m' σ' H') ∧ ∀ x H', J.yld i H x H' → g x σ H' fun σ2 H2 => tb { D with nx := N, ct := N, bk := D.nx } σ2 H2)
/-- the records at fp as they stand -/
def pinsAt (fp : List Addr) (h : Heap) : List (Addr × Obj) := fp.filterMap fun b => (h.get? b).map fun o => (b, o)
theorem mem_pinsAt {fp : List Addr} {h : Heap} {b : Addr} {o : Obj} (hb : b ∈ fp) (e : h.get? b = some o) : (b, o) ∈ pinsAt fp h := List.mem_filterMap.mpr ⟨b, hb, by rw [e]; rfl⟩
theorem of_pinsAt {fp : List Addr} {h : Heap} {p : Addr × Obj} (hp : p ∈ pinsAt fp h) : p.1 ∈ fp ∧ h.get? p.1 = some p.2 := by
  obtain ⟨b, hb, e⟩ := List.mem_filterMap.mp hp
  cases q : h.get? b with
  | none => rw [q] at e; cases e
  | some o =>
    rw [q] at e
    have e' : (b, o) = p := Option.some.inj e
    subst e'
    exact ⟨hb, q⟩
theorem Inv.pinned {pins : List (Addr × Obj)} {σ : St} {H : Hp} {s : Shared} {fp : List Addr} (I : Inv X pins σ H s) (hf : ∀ b ∈ fp, FpOk X pins H b) (ho : ∀ b ∈ fp, ∃ o, s.heap.get? b = some o ∧ ∀ v, o.data ≠ .cell v) : Inv X (pins ++ pinsAt fp s.heap) σ H s :=
  I.pins_of fun p hp => (List.mem_append.mp hp).elim (fun z => I.pin p (List.mem_append_right _ z)) fun z => by
    obtain ⟨hb, e⟩ := of_pinsAt z
    obtain ⟨f0, f1, f2, _⟩ := hf p.1 hb
    obtain ⟨o, e', d⟩ := ho p.1 hb
    rw [e] at e'; cases e'
    exact ⟨e, f0, f1, f2, d⟩
theorem Inv.unpinned {pins pl : List (Addr × Obj)} {σ : St} {H : Hp} {s : Shared} (I : Inv X (pins ++ pl) σ H s) : Inv X pins σ H s := I.pins_of fun p hp => I.pin p (List.mem_append_right _ (List.mem_append_left _ hp))
theorem ps_for {iter : Expr} {body : List Stmt} {wi : TI} {g : TG} {tb : TS} {pos : Pos} (hp : PassesOwn (model X.prog X.w) X.A X.env X.xe) (hc : X.calm = true) (hi : PI X tg iter wi) (hg : PG X tg g) (hb : PSs X body tb)
    (hs : ∀ x, foldedSetIterable iter X.env x = pure x := by intro _; rfl) : PS X (.For tg iter body [] pos) (tFor wi g tb) := by
  intro pins s σ H D I h
  refine wpAny_For (thn (hi pins s σ H _ I h) fun v s1 h1 => thn h1 fun itv s2 h2 => ?_) hs
  obtain ⟨it, fp, tn, J, H2, e, I2, T, st2, f2, W, ⟨m0, w0⟩, turn⟩ := h2
  subst e
  -- what stays true of the iterator's objects through the loop
  have stat : ∀ {H' : Hp}, (∀ b ∈ fp, H' b = none) → ∀ b ∈ fp, FpOk X pins H' b := fun hn b hb => ⟨hn b hb, (f2 b hb).2⟩
  refine codeAny_forLoop_any (fun n s' => ∃ i σ' H', Inv X pins σ' H' s' ∧ tn i s'.heap ∧ (∀ b ∈ fp, H' b = none) ∧ W i n σ' H') ?_ m0 ⟨0, σ, H2, I2, st2, fun b hb => (f2 b hb).1, w0⟩
  rintro n s3 ⟨i, σ3, H3, I3, st3, fr3, w3⟩
  rcases turn i n σ3 H3 w3 with ⟨stop, qn⟩ | ⟨go, N, hN, step⟩
  · refine wpAny_passesOwn hp (thn (T.done X rfl rfl rfl hc i pins s3 σ3 H3 X.xe I3 (stat fr3) st3 stop) fun r s4 ⟨hr, I4⟩ => ?_)
    subst hr
    exact wpAny_execs_nil ⟨σ3, H3, I4, qn⟩
  · refine wpAny_passesOwn hp (thn (T.item X rfl rfl rfl hc i pins s3 σ3 H3 X.xe I3 (stat fr3) st3 go) fun r s4 ⟨u, hr, h4⟩ => ?_)
    subst hr
    refine wpAny_passesOwn hp (thn h4 fun _ s5 ⟨x, H5, I5, r5, y5, st5, fr5⟩ => ?_)
    have I5' := I5.pinned (stat fr5) (T.obj _ _ st5)
    refine wpAny_passesOwn hp (thn (hg _ s5 σ3 H5 x u _ I5' r5 (step x H5 y5)) fun _ s6 ⟨σ6, H6, I6, q6⟩ => ?_)
    refine wpAny_passesOwn hp (thn (hb _ s6 σ6 H6 _ I6 q6) fun f s7 q7 => ?_)
    have again : ∀ {σ7 : St} {H7 : Hp}, Inv X (pins ++ pinsAt fp s5.heap) σ7 H7 s7 → N σ7 H7 → ∃ m, m < n ∧ ∃ i σ' H', Inv X pins σ' H' s7 ∧ tn i s7.heap ∧ (∀ b ∈ fp, H' b = none) ∧ W i m σ' H' := fun {σ7 H7} I7 n7 => by
      obtain ⟨m', hm, w7⟩ := hN σ7 H7 n7
      refine ⟨m', hm, i + 1, σ7, H7, I7.unpinned, T.keep _ _ _ st5 fun b hb o e => (I7.pin (b, o) (List.mem_append_right _ (List.mem_append_right _ (mem_pinsAt hb e)))).1, fun b hb => ?_, w7⟩
      obtain ⟨o, e, d⟩ := T.obj _ _ st5 b hb
      exact (I7.pin (b, o) (List.mem_append_right _ (List.mem_append_right _ (mem_pinsAt hb e)))).2.1
    cases f with
    | next => obtain ⟨σ7, H7, I7, n7⟩ := q7; exact again I7 n7
    | cont => obtain ⟨σ7, H7, I7, n7⟩ := q7; exact again I7 n7
    | brk => obtain ⟨σ7, H7, I7, q7⟩ := q7; exact ⟨σ7, H7, I7.unpinned, q7⟩
    | ret v => obtain ⟨x7, σ7, H7, I7, r7, q7⟩ := q7; exact ⟨x7, σ7, H7, I7.unpinned, r7, q7⟩
end

end L2

namespace L2
open PySem PySem.Spec PyProof.Rows

abbrev R2 := V → V → Hp → VK → Prop
/-- a two-place operation on values: f is binaryOp op, inplaceOp op or compareOp op -/
def OpR (X : Cx) (f : Value → Value → Sem Value) (r : R2) : Prop :=
  ∀ (pins : List (Addr × Obj)) (s : Shared) (σ : St) (H : Hp) (x y : V) (v u : Value) (Q : VK), Inv X pins σ H s → RelV x v → RelV y u → r x y H Q →
    wpAny (model X.prog X.w) X.A (f v u) (EP X pins σ Q) X.xe s
/-- a call of a value that is known (a builtin, a type) with values -/
def CallR (X : Cx) (f : Value) (r : List V → Hp → VK → Prop) : Prop :=
  ∀ (pins : List (Addr × Obj)) (s : Shared) (σ : St) (H : Hp) (xs : List V) (us : List Value) (Q : VK), Inv X pins σ H s → Vals xs us → r xs H Q →
    wpAny (model X.prog X.w) X.A (call f us) (EP X pins σ Q) X.xe s
def tOp (r : R2) (ta tb : TE) : TE := fun σ H Q => ta σ H fun x H1 => tb σ H1 fun y H2 => r x y H2 Q
/-- ints in, under C, and a value out -/
def rI (C : Int → Int → Prop) (g : Int → Int → V) : R2 := fun x y H Q => ∃ i j, x = .int i ∧ y = .int j ∧ C i j ∧ Q (g i j) H
def rI0 (g : Int → Int → V) : R2 := fun x y H Q => ∃ i j, x = .int i ∧ y = .int j ∧ Q (g i j) H
section
variable {X : Cx} {a b c : Expr} {ta tb tc : TE} {pos : Pos}

theorem binT (ha : PE X a ta) (hb : PE X b tb) {pins : List (Addr × Obj)} {s : Shared} {σ : St} {H : Hp} {R : V → V → Hp → Prop} (I : Inv X pins σ H s)
    (h : ta σ H fun x H1 => tb σ H1 fun y H2 => R x y H2) {Q : Value → Shared → Prop} {f : Value → Value → Sem Value}
    (hf : ∀ v u s2 x y H2, Inv X pins σ H2 s2 → RelV x v → RelV y u → R x y H2 → wpAny (model X.prog X.w) X.A (f v u) Q X.xe s2) :
    wpAny (model X.prog X.w) X.A (eval a X.env) (fun v s₁ => wpAny (model X.prog X.w) X.A (eval b X.env) (fun u s₂ => wpAny (model X.prog X.w) X.A (f v u) Q X.xe s₂) X.xe s₁) X.xe s := by
  refine thn (ha pins s σ H _ I h) fun v s1 ⟨x, H1, I1, r1, q1⟩ => ?_
  refine thn (hb pins s1 σ H1 _ I1 q1) fun u s2 ⟨y, H2, I2, r2, q2⟩ => ?_
  exact hf v u s2 x y H2 I2 r1 r2 q2

theorem pe_op {op : Operator} {r : R2} (ho : OpR X (binaryOp op) r) (ha : PE X a ta) (hb : PE X b tb) : PE X (.BinOp a op b pos) (tOp r ta tb) := by
  intro pins s σ H Q I h
  exact wpAny_BinOp (binT ha hb I h fun v u s2 x y H2 I2 rx ry q => ho pins s2 σ H2 x y v u Q I2 rx ry q)
theorem opI {f : Value → Value → Sem Value} {C : Int → Int → Prop} {g : Int → Int → Int}
    (rule : ∀ (i j : Int) (t u : Tok) (s : Shared) (Q : Value → Shared → Prop) (E : Value → Shared → Prop), C i j → Q (.int (g i j) s.toks) { s with toks := s.toks + 1 } → wpAny (model X.prog X.w) X.A (f (.int i t) (.int j u)) Q E s) :
    OpR X f (rI C fun i j => .int (g i j)) := by
  intro pins s σ H x y v u Q I rx ry h
  obtain ⟨i, j, rfl, rfl, hc, q⟩ := h
  obtain ⟨t, rfl⟩ := rx
  obtain ⟨t', rfl⟩ := ry
  exact rule i j t t' s _ _ hc ⟨.int (g i j), H, I.tok _, ⟨_, rfl⟩, q⟩
theorem opI0 {f : Value → Value → Sem Value} {g : Int → Int → Int}
    (rule : ∀ (i j : Int) (t u : Tok) (s : Shared) (Q : Value → Shared → Prop) (E : Value → Shared → Prop), Q (.int (g i j) s.toks) { s with toks := s.toks + 1 } → wpAny (model X.prog X.w) X.A (f (.int i t) (.int j u)) Q E s) :
    OpR X f (rI0 fun i j => .int (g i j)) := by
  intro pins s σ H x y v u Q I rx ry h
  obtain ⟨i, j, rfl, rfl, q⟩ := h
  obtain ⟨t, rfl⟩ := rx
  obtain ⟨t', rfl⟩ := ry
  exact rule i j t t' s _ _ ⟨.int (g i j), H, I.tok _, ⟨_, rfl⟩, q⟩
theorem opB0 {f : Value → Value → Sem Value} {g : Int → Int → Bool}
    (rule : ∀ (i j : Int) (t u : Tok) (s : Shared) (Q : Value → Shared → Prop) (E : Value → Shared → Prop), Q (.bool (g i j)) s → wpAny (model X.prog X.w) X.A (f (.int i t) (.int j u)) Q E s) :
    OpR X f (rI0 fun i j => .bl (g i j)) := by
  intro pins s σ H x y v u Q I rx ry h
  obtain ⟨i, j, rfl, rfl, q⟩ := h
  obtain ⟨t, rfl⟩ := rx
  obtain ⟨t', rfl⟩ := ry
  exact rule i j t t' s _ _ ⟨.bl (g i j), H, I, rfl, q⟩

def CPow (i j : Int) : Prop := 0 ≤ j ∧ j ≤ 1000000 ∧ i.natAbs < 2 ^ 64
def CMul (i j : Int) : Prop := (-(2 ^ 64) < i ∧ i < 2 ^ 64) ∨ (-(2 ^ 64) < j ∧ j < 2 ^ 64)
theorem CMul.ok {i j : Int} (h : CMul i j) : IntMulOk i j := by
  rcases h with ⟨h1, h2⟩ | ⟨h1, h2⟩
  · exact .of_left (intBits_le_64 h1 h2)
  · exact .of_right (intBits_le_64 h1 h2)
theorem op_add : OpR X (binaryOp .Add) (rI0 fun i j => .int (i + j)) := opI0 fun _ _ _ _ _ _ _ q => add_int q
theorem op_mul : OpR X (binaryOp .Mult) (rI CMul fun i j => .int (i * j)) := opI fun _ _ _ _ _ _ _ hc q => mul_int q hc.ok
/-- % by a positive divisor of any size -/
theorem op_mod : OpR X (binaryOp .Mod) (rI (fun _ j => 0 < j) fun i j => .int (i % j)) := opI fun i j _ _ _ _ _ hc q => by
  have h1 : (0 : Int) < j := hc
  exact mod_int' (by omega) (by rw [Int.fmod_eq_emod_of_nonneg i (by omega)]; exact q)
theorem op_shl : OpR X (binaryOp .LShift) (rI CPow fun i j => .int (i * 2 ^ j.toNat)) := opI fun _ _ _ _ _ _ _ hc q => lshift_int_small hc.1 hc.2.1 hc.2.2 q
theorem op_or : OpR X (binaryOp .BitOr) (rI0 fun i j => .int (Builtin.bitOr i j)) := opI0 fun _ _ _ _ _ _ _ q => or_int q
theorem op_add_ib : OpR X (binaryOp .Add) (fun x y H Q => ∃ i k, x = .int i ∧ y = .bl k ∧ Q (.int (i + b2i k)) H) := by
  intro pins s σ H x y v u Q I rx ry h
  obtain ⟨i, k, rfl, rfl, q⟩ := h
  obtain ⟨t, rfl⟩ := rx
  cases ry
  exact add_int_bool ⟨.int (i + b2i k), H, I.tok _, ⟨_, rfl⟩, q⟩
end

/-- the scalars that == tells apart as data does -/
def scal : V → V → Bool
  | .non, .non => true | .non, .int _ => true | .int _, .non => true | .non, .bl _ => true | .bl _, .non => true | .non, .str _ => true | .str _, .non => true
  | .int _, .int _ => true | .bl _, .bl _ => true | .str _, .str _ => true | .byt _, .byt _ => true
  | .int _, .str _ => true | .str _, .int _ => true | .bl _, .str _ => true | .str _, .bl _ => true
  | _, _ => false
def rEq : R2 := fun x y H Q => scal x y = true ∧ Q (.bl (decide (x = y))) H
theorem dec_int {i j : Int} : decide (V.int i = V.int j) = (i == j) := by
  rw [Bool.eq_iff_iff]
  simp
theorem dec_bl {i j : Bool} : decide (V.bl i = V.bl j) = (i == j) := by
  rw [Bool.eq_iff_iff]
  simp
theorem dec_str {i j : Str} : decide (V.str i = V.str j) = (i == j) := by
  rw [Bool.eq_iff_iff]
  simp
theorem dec_byt {i j : Array UInt8} : decide (V.byt i = V.byt j) = (i.toList == j.toList) := by
  rw [Bool.eq_iff_iff]
  cases i
  cases j
  simp

section
variable {X : Cx} {a b c : Expr} {ta tb tc : TE} {pos : Pos}
theorem fin_bl {pins : List (Addr × Obj)} {σ : St} {H : Hp} {s : Shared} {Q : VK} {k k' : Bool} (I : Inv X pins σ H s) (q : Q (.bl k) H) (e : k = k') : EP X pins σ Q (.bool k') s := by
  subst e
  exact ⟨.bl k, H, I, rfl, q⟩
theorem op_eq : OpR X (compareOp .Eq) rEq := by
  intro pins s σ H x y v u Q I rx ry h
  obtain ⟨hs, q⟩ := h
  cases x with
  | non =>
    cases rx
    cases y with
    | non => cases ry; exact PySem.EqNone.eq_none_none (fin_bl I q (by simp))
    | bl j => cases ry; exact PySem.EqNone.eq_none_bool (fin_bl I q (by simp))
    | int j => obtain ⟨t', rfl⟩ := ry; exact PySem.EqNone.eq_none_int (fin_bl I q (by simp))
    | str j => obtain ⟨t', rfl⟩ := ry; exact PySem.EqNone.eq_none_str (fin_bl I q (by simp))
    | _ => exact absurd (show false = true from hs) Bool.false_ne_true
  | bl i =>
    cases rx
    cases y with
    | non => cases ry; exact PySem.EqNone.eq_bool_none (fin_bl I q (by simp))
    | bl j => cases ry; exact eq_bool (fin_bl I q dec_bl)
    | str j => obtain ⟨t', rfl⟩ := ry; exact PySem.EqMixed.eq_bool_str (fin_bl I q (by simp))
    | _ => exact absurd (show false = true from hs) Bool.false_ne_true
  | int i =>
    obtain ⟨t, rfl⟩ := rx
    cases y with
    | non => cases ry; exact PySem.EqNone.eq_int_none (fin_bl I q (by simp))
    | int j => obtain ⟨t', rfl⟩ := ry; exact eq_int (fin_bl I q dec_int)
    | str j => obtain ⟨t', rfl⟩ := ry; exact PySem.EqMixed.eq_int_str (fin_bl I q (by simp))
    | _ => exact absurd (show false = true from hs) Bool.false_ne_true
  | str i =>
    obtain ⟨t, rfl⟩ := rx
    cases y with
    | non => cases ry; exact PySem.EqNone.eq_str_none (fin_bl I q (by simp))
    | bl j => cases ry; exact PySem.EqMixed.eq_str_bool (fin_bl I q (by simp))
    | int j => obtain ⟨t', rfl⟩ := ry; exact PySem.EqMixed.eq_str_int (fin_bl I q (by simp))
    | str j => obtain ⟨t', rfl⟩ := ry; exact eq_str (fin_bl I q dec_str)
    | _ => exact absurd (show false = true from hs) Bool.false_ne_true
  | byt i =>
    obtain ⟨t, rfl⟩ := rx
    cases y with
    | byt j => obtain ⟨t', rfl⟩ := ry; exact PySem.W.eq_bytes (fin_bl I q dec_byt)
    | _ => exact absurd (show false = true from hs) Bool.false_ne_true
  | _ => cases y <;> exact absurd (show false = true from hs) Bool.false_ne_true
theorem op_lt : OpR X (compareOp .Lt) (rI0 fun i j => .bl (decide (i < j))) := opB0 fun _ _ _ _ _ _ _ q => lt_int q
theorem op_gt : OpR X (compareOp .Gt) (rI0 fun i j => .bl (decide (j < i))) := opB0 fun _ _ _ _ _ _ _ q => gt_int q
/-- the one string within the other -/
theorem op_in_str : OpR X (compareOp .In) (fun x y H Q => ∃ i j, x = .str i ∧ y = .str j ∧ Q (.bl (!(Builtin.Str.occurrences j i 0 j.length 1).isEmpty)) H) := by
  intro pins s σ H x y v u Q I rx ry h
  obtain ⟨i, j, rfl, rfl, q⟩ := h
  obtain ⟨t, rfl⟩ := rx
  obtain ⟨t', rfl⟩ := ry
  exact in_str (fin_bl I q rfl)

/-- two rules for one operation: by cases -/
theorem OpR.or {f : Value → Value → Sem Value} {r r' : R2} (h : OpR X f r) (h' : OpR X f r') : OpR X f (fun x y H Q => r x y H Q ∨ r' x y H Q) := by
  intro pins s σ H x y v u Q I rx ry q
  rcases q with q | q
  · exact h pins s σ H x y v u Q I rx ry q
  · exact h' pins s σ H x y v u Q I rx ry q

theorem nomark (b : Expr) {op : CmpOp} (h : op ≠ .In := by decide) (h2 : op ≠ .NotIn := by decide) : behindInMarks op b = false := by
  have e1 : (op == CmpOp.In) = false := by cases op <;> first | rfl | exact absurd rfl h
  have e2 : (op == CmpOp.NotIn) = false := by cases op <;> first | rfl | exact absurd rfl h2
  cases b <;> simp [behindInMarks, e1, e2]
/-- a comparison as a value; hm: nomark b, or (for in, not in) by with_unfolding_all rfl -/
theorem pe_cmpR {op : CmpOp} {r : R2} (ho : OpR X (compareOp op) r) (ha : PE X a ta) (hb : PE X b tb) (hm : behindInMarks op b = false) : PE X (.Compare a [op] [b] pos) (tOp r ta tb) := by
  intro pins s σ H Q I h
  exact wpAny_Compare1 (binT ha hb I h fun v u s2 x y H2 I2 rx ry q => ho pins s2 σ H2 x y v u Q I2 rx ry q) hm
/-- a reading of a value as a test -/
def tTest (t : TE) : TT := fun σ H Q => t σ H fun x H' => ∃ k, x = .bl k ∧ Q k H'
theorem pt_cmpR {op : CmpOp} {r : R2} (ho : OpR X (compareOp op) r) (ha : PE X a ta) (hb : PE X b tb) (hm : behindInMarks op b = false) : PT X (.Compare a [op] [b] pos) (tTest (tOp r ta tb)) := by
  intro pins s σ H Q I h
  refine wpAny_isTrue_Compare1 (thn (ha pins s σ H _ I h) fun v s1 ⟨x, H1, I1, r1, q1⟩ => thn (hb pins s1 σ H1 _ I1 q1) fun u s2 ⟨y, H2, I2, r2, q2⟩ =>
    thn (ho pins s2 σ H2 x y v u _ I2 r1 r2 q2) fun c s3 ⟨z, H3, I3, r3, k, e, q3⟩ => ?_) hm
  subst e
  cases r3
  exact wpAny_truthy_bool ⟨H3, I3, q3⟩
theorem line63 : (sizeLine : Nat) < 2 ^ 63 := by rw [sizeLine_eq]; decide
theorem op_add_str : OpR X (binaryOp .Add) (fun x y H Q => ∃ i j, x = .str i ∧ y = .str j ∧ i.length + j.length ≤ sizeLine ∧ Q (.str (i ++ j)) H) := by
  intro pins s σ H x y v u Q I rx ry h
  obtain ⟨i, j, rfl, rfl, hz, q⟩ := h
  obtain ⟨t, rfl⟩ := rx
  obtain ⟨t', rfl⟩ := ry
  exact add_str (fun t' tk => ⟨.str (i ++ j), H, I.tok _, ⟨_, rfl⟩, q⟩) hz
theorem vals1 {x : V} {us : List Value} (r : Vals [x] us) : ∃ u, us = [u] ∧ RelV x u := by
  cases r with
  | cons r1 r2 => cases r2; exact ⟨_, rfl, r1⟩
theorem vals2 {x y : V} {us : List Value} (r : Vals [x, y] us) : ∃ u w', us = [u, w'] ∧ RelV x u ∧ RelV y w' := by
  cases r with
  | cons r1 r2 =>
    cases r2 with
    | cons r3 r4 => cases r4; exact ⟨_, _, rfl, r1, r3⟩
theorem call_int1 : CallR X (.type "int") (fun xs H Q => (∃ i, xs = [.int i] ∧ Q (.int i) H) ∨ ∃ k, xs = [.bl k] ∧ Q (.int (if k then 1 else 0)) H) := by
  intro pins s σ H xs us Q I r h
  rcases h with ⟨i, rfl, q⟩ | ⟨k, rfl, q⟩
  · obtain ⟨u, rfl, t, rfl⟩ := vals1 r
    exact call_int_int ⟨.int i, H, I, ⟨_, rfl⟩, q⟩
  · obtain ⟨u, rfl, r1⟩ := vals1 r
    cases r1
    exact call_int_bool ⟨.int (if k then 1 else 0), H, I.tok _, ⟨_, rfl⟩, q⟩
end
end L2

namespace L2
open PySem PySem.Spec PyProof.Rows

structure ObjM (h : Heap) (x dx C : Addr) (mA : Str → Option Value) : Prop where
  obj : h.get? x = some (PySem.W.instObj C dx)
  ns : h.Ns1 dx mA
  ne : dx ≠ x

theorem lookIn_ns {h : Heap} {dx : Addr} {mA : Str → Option Value} (n : h.Ns1 dx mA) : ∃ od, h.get? dx = some od ∧ ∀ name, PySem.W.lookIn name od = some (mA name) := by
  obtain ⟨o, es, ep, ho, hd, hk, _, hm⟩ := n
  refine ⟨o, ho, fun name => ?_⟩
  have e := hm name
  unfold nsFind findBy at e
  rw [← Array.find?_toList] at e
  unfold PySem.W.lookIn
  rw [hd]
  dsimp only
  split
  · rename_i y q
    rw [q] at e
    exact congrArg some e
  · rename_i q
    rw [q] at e
    have a : es.toList.any (·.refKey) = false := by
      rw [List.any_eq_false]
      intro y hy
      obtain ⟨z, t, hkey⟩ := hk y (Array.mem_toList_iff.mp hy)
      simp [DictEntry.refKey, hkey]
    have a' : ¬ es.toList.any (·.refKey) = true := by rw [a]; exact Bool.false_ne_true
    rw [if_neg a']
    exact congrArg some e

theorem ObjM.look {h : Heap} {x dx C : Addr} {mA : Str → Option Value} (I : ObjM h x dx C mA) : ∃ od, PySem.W.InstAt h x (PySem.W.instObj C dx) C (some od) ∧ ∀ name, PySem.W.lookIn name od = some (mA name) :=
  let ⟨od, ho, hl⟩ := lookIn_ns I.ns
  ⟨od, ⟨I.obj, rfl, rfl, ho⟩, hl⟩

section
variable {prog : Program} {w : World} {A : Around} {E : Value → Shared → Prop} {s : Shared} {K : PySem.W.Frag} {x dx C f : Addr} {mA : Str → Option Value} {name : Str} {v : Value}

end

theorem RelO.some_of {v : V} {o : Option Value} (r : RelO (some v) o) : ∃ u, o = some u ∧ RelV v u := by
  cases o with
  | none => exact (show False from r).elim
  | some u => exact ⟨u, rfl, r⟩
section
variable {P : Program} {w : World} {H H' : Hp} {h h' : Heap} {a C dx : Addr} {fs fs' : List (Str × V)}
theorem ins_get (hok : HOk P w H h) (e : H a = some (.ins C dx fs)) : ∃ mA, ObjM h a dx C mA ∧ (∀ f, RelO (fs.lookup f) (mA f)) ∧ PySem.Within mA (fs.map (·.1)) ∧ fs.length ≤ 1000 ∧ H dx = some (.own a) := by
  obtain ⟨d, z, ne, ob, mA, n, r, q⟩ := (show ObjOk P w H h a (.ins C dx fs) from hok a _ e)
  exact ⟨mA, ⟨ob, n, ne⟩, r, q, z, d⟩
end

structure Cls (K : PySem.W.Frag) (C : Addr) : Prop where
  pg : PySem.W.plainGet K C Str.empty = true
  hd : PySem.W.hasDictIn K C = true
  po : PySem.W.plainOver K C = true
  sa : PySem.W.findIn K (.ref C) "__setattr__" = some (some (.builtin "object.__setattr__"))
theorem Cls.get {K : PySem.W.Frag} {C : Addr} (c : Cls K C) (f : Str) : PySem.W.plainGet K C f = true := c.pg
section
variable {X : Cx} {pins : List (Addr × Obj)} {σ : St} {H : Hp} {s : Shared} {a C dx : Addr} {fs : List (Str × V)} {f : Str} {v : V} {A : Around} {E : Value → Shared → Prop}

end

section
variable {X : Cx} {o e value : Expr} {f : Str} {pos pos' tpos : Pos} {ta tv : TE}
end

section
variable {X : Cx} {pins : List (Addr × Obj)} {σ : St} {H : Hp} {s : Shared} {A : Around} {E : Value → Shared → Prop} {Q : Value → Shared → Prop} {c : Value} {b : Bool}
/-- the type of a value, as the fragment's deciders take it; for an instance its class -/
inductive TyOf (K : PySem.W.Frag) (H : Hp) : V → Value → Prop where
  | non : TyOf K H .non (.type "NoneType")
  | bl (x : Bool) : TyOf K H (.bl x) (.type "bool")
  | int (i : Int) : TyOf K H (.int i) (.type "int")
  | str (x : Str) : TyOf K H (.str x) (.type "str")
  | flt (x : UInt64) : TyOf K H (.flt x) (.type "float")
  | lst {a : Addr} {xs : List V} (e : H a = some (.lst xs)) : TyOf K H (.ref a) (.type "list")
  | frz {a : Addr} {o : Obj} {xs : List V} (e : H a = some (.frz o (.lst xs))) : TyOf K H (.ref a) (.type "list")
  | tup {a : Addr} {xs : List V} (e : H a = some (.tup xs)) : TyOf K H (.ref a) (.type "tuple")
  | dK {a : Addr} {kvs : List (Key × V)} (e : H a = some (.dK kvs)) : TyOf K H (.ref a) (.type "dict")
  | dT {a : Addr} {kvs : List (List Key × V)} (e : H a = some (.dT kvs)) : TyOf K H (.ref a) (.type "dict")
  | ins {a C dx : Addr} {fs : List (Str × V)} (e : H a = some (.ins C dx fs)) (cl : Cls K C) (ha : PySem.W.findIn K (.ref C) "__class__" = some (some (.builtin "object.__class__")))
      (hn : PySem.W.specialIn K (.builtin "object.__class__") "__get__" = some (some (.builtin "getset_descriptor.__get__"))) (htk : PySem.W.takesIn K (.builtin "object.__class__") = some true)
      (hm : PySem.W.mroIn K C (.type "object") = some true) : TyOf K H (.ref a) (.ref C)
/-- isinstance(x, c) for one class c, a built-in or an own one: kitOne's answer -/
theorem isinst_ok {x : V} {u t : Value} (I : Inv X pins σ H s) (rx : RelV x u) (ty : TyOf X.K H x t) (e : PySem.W.kitOne X.K t c = some b) (h : ∀ tk, Q (.bool b) { s with toks := tk }) :
    wpAny (model X.prog X.w) A (call (.builtin "isinstance") [u, c]) Q E s := by
  cases ty with
  | non => cases (show u = Value.none from rx); exact PySem.W.kia_one PySem.W.kitx_none I.kIn True.intro e (fun z => nomatch z) h
  | bl y => cases (show u = Value.bool y from rx); exact PySem.W.kia_one PySem.W.kitx_bool I.kIn True.intro e (fun z => nomatch z) h
  | int i => obtain ⟨t, q⟩ := (show ∃ t, u = Value.int i t from rx); cases q; exact PySem.W.kia_one PySem.W.kitx_int I.kIn True.intro e (fun z => nomatch z) h
  | str y => obtain ⟨t, q⟩ := (show ∃ t, u = Value.str y t from rx); cases q; exact PySem.W.kia_one PySem.W.kitx_str I.kIn True.intro e (fun z => nomatch z) h
  | flt y => obtain ⟨t, q⟩ := (show ∃ t, u = Value.float y t from rx); cases q; exact PySem.W.kia_one PySem.W.kitx_float I.kIn True.intro e (fun z => nomatch z) h
  | @lst a xs ea =>
    cases (show u = Value.ref a from rx)
    obtain ⟨_, _, n, _, h1⟩ := (show ObjOk X.prog X.w H s.heap a (.lst xs) from I.hok a _ ea)
    exact PySem.W.kia_one PySem.W.kitx_list I.kIn ⟨_, h1, rfl⟩ e (fun z => nomatch z) h
  | @frz a ob xs ea =>
    cases (show u = Value.ref a from rx)
    obtain ⟨_, _, _, n, _, h1⟩ := (show ObjOk X.prog X.w H s.heap a (.frz ob (.lst xs)) from I.hok a _ ea)
    exact PySem.W.kia_one PySem.W.kitx_list I.kIn ⟨_, h1, rfl⟩ e (fun z => nomatch z) h
  | @tup a xs ea =>
    cases (show u = Value.ref a from rx)
    obtain ⟨_, _, _, p⟩ := (show ObjOk X.prog X.w H s.heap a (.tup xs) from I.hok a _ ea)
    obtain ⟨o, h1, h2, _⟩ := p
    exact PySem.W.kia_one PySem.W.kitx_tuple I.kIn ⟨o, h1, h2⟩ e (fun z => nomatch z) h
  | @dK a kvs ea =>
    cases (show u = Value.ref a from rx)
    obtain ⟨_, _, vs, _, p⟩ := (show ObjOk X.prog X.w H s.heap a (.dK kvs) from I.hok a _ ea)
    obtain ⟨o, es, ep, h1, h2, _⟩ := p
    exact PySem.W.kia_one PySem.W.kitx_dict I.kIn ⟨o, h1, h2.1⟩ e (fun z => nomatch z) h
  | @dT a kvs ea =>
    cases (show u = Value.ref a from rx)
    obtain ⟨_, _, xs, _, o, es, ep, h1, h2, _⟩ := (show ObjOk X.prog X.w H s.heap a (.dT kvs) from I.hok a _ ea)
    exact PySem.W.kia_one PySem.W.kitx_dict I.kIn ⟨o, h1, h2.1⟩ e (fun z => nomatch z) h
  | @ins a C dx fs ea cl ha hn htk hm =>
    cases (show u = Value.ref a from rx)
    obtain ⟨mA, O, _⟩ := ins_get I.hok ea
    obtain ⟨od, J, _⟩ := O.look
    exact PySem.W.kia_one (PySem.W.kitx_own (cl.get _) cl.hd ha hn htk hm) I.kIn J e (fun z => nomatch z) h
end
end L2

namespace L2
open PySem PySem.Spec PyProof.Rows

structure Room (k : Nat) (A : Around) : Prop where
  hd : A.handled = none
  dp : A.depth + 3 * k + 5 < recursionLimit
  un : A.units + 16 * k + 200 < cLine
theorem Room.mono {j k : Nat} {A : Around} (r : Room k A) (h : j ≤ k) : Room j A := ⟨r.hd, by have := r.dp; omega, by have := r.un; omega⟩
theorem Room.deeper {k : Nat} {A : Around} (r : Room (k + 1) A) (env : Env) : Room k (A.deeper env) :=
  ⟨r.hd, by have := r.dp; show A.depth + 1 + 3 * k + 5 < _; omega, by have := r.un; show A.units + 3 + 16 * k + 200 < _; omega⟩
theorem Room.depth {k : Nat} {A : Around} (r : Room k A) : A.depth < recursionLimit := by have := r.dp; omega
theorem Room.units {k : Nat} {A : Around} (r : Room k A) : A.units + 64 < cLine := by have := r.un; omega
def tNil : TA := fun _ H Q => Q [] H
def tCons (ta : TE) (tr : TA) : TA := fun σ H Q => ta σ H fun x H1 => tr σ H1 fun xs H2 => Q (x :: xs) H2
section
variable {X : Cx} {e : Expr} {es : List Expr} {te : TE} {t : TA} {pos : Pos}
theorem pa_nil : PA X [] tNil := fun _ _ _ _ H Q I h => Calls.spliced_nil ⟨[], H, I, .nil, h⟩
theorem pa_cons (ha : PE X e te) (hr : PA X es t) (hs : starEach (e :: es) X.env = (false, eval e X.env) :: starEach es X.env := by rfl) : PA X (e :: es) (tCons te t) := by
  intro pos pins s σ H Q I h
  rw [hs]
  show wpAny _ _ (spliced ((false, eval e X.env) :: backTo pos (starEach es X.env))) _ _ s
  refine Calls.spliced_cons (thn (ha pins s σ H _ I h) fun u s1 ⟨x, H1, I1, r1, q1⟩ => ?_)
  exact thn (hr pos pins s1 σ H1 _ I1 q1) fun us s2 ⟨xs, H2, I2, r2, q2⟩ => ⟨x :: xs, H2, I2, .cons r1 r2, q2⟩

/-- a tuple, a list of written items -/
def tTup (t : TA) : TE := fun σ H Q => t σ H fun xs H1 => xs.length ≤ sizeLine ∧ ∀ p, H1 p = none → Q (.ref p) (upd H1 p (.tup xs))
def tLst (t : TA) : TE := fun σ H Q => t σ H fun xs H1 => xs.length ≤ sizeLine ∧ ∀ p, H1 p = none → Q (.ref p) (upd H1 p (.lst xs))
theorem pe_tup {x1} (h : PA X es t) : PE X (.Tuple es x1 pos) (tTup t) := by
  intro pins s σ H Q I hq
  refine wpAny_Tuple_spliced (thn (h pos pins s σ H _ I hq) fun us s1 ⟨xs, H1, I1, r, z, q⟩ => ⟨by rw [← r.length]; exact z, ?_⟩)
  have hf : H1 s1.heap.objs.size = none := I1.hok.fresh (Nat.le_refl _)
  refine ⟨.ref s1.heap.objs.size, upd H1 s1.heap.objs.size (.tup xs), I1.laid (t' := s1.toks) (fun b u e => Heap.get?_push_of_some _ e) (Nat.le_refl _) ?_, rfl, q _ hf⟩
  exact ⟨z, us, r, ⟨_, Heap.get?_push_size _ rfl, rfl, _, rfl⟩⟩
theorem pe_lst (h : PA X es t) : PE X (.List es pos) (tLst t) := by
  intro pins s σ H Q I hq
  refine wpAny_List_spliced (thn (h pos pins s σ H _ I hq) fun us s1 ⟨xs, H1, I1, r, z, q⟩ => ⟨by rw [← r.length]; exact z, ?_⟩)
  have hf : H1 s1.heap.objs.size = none := I1.hok.fresh (Nat.le_refl _)
  refine ⟨.ref s1.heap.objs.size, upd H1 s1.heap.objs.size (.lst xs), I1.laid (t' := s1.toks) (fun b u e => Heap.get?_push_of_some _ e) (Nat.le_refl _) ?_, rfl, q _ hf⟩
  exact ⟨z, us, 0, r, Heap.get?_push_size _ rfl⟩
end

/-- a def's promise: the bound arguments in the parameters' order, the heap, the wanted end, the wanted exception -/
abbrev Sp := List V → Hp → VK → XK → Prop
/-- how an exception lies behind a call (file 08 gives it): the callers' frames, abstract heap and state ahead of the call, the wish, the exception, the state -/
abbrev CXT := List Env → Hp → Shared → XK → Value → Shared → Prop

/-- the state at a call -/
structure Env0 (P : Program) (w : World) (K : PySem.W.Frag) (mg : Str → Option Value) (base : Heap) (A : Around) (outer : List Env) (s : Shared) (H : Hp) : Prop where
  frames : A.frames = some outer
  mod : Mod K mg base
  bs : ∀ b o, base.get? b = some o → s.heap.get? b = some o ∧ H b = none
  bsz : base.objs.size ≤ s.heap.objs.size
  funs : s.heap.FunFrames base outer
  frf : ∀ b ∈ frs outer, H b = none
  hok : HOk P w H s.heap
  bare : AllBare s.gens
/-- a call's end -/
def CE (outer : List Env) (P : Program) (w : World) (H : Hp) (s : Shared) (Q : VK) (u : Value) (s' : Shared) : Prop :=
  ∃ v H', s'.os = s.os ∧ AllBare s'.gens ∧ Un (frs outer) [] H H' s.heap s'.heap ∧ HOk P w H' s'.heap ∧ RelV v u ∧ Q v H'
def CR (CX : CXT) (outer : List Env) (P : Program) (w : World) (H : Hp) (s : Shared) (Q : VK) (E : XK) (r : Result) (s' : Shared) : Prop :=
  match r with
  | .ok (.ret u) => CE outer P w H s Q u s'
  | .ok _ => False
  | .error e => CX outer H s E e s'
structure FnOk (P : Program) (w : World) (K : PySem.W.Frag) (mg : Str → Option Value) (base : Heap) (CX : CXT) (k : Nat) (f : Addr) (fd : FuncData) (ps : List Str) (sp : Sp) : Prop where
  len : ∀ vs H Q E, sp vs H Q E → vs.length = ps.length
  run : ∀ (A : Around) (outer : List Env) (s : Shared) (H : Hp) (args : Args) (us : List Value) (vs : List V) (Q : VK) (E : XK), Room k A → Env0 P w K mg base A outer s H → BindsTo s fd args (ps.zip us) → Vals vs us → sp vs H Q E →
    codeAny (model P w) A (.call (.ref f) args) (CR CX outer P w H s Q E) s
section
variable {X : Cx} {pins : List (Addr × Obj)} {σ : St} {H : Hp} {s s' : Shared}
/-- from a body: what a callee wants -/
theorem Inv.env0 (I : Inv X pins σ H s) : Env0 X.prog X.w X.K X.mg X.base X.A X.stack s H :=
  ⟨I.ok.frames, I.ok.mod, I.bs, Nat.le_trans I.ok.bsz I.sz, I.stack, I.stkFree, I.hok, I.bare⟩
/-- behind a call -/
theorem Inv.after {Q : VK} {u : Value} (I : Inv X pins σ H s) (h : CE X.stack X.prog X.w H s Q u s') : EP X pins σ Q u s' := by
  obtain ⟨v, H', os, bare, un, hok, r, q⟩ := h
  obtain ⟨hh, g, d, t, os'⟩ := s'
  obtain rfl : os' = s.os := os
  exact ⟨v, H', I.call (h' := hh) (g' := g) (d' := d) (t' := t) (ch := []) un hok bare (fun b z => absurd z (by simp)), r, q⟩
end

/-- f(..): the written arguments, then the defaults dvs; E: what is wanted of an exception -/
def tCall (sp : Sp) (dvs : List V) (E : XK) (t : TA) : TE := fun σ H Q => t σ H fun vs H1 => sp (vs ++ dvs) H1 Q E
/-- how the parameters are bound: us the positional arguments, kw the keywords' values by name, ds the defaults that fill up -/
def Binds (K : PySem.W.Frag) (fd : FuncData) (ps : List Str) (ds : List Value) : Prop :=
  ∀ (s : Shared) (us : List Value), K.In s.heap → (us ++ ds).length = ps.length → BindsTo s fd ⟨us, []⟩ (ps.zip (us ++ ds))
/-- every parameter is given -/
theorem Binds.all {K : PySem.W.Frag} {fd : FuncData} {ps : List Str} (h : ∀ us : List Value, us.length = ps.length → bindArgs fd ⟨us, []⟩ = pure (ps.zip us)) : Binds K fd ps [] := fun s us _ hl => by
  rw [List.append_nil] at hl ⊢
  exact .of_eq (h us hl)

/-- an exception of a callee reaches what this body wants of exceptions -/
def Passes (CX : CXT) (X : Cx) (E : XK) : Prop := ∀ (pins : List (Addr × Obj)) (σ : St) (H : Hp) (s : Shared) (e : Value) (s' : Shared), Inv X pins σ H s → CX X.stack H s E e s' → X.xe e s'

section
variable {X : Cx} {CX : CXT} {k : Nat} {f C : Addr} {fd : FuncData} {ps : List Str} {sp : Sp} {dvs : List V} {ds : List Value} {E : XK} {x m : Str} {p pos apos : Pos} {e o : Expr} {es : List Expr} {ta : TE} {t : TA}

/-- the callee runs -/
theorem run_fn {pins : List (Addr × Obj)} {σ : St} {H : Hp} {s : Shared} {Q : VK} {us : List Value} {vs : List V} (F : FnOk X.prog X.w X.K X.mg X.base CX k f fd ps sp) (hr : Room k X.A) (hb : Binds X.K fd ps ds) (hd : Vals dvs ds) (hx : Passes CX X E)
    (I : Inv X pins σ H s) (r : Vals vs us) (h : sp (vs ++ dvs) H Q E) : wpAny (model X.prog X.w) X.A (call (.ref f) us) (EP X pins σ Q) X.xe s := by
  have r2 : Vals (vs ++ dvs) (us ++ ds) := r.append hd
  have hl : (us ++ ds).length = ps.length := by rw [← r2.length]; exact F.len _ _ _ _ h
  refine wpAny_call (codeAny_mono (F.run X.A X.stack s H ⟨us, []⟩ (us ++ ds) (vs ++ dvs) Q E hr I.env0 (hb s us I.kIn hl) r2 h) fun r s' hq => ?_)
  cases r with
  | error e => exact hx pins σ H s e s' I hq
  | ok fl =>
    cases fl with
    | ret u => exact I.after hq
    | next => exact False.elim hq
    | brk => exact False.elim hq
    | cont => exact False.elim hq

theorem pe_call (F : FnOk X.prog X.w X.K X.mg X.base CX k f fd ps sp) (hr : Room k X.A) (hg : Gl X x) (hm : X.mg x = some (.ref f)) (hk : PySem.W.keepIn X.K (.ref f) = true) (hb : Binds X.K fd ps ds) (hd : Vals dvs ds) (hx : Passes CX X E)
    (ha : PA X (e :: es) t) (hdb : (x == ("__debug__" : Str)) = false := by decide) (he : starEach (e :: es) X.env = (false, eval e X.env) :: starEach es X.env := by rfl) (hpl : (backTo pos (starEach es X.env)).any (·.1) = false := by rfl) :
    PE X (.Call (.Name x p) (e :: es) [] pos) (tCall sp dvs E t) := by
  intro pins s σ H Q I h
  refine wpAny_Call_Name_kw (ld_glob I hg hm ?_ hdb)
  refine PySem.W.callWith_K (h₀ := X.base) I.ok.mod.kin hk (thn (ha pos pins s σ H _ I h) fun us s1 ⟨vs, H1, I1, r, q⟩ => ⟨I1.kIn, ?_⟩) he hpl
  exact run_fn F hr hb hd hx I1 r q
theorem pe_call0 (F : FnOk X.prog X.w X.K X.mg X.base CX k f fd ps sp) (hr : Room k X.A) (hg : Gl X x) (hm : X.mg x = some (.ref f)) (hk : PySem.W.keepIn X.K (.ref f) = true) (hb : Binds X.K fd ps ds) (hd : Vals dvs ds) (hx : Passes CX X E)
    (hdb : (x == ("__debug__" : Str)) = false := by decide) : PE X (.Call (.Name x p) [] [] pos) (tCall sp dvs E tNil) := by
  intro pins s σ H Q I h
  refine wpAny_Call_Name_kw (ld_glob I hg hm ?_ hdb)
  exact PySem.W.callWith_K0 I.kIn hk (run_fn (us := []) F hr hb hd hx I .nil h)

end

section
variable {X : Cx} {CX : CXT} {k : Nat} {f C : Addr} {fd : FuncData} {ps ks : List Str} {sp : Sp} {E : XK} {x m : Str} {p pos apos kpos : Pos} {e o : Expr} {es : List Expr} {kws : List Keyword} {te ta : TE} {t tk : TA} {nm : Option Str}
variable {g : List Value → List Value → List Value} {gV : List V → List V → List V}
end

/-- names: the parameters first -/
structure FnScope (N P : List Str) (sc : Scope) : Prop where
  kind : sc.kind = .function
  co : sc.isCoroutine = false
  gen : sc.isGenerator = false
  nd : N.Nodup
  pre : N.take P.length = P
  par : ∀ x ∈ P, sc.names.lookup x = some .local ∨ sc.names.lookup x = some .cell
  nofree : ∀ y ∈ sc.names, y.2 ≠ .free

theorem bindL_out {kindOf : Str → Option NameKind} {x : Str} : ∀ {binds : List (Str × Value)} {m : Str → Option Value}, (∀ v, (x, v) ∉ binds) → bindL kindOf binds m x = m x
  | [], _, _ => rfl
  | (n, v) :: r, m, h => by
    unfold bindL
    rw [bindL_out fun w hw => h w (List.mem_cons_of_mem _ hw)]
    split
    · have : x ≠ n := by rintro rfl; exact h v List.mem_cons_self
      simp [this]
    · rfl
theorem bindC_out {kindOf : Str → Option NameKind} {x : Str} : ∀ {binds : List (Str × Value)} {m : Str → Option Value}, (∀ v, (x, v) ∉ binds) → bindC kindOf binds m x = m x
  | [], _, _ => rfl
  | (n, v) :: r, m, h => by
    unfold bindC
    rw [bindC_out fun w hw => h w (List.mem_cons_of_mem _ hw)]
    split
    · rfl
    · have : x ≠ n := by rintro rfl; exact h v List.mem_cons_self
      simp [this]
theorem bindL_get {kindOf : Str → Option NameKind} {x : Str} {v : Value} : ∀ {P : List Str} {vs : List Value} {i : Nat} {m : Str → Option Value}, P.Nodup → P[i]? = some x → vs[i]? = some v → kindOf x = some .local →
    bindL kindOf (P.zip vs) m x = some v
  | [], _, _, _, _, h, _, _ => by simp at h
  | _ :: _, [], _, _, _, _, h, _ => by simp at h
  | p :: P, w :: vs, 0, m, nd, h1, h2, hk => by
    simp at h1 h2; subst h1; subst h2
    show bindL kindOf ((p, w) :: P.zip vs) m p = _
    unfold bindL
    rw [bindL_out fun v hv => (List.nodup_cons.mp nd).1 (List.of_mem_zip hv).1, if_pos hk]
    simp
  | p :: P, w :: vs, i + 1, m, nd, h1, h2, hk => by
    show bindL kindOf ((p, w) :: P.zip vs) m x = _
    unfold bindL
    exact bindL_get (i := i) (List.nodup_cons.mp nd).2 (by simpa using h1) (by simpa using h2) hk
theorem bindC_get {kindOf : Str → Option NameKind} {x : Str} {v : Value} : ∀ {P : List Str} {vs : List Value} {i : Nat} {m : Str → Option Value}, P.Nodup → P[i]? = some x → vs[i]? = some v → kindOf x ≠ some .local →
    bindC kindOf (P.zip vs) m x = some v
  | [], _, _, _, _, h, _, _ => by simp at h
  | _ :: _, [], _, _, _, _, h, _ => by simp at h
  | p :: P, w :: vs, 0, m, nd, h1, h2, hk => by
    simp at h1 h2; subst h1; subst h2
    show bindC kindOf ((p, w) :: P.zip vs) m p = _
    unfold bindC
    rw [bindC_out fun v hv => (List.nodup_cons.mp nd).1 (List.of_mem_zip hv).1, if_neg hk]
    simp
  | p :: P, w :: vs, i + 1, m, nd, h1, h2, hk => by
    show bindC kindOf ((p, w) :: P.zip vs) m x = _
    unfold bindC
    exact bindC_get (i := i) (List.nodup_cons.mp nd).2 (by simpa using h1) (by simpa using h2) hk

/-- the names' values at the entry -/
def start (N : List Str) (vs : List V) : St := vs.map some ++ List.replicate (N.length - vs.length) none

/-- the context of a def's body, at its entry; an exception leaves the frame, then lies as CX says -/
def cxOf (CX : CXT) (P : Program) (w : World) (K : PySem.W.Frag) (mg : Str → Option Value) (base : Heap) (N : List Str) (qual : Str) (scope : Scope) (f : Addr) (cd : Value) (A : Around) (outer : List Env) (s : Shared) (H : Hp) (E : XK) : Cx where
  prog := P
  w := w
  K := K
  mg := mg
  base := base
  A := A.deeper (envOfC qual scope s.heap.objs.size f cd)
  N := N
  s₀ := s
  H₀ := H
  env := envOfC qual scope s.heap.objs.size f cd
  outer := outer
  stack := envOfC qual scope s.heap.objs.size f cd :: outer
  ex := []
  calm := true
  fn := fun _ => true
  pn := []
  xe := fun e s' => wpAny (model P w) (A.deeper (envOfC qual scope s.heap.objs.size f cd)) (leaving (envOfC qual scope s.heap.objs.size f cd) e) (fun _ s'' => CX outer H s E e s'') (fun e' s'' => CX outer H s E e' s'') s'

theorem cell_has {sc : Scope} {n : Nat} {x : Str} (h : sc.names.lookup x = some .cell) : ∃ c, (cellsFrom n sc.names []).lookup x = some c := by
  have q := PySem.W.cellsFrom_some sc.names n [] (.inl h)
  exact Option.isSome_iff_exists.mp q

theorem inv_start {CX : CXT} {P : Program} {w : World} {K : PySem.W.Frag} {mg : Str → Option Value} {base : Heap} {N ps : List Str} {qual : Str} {scope : Scope} {f : Addr} {cd : Value} {A : Around} {outer : List Env} {s s1 : Shared} {H : Hp} {E : XK} {us : List Value} {vs : List V}
    (S : FnScope N ps scope) (hd : A.handled = none) (e0 : Env0 P w K mg base A outer s H) (hl : vs.length = ps.length) (r : Vals vs us)
    (x : InCallC s s.heap.objs.size (bindL (envOfC qual scope s.heap.objs.size f cd).kindOf (ps.zip us) fun _ => none) (cellsFrom (s.heap.objs.size + 1) scope.names []) (bindC (envOfC qual scope s.heap.objs.size f cd).kindOf (ps.zip us) fun _ => none) s1) :
    Inv (cxOf CX P w K mg base N qual scope f cd A outer s H E) [] (start N vs) H s1 := by
  have hpl : ps.length ≤ N.length := by have := congrArg List.length S.pre; rw [List.length_take] at this; omega
  obtain ⟨h1, tk, rfl, hk⟩ := x.done
  have noA : ∀ b : Addr, b ∉ (cxOf CX P w K mg base N qual scope f cd A outer s H E).ex := fun b z => absurd (show b ∈ ([] : List Addr) from z) (by simp)
  refine ⟨⟨e0.mod, S.kind, rfl, rfl, Nat.le_refl _, fun y z c h1 h2 => ?_, fun y hy => ?_, fun y c _ h => ?_, fun _ => hd, Around.frames_deeper e0.frames, .inr ⟨rfl, rfl⟩, fun b z => absurd z (noA b), e0.bs, e0.bsz, fun b _ _ => noA b, fun b z => absurd z (noA b), e0.funs, e0.frf⟩,
    rfl, e0.bare, Un.kept hk, ⟨_, x.toInCall.ns, fun i y v h1 h2 h3 => ?_⟩, fun y c h => ⟨_, x.cell y c h⟩, e0.hok.fresh (Nat.le_refl _), fun y c h => ?_, fun p hp => absurd (show p ∈ ([] : List (Addr × Obj)) from hp) (by simp), e0.hok.kept hk, ?_⟩
  · exact name_of_addr x.apart (PySem.mem_of_lookup h1) (PySem.mem_of_lookup h2)
  · have hy : scope.names.lookup y = some .cell ∨ scope.names.lookup y = some .free := hy
    rcases hy with hy | hy
    · exact cell_has hy
    · exact absurd rfl (S.nofree _ (PySem.mem_of_lookup hy))
  · exact Nat.le_of_lt (x.above y c (PySem.mem_of_lookup h))
  · have hi : i < vs.length := by
      unfold start at h2
      by_cases hi : i < vs.length
      · exact hi
      · rw [List.getElem?_append_right (by simpa using hi)] at h2
        rw [List.getElem?_replicate] at h2
        split at h2 <;> cases h2
    have ha : vs[i]? = some v := by
      unfold start at h2
      rw [List.getElem?_append_left (by simpa using hi), List.getElem?_map] at h2
      cases e : vs[i]? with
      | none => rw [e] at h2; cases h2
      | some a => rw [e] at h2; cases h2; rfl
    obtain ⟨u, hu, rv⟩ := r.get ha
    have hp : ps[i]? = some y := by
      rw [← S.pre, List.getElem?_take_of_lt (by omega)]; exact h1
    have ndP : ps.Nodup := by rw [← S.pre]; exact S.nd.sublist (List.take_sublist _ _)
    refine ⟨u, rv, ?_⟩
    rcases S.par y (List.mem_of_getElem? hp) with k | k
    · exact .inl ⟨k, bindL_get ndP hp hu k⟩
    · obtain ⟨c, e⟩ := cell_has (n := s.heap.objs.size + 1) k
      refine .inr ⟨.inl k, c, e, ?_⟩
      have q := x.cell y c e
      rw [bindC_get ndP hp hu (by show scope.names.lookup y ≠ _; rw [k]; decide)] at q
      exact q
  · exact e0.hok.fresh (Nat.le_of_lt (x.above y c (PySem.mem_of_lookup h)))
  · unfold start
    show _ = N.length
    rw [List.length_append, List.length_map, List.length_replicate]
    omega

/-- THE RULE: a def (or a method) of the text, by its body. The body's reading t is chosen for each entry; it is run at the parameters' values -/
theorem fn_of {CX : CXT} {P : Program} {w : World} {K : PySem.W.Frag} {mg : Str → Option Value} {base : Heap} {k : Nat} {f : Addr} {name qual : Str} {params : Arguments} {body : List Stmt} {scope : Scope} {dV kV doc pm cdv ct oc : Value} {an od : Option Addr}
    {osl : Array (Option Value)} {N ps : List Str} {sp : Sp} (lk : K.lookup f = some ⟨oc, od, .func (PySem.W.fnOf name qual params body scope dV kV doc pm an cdv ct), osl⟩) (hcd : PySem.W.codeIn K cdv qual = true) (S : FnScope N ps scope)
    (len : ∀ vs H Q E, sp vs H Q E → vs.length = ps.length)
    (hbody : ∀ (A : Around) (outer : List Env) (s : Shared) (H : Hp) (vs : List V) (Q : VK) (E : XK), Room k (A.deeper (envOfC qual scope s.heap.objs.size f cdv)) → sp vs H Q E →
      ∃ t, PSs (cxOf CX P w K mg base N qual scope f cdv A outer s H E) body t ∧ t { nx := fun _ H' => Q .non H', rt := Q } (start N vs) H) :
    FnOk P w K mg base CX (k + 1) f (PySem.W.fnOf name qual params body scope dV kV doc pm an cdv ct) ps sp := by
  refine ⟨len, fun A outer s H args us vs Q E hr e0 hb r hsp => ?_⟩
  have hl := len _ _ _ _ hsp
  have KX : K.In s.heap := e0.mod.kin.keeps fun b o e => (e0.bs b o e).1
  have lim : s.heap.NoLimit := e0.mod.nolimit.keeps fun b o e => (e0.bs b o e).1
  have hkind : ∀ y ∈ ps.zip us, scope.names.lookup y.1 = some .local ∨ (scope.names.lookup y.1 = some .cell ∧ ((cellsFrom (s.heap.objs.size + 1) scope.names []).lookup y.1).isSome = true) := fun ⟨n, v⟩ hy => by
    rcases S.par n (List.of_mem_zip hy).1 with q | q
    · exact .inl q
    · exact .inr ⟨q, PySem.W.cellsFrom_some _ _ _ (.inl q)⟩
  refine codeAny_call_function hr.depth (KX _ _ lk) rfl S.co S.gen rfl (PySem.W.codeRec_of KX hcd) (hb _ _ _ _ ?_)
  refine wpAny_newFunctionEnv_cells S.kind hkind fun env he s1 x => ?_
  subst he
  refine ⟨lim.keeps x.toInCall.keep, codeAny_func ?_⟩
  obtain ⟨t, ht, hq⟩ := hbody A outer s H vs Q E (hr.deeper _) hsp
  have I : Inv (cxOf CX P w K mg base N qual scope f cdv A outer s H E) [] (start N vs) H s1 := inv_start S hr.hd e0 hl r x
  refine wpAny_mono (ht [] s1 (start N vs) H _ I hq) (fun fl s' hs => ?_) fun e s' hs => hs
  have fin : ∀ {σ' : St} {H' : Hp} {v : V} {u : Value}, Inv (cxOf CX P w K mg base N qual scope f cdv A outer s H E) [] σ' H' s' → RelV v u → Q v H' → CE outer P w H s Q u s' :=
    fun {σ' H' v u} J rv q => ⟨v, H', J.os, J.bare, J.base, J.hok, rv, q⟩
  cases fl with
  | ret u =>
    obtain ⟨v, σ', H', J, rv, q⟩ := hs
    exact fin J rv q
  | next =>
    obtain ⟨σ', H', J, q⟩ := hs
    exact fin (v := V.non) (u := Value.none) J rfl q
  | brk =>
    obtain ⟨_, _, _, q⟩ := hs
    exact False.elim q
  | cont =>
    obtain ⟨_, _, _, q⟩ := hs
    exact False.elim q
end L2

namespace L2
open PySem PySem.Spec PyProof.Rows
section
variable {X : Cx} {x : Str} {p pos : Pos} {e : Expr} {es : List Expr} {t : TA} {id T : String} {r : List V → Hp → VK → Prop}

def tCB (r : List V → Hp → VK → Prop) (t : TA) : TE := fun σ H Q => t σ H fun vs H1 => r vs H1 Q
/-- f(e, ..), f a built-in function -/
theorem pe_callB (hc : CallR X (.builtin id) r) (hg : Gl X x) (hm : X.mg x = none) (hv : bootBuiltins x = some (.builtin id)) (ha : PA X (e :: es) t) (hn : x ≠ "__name__" := by decide) (hdb : (x == ("__debug__" : Str)) = false := by decide)
    (he : starEach (e :: es) X.env = (false, eval e X.env) :: starEach es X.env := by rfl) (hpl : (backTo pos (starEach es X.env)).any (·.1) = false := by rfl) : PE X (.Call (.Name x p) (e :: es) [] pos) (tCB r t) := by
  intro pins s σ H Q I h
  refine wpAny_Call_Name_kw (ld_blt I hg hm hv ?_ hn hdb)
  exact PyProof.Rows.callWith_builtin1 (thn (ha pos pins s σ H _ I h) fun us s1 ⟨vs, H1, I1, r1, q1⟩ => hc pins s1 σ H1 vs us Q I1 r1 q1) he hpl
/-- T(e, ..), T a built-in type -/
theorem pe_callTy (hc : CallR X (.type T) r) (hg : Gl X x) (hm : X.mg x = none) (hv : bootBuiltins x = some (.type T)) (ha : PA X (e :: es) t) (hn : x ≠ "__name__" := by decide) (hdb : (x == ("__debug__" : Str)) = false := by decide)
    (he : starEach (e :: es) X.env = (false, eval e X.env) :: starEach es X.env := by rfl) (hpl : (backTo pos (starEach es X.env)).any (·.1) = false := by rfl) : PE X (.Call (.Name x p) (e :: es) [] pos) (tCB r t) := by
  intro pins s σ H Q I h
  refine wpAny_Call_Name_kw (ld_blt I hg hm hv ?_ hn hdb)
  exact PyProof.Rows.callWith_type1 (thn (ha pos pins s σ H _ I h) fun us s1 ⟨vs, H1, I1, r1, q1⟩ => hc pins s1 σ H1 vs us Q I1 r1 q1) he hpl
end
end L2

namespace HT
open PySem PyProof.Rows

section
open PySem.SeqAt
open PySem.AutoSeq1 (wpAny_loadPart')
open PySem.MeetsSeq PySem.MeetsSeq2 PySem.MeetsSeq3

end

section
variable {prog : Program} {w : World} {A : Around} {E : Value → Shared → Prop} {s : Shared}

/-- t + u, t not empty -/
theorem cat_tup {t b : Addr} {vs ws : List Value} {Q : Value → Shared → Prop} (ht : IsTup s.heap t vs.toArray) (hb : IsTup s.heap b ws.toArray) (hv : vs ≠ [])
    (h1 : ws = [] → Q (.ref t) s) (h2 : ws ≠ [] → Q (.ref s.heap.objs.size) { s with heap := s.heap.push { cls := .type "tuple", data := .seq (vs ++ ws).toArray } })
    (hsz : vs.length + ws.length ≤ sizeLine) : wpAny (model prog w) A (binaryOp .Add (.ref t) (.ref b)) Q E s := by
  obtain ⟨⟨cls, dd, data, sl⟩, ho, hc, n, hd⟩ := id ht
  obtain ⟨⟨cls2, dd2, data2, sl2⟩, ho2, hc2, n2, hd2⟩ := id hb
  simp only at hc hd hc2 hd2
  subst hc hd hc2 hd2
  have e : vs.toArray ++ ws.toArray = (vs ++ ws).toArray := by simp
  by_cases hw : ws = []
  · exact concat_meets ⟨_, ho, rfl⟩ ⟨_, ho2, rfl⟩ noFill_tuple_add seq_tuple_add PySem.F.slot_tuple_add PySem.F.entry_tuple_add (PySem.F.args_tuple_add_2 _ _)
      (tuple_addW1 t b vs.toArray ws.toArray n n2 dd dd2 sl sl2 (by simpa using hv) (by simp [hw])) ⟨ho, ho2, h1 hw⟩
  · refine concat_meets ⟨_, ho, rfl⟩ ⟨_, ho2, rfl⟩ noFill_tuple_add seq_tuple_add PySem.F.slot_tuple_add PySem.F.entry_tuple_add (PySem.F.args_tuple_add_2 _ _)
      (tuple_addW2 t b vs.toArray ws.toArray n n2 dd dd2 sl sl2 (by simpa using hv) (by simpa using hw) (by rw [List.size_toArray, List.size_toArray]; exact hsz)) ⟨ho, ho2, ?_⟩
    rw [e]
    exact h2 hw

end
end HT

namespace L2
open PySem PySem.Spec PyProof.Rows

section
variable {X : Cx} {e : Expr} {te : TE} {lo hi : Option Expr} {tl th : TO} {pos p2 : Pos}

/-- t + u, t not empty: u empty gives t itself -/
def rCatT (K : PySem.W.Frag) : R2 := fun x y H Q => ∃ a b xs ys, x = .ref a ∧ y = .ref b ∧ SqT K H a xs ∧ SqT K H b ys ∧ xs ≠ [] ∧ xs.length + ys.length ≤ sizeLine ∧
  (ys = [] → Q (.ref a) H) ∧ (ys ≠ [] → ∀ p, H p = none → Q (.ref p) (upd H p (.tup (xs ++ ys))))
theorem Vals.nil_iff {xs : List V} {us : List Value} (r : Vals xs us) : us = [] ↔ xs = [] := by
  cases r with
  | nil => simp
  | cons _ _ => simp
theorem op_catT : OpR X (binaryOp .Add) (rCatT X.K) := by
  intro pins s σ H x y v u Q I rx ry h
  obtain ⟨a, b, xs, ys, rfl, rfl, ha, hb, hx, hz, q1, q2⟩ := h
  cases rx
  cases ry
  obtain ⟨its, r1, p1, _⟩ := I.tuple ha
  obtain ⟨its2, r2, p2, _⟩ := I.tuple hb
  refine HT.cat_tup p1 p2 (fun z => hx (r1.nil_iff.mp z)) (fun z => ⟨.ref a, H, I, rfl, q1 (r2.nil_iff.mp z)⟩) (fun z => ?_) (by rw [← r1.length, ← r2.length]; exact hz)
  refine ⟨.ref s.heap.objs.size, _, I.laid (t' := s.toks) (o := .tup (xs ++ ys)) (fun b ob q => Heap.get?_push_of_some _ q) (Nat.le_refl _) ?_, rfl, q2 (fun w => z (r2.nil_iff.mpr w)) _ (I.hok.fresh (Nat.le_refl _))⟩
  exact ⟨by rw [List.length_append]; exact hz, _, r1.append r2, IsTup.new _ _⟩
end
end L2

namespace L2
open PySem PySem.Spec PyProof.Rows

/-- the place that an index of any sign means -/
def ixN (n : Nat) (i : Int) : Option Nat := if 0 ≤ i then (if i < n then some i.toNat else none) else if -(n : Int) ≤ i then some (i + n).toNat else none
def atI {α : Type} (xs : List α) (i : Int) : Option α := (ixN xs.length i).bind fun j => xs[j]?
theorem ixN_seq {n : Nat} {i : Int} {j : Nat} (h : ixN n i = some j) : seqIndex? i n = some j ∧ j < n ∧ -(n : Int) ≤ i ∧ i < n := by
  unfold ixN at h
  by_cases h0 : 0 ≤ i
  · rw [if_pos h0] at h
    by_cases h1 : i < n
    · rw [if_pos h1] at h
      have e : i.toNat = j := Option.some.inj h
      exact ⟨by rw [seqIndex_of h0 h1, e], by omega, by omega, h1⟩
    · rw [if_neg h1] at h; cases h
  · rw [if_neg h0] at h
    by_cases h1 : -(n : Int) ≤ i
    · rw [if_pos h1] at h
      have e : (i + n).toNat = j := Option.some.inj h
      exact ⟨by rw [seqIndex_neg (by omega) h1, e], by omega, h1, by omega⟩
    · rw [if_neg h1] at h; cases h
theorem atI_get {α : Type} {xs : List α} {i : Int} {v : α} (h : atI xs i = some v) : ∃ j, seqIndex? i xs.length = some j ∧ xs[j]? = some v ∧ j < xs.length ∧ -(xs.length : Int) ≤ i ∧ i < xs.length := by
  unfold atI at h
  cases e : ixN xs.length i with
  | none => rw [e] at h; cases h
  | some j =>
    rw [e] at h
    obtain ⟨h1, h2, h3, h4⟩ := ixN_seq e
    exact ⟨j, h1, h, h2, h3, h4⟩
/-- what stands as an index of a plain subscript -/
def PlainIx (b : Expr) : Prop := ∀ o i, subscripted b false o i = operate [o, i] (getItem o i)
/-- a subscript by values -/
def IxR (X : Cx) (r : R2) : Prop :=
  ∀ (value slice : Expr) (pins : List (Addr × Obj)) (s : Shared) (σ : St) (H : Hp) (x y : V) (v u : Value) (Q : VK), Inv X pins σ H s → RelV x v → RelV y u → r x y H Q →
    subscripted slice false v u = operate [v, u] (getItem v u) → wpAny (model X.prog X.w) X.A (subscriptTail value slice v u) (EP X pins σ Q) X.xe s
/-- a call of a builtin's method by values: the receiver, the arguments -/
def MtR (X : Cx) (id : String) (r : V → List V → Hp → VK → Prop) : Prop :=
  ∀ (pins : List (Addr × Obj)) (s : Shared) (σ : St) (H : Hp) (x : V) (xs : List V) (v : Value) (us : List Value) (Q : VK), Inv X pins σ H s → RelV x v → Vals xs us → r x xs H Q →
    wpAny (model X.prog X.w) X.A (call (.builtin id) (v :: us)) (EP X pins σ Q) X.xe s
section
variable {X : Cx} {a b : Expr} {ta tb : TE} {pos : Pos}
theorem IxR.or {r r' : R2} (h : IxR X r) (h' : IxR X r') : IxR X (fun x y H Q => r x y H Q ∨ r' x y H Q) := by
  intro value slice pins s σ H x y v u Q I rx ry q hs
  rcases q with q | q
  · exact h value slice pins s σ H x y v u Q I rx ry q hs
  · exact h' value slice pins s σ H x y v u Q I rx ry q hs
/-- a[b] -/
theorem pe_ix {r : R2} (hr : IxR X r) (ha : PE X a ta) (hb : PE X b tb) (hs : PlainIx b) : PE X (.Subscript a b pos) (tOp r ta tb) := by
  intro pins s σ H Q I h
  exact Subscript_ (binT ha hb I h fun v u s2 x y H2 I2 rx ry q => hr a b pins s2 σ H2 x y v u Q I2 rx ry q (hs _ _))

def rIxL (K : PySem.W.Frag) : R2 := fun x y H Q => ∃ p xs i v, x = .ref p ∧ y = .int i ∧ SqL K H p xs ∧ atI xs i = some v ∧ Q v H
def rIxT (K : PySem.W.Frag) : R2 := fun x y H Q => ∃ p xs i v, x = .ref p ∧ y = .int i ∧ SqT K H p xs ∧ atI xs i = some v ∧ Q v H
def rIxS : R2 := fun x y H Q => ∃ z i c, x = .str z ∧ y = .int i ∧ z.length ≤ sizeLine ∧ atI z.cps.toList i = some c ∧ Q (.str ⟨#[c]⟩) H
theorem ix_list : IxR X (rIxL X.K) := by
  intro value slice pins s σ H x y v u Q I rx ry h hs
  obtain ⟨p, xs, i, z, rfl, rfl, hq, he, q⟩ := h
  cases rx
  obtain ⟨t, rfl⟩ := ry
  obtain ⟨its, r, pl, hz⟩ := I.list hq
  obtain ⟨j, h1, h2, h3, h4, h5⟩ := atI_get he
  obtain ⟨w, ew, rw'⟩ := r.get h2
  have hl := r.length
  have hn := line63
  have fin : EP X pins σ Q w s := ⟨z, H, I, rw', q⟩
  by_cases h0 : 0 ≤ i
  · have hj : i.toNat = j := by
      rw [seqIndex_of h0 h5] at h1
      exact Option.some.inj h1
    exact item_listR pl.isList h0 (by omega) (by rw [hj]; simpa using ew) fin hs
  · have hj : (i + (its.toArray.size : Int)).toNat = j := by
      rw [seqIndex_neg (by omega) h4] at h1
      rw [List.size_toArray, ← hl]
      exact Option.some.inj h1
    exact subscriptTail_builtinR (x := w) pl.isList.typeIs slot_list_getitem.lookup
      (wpAny_getItem_list_neg (Q := fun r s' => r = w ∧ EP X pins σ Q r s') pl.isList (by omega) (by rw [List.size_toArray] <;> omega) (by omega) (by rw [hj]; simpa using ew) ⟨rfl, fin⟩) hs
theorem ix_tup : IxR X (rIxT X.K) := by
  intro value slice pins s σ H x y v u Q I rx ry h hs
  obtain ⟨p, xs, i, z, rfl, rfl, hq, he, q⟩ := h
  cases rx
  obtain ⟨t, rfl⟩ := ry
  obtain ⟨its, r, pl, hz⟩ := I.tuple hq
  obtain ⟨j, h1, h2, h3, h4, h5⟩ := atI_get he
  obtain ⟨w, ew, rw'⟩ := r.get h2
  have hl := r.length
  have hn := line63
  have fin : EP X pins σ Q w s := ⟨z, H, I, rw', q⟩
  exact subscriptTail_builtinR (x := w) pl.typeIs slot_tuple_getitem.lookup
    (getItem_tuple (j := j) (Q := fun r s' => r = w ∧ EP X pins σ Q r s') pl (by omega) (by omega) (by rw [List.size_toArray, ← hl]; exact h1) (by simpa using ew) ⟨rfl, fin⟩) hs
theorem ix_str : IxR X rIxS := by
  intro value slice pins s σ H x y v u Q I rx ry h hs
  obtain ⟨z, i, c, rfl, rfl, hz, he, q⟩ := h
  obtain ⟨t, rfl⟩ := rx
  obtain ⟨t', rfl⟩ := ry
  obtain ⟨j, h1, h2, h3, h4, h5⟩ := atI_get he
  have hl : z.cps.toList.length = z.length := by simp [Str.length]
  rw [hl] at h1 h4 h5
  have hn := line63
  exact tail_any (typeIs_str s z t) slot_str_getitem.lookup (getItem_str (c := c) (by
    have e1 : decide (i < -(2 ^ 63 : Int)) = false := decide_eq_false (by omega)
    have e2 : decide (i ≥ 2 ^ 63) = false := decide_eq_false (by omega)
    rw [e1, e2, Bool.or_false]) (by rw [h1]; simpa using h2) ⟨.str ⟨#[c]⟩, H, I.tok _, ⟨_, rfl⟩, q⟩) hs
/-- list, tuple or str -/
def rIx (K : PySem.W.Frag) : R2 := fun x y H Q => rIxL K x y H Q ∨ rIxT K x y H Q ∨ rIxS x y H Q
theorem ix_seq : IxR X (rIx X.K) := ix_list.or (ix_tup.or ix_str)

def flatV : V → Bool
  | .non => true
  | .bl _ => true
  | .int _ => true
  | .str _ => true
  | _ => false
/-- == of flat values -/
def eqV : V → V → Bool
  | .non, .non => true
  | .bl a, .bl b => a == b
  | .bl a, .int b => (if a then 1 else 0) == b
  | .int a, .bl b => a == (if b then 1 else 0)
  | .int a, .int b => a == b
  | .str a, .str b => a == b
  | _, _ => false
theorem eqAt_V {A : Around} {s : Shared} {y x : V} {u v : Value} (ry : RelV y u) (rx : RelV x v) (fy : flatV y = true) (fx : flatV x = true) : SeqAt.EqAt A s u v (eqV y x) := by
  cases y with
  | non =>
    cases ry
    cases x with
    | non => cases rx; exact SeqAt.EqAt.same _
    | bl b => cases rx; exact SeqAt.EqAt.none_bool b
    | int b => obtain ⟨t, rfl⟩ := rx; exact SeqAt.EqAt.none_int b t
    | str b => obtain ⟨t, rfl⟩ := rx; exact SeqAt.EqAt.none_str b t
    | _ => exact absurd (show false = true from fx) Bool.false_ne_true
  | bl a =>
    cases ry
    cases x with
    | non => cases rx; exact SeqAt.EqAt.bool_none a
    | bl b => cases rx; exact SeqAt.EqAt.bool_bool a b
    | int b => obtain ⟨t, rfl⟩ := rx; exact SeqAt.EqAt.bool_int a b t
    | str b => obtain ⟨t, rfl⟩ := rx; exact SeqAt.EqAt.bool_str a b t
    | _ => exact absurd (show false = true from fx) Bool.false_ne_true
  | int a =>
    obtain ⟨t', rfl⟩ := ry
    cases x with
    | non => cases rx; exact SeqAt.EqAt.int_none a t'
    | bl b => cases rx; exact SeqAt.EqAt.int_bool a t' b
    | int b => obtain ⟨t, rfl⟩ := rx; exact SeqAt.EqAt.int_int a t' b t
    | str b => obtain ⟨t, rfl⟩ := rx; exact SeqAt.EqAt.int_str a t' b t
    | _ => exact absurd (show false = true from fx) Bool.false_ne_true
  | str a =>
    obtain ⟨t', rfl⟩ := ry
    cases x with
    | non => cases rx; exact SeqAt.EqAt.str_none a t'
    | bl b => cases rx; exact SeqAt.EqAt.str_bool a t' b
    | int b => obtain ⟨t, rfl⟩ := rx; exact SeqAt.EqAt.str_int a t' b t
    | str b => obtain ⟨t, rfl⟩ := rx; exact SeqAt.EqAt.str_str a t' b t
    | _ => exact absurd (show false = true from fx) Bool.false_ne_true
  | _ => exact absurd (show false = true from fy) Bool.false_ne_true
/-- the items' answers, read off the values (a value's own answer does not lean on its token) -/
def eqU (x : V) (u : Value) : Bool := match u with
  | .none => eqV .non x
  | .bool b => eqV (.bl b) x
  | .int i _ => eqV (.int i) x
  | .str z _ => eqV (.str z) x
  | _ => false
theorem eqU_of {x y : V} {u : Value} (r : RelV y u) (f : flatV y = true) : eqU x u = eqV y x := by
  cases y with
  | non => cases r; rfl
  | bl b => cases r; rfl
  | int i => obtain ⟨t, rfl⟩ := r; rfl
  | str z => obtain ⟨t, rfl⟩ := r; rfl
  | _ => exact absurd (show false = true from f) Bool.false_ne_true
theorem any_eqU {x : V} : ∀ {xs : List V} {us : List Value}, Vals xs us → xs.all flatV = true → us.any (eqU x) = xs.any fun y => eqV y x
  | _, _, .nil, _ => rfl
  | y :: xs, u :: us, .cons r t, f => by
    rw [List.all_cons, Bool.and_eq_true] at f
    rw [List.any_cons, List.any_cons, eqU_of r f.1, any_eqU t f.2]
theorem mem_eqAt {A : Around} {s : Shared} {x : V} {v : Value} (rx : RelV x v) (fx : flatV x = true) : ∀ {xs : List V} {us : List Value}, Vals xs us → xs.all flatV = true → ∀ u ∈ us, SeqAt.EqAt A s u v (eqU x u)
  | _, _, .nil, _ => fun u hu => by cases hu
  | y :: xs, u :: us, .cons r t, f => fun u' hu => by
    rw [List.all_cons, Bool.and_eq_true] at f
    rcases List.mem_cons.mp hu with rfl | hu
    · rw [eqU_of r f.1]; exact eqAt_V r rx f.1 fx
    · exact mem_eqAt rx fx t f.2 u' hu
def inV (x : V) (xs : List V) : Bool := xs.any fun y => eqV y x
/-- x in a list or tuple of flat items -/
def rIn (K : PySem.W.Frag) (neg : Bool) : R2 := fun x y H Q => ∃ p xs, y = .ref p ∧ (SqL K H p xs ∨ SqT K H p xs) ∧ flatV x = true ∧ xs.all flatV = true ∧ Q (.bl (if neg then !inV x xs else inV x xs)) H
theorem op_in_seq : OpR X (compareOp .In) (rIn X.K false) := by
  intro pins s σ H x y v u Q I rx ry h
  obtain ⟨p, xs, rfl, hq, fx, fs, q⟩ := h
  cases ry
  rcases hq with hq | hq
  · obtain ⟨its, r, pl, hz⟩ := I.list hq
    refine SeqAt.in_listAt (eqU x) pl.isList (fun w hw => mem_eqAt rx fx r fs w (by simpa using hw)) ⟨.bl _, H, I, rfl, ?_⟩
    rw [show its.toArray.any (eqU x) = its.any (eqU x) by simp, any_eqU r fs]
    exact q
  · obtain ⟨its, r, pl, hz⟩ := I.tuple hq
    refine SeqAt.in_tupleAt (eqU x) pl (fun w hw => mem_eqAt rx fx r fs w (by simpa using hw)) ⟨.bl _, H, I, rfl, ?_⟩
    rw [show its.toArray.any (eqU x) = its.any (eqU x) by simp, any_eqU r fs]
    exact q
theorem call_len_seq : CallR X (.builtin "len") (fun xs H Q => ∃ p ys, xs = [.ref p] ∧ (SqL X.K H p ys ∨ SqT X.K H p ys) ∧ Q (.int ys.length) H) := by
  intro pins s σ H xs us Q I r h
  obtain ⟨p, ys, rfl, hq, q⟩ := h
  obtain ⟨u, rfl, rx⟩ := vals1 r
  cases rx
  have hn := line63
  rcases hq with hq | hq
  · obtain ⟨its, r', pl, hz⟩ := I.list hq
    have hlen := r'.length
    exact Calls.call_len_list pl.isList (by simp only [List.size_toArray] <;> omega) ⟨.int ys.length, H, I.tok _, ⟨s.toks + 1, by rw [List.size_toArray, hlen]⟩, q⟩
  · obtain ⟨its, r', pl, hz⟩ := I.tuple hq
    have hlen := r'.length
    exact len_tuple pl (by simp only [List.size_toArray] <;> omega) ⟨.int ys.length, H, I.tok _, ⟨s.toks + 1, by rw [List.size_toArray, hlen]⟩, q⟩
theorem call_len_str : CallR X (.builtin "len") (fun xs H Q => ∃ z, xs = [.str z] ∧ z.length ≤ sizeLine ∧ Q (.int z.length) H) := by
  intro pins s σ H xs us Q I r h
  obtain ⟨z, rfl, hz, q⟩ := h
  obtain ⟨u, rfl, t, rfl⟩ := vals1 r
  have hn := line63
  exact len_str (by omega) ⟨.int z.length, H, I.tok _, ⟨_, rfl⟩, q⟩
theorem CallR.or {f : Value} {r r' : List V → Hp → VK → Prop} (h : CallR X f r) (h' : CallR X f r') : CallR X f (fun xs H Q => r xs H Q ∨ r' xs H Q) := by
  intro pins s σ H xs us Q I rs q
  rcases q with q | q
  · exact h pins s σ H xs us Q I rs q
  · exact h' pins s σ H xs us Q I rs q
/-- the value is of that builtin type -/
def tyV (K : PySem.W.Frag) (T : String) (x : V) (H : Hp) : Prop := match x with
  | .str _ => T = "str"
  | .int _ => T = "int"
  | .ref p => (T = "list" ∧ ∃ xs, SqL K H p xs) ∨ (T = "tuple" ∧ ∃ o, K.lookup p = some o ∧ o.cls = .type "tuple" ∧ o.dict = none) ∨
      (T = "dict" ∧ ((∃ kvs, H p = some (.dK kvs)) ∨ ∃ kvs, H p = some (.dT kvs))) ∨ (T = "set" ∧ ∃ S n, H p = some (.set S n))
  | _ => False
theorem tyV_is {pins : List (Addr × Obj)} {σ : St} {H : Hp} {s : Shared} {T : String} {x : V} {v : Value} (I : Inv X pins σ H s) (r : RelV x v) (ty : tyV X.K T x H) :
    s.TypeIs v T ∧ ∀ a, v = .ref a → ∃ ob, s.heap.get? a = some ob ∧ ob.dict = none := by
  cases x with
  | str z =>
    obtain ⟨t, rfl⟩ := r
    cases (show T = "str" from ty)
    exact ⟨typeIs_str s z t, fun _ e => nomatch e⟩
  | int i =>
    obtain ⟨t, rfl⟩ := r
    cases (show T = "int" from ty)
    exact ⟨typeIs_int s i t, fun _ e => nomatch e⟩
  | ref p =>
    cases r
    rcases ty with ⟨rfl, xs, hq⟩ | ⟨rfl, o, hk, hc, hd⟩ | ⟨rfl, hk⟩ | ⟨rfl, S, n, hk⟩
    · obtain ⟨its, _, pl, _⟩ := I.list hq
      refine ⟨pl.isList.typeIs, fun a e => ?_⟩
      cases e
      obtain ⟨o, n, e, c, hd, _⟩ := pl
      exact ⟨o, e, hd⟩
    · refine ⟨⟨o, I.kIn p o hk, hc⟩, fun a e => ?_⟩
      cases e
      exact ⟨o, I.kIn _ o hk, hd⟩
    · have z : ∃ o, s.heap.get? p = some o ∧ o.ExactDict := by
        rcases hk with ⟨kvs, hk⟩ | ⟨kvs, hk⟩
        · obtain ⟨_, _, _, _, o, _, _, e, ex, _⟩ := I.hok p _ hk
          exact ⟨o, e, ex⟩
        · obtain ⟨_, _, _, _, o, _, _, e, ex, _⟩ := I.hok p _ hk
          exact ⟨o, e, ex⟩
      obtain ⟨o, e, ex⟩ := z
      refine ⟨⟨o, e, ex.1⟩, fun a e2 => ?_⟩
      cases e2
      exact ⟨o, e, ex.2.1⟩
    · obtain ⟨o, _, _, _, e, ex, _⟩ := I.hok p _ hk
      refine ⟨⟨o, e, ex.1⟩, fun a e2 => ?_⟩
      cases e2
      exact ⟨o, e, ex.2.1⟩
  | _ => exact False.elim ty
def tBM (K : PySem.W.Frag) (T : String) (r : V → List V → Hp → VK → Prop) (to : TE) (t : TA) : TE := fun σ H Q => to σ H fun x H1 => tyV K T x H1 ∧ t σ H1 fun xs H2 => r x xs H2 Q
variable {o e : Expr} {es : List Expr} {to : TE} {t : TA} {name : Str} {apos cpos : Pos} {T id : String} {r : V → List V → Hp → VK → Prop}
theorem pe_bm (pa : PlainAttrs T) (slot : Slot T name id) (hty : typeOf (.builtin id) = pure (.type "method_descriptor")) (hm : MtR X id r) (ho : PE X o to) (ha : PA X (e :: es) t)
    (hbase : attributeBase o name X.env (eval o X.env) = eval o X.env := by rfl)
    (hfew : ((backTo cpos (starEach (e :: es) X.env)).all (fun x => !x.1) && (backToKw cpos (keywordEach [] X.env)).all (fun x => x.1.isSome)
      && decide ((e :: es).length + ([] : List Keyword).length + (if ([] : List Keyword).isEmpty then 0 else 1) < 30)) = true := by rfl)
    (hline : (apos.endLine == cpos.line) = true := by rfl) (hs : starEach (e :: es) X.env = (false, eval e X.env) :: starEach es X.env := by rfl) (hplain : (backTo cpos (starEach es X.env)).any (·.1) = false := by rfl) :
    PE X (.Call (.Attribute o name apos) (e :: es) [] cpos) (tBM X.K T r to t) := by
  intro pins s σ H Q I h
  refine wpAny_Call_method_late hbase hfew hline rfl (thn (ho pins s σ H _ I h) fun v s1 ⟨x, H1, I1, r1, ty, q1⟩ => ?_)
  obtain ⟨h1, h2⟩ := tyV_is I1 r1 ty
  refine ⟨T, id, pa, slot, hty, h1, h2, ?_⟩
  have hA := ha cpos pins s1 σ H1 _ I1 q1
  rw [hs] at hA ⊢
  refine Calls.callWith_builtin (by show (false || (backTo cpos (starEach es X.env)).any (·.1)) = false; rw [hplain] <;> rfl) (Calls.evalArgs_plain ?_)
  exact thn hA fun us s2 ⟨vs, H2, I2, r2, q2⟩ => hm pins s2 σ H2 x vs v us Q I2 r1 r2 q2
end
end L2

namespace L2
open PySem PySem.Spec PyProof.Rows

section
variable {X : Cx} {pins : List (Addr × Obj)} {σ : St} {H : Hp} {s : Shared} {l b : Addr} {xs ys zs : List V}

theorem Inv.lnew {its : List Value} {t' : Nat} (I : Inv X pins σ H s) (hv : Vals ys its) (hz : ys.length ≤ sizeLine) :
    Inv X pins σ (upd H s.heap.objs.size (.lst ys)) { s with heap := s.heap.push { cls := .type "list", data := .seq its.toArray }, toks := t' } :=
  I.laid (fun _ _ q => Heap.get?_push_of_some _ q) (Nat.le_refl _) ⟨hz, its, 0, hv, Heap.get?_push_size _ rfl⟩
theorem Inv.fresh (I : Inv X pins σ H s) : H s.heap.objs.size = none := I.hok.fresh (Nat.le_refl _)
end

section
variable {X : Cx}

end

section
variable {prog : Program} {w : World} {A : Around} {E : Value → Shared → Prop} {s : Shared}
end

section
variable {X : Cx}
end
end L2

namespace Att
open PySem PySem.W PySem.Calls PyProof.Rows

theorem ints_of_wellAll {P : Params} {h : Heap} : ∀ (ns : List Int) (vs : List Value), WellAll P h vs (ns.map WData.int) → IntsAre vs ns := by
  intro ns
  induction ns with
  | nil =>
    intro vs w
    rw [List.map_nil] at w
    cases w
    exact .nil
  | cons n ns ih =>
    intro vs w
    rw [List.map_cons] at w
    cases w with
    | cons a b =>
      cases a
      exact .cons _ _ (ih _ b)

theorem script_of {l : OpenLaw} {n : Nat} (hn : l.most = some n) {P : Params} {h : Heap} {args : List WData} {vals : List Value}
    (hpre : l.row.toRowW.claim.pre args = true) (hwl : WellAll P h vals args) :
    ∃ a vs ns, vals = [Value.ref a] ∧ args = [WData.list (ns.map WData.int)] ∧ h.get? a = some { cls := .type "list", data := .seq vs.toArray } ∧ IntsAre vs ns ∧ ns.length ≤ n := by
  have hsh : WShape.hasAll [] args [.list .int] = true := (pre_splitW hpre).1
  have hc : l.pre.holds [] { args := args } = true := (pre_splitW hpre).2
  obtain ⟨d, r, rfl, h1, h2⟩ := hasAllW_cons hsh
  obtain rfl := hasAllW_nil h2
  obtain ⟨xs, rfl, h3⟩ := hasW_list h1
  obtain ⟨ns, rfl⟩ := items_int h3
  have hlen : ns.length ≤ n := by
    unfold OpenLaw.pre at hc
    have h4 : (WTm.not (.lt (.lit (.int (n : Int))) (.len (.arg 0)))).holds [] { args := [.list (ns.map .int)] } = true := by
      have h4 := (holds_andW hc).1
      rw [hn] at h4
      exact h4
    have h5 := condW_of h4 (w_not (w_lt w_lit (w_len_list (w_arg rfl))))
    rw [List.length_map] at h5
    refine Nat.le_of_not_lt fun q => ?_
    have q' : (n : Int) < ((ns.length : Nat) : Int) := by omega
    first
      | (rw [decide_eq_true q'] at h5; exact absurd h5 (by decide))
      | (simp at h5; omega)
  cases hwl with
  | cons w1 w2 =>
    cases w2
    cases w1 with
    | list ho hall => exact ⟨_, _, ns, rfl, rfl, ho, ints_of_wellAll ns _ hall, hlen⟩

theorem post_true (l : OpenLaw) (args : List WData) : l.row.toRowW.claim.post args (.bool true) args = true :=
  postW_of (r := l.row.toRowW) (X := (true == true))
    (show WShape.has [] (.bool true) .bool = true by first | rfl | decide | simp [WShape.has, WShape.arms, WShape.armsAll])
    (show (WTm.eq .res (.lit (.bool true))).value [] { args := args, res := some (.bool true), after := args } = some (.bool (true == true)) from w_eq_bool (w_res rfl) w_lit) rfl

section
variable {prog : Program} {w : World} {A : Around} {E : Value → Shared → Prop} {s : Shared} {K : Frag}

end
end Att

namespace L2
open PySem PySem.Spec PyProof.Rows

theorem vals_ints : ∀ {vs : List Value} {ns : List Int}, IntsAre vs ns → Vals (ns.map V.int) vs
  | _, _, .nil => .nil
  | _, _, .cons n t h => .cons ⟨t, rfl⟩ (vals_ints h)

/-- nothing is tracked but the script, known to the object (or it is an object of the module) -/
def Only (H : Hp) : Prop := ∀ b, H b = none ∨ ∃ o xs, H b = some (.frz o (.lst xs))

/-- THE HEAD: the law's promise, at the heap behind the top. F, the promise of the law's def, may use that base is part of the heap (so K.In base, base.Ns mainGlobals mg stand in Mod) -/
theorem law_call {P : Program} {w : World} {K : PySem.W.Frag} {mg mb : Str → Option Value} {CX : CXT} {k : Nat} {fa a : Addr} {fd : FuncData} {x : Str} {sp : Sp} {s₁ : Shared} {vs : List Value} {ns : List Int}
    (KX : K.In s₁.heap) (hns : s₁.heap.Ns mainGlobals mg) (hb : s₁.heap.Ns builtinsNs mb) (hbb : ∀ x : Str, x ≠ "__name__" → mb x = bootBuiltins x) (hlim : s₁.heap.NoLimit) (hg : s₁.gens = #[])
    (ha : s₁.heap.get? a = some { cls := .type "list", data := .seq vs.toArray }) (hi : IntsAre vs ns) (hl : ns.length ≤ sizeLine) (hr : Room k callerA)
    (F : ∀ base : Heap, K.In base → base.Ns mainGlobals mg → FnOk P w K mg base CX k fa fd [x] sp) (hbind : ∀ (s : Shared) (u : Value), BindsTo s fd ⟨[u], []⟩ [(x, u)])
    (hsp : ∀ H : Hp, Only H → SqL K H a (ns.map V.int) → sp [.ref a] H (fun v _ => v = .bl true) fun _ _ _ => False)
    (hCX : ∀ H e s', CX [] H s₁ (fun _ _ _ => False) e s' → False) :
    codeAny (model P w) callerA (.call (.ref fa) ⟨[.ref a], []⟩) (fun r s' => r = .ok (.ret (.bool true)) ∧ OldK s₁.heap s'.heap ∧ s'.os = s₁.os ∧ AllBare s'.gens) s₁ := by
  have rv := vals_ints hi
  have lenV := hi.length
  -- from an abstract heap in which nothing but the script may be tracked
  have core : ∀ H : Hp, Only H → SqL K H a (ns.map V.int) → HOk P w H s₁.heap → (∀ b, H b ≠ none → b = a) → (H a ≠ none → K.lookup a = none) →
      codeAny (model P w) callerA (.call (.ref fa) ⟨[.ref a], []⟩) (fun r s' => r = .ok (.ret (.bool true)) ∧ OldK s₁.heap s'.heap ∧ s'.os = s₁.os ∧ AllBare s'.gens) s₁ := by
    intro H hO hS hok hA hK
    have base_of : ∀ {b : Addr} {o : Obj}, s₁.heap.get? b = some o → H b = none → (hidT s₁.heap H).get? b = some o := fun e n => hidT_get e n
    have noA : ∀ {b : Addr} {o : Obj} {es : Array DictEntry} {ep : Nat}, s₁.heap.get? b = some o → o.data = .dict es ep → H b = none := fun {b o es ep} e d => by
      cases q : H b with
      | none => rfl
      | some u =>
        have e' : b = a := hA b (by rw [q]; simp)
        subst e'
        rw [ha] at e; cases e
        have d' : Data.seq vs.toArray _ = Data.dict es ep := d
        cases d'
    have nsK : ∀ {b : Addr} {m : Str → Option Value}, s₁.heap.Ns b m → (hidT s₁.heap H).Ns b m := fun {b m} ⟨o, es, ep, e, d, r⟩ => ⟨o, es, ep, base_of e (noA e d), d, r⟩
    have hKb : K.In (hidT s₁.heap H) := fun b o e => base_of (KX b o e) (by
      cases q : H b with
      | none => rfl
      | some u =>
        have e' : b = a := hA b (by rw [q]; simp)
        subst e'
        rw [hK (by rw [q]; simp)] at e; cases e)
    have hM : Mod K mg (hidT s₁.heap H) := ⟨hKb, nsK hns, ⟨mb, nsK hb, hbb⟩, let ⟨mc, h1, h2⟩ := hlim; ⟨mc, nsK h1, h2⟩⟩
    have e0 : Env0 P w K mg (hidT s₁.heap H) callerA [] s₁ H := ⟨rfl, hM, fun b o e => of_hidT e, Nat.le_of_eq (hidT_size _ _), trivial, fun b hb => absurd (show b ∈ ([] : List Addr) from hb) (by simp), hok, .of_eq hg⟩
    refine codeAny_mono ((F _ hKb (nsK hns)).run callerA [] s₁ H ⟨[.ref a], []⟩ [.ref a] [.ref a] _ _ hr e0 (hbind s₁ (.ref a)) (.cons rfl .nil) (hsp H hO hS)) fun r s' h => ?_
    cases r with
    | error e => exact (hCX H e s' h).elim
    | ok fl =>
      cases fl with
      | next => exact False.elim h
      | brk => exact False.elim h
      | cont => exact False.elim h
      | ret u =>
        obtain ⟨v, H', os, bare, un, hok', r', q⟩ := h
        have q' : v = .bl true := q
        subst q'
        obtain rfl : u = Value.bool true := r'
        refine ⟨rfl, OldK.of_keep fun b o e => ?_, os, bare⟩
        cases q : H b with
        | none => exact un.keep b o e q (by intro z; exact absurd (show b ∈ ([] : List Addr) from z) (by simp)) (by simp)
        | some u =>
          rcases hO b with z | ⟨ob, xs, z⟩
          · rw [q] at z; cases z
          · have z2 := un.frzs b ob _ z
            obtain ⟨e1, _⟩ := hok b _ z
            obtain ⟨e2, _⟩ := hok' b _ z2
            rw [e] at e1; cases e1
            exact e2
  cases hk : K.lookup a with
  | some o =>
    -- the script is one of the module's own objects
    have e := KX a o hk
    rw [ha] at e
    cases e
    refine core (fun _ => none) (fun _ => .inl rfl) (.inr ⟨_, vs.toArray, _, hk, rfl, rfl, rfl, by rw [List.size_toArray, lenV]; exact hl, by simpa using rv⟩) (fun b u z => by have z' : (none : Option HO) = some u := z; cases z') (fun b z => absurd rfl z) fun z => absurd rfl z
  | none =>
    refine core (fun b => if b = a then some (.frz { cls := .type "list", data := .seq vs.toArray } (.lst (ns.map V.int))) else none) (fun b => ?_) (.inl (.inr ⟨{ cls := .type "list", data := .seq vs.toArray }, if_pos rfl⟩)) (fun b u z => ?_) (fun b z => ?_) fun _ => hk
    · by_cases hb : b = a
      · exact .inr ⟨_, _, if_pos hb⟩
      · exact .inl (if_neg hb)
    · by_cases hb : b = a
      · have z' := (if_pos hb).symm.trans z
        cases z'
        subst hb
        exact ⟨ha, by rw [List.length_map]; exact hl, vs, _, rv, ha⟩
      · have z' := (if_neg hb).symm.trans z
        cases z'
    · by_cases hb : b = a
      · exact hb
      · exact absurd (if_neg hb) z
end L2

namespace L2
open PySem PySem.Spec PyProof.Rows

end L2


namespace L2
open PySem PySem.Spec PyProof.Rows

def defArgs (s : Stmt) : Arguments := match s with
  | .FunctionDef _ a _ _ _ _ _ _ _ _ => a
  | _ => { posonlyargs := [], args := [], vararg := none, kwonlyargs := [], kw_defaults := [], kwarg := none, defaults := [] }
def defBody (s : Stmt) : List Stmt := match s with
  | .FunctionDef _ _ b _ _ _ _ _ _ _ => b
  | _ => []
def defScope (s : Stmt) : Scope := match s with
  | .FunctionDef _ _ _ _ _ _ sc _ _ _ => sc
  | _ => { kind := .function, names := [], isGenerator := false, isCoroutine := false }

abbrev CX0 : CXT := fun _ _ _ _ _ _ => False
abbrev E0 : XK := fun _ _ _ => False
theorem pass0 {X : Cx} : Passes CX0 X E0 := fun _ _ _ _ _ _ _ h => h.elim

structure Fun (K : PySem.W.Frag) (x qual : Str) (st : Stmt) (f : Addr) (fd : FuncData) : Prop where
  ex : ∃ (oc : Value) (od : Option Addr) (kV doc pm : Value) (an : Option Addr) (cdv ct : Value) (osl : Array (Option Value)),
    fd = PySem.W.fnOf x qual (defArgs st) (defBody st) (defScope st) .none kV doc pm an cdv ct ∧ K.lookup f = some ⟨oc, od, .func fd, osl⟩ ∧ PySem.W.codeIn K cdv qual = true
  kp : PySem.W.keepIn K (.ref f) = true
section
variable {P : Program} {w : World} {K : PySem.W.Frag} {mg : Str → Option Value} {base : Heap}
/-- THE RULE for a def: its body as a term of rules, and the reading of that term -/
theorem Fun.ok {x qual : Str} {st : Stmt} {f : Addr} {fd : FuncData} {N ps : List Str} {k : Nat} {sp : Sp} (F : Fun K x qual st f fd) (S : FnScope N ps (defScope st)) (len : ∀ vs H Q E, sp vs H Q E → vs.length = ps.length)
    (hbody : ∀ (cdv : Value) (A : Around) (outer : List Env) (s : Shared) (H : Hp) (vs : List V) (Q : VK) (E : XK), Room k (A.deeper (envOfC qual (defScope st) s.heap.objs.size f cdv)) → sp vs H Q E →
      ∃ t, PSs (cxOf CX0 P w K mg base N qual (defScope st) f cdv A outer s H E).nox (defBody st) t ∧ t { nx := fun _ H' => Q .non H', rt := Q } (start N vs) H) : FnOk P w K mg base CX0 (k + 1) f fd ps sp := by
  obtain ⟨oc, od, kV, doc, pm, an, cdv, ct, osl, rfl, lk, hcd⟩ := F.ex
  refine fn_of lk hcd S len fun A outer s H vs Q E hr hsp => ?_
  obtain ⟨t, h, q⟩ := hbody cdv A outer s H vs Q E hr hsp
  exact ⟨t, h.nox, q⟩
/-- how its arguments bind (no defaults): h is «fun _ _ _ _ _ _ us hl => match us, hl with | [_, _], _ => rfl», one _ a parameter -/
theorem Fun.binds {x qual : Str} {st : Stmt} {f : Addr} {fd : FuncData} {ps : List Str} (F : Fun K x qual st f fd)
    (h : ∀ (kV doc pm : Value) (an : Option Addr) (cdv ct : Value) (us : List Value), us.length = ps.length → bindArgs (PySem.W.fnOf x qual (defArgs st) (defBody st) (defScope st) .none kV doc pm an cdv ct) ⟨us, []⟩ = pure (ps.zip us)) : Binds K fd ps [] := by
  obtain ⟨oc, od, kV, doc, pm, an, cdv, ct, osl, rfl, lk, hcd⟩ := F.ex
  exact .all (h kV doc pm an cdv ct)
theorem fun_mk {x qual : Str} {st : Stmt} {f : Addr} {oc : Value} {od an : Option Addr} {osl : Array (Option Value)} {kV doc pm cdv ct : Value} (l : K.lookup f = some ⟨oc, od, .func (PySem.W.fnOf x qual (defArgs st) (defBody st) (defScope st) .none kV doc pm an cdv ct), osl⟩)
    (c : PySem.W.codeIn K cdv qual = true) (k : PySem.W.keepIn K (.ref f) = true) : Fun K x qual st f (PySem.W.fnOf x qual (defArgs st) (defBody st) (defScope st) .none kV doc pm an cdv ct) := ⟨⟨oc, od, kV, doc, pm, an, cdv, ct, osl, rfl, l, c⟩, k⟩
end
theorem hu_of {A : Around} {k : Nat} (hr : Room k A) : A.units + 1 < cLine := Nat.lt_of_le_of_lt (Nat.add_le_add_left (by decide : 1 ≤ 64) _) hr.units
theorem small1000 {n : Nat} (h : n ≤ 1000) : n < sizeLine := Nat.lt_of_le_of_lt h (by decide)

section
variable {X : Cx}
end

theorem iteF {A B : Prop} (h : B) : if false = true then A else B := by
  rw [if_neg Bool.false_ne_true]
  exact h
theorem iteT {A B : Prop} (h : A) : if true = true then A else B := by
  rw [if_pos rfl]
  exact h
/-- all that was tracked is as it was -/
def Same (H H' : Hp) : Prop := ∀ b o, H b = some o → H' b = some o
theorem Same.refl (H : Hp) : Same H H := fun _ _ h => h
theorem Same.trans {H H1 H2 : Hp} (a : Same H H1) (b : Same H1 H2) : Same H H2 := fun c o h => b c o (a c o h)
theorem Same.free {H H' : Hp} (e : Same H H') {l : Addr} (h : H' l = Option.none) : H l = Option.none := by
  cases q : H l with
  | none => rfl
  | some o =>
    rw [e l o q] at h
    cases h
end L2

set_option linter.all false
set_option maxRecDepth 100000
set_option maxHeartbeats 4000000

namespace L2
open PySem PySem.Spec PyProof.Rows

/-- a def of the text, its parameters -/
def Def (K : PySem.W.Frag) (mg : Str → Option Value) (x : Str) (st : Stmt) (ps : List Str) : Prop :=
  ∃ (f : Addr) (fd : FuncData), Fun K x x st f fd ∧ mg x = some (.ref f) ∧ Binds K fd ps []
/-- a def as its callers see it -/
def Has (P : Program) (w : World) (K : PySem.W.Frag) (mg : Str → Option Value) (base : Heap) (x : Str) (ps : List Str) (k : Nat) (sp : Sp) : Prop :=
  ∃ (f : Addr) (fd : FuncData), mg x = some (.ref f) ∧ PySem.W.keepIn K (.ref f) = true ∧ Binds K fd ps [] ∧ FnOk P w K mg base CX0 k f fd ps sp
/-- a constant of a module -/
def Glb (mg : Str → Option Value) (x : Str) (v : V) : Prop := ∃ u, mg x = some u ∧ RelV v u

section
variable {P : Program} {w : World} {K : PySem.W.Frag} {mg : Str → Option Value} {base : Heap}
theorem Def.ok {x : Str} {st : Stmt} {N ps : List Str} {k : Nat} {sp : Sp} (d : Def K mg x st ps) (S : FnScope N ps (defScope st)) (len : ∀ vs H Q E, sp vs H Q E → vs.length = ps.length)
    (hbody : ∀ (f : Addr) (cdv : Value) (A : Around) (outer : List Env) (s : Shared) (H : Hp) (vs : List V) (Q : VK) (E : XK), Room k (A.deeper (envOfC x (defScope st) s.heap.objs.size f cdv)) → sp vs H Q E →
      ∃ t, PSs (cxOf CX0 P w K mg base N x (defScope st) f cdv A outer s H E).nox (defBody st) t ∧ t { nx := fun _ H' => Q .non H', rt := Q } (start N vs) H) : Has P w K mg base x ps (k + 1) sp := by
  obtain ⟨f, fd, F, hm, hb⟩ := d
  exact ⟨f, fd, hm, F.kp, hb, F.ok S len (hbody f)⟩
end

section
variable {X : Cx} {x : Str} {p pos : Pos} {e : Expr} {es : List Expr} {t : TA} {ps : List Str} {j k : Nat} {sp : Sp} {v : V} {T : String}
def noStar : Expr → Bool
  | .Starred .. => false
  | _ => true
theorem star_cons {e : Expr} {es : List Expr} {env : Env} (h : noStar e = true) : starEach (e :: es) env = (false, eval e env) :: starEach es env := by
  cases e <;> first | rfl | cases h
theorem star_any {env : Env} {pos : Pos} : ∀ {es : List Expr}, es.all noStar = true → (backTo pos (starEach es env)).any (·.1) = false
  | [], _ => rfl
  | e :: es, h => by
    rw [List.all_cons, Bool.and_eq_true] at h
    rw [star_cons h.1]
    have ih := star_any (env := env) (pos := pos) h.2
    unfold backTo at ih ⊢
    rw [List.map_cons, List.any_cons, ih]
    rfl
theorem pac {te : TE} (ha : PE X e te) (hr : PA X es t) (h : noStar e = true := by rfl) : PA X (e :: es) (tCons te t) := pa_cons ha hr (star_cons h)
theorem pe_own (h : Has X.prog X.w X.K X.mg X.base x ps k sp) (hr : Room j X.A) (hg : Gl X x) (ha : PA X (e :: es) t) (hk : k ≤ j := by decide) (hdb : (x == ("__debug__" : Str)) = false := by decide)
    (he : (e :: es).all noStar = true := by rfl) : PE X (.Call (.Name x p) (e :: es) [] pos) (tCall sp [] E0 t) := by
  obtain ⟨f, fd, hm, kp, b, F⟩ := h
  rw [List.all_cons, Bool.and_eq_true] at he
  exact pe_call F (hr.mono hk) hg hm kp b .nil pass0 ha hdb (star_cons he.1) (star_any he.2)
theorem pe_gl (h : Glb X.mg x v) (hg : Gl X x) (hd : (x == ("__debug__" : Str)) = false := by decide) : PE X (.Name x pos) (tC v) := by
  obtain ⟨u, hm, r⟩ := h
  exact pe_glob hg hm r hd
theorem pe_bty (hg : Gl X x) (hm : X.mg x = none) (hv : bootBuiltins x = some (.type T)) (hn : x ≠ "__name__" := by decide) (hd : (x == ("__debug__" : Str)) = false := by decide) : PE X (.Name x pos) (tC (.ty T)) :=
  pe_bltn hg hm hv rfl hn hd
end
section
variable {X : Cx} {st : Stmt} {t : TS}
end
section
variable {X : Cx}
/-- // by a positive divisor below 2 ^ 64 -/
theorem op_fdivP : OpR X (binaryOp .FloorDiv) (rI (fun _ j => 0 < j ∧ j < 2 ^ 64) fun i j => .int (i / j)) := opI fun i j _ _ _ _ _ hc q => by
  have h1 : (0 : Int) < j := hc.1
  have h2 : j < 2 ^ 64 := hc.2
  have h3 : j.natAbs.log2 < 64 := (Nat.log2_lt (by omega)).mpr (by omega)
  exact PyProof.Rows.floordiv_int (by omega) (by rw [Int.fdiv_eq_ediv_of_nonneg i (by omega)]; exact q) (.inl (PyProof.noPylong_of_log2 (by omega)))
end
theorem bt_len : bootBuiltins "len" = some (.builtin "len") := by decide +kernel
theorem bt_isinstance : bootBuiltins "isinstance" = some (.builtin "isinstance") := by decide +kernel
theorem boot_ty_int : bootBuiltins "int" = some (.type "int") := by decide +kernel
theorem boot_ty_bool : bootBuiltins "bool" = some (.type "bool") := by decide +kernel
/-- what isinstance says of the flat values and of tuples, for the built-in types that the laws ask -/
theorem kit_int_int {K : PySem.W.Frag} : PySem.W.kitOne K (.type "int") (.type "int") = some true := by rfl
theorem kit_bool_int {K : PySem.W.Frag} : PySem.W.kitOne K (.type "bool") (.type "int") = some true := by kernel_rfl
theorem kit_int_bool {K : PySem.W.Frag} : PySem.W.kitOne K (.type "int") (.type "bool") = some false := by kernel_rfl
theorem kit_bool_bool {K : PySem.W.Frag} : PySem.W.kitOne K (.type "bool") (.type "bool") = some true := by rfl
theorem kit_none_int {K : PySem.W.Frag} : PySem.W.kitOne K (.type "NoneType") (.type "int") = some false := by kernel_rfl
theorem kit_none_bool {K : PySem.W.Frag} : PySem.W.kitOne K (.type "NoneType") (.type "bool") = some false := by kernel_rfl
theorem kit_tup_tup {K : PySem.W.Frag} : PySem.W.kitOne K (.type "tuple") (.type "tuple") = some true := by rfl
theorem kit_str_str {K : PySem.W.Frag} : PySem.W.kitOne K (.type "str") (.type "str") = some true := by rfl

theorem same_new {H : Hp} {p : Addr} (h : H p = none) (o : HO) : Same H (upd H p o) := fun b u q => by rw [upd_ne (ne_of_none q h)]; exact q
theorem small {n : Nat} (h : n ≤ 1000) : n ≤ sizeLine := Nat.le_of_lt (small1000 h)
end L2

namespace L2
open PySem PySem.Spec PyProof.Rows
section
variable {X : Cx} {tg : Expr}
end
end L2

namespace L2
open PySem PySem.Spec PyProof.Rows

section
variable {X : Cx} {pins : List (Addr × Obj)} {σ : St} {H2 : Hp} {s2 : Shared} {scope : Scope} {cl : List (Str × Addr)} {own : List Str} {C D : Addr} {fp : List Addr}
theorem get_tail {α : Type} {σ : List (Option α)} {n i : Nat} {v : α} (h : (σ ++ List.replicate n none)[i]? = some (some v)) : σ[i]? = some (some v) := by
  by_cases hi : i < σ.length
  · rw [List.getElem?_append_left hi] at h
    exact h
  · rw [List.getElem?_append_right (by omega), List.getElem?_replicate] at h
    split at h <;> cases h

end
end L2

namespace L2
open PySem PySem.Spec PyProof.Rows

section
variable {prog : Program} {w : World} {A : Around} {R : Result → Shared → Prop} {s : Shared}
end

section
variable {X : Cx} {σ : St} {H : Hp} {s : Shared} {D : Addr}
end

section
variable {X : Cx} {tg iter elt : Expr} {ifs : List Expr} {scope : Scope} {cl : List (Str × Addr)} {own : List Str} {pos : Pos} {te : TE} {tc : TT} {g : TG} {wi : TI}
end
end L2

namespace L2
open PySem PySem.Spec PyProof.Rows
structure QE (X : Cx) (e : Expr) (t : TE) : Prop where
  h : PE X e t
structure QA (X : Cx) (es : List Expr) (t : TA) : Prop where
  h : PA X es t
structure QS (X : Cx) (st : Stmt) (t : TS) : Prop where
  h : PS X st t
structure QG (X : Cx) (e : Expr) (t : TG) : Prop where
  h : PG X e t
section
variable {X : Cx} {x y : Str} {p pos pos' apos cpos p2 : Pos} {e a b c o tg iter elt : Expr} {es rest : List Expr} {te ta tb tc to : TE} {t : TA} {tA tB' : TT} {r r' : R2} {v : V} {T id : String} {ps : List Str} {j k i : Nat} {sp : Sp}
-- names and constants
theorem qe_gl (h : Glb X.mg x v) (hg : Gl X x) (hd : (x == ("__debug__" : Str)) = false := by decide) : QE X (.Name x pos) (tC v) := ⟨pe_gl h hg hd⟩
theorem qe_bty (hg : Gl X x) (hm : X.mg x = none) (hv : bootBuiltins x = some (.type T)) (hn : x ≠ "__name__" := by decide) (hd : (x == ("__debug__" : Str)) = false := by decide) : QE X (.Name x pos) (tC (.ty T)) := ⟨pe_bty hg hm hv hn hd⟩
-- operations
/-- expressions whose test is their value's truth -/
def plainTest : Expr → Bool
  | .Name .. => true
  | .Call .. => true
  | .Subscript .. => true
  | .Attribute .. => true
  | .Constant .. => true
  | .List .. => true
  | .Tuple .. => true
  | .BinOp .. => true
  | _ => false
theorem plain_test {e : Expr} {env : Env} (h : plainTest e = true) : ∀ whole, isTrue e env whole = (do let v ← whole; standAt e.pos; holding [v] (truthy v)) := by
  cases e <;> first | (intro _; rfl) | cases h
-- argument lists, displays
theorem qa_nil : QA X [] tNil := ⟨pa_nil⟩
theorem qa_cons (ha : QE X e te) (hr : QA X es t) (h : noStar e = true := by rfl) : QA X (e :: es) (tCons te t) := ⟨pac ha.h hr.h h⟩
/-- an index that is written plainly -/
def plainIx : Expr → Bool
  | .Name .. => true
  | .Constant .. => true
  | .BinOp .. => true
  | .Call .. => true
  | .UnaryOp .. => true
  | .Subscript .. => true
  | .Attribute .. => true
  | _ => false
theorem plain_ix {b : Expr} (h : plainIx b = true) : PlainIx b := by
  cases b <;> first | (intro _ _; rfl) | cases h
-- calls
theorem qe_callB {r : List V → Hp → VK → Prop} (hc : CallR X (.builtin id) r) (hg : Gl X x) (hm : X.mg x = none) (hv : bootBuiltins x = some (.builtin id)) (ha : QA X (e :: es) t) (hn : x ≠ "__name__" := by decide) (hdb : (x == ("__debug__" : Str)) = false := by decide)
    (he : (e :: es).all noStar = true := by rfl) : QE X (.Call (.Name x p) (e :: es) [] pos) (tCB r t) := by
  rw [List.all_cons, Bool.and_eq_true] at he
  exact ⟨pe_callB hc hg hm hv ha.h hn hdb (star_cons he.1) (star_any he.2)⟩
theorem qe_callTy {r : List V → Hp → VK → Prop} (hc : CallR X (.type T) r) (hg : Gl X x) (hm : X.mg x = none) (hv : bootBuiltins x = some (.type T)) (ha : QA X (e :: es) t) (hn : x ≠ "__name__" := by decide) (hdb : (x == ("__debug__" : Str)) = false := by decide)
    (he : (e :: es).all noStar = true := by rfl) : QE X (.Call (.Name x p) (e :: es) [] pos) (tCB r t) := by
  rw [List.all_cons, Bool.and_eq_true] at he
  exact ⟨pe_callTy hc hg hm hv ha.h hn hdb (star_cons he.1) (star_any he.2)⟩
-- statements
variable {st : Stmt} {sts body : List Stmt} {ts us tbs : TS} {g : TG} {wi : TI}
/-- no comprehension -/
def noComp : Expr → Bool
  | .ListComp .. => false
  | .SetComp .. => false
  | .DictComp .. => false
  | _ => true
theorem no_swap {e : Expr} {tgt : Option Expr} {n : Nat} {env : Env} (h : noComp e = true) : swapsWith e tgt n env = pure false := by
  cases e <;> first | rfl | cases h
theorem qs_set {i : Nat} {x : Str} {pos' : Pos} (hN : X.N.Nodup) (hi : X.N[i]? = some x) (hx : Loc X.env.scope x) (he : QE X e te) (hs : noComp e = true := by rfl) (hf : X.fn x = true ∨ X.env.scope.names.lookup x = some .local := by first | exact .inl rfl | exact .inr rfl | assumption) :
    QS X (.Assign [.Name x pos'] e pos) (tAsg te (gName i)) := ⟨ps_set hN hi hx he.h (no_swap hs) hf⟩
-- targets
theorem qg_name {i : Nat} {x : Str} (hN : X.N.Nodup) (hi : X.N[i]? = some x) (hx : Loc X.env.scope x) (hf : X.fn x = true ∨ X.env.scope.names.lookup x = some .local := by first | exact .inl rfl | exact .inr rfl | assumption) : QG X (.Name x pos) (gName i) := ⟨pg_name hN hi hx hf⟩
-- what is walked
-- comprehensions
variable {ifs : List Expr} {scope : Scope} {cl : List (Str × Addr)} {own : List Str} {tcc : TT}
-- methods of lists
variable {name : Str} {rm : V → List V → Hp → VK → Prop}
theorem star_all {env : Env} {pos : Pos} : ∀ {es : List Expr}, es.all noStar = true → (backTo pos (starEach es env)).all (fun x => !x.1) = true
  | [], _ => rfl
  | e :: es, h => by
    rw [List.all_cons, Bool.and_eq_true] at h
    rw [star_cons h.1]
    have ih := star_all (env := env) (pos := pos) h.2
    unfold backTo at ih ⊢
    rw [List.map_cons, List.all_cons, ih]
    rfl
theorem qe_bm (pa : PlainAttrs T) (slot : Slot T name id) (hty : typeOf (.builtin id) = pure (.type "method_descriptor")) (hm : MtR X id rm) (ho : QE X o to) (ha : QA X (e :: es) t)
    (hbase : attributeBase o name X.env (eval o X.env) = eval o X.env := by rfl) (hline : (apos.endLine == cpos.line) = true := by rfl) (he : (e :: es).all noStar = true := by rfl) (hl : (e :: es).length < 30 := by decide) :
    QE X (.Call (.Attribute o name apos) (e :: es) [] cpos) (tBM X.K T rm to t) := ⟨by
  have ha' := star_all (env := X.env) (pos := cpos) he
  rw [List.all_cons, Bool.and_eq_true] at he
  refine pe_bm pa slot hty hm ho.h ha.h hbase ?_ hline (star_cons he.1) (star_any he.2)
  rw [ha']
  show (true && true && decide ((e :: es).length + 0 + 0 < 30)) = true
  rw [decide_eq_true (show (e :: es).length + 0 + 0 < 30 from hl)]
  rfl⟩
end

section
variable {P : Program} {w : World} {K : PySem.W.Frag} {mg : Str → Option Value} {base : Heap}
end
end L2

namespace L2
open PySem PySem.Spec PyProof.Rows
/-- both lists, or both tuples -/
def SqB (K : PySem.W.Frag) (H : Hp) (a c : Addr) (xs ys : List V) : Prop := (SqT K H a xs ∧ SqT K H c ys) ∨ (SqL K H a xs ∧ SqL K H c ys)
section
variable {X : Cx} {pins : List (Addr × Obj)} {σ : St} {H : Hp} {s : Shared}
theorem rc_seq {A : Around} {a c : Addr} {xs ys : List V} {e : Nat → Bool} (I : Inv X pins σ H s) (hu : A.units < cLine) (hq : SqB X.K H a c xs ys)
    (he : ∀ (j : Nat) x' y' u v, xs[j]? = some x' → ys[j]? = some y' → RelV x' u → RelV y' v → SeqAt.EqAt A.in1 s u v (e j)) :
    SeqAt.RcAt A s (.ref a) (.ref c) ((List.range (min xs.length ys.length)).all e && xs.length == ys.length) ∧ SeqAt.RcNeAt A s (.ref a) (.ref c) (!((List.range (min xs.length ys.length)).all e && xs.length == ys.length)) := by
  have get : ∀ {zs : List V} {us : List Value} {j : Nat} (hj : j < us.toArray.size), Vals zs us → ∃ z, zs[j]? = some z ∧ RelV z us.toArray[j] := fun {zs us j} hj r => by
    have hl := r.length
    have hj' : j < zs.length := by
      rw [List.size_toArray] at hj
      omega
    obtain ⟨u, hu', ru⟩ := r.get (List.getElem?_eq_getElem hj')
    refine ⟨_, List.getElem?_eq_getElem hj', ?_⟩
    have : us.toArray[j] = u := by
      have h2 : us[j]? = some us[j] := List.getElem?_eq_getElem (by omega)
      rw [h2] at hu'
      simpa using hu'
    rw [this]
    exact ru
  rcases hq with ⟨ha, hc⟩ | ⟨ha, hc⟩
  · obtain ⟨us, ra, pa, _⟩ := I.tuple ha
    obtain ⟨vs, rc, pc, _⟩ := I.tuple hc
    have h1 := ra.length
    have h2 := rc.length
    have key : ∀ j (k1 : j < us.toArray.size) (k2 : j < vs.toArray.size), SeqAt.EqAt A.in1 s us.toArray[j] vs.toArray[j] (e j) := fun j k1 k2 => by
      obtain ⟨z1, e1, r1⟩ := get k1 ra
      obtain ⟨z2, e2, r2⟩ := get k2 rc
      exact he j z1 z2 _ _ e1 e2 r1 r2
    have p := SeqAt.RcAt.tuples (e := e) pa pc hu key
    have q := SeqAt.RcNeAt.tuples (e := e) pa pc hu key
    rw [List.size_toArray, List.size_toArray, ← h1, ← h2] at p q
    exact ⟨p, q⟩
  · obtain ⟨us, ra, pa, _⟩ := I.list ha
    obtain ⟨vs, rc, pc, _⟩ := I.list hc
    have h1 := ra.length
    have h2 := rc.length
    have key : ∀ j (k1 : j < us.toArray.size) (k2 : j < vs.toArray.size), SeqAt.EqAt A.in1 s us.toArray[j] vs.toArray[j] (e j) := fun j k1 k2 => by
      obtain ⟨z1, e1, r1⟩ := get k1 ra
      obtain ⟨z2, e2, r2⟩ := get k2 rc
      exact he j z1 z2 _ _ e1 e2 r1 r2
    by_cases hl : xs.length = ys.length
    · have hs : us.toArray.size = vs.toArray.size := by rw [List.size_toArray, List.size_toArray]; omega
      have p := SeqAt.RcAt.lists (e := e) pa.isList pc.isList hs hu key
      have q := SeqAt.RcNeAt.lists (e := e) pa.isList pc.isList hs hu key
      have e1 : min xs.length ys.length = us.toArray.size := by rw [List.size_toArray]; omega
      have e2 : (xs.length == ys.length) = true := by simp [hl]
      rw [e1, e2, Bool.and_true]
      exact ⟨p, q⟩
    · have hs : (us.toArray.size != vs.toArray.size) = true := by
        rw [List.size_toArray, List.size_toArray]
        simp
        omega
      have e2 : (xs.length == ys.length) = false := by simp [hl]
      rw [e2, Bool.and_false]
      exact ⟨SeqAt.RcAt.lists_lengths pa.isList pc.isList hs hu, SeqAt.RcNeAt.lists_lengths pa.isList pc.isList hs hu⟩
theorem in1_units (A : Around) : A.in1.units = A.units + 1 := rfl
end
theorem eqV_self {x : V} (h : flatV x = true) : eqV x x = true := by
  cases x <;> first | rfl | (simp [eqV]; done) | cases h
end L2

namespace L2
open PySem PySem.Spec PyProof.Rows
open PySem.W (hideAll)

section
variable {P : Program} {w : World} {l : List Env} {H H' : Hp} {h B h' h'' : Heap}
end

section
variable {X : Cx} {pins : List (Addr × Obj)} {σ : St} {H H' : Hp} {s : Shared} {B h' : Heap}
variable {x : Str} {C : Addr} {np cpos pos : Pos} {e : Expr} {es : List Expr} {t : TA} {E : XK}
end

section
variable {P : Program} {w : World} {K : PySem.W.Frag} {mg : Str → Option Value} {base : Heap} {N : List Str} {qual : Str} {scope : Scope} {f : Addr} {cd : Value} {A : Around} {outer : List Env} {s₀ : Shared} {H₀ : Hp} {E : XK}
end

section
variable {X : Cx} {x : Str} {np cpos pos p : Pos} {e : Expr} {es : List Expr} {t : TA} {E : XK} {C : Addr} {ps : List Str} {j k : Nat} {sp : Sp}
end
end L2

namespace L2
open PySem PySem.Spec PyProof.Rows
section
variable {X : Cx} {pins : List (Addr × Obj)} {σ : St} {H H' : Hp} {s : Shared} {a C : Addr}
end
section
variable {X : Cx} {x n : Str} {p pos np hpos tpos : Pos} {e e1 e2 : Expr} {es : List Expr} {ta : TA} {te : TE} {tx : TX} {ps : List Str} {j k i : Nat} {sp : Sp} {E : XK} {D : Addr}
variable {suite : List Stmt} {ts : TS} {b₀ : Stmt}
end
end L2

namespace L2
open PySem PySem.Spec PyProof.Rows
section
variable {X : Cx} {x : Str} {p pos : Pos} {e : Expr} {es : List Expr} {t : TA} {ps : List Str} {j k : Nat} {sp : Sp}
end
end L2

namespace L2
open PySem PySem.Spec PyProof.Rows
section
variable {X : Cx} {e e1 e2 : Expr} {es : List Expr} {te : TE} {t : TJ} {pos : Pos}
end
end L2

namespace L2
open PySem PySem.Spec PyProof.Rows
open PySem.W (Looks findIn mroIn looks_findIn looks_mroIn clsIn)
section
variable {prog : Program} {w : World} {A : Around} {E : Value → Shared → Prop} {h : Heap} {g : Array GenState} {d : Drawn} {t : Nat} {os : OsState} {a C : Addr} {o : Obj} {K : PySem.W.Frag}
end
end L2

namespace L2
open PySem PySem.Spec PyProof.Rows
section
variable {X : Cx}
end
end L2

namespace L2
open PySem PySem.Spec PyProof.Rows
open Builtin.SmallTypes (nextOf)
section
variable {prog : Program} {w : World} {A : Around} {E : Value → Shared → Prop} {s : Shared}
variable {z TI TO i1 i2 l1 l2 : Addr} {st1 st2 : Nat → Heap → Prop} {n1 n2 : Nat} {v1 v2 : Nat → Value} {a b : Value} {k : Nat}
end
end L2

namespace L2
open PySem PySem.Spec PyProof.Rows
section
variable {prog : Program} {w : World} {A : Around} {E : Value → Shared → Prop} {s : Shared}
end
section
variable {X : Cx} {pins : List (Addr × Obj)} {σ : St} {H : Hp} {s : Shared}
end
section
variable {X : Cx}
end
end L2

namespace L2
open PySem PySem.Spec PyProof.Rows
section
variable {X : Cx} (K : PySem.W.Frag) (hK : X.K = K)
include hK
end
/-- a tuple, a list of the text's own -/
def CstT (K : PySem.W.Frag) (a : Addr) (xs : List V) : Prop := ∀ H, SqT K H a xs
theorem cstT {K : PySem.W.Frag} {a : Addr} {xs : List V} {d : Option Addr} {its : Array Value} {n : Nat} {sl : Array (Option Value)} (h : K.lookup a = some ⟨.type "tuple", d, .seq its n, sl⟩) (hz : its.size ≤ sizeLine) (r : Vals xs its.toList) : CstT K a xs :=
  fun _ => .inr ⟨_, its, n, h, rfl, rfl, hz, r⟩
end L2

namespace L2
open PySem PySem.Spec PyProof.Rows
open Builtin Builtin.Str
section
variable {X : Cx}
end
/-- the signs of a text, one by one -/
def Its (z : Str) : It := ⟨fun i _ => i < z.length, fun i H x H' => H' = H ∧ ∃ c, z.cps[i]? = some c ∧ x = .str ⟨#[c]⟩, fun i _ => z.length ≤ i⟩
section
variable {X : Cx} {tg : Expr}
def iStr (te : TE) : TI := fun σ H R => te σ H fun x H1 => ∃ z, x = .str z ∧ R (Its z) H1
theorem turn_str {P : Program} {w : World} {K : PySem.W.Frag} {it : Addr} {z : Str} {t : Tok} {ty : String} (hty : ty = "str_ascii_iterator" ∨ ty = "str_iterator") : Turn P w K tg (Its z) [it] it (fun i h => h.IsStrIter it ty z t i ∧ i ≤ z.length) where
  mem := by simp
  obj := fun i h st b hb => by
    have e : b = it := by simpa using hb
    subst e
    obtain ⟨⟨o, e, c, d⟩, _⟩ := st
    exact ⟨o, e, fun v z => by rw [d] at z; cases z⟩
  keep := fun i h h' st k => ⟨let ⟨o, ho, r⟩ := st.1; ⟨o, k it (by simp) o ho, r⟩, st.2⟩
  item := by
    intro X hP hw hK hc i pins s σ H E I hf st hg
    subst hP hw hK
    obtain ⟨f0, f1, f2, f3, f4, f5⟩ := hf it (by simp)
    have hg' : i < z.cps.size := hg
    have hx : z.cps[i]? = some z.cps[i] := by simp [hg']
    have go : ∀ h' tk (u : Value), (∃ t', u = Value.str ⟨#[z.cps[i]]⟩ t') → h'.IsStrIter it ty z t (i + 1) → Heap.SameBut it s.heap h' → ∃ v, some u = some v ∧
        wpAny (model X.prog X.w) X.A (letOwnedTupleGo tg (.ref it) v) (fun _ s2 => ∃ x H', Inv X pins σ H' s2 ∧ RelV x v ∧ (Its z).yld i H x H' ∧ (s2.heap.IsStrIter it ty z t (i + 1) ∧ i + 1 ≤ z.length) ∧ ∀ b ∈ [it], H' b = none) E { s with heap := h', toks := tk } := fun h' tk u hu st' sb => by
      obtain ⟨t', rfl⟩ := hu
      have I1 : Inv X pins σ H { s with heap := h', toks := tk } := I.turned (fun b o hb e => (sb.2 b hb).trans e) f0 f1 f3 f4 f5
      obtain ⟨o, e, c, d⟩ := id st'
      exact ⟨_, rfl, go_of (s := { s with heap := h', toks := tk }) e c d (by rcases hty with rfl | rfl <;> decide) ⟨.str ⟨#[z.cps[i]]⟩, H, I1, ⟨t', rfl⟩, ⟨rfl, _, hx, rfl⟩, ⟨st', hg⟩, fun b hb => (hf b hb).1⟩⟩
    rcases hty with rfl | rfl
    · exact wpAny_pyNext_ascii_item st.1 hx fun h' st' sb => go h' _ _ ⟨_, rfl⟩ st' sb
    · exact wpAny_pyNext_wide_item st.1 hx fun h' st' sb => go h' _ _ ⟨_, rfl⟩ st' sb
  done := by
    intro X hP hw hK hc i pins s σ H E I hf st hg
    subst hP hw hK
    obtain ⟨f0, f1, f2, f3, f4, f5⟩ := hf it (by simp)
    have hx : z.cps[i]? = none := Array.getElem?_eq_none hg
    rcases hty with rfl | rfl
    · exact wpAny_pyNext_ascii_end (I.ok.hd hc) st.1 hx fun h' eb => ⟨rfl, I.turned (t' := s.toks) (fun b o hb e => eb b o hb e) f0 f1 f3 f4 f5⟩
    · exact wpAny_pyNext_wide_end (I.ok.hd hc) st.1 hx fun h' eb => ⟨rfl, I.turned (t' := s.toks) (fun b o hb e => eb b o hb e) f0 f1 f3 f4 f5⟩
  self := fun _ _ _ _ _ st h => by
    rcases hty with rfl | rfl
    · exact wpAny_pyIter_striter_ascii st.1 h
    · exact wpAny_pyIter_striter_wide st.1 h
theorem pi_str {e : Expr} {te : TE} (he : PE X e te) : PI X tg e (iStr te) := by
  intro pins s σ H R I h
  refine thn (he pins s σ H _ I h) fun v s1 ⟨x, H1, I1, r1, q1⟩ => ?_
  obtain ⟨z, rfl, q⟩ := q1
  obtain ⟨t, rfl⟩ := (show ∃ t, v = Value.str z t from r1)
  have fin : ∀ (ty : String), (ty = "str_ascii_iterator" ∨ ty = "str_iterator") → ∀ o : Obj, (s1.heap.push o).IsStrIter s1.heap.objs.size ty z t 0 → PIE X pins σ tg R (.ref s1.heap.objs.size) { s1 with heap := s1.heap.push o } := fun ty hty o st =>
    ⟨s1.heap.objs.size, [s1.heap.objs.size], _, _, H1, rfl, I1.kept (t' := s1.toks) fun b o e => Heap.get?_push_of_some _ e, turn_str hty, ⟨st, Nat.zero_le _⟩, fun b hb => by
      have e : b = s1.heap.objs.size := by simpa using hb
      subst e
      exact I1.fpOk (Nat.le_refl _) (I1.hok.fresh (Nat.le_refl _)), q⟩
  cases ha : z.cps.all (· < 128)
  · exact wpAny_pyIter_wide ha (fin _ (.inr rfl) _ ⟨_, Heap.get?_push_size _ rfl, rfl, rfl⟩)
  · exact wpAny_pyIter_ascii ha (fin _ (.inl rfl) _ ⟨_, Heap.get?_push_size _ rfl, rfl, rfl⟩)
end
end L2

namespace L2
open PySem PySem.Spec PyProof.Rows
open Builtin Builtin.Str
section
variable {X : Cx}
end
end L2

namespace L2
open PySem PySem.Spec PyProof.Rows
open Builtin Builtin.Str
section
variable {X : Cx} {e o : Expr} {te to : TE} {pos apos cpos : Pos} {name : Str} {T id : String} {rm : V → List V → Hp → VK → Prop}
end
end L2

namespace L2
open PySem PySem.Spec PyProof.Rows

section
variable {κ : Type} [DecidableEq κ]
def valV (kvs : List (κ × V)) (k : κ) : Option V := (kvs.find? fun kv => decide (kv.1 = k)).map (·.2)
/-- in its place, or at the end -/
def putK (kvs : List (κ × V)) (k : κ) (v : V) : List (κ × V) :=
  if (kvs.any fun kv => decide (kv.1 = k)) = true then kvs.map (fun kv => if kv.1 = k then (kv.1, v) else kv) else kvs ++ [(k, v)]
theorem valV_pos {p : κ × V} {r : List (κ × V)} {k : κ} (e : p.1 = k) : valV (p :: r) k = some p.2 := by simp [valV, List.find?_cons, e]
theorem valV_neg {p : κ × V} {r : List (κ × V)} {k : κ} (e : ¬ p.1 = k) : valV (p :: r) k = valV r k := by simp [valV, List.find?_cons, e]
theorem valV_any (k : κ) : ∀ kvs : List (κ × V), (kvs.any fun kv => decide (kv.1 = k)) = (valV kvs k).isSome
  | [] => rfl
  | p :: r => by
    rw [List.any_cons]
    by_cases e : p.1 = k
    · simp only [valV_pos e, decide_eq_true e, Bool.true_or, Option.isSome_some]
    · rw [valV_neg e, decide_eq_false e, Bool.false_or]; exact valV_any k r
theorem valV_snoc (k j : κ) (y : V) : ∀ kvs : List (κ × V), valV kvs k = none → valV (kvs ++ [(k, y)]) j = if j = k then some y else valV kvs j
  | [], _ => by
    by_cases e : k = j
    · rw [if_pos e.symm]; exact valV_pos (p := (k, y)) e
    · rw [if_neg (fun z => e z.symm)]; exact valV_neg (p := (k, y)) e
  | p :: r, hn => by
    rw [List.cons_append]
    have hk : ¬ p.1 = k := fun z => by rw [valV_pos z] at hn; cases hn
    rw [valV_neg hk] at hn
    have ih := valV_snoc k j y r hn
    by_cases e : p.1 = j
    · rw [valV_pos e, valV_pos e, if_neg (fun z => hk (e.trans z))]
    · rw [valV_neg e, valV_neg e, ih]
theorem length_putK (kvs : List (κ × V)) (k : κ) (v : V) : (putK kvs k v).length ≤ kvs.length + 1 := by
  unfold putK
  split
  · rw [List.length_map]; omega
  · rw [List.length_append, List.length_cons, List.length_nil]; omega
theorem putK_new {kvs : List (κ × V)} {k : κ} (v : V) (h : valV kvs k = none) : putK kvs k v = kvs ++ [(k, v)] := by
  unfold putK
  rw [valV_any, h]
  exact if_neg (by decide)

theorem RelO.isSome_eq {o : Option V} {u : Option Value} (r : RelO o u) : o.isSome = u.isSome := by
  cases o with
  | none => cases u with
    | none => rfl
    | some _ => exact (show False from r).elim
  | some _ => cases u with
    | none => exact (show False from r).elim
    | some _ => rfl
theorem RelO.getD {o : Option V} {u : Option Value} {d : V} {d' : Value} (r : RelO o u) (rd : RelV d d') : RelV (o.getD d) (u.getD d') := by
  cases o with
  | none => cases u with
    | none => exact rd
    | some _ => exact (show False from r).elim
  | some _ => cases u with
    | none => exact (show False from r).elim
    | some _ => exact r

/-- raw tables of the same keys -/
theorem KV.val {kvs : List (κ × V)} {vs : List (κ × Value)} (r : KV kvs vs) (k : κ) : RelO (valV kvs k) (valueAt vs k) := by
  unfold KV at r
  induction r with
  | nil => exact True.intro
  | @cons p q ps qs h t ih =>
    obtain ⟨h1, h2⟩ := h
    by_cases e : p.1 = k
    · have e' : q.1 = k := h1.symm.trans e
      have b : valueAt (q :: qs) k = some q.2 := by simp [valueAt, List.find?_cons, e']
      rw [valV_pos e, b]; exact h2
    · have e' : ¬ q.1 = k := fun z => e (h1.trans z)
      have b : valueAt (q :: qs) k = valueAt qs k := by simp [valueAt, List.find?_cons, e']
      rw [valV_neg e, b]; exact ih
theorem KV.any {kvs : List (κ × V)} {vs : List (κ × Value)} (r : KV kvs vs) (k : κ) : (kvs.any fun kv => decide (kv.1 = k)) = vs.any fun kv => decide (kv.1 = k) := by
  unfold KV at r
  induction r with
  | nil => rfl
  | cons h t ih => rw [List.any_cons, List.any_cons, ih, h.1]
theorem KV.repl {kvs : List (κ × V)} {vs : List (κ × Value)} (r : KV kvs vs) (k : κ) {y : V} {u : Value} (ry : RelV y u) :
    KV (kvs.map fun kv => if kv.1 = k then (kv.1, y) else kv) (vs.map fun kv => if kv.1 = k then (kv.1, u) else kv) := by
  unfold KV at r ⊢
  induction r with
  | nil => exact .nil
  | @cons p q ps qs h t ih =>
    rw [List.map_cons, List.map_cons]
    refine .cons ?_ ih
    obtain ⟨h1, h2⟩ := h
    by_cases e : p.1 = k
    · rw [if_pos e, if_pos (h1.symm.trans e)]; exact ⟨h1, ry⟩
    · rw [if_neg e, if_neg (fun z => e (h1.trans z))]; exact ⟨h1, h2⟩
theorem KV.put {kvs : List (κ × V)} {vs : List (κ × Value)} (r : KV kvs vs) (k : κ) {y : V} {u : Value} (ry : RelV y u) : KV (putK kvs k y) (stored vs k u) := by
  unfold putK stored
  rw [r.any k]
  by_cases e : (vs.any fun kv => decide (kv.1 = k)) = true
  · rw [if_pos e, if_pos e]; exact r.repl k ry
  · rw [if_neg e, if_neg e]; exact Paired.snoc r ⟨rfl, ry⟩
end


theorem kV_is {P : Program} {w : World} {k : Key} {u : Value} (r : RelV (kV k) u) : (mixKind P w).is k u = true := by
  cases k with
  | inl i => obtain ⟨t, e⟩ := (show ∃ t, u = Value.int i t from r); subst e; exact mixKind_int P w i t
  | inr x => obtain ⟨t, e⟩ := (show ∃ t, u = Value.str x t from r); subst e; exact mixKind_str P w x t
theorem items_are {P : Program} {w : World} : ∀ {ks : List Key} {us : List Value}, Vals (ks.map kV) us → ItemsAre (mixKind P w) ks us
  | [], _, r => by rw [List.map_nil] at r; cases r; exact .nil
  | k :: ks, _, r => by
    rw [List.map_cons] at r
    cases r with
    | cons h t => exact .cons (kV_is h) (items_are t)

/-- raw entries of a dict with tuple keys -/
abbrev KT (H : Hp) : List (List Key × V) → List (List Key × Addr × Value) → Prop := Paired fun p q => p.1 = q.1 ∧ H q.2.1 = some (.tup (p.1.map kV)) ∧ RelV p.2 q.2.2
theorem KT.val {H : Hp} {kvs : List (List Key × V)} {xs : List (List Key × Addr × Value)} (r : KT H kvs xs) (k : List Key) : RelO (valV kvs k) ((atKey xs k).map (·.2)) := by
  induction r with
  | nil => exact True.intro
  | @cons p q ps qs h t ih =>
    obtain ⟨h1, _, h2⟩ := h
    by_cases e : p.1 = k
    · have e' : q.1 = k := h1.symm.trans e
      have b : atKey (q :: qs) k = some q.2 := by simp [atKey, List.find?_cons, e']
      rw [valV_pos e, b]; exact h2
    · have e' : ¬ q.1 = k := fun z => e (h1.trans z)
      have b : atKey (q :: qs) k = atKey qs k := by simp [atKey, List.find?_cons, e']
      rw [valV_neg e, b]; exact ih
section
variable {P : Program} {w : World} {H : Hp} {h : Heap} {a : Addr}
theorem rd_of {u : HO} (ok : HOk P w H h) (e : Rd H a u) : ObjOk P w H h a u := e.ok ok
theorem dk_rd {kvs : List (Key × V)} (ok : HOk P w H h) (e : Rd H a (.dK kvs)) : kvs.length ≤ sizeLine ∧ (a == sysModules) = false ∧ ∃ vs, KV kvs vs ∧ h.DictOf (mixKind P w) a vs :=
  show ObjOk P w H h a (.dK kvs) from rd_of ok e
theorem dk_of {kvs : List (Key × V)} (ok : HOk P w H h) (e : H a = some (.dK kvs)) : kvs.length ≤ sizeLine ∧ (a == sysModules) = false ∧ ∃ vs, KV kvs vs ∧ h.DictOf (mixKind P w) a vs := dk_rd ok (.inl e)
/-- a tracked tuple of ints and texts is a key -/
theorem key_of {ks : List Key} (ok : HOk P w H h) (e : H a = some (.tup (ks.map kV))) : (tupleKind (mixKind P w)).is h ks a := by
  obtain ⟨_, its, r, o, h1, h2, n, h3⟩ := (show ObjOk P w H h a (.tup (ks.map kV)) from ok a _ e)
  exact ⟨o, its.toArray, n, h1, h2, h3, by simpa using items_are r⟩
theorem dt_rd {kvs : List (List Key × V)} (ok : HOk P w H h) (e : Rd H a (.dT kvs)) : kvs.length ≤ sizeLine ∧ (a == sysModules) = false ∧
    ∃ xs, KT H kvs xs ∧ h.DictOfH (tupleKind (mixKind P w)) a xs := by
  obtain ⟨z, y, xs, r, o, es, ep, h1, h2, h3, h4, h5⟩ := (show ObjOk P w H h a (.dT kvs) from rd_of ok e)
  refine ⟨z, y, xs, r, o, es, ep, h1, h2, h3, h4, fun x hx => ?_, h5⟩
  have all : ∀ {l : List (List Key × V)} {m : List (List Key × Addr × Value)}, KT H l m → ∀ x ∈ m, (tupleKind (mixKind P w)).is h x.1 x.2.1 := by
    intro l m q
    induction q with
    | nil => intro x hx; exact nomatch hx
    | @cons p q ps qs hq t ih =>
      intro x hx
      rcases List.mem_cons.mp hx with e | hx
      · subst e
        exact key_of ok (by rw [← hq.1]; exact hq.2.1)
      · exact ih x hx
  exact all r x hx
end

/-- what the dict at a holds at the key y -/
def DGet (H : Hp) (a : Addr) (y : V) (r : Option V) : Prop :=
  (∃ kvs k, Rd H a (.dK kvs) ∧ y = kV k ∧ r = valV kvs k) ∨ ∃ kvs k b, Rd H a (.dT kvs) ∧ y = .ref b ∧ H b = some (.tup (k.map kV)) ∧ r = valV kvs k
section
variable {X : Cx} {pins : List (Addr × Obj)} {σ : St} {H : Hp} {s : Shared} {a : Addr} {y v : V} {u r : Value} {o : Option V} {A : Around} {E : Value → Shared → Prop}

theorem Inv.big (I : Inv X pins σ H s) : sysModules < s.heap.objs.size := by
  have h : mainGlobals < s.heap.objs.size := (I.mod.glob.keeps I.bk).lt
  exact Nat.lt_trans (by decide) h

/-- y in d -/
theorem d_in {Q : Value → Shared → Prop} (hu : A.units + 1 < cLine) (I : Inv X pins σ H s) (g : DGet H a y o) (ry : RelV y u) (h : ∀ s', Inv X pins σ H s' → Q (.bool o.isSome) s') :
    wpAny (model X.prog X.w) A (compareOp .In u (.ref a)) Q E s := by
  rcases g with ⟨kvs, k, e, ey, l⟩ | ⟨kvs, k, b, e, ey, eb, l⟩
  · subst ey
    obtain ⟨z, hd, vs, rel, dd⟩ := dk_rd I.hok e
    refine wpAny_in_of (kV_is ry) hd dd.mapOf ?_
    rw [← (rel.val k).isSome_eq, ← l]
    exact h _ (I.tok _)
  · subst ey
    cases (show u = Value.ref b from ry)
    obtain ⟨z, hd, xs, rel, dd⟩ := dt_rd I.hok e
    refine wpAny_in_heap (tupleKind_room_in1 hu) (key_of I.hok eb) hd dd ?_
    have q := (rel.val k).isSome_eq
    rw [Option.isSome_map] at q
    rw [← q, ← l]
    exact h _ (I.tok _)
/-- a dict's object is replaced -/
theorem d_write {h' : Heap} {t' : Nat} {ob : HO} (I : Inv X pins σ H s) (mu : Mut (H a)) (hs : Heap.SameBut a s.heap h') (he : ∃ q, h'.get? a = some q) (new : ObjOk X.prog X.w (upd H a ob) h' a ob) :
    Inv X pins σ (upd H a ob) { s with heap := h', toks := t' } :=
  I.write (x := a) (e := a) mu (.inl rfl) (fun b q hb z => (hs.2 b hb).trans z) he new
theorem dk_new {P : Program} {w : World} {H' : Hp} {h' : Heap} {kvs : List (Key × V)} {vs : List (Key × Value)} (z : kvs.length ≤ sizeLine) (hd : (a == sysModules) = false) (rel : KV kvs vs) (dd : h'.DictOf (mixKind P w) a vs) :
    ObjOk P w H' h' a (.dK kvs) := ⟨z, hd, vs, rel, dd⟩
end

section
variable {X : Cx} {pins : List (Addr × Obj)} {σ : St} {H : Hp} {s : Shared} {a : Addr} {kvs : List (Key × V)} {k : Key} {u : Value} {A : Around} {E : Value → Shared → Prop}
end


theorem dict_typeIs {X : Cx} {pins : List (Addr × Obj)} {σ : St} {H : Hp} {s : Shared} {a : Addr} {y : V} {o : Option V} (I : Inv X pins σ H s) (g : DGet H a y o) : s.TypeIs (.ref a) "dict" := by
  rcases g with ⟨kvs, k, e, _, _⟩ | ⟨kvs, k, b, e, _, _, _⟩
  · obtain ⟨_, _, vs, _, dd⟩ := dk_rd I.hok e
    exact dd.typeIs
  · obtain ⟨_, _, xs, _, dd⟩ := dt_rd I.hok e
    exact dd.typeIs
section
variable {X : Cx} {o i e value : Expr} {pos pos' tpos : Pos} {td ty tv : TE}
end


theorem dk_empty {P : Program} {w : World} {H : Hp} (h : Heap) (hb : sysModules < h.objs.size) : ObjOk P w H (h.push { cls := .type "dict", data := .dict #[] }) h.objs.size (.dK []) :=
  ⟨Nat.zero_le _, beq_eq_false_iff_ne.mpr (Ne.symm (Nat.ne_of_lt hb)), [], .nil, Heap.DictOf.new h⟩
section
variable {X : Cx} {pos : Pos}
end

/-- the pairs of a display, from the left -/
def tPairs : List (TE × TE) → St → Hp → (List (V × V) → Hp → Prop) → Prop
  | [], _, H, Q => Q [] H
  | (tk, tv) :: r, σ, H, Q => tk σ H fun x H1 => tv σ H1 fun y H2 => tPairs r σ H2 fun ps H3 => Q ((x, y) :: ps) H3
abbrev VV : List (V × V) → List (Value × Value) → Prop := Paired fun p q => RelV p.1 q.1 ∧ RelV p.2 q.2
def PPs (X : Cx) (pos : Pos) (keys : List (Option Expr)) (values : List Expr) (trs : List (TE × TE)) : Prop :=
  ∀ (pins : List (Addr × Obj)) (s : Shared) (σ : St) (H : Hp) (Q : List (V × V) → Hp → Prop), Inv X pins σ H s → tPairs trs σ H Q →
    wpAny (model X.prog X.w) X.A (evalPairs (pairTrees keys values X.env pos)) (fun vs s' => ∃ ps H', Inv X pins σ H' s' ∧ VV ps vs ∧ Q ps H') X.xe s
theorem pps_nil {X : Cx} {pos : Pos} : PPs X pos [] [] [] := fun pins s σ H Q I h => pairTrees_nil_walk ⟨[], H, I, .nil, h⟩
theorem pps_cons {X : Cx} {pos : Pos} {k v : Expr} {ks : List (Option Expr)} {vs : List Expr} {tk tv : TE} {trs : List (TE × TE)} (hk : PE X k tk) (hv : PE X v tv) (hr : PPs X pos ks vs trs) :
    PPs X pos (some k :: ks) (v :: vs) ((tk, tv) :: trs) := fun pins s σ H Q I h =>
  pairTrees_cons_walk (thn (hk pins s σ H _ I h) fun u s1 ⟨x, H1, I1, rx, q1⟩ => thn (hv pins s1 σ H1 _ I1 q1) fun w2 s2 ⟨y, H2, I2, ry, q2⟩ =>
    thn (hr pins s2 σ H2 _ I2 q2) fun ws s3 ⟨ps, H3, I3, rel, q3⟩ => ⟨(x, y) :: ps, H3, I3, .cons ⟨rx, ry⟩ rel, q3⟩)

def mergeK (kvs more : List (Key × V)) : List (Key × V) := more.foldl (fun acc kv => putK acc kv.1 kv.2) kvs
theorem KV.merge : ∀ {more : List (Key × V)} {rs : List (Key × Value)} {kvs : List (Key × V)} {vs : List (Key × Value)}, KV more rs → KV kvs vs → KV (mergeK kvs more) (merged vs rs) := by
  intro more rs kvs vs r
  unfold KV at r
  induction r generalizing kvs vs with
  | nil => intro q; exact q
  | @cons p q ps qs h t ih =>
    intro r0
    have e : KV (putK kvs p.1 p.2) (stored vs q.1 q.2) := by
      have := r0.put p.1 h.2
      rw [← h.1]; exact this
    exact ih e
theorem length_mergeK : ∀ (more kvs : List (Key × V)), (mergeK kvs more).length ≤ kvs.length + more.length
  | [], kvs => by show kvs.length ≤ kvs.length + 0; omega
  | p :: r, kvs => by
    have h1 := length_mergeK r (putK kvs p.1 p.2)
    have h2 := length_putK kvs p.1 p.2
    show (mergeK (putK kvs p.1 p.2) r).length ≤ _
    rw [List.length_cons]; omega
theorem carries_of {P : Program} {w : World} : ∀ {kvs : List (Key × V)} {ws : List (Value × Value)}, VV (kvs.map fun kv => (kV kv.1, kv.2)) ws → ∃ rs, Carries (mixKind P w) ws rs ∧ KV kvs rs
  | [], _, r => by rw [List.map_nil] at r; cases r; exact ⟨[], True.intro, .nil⟩
  | p :: kvs, _, r => by
    rw [List.map_cons] at r
    cases r with
    | @cons a b as bs h t =>
      obtain ⟨rs, c, q⟩ := carries_of (P := P) (w := w) t
      obtain ⟨b1, b2⟩ := b
      exact ⟨(p.1, b2) :: rs, ⟨kV_is h.1, rfl, c⟩, .cons ⟨rfl, h.2⟩ q⟩
/-- {k: v, ..} with keys ints and texts; the new dict stands empty while the pairs are made -/
def tDisp (trs : List (TE × TE)) : TE := fun σ H Q => ∀ p, H p = none → tPairs trs σ (upd H p (.dK [])) fun ps H2 => H2 p = some (.dK []) ∧ ∃ kvs : List (Key × V), ps = kvs.map (fun kv => (kV kv.1, kv.2)) ∧ kvs.length ≤ 15 ∧ Q (.ref p) (upd H2 p (.dK (mergeK [] kvs)))
theorem pe_disp {X : Cx} {pos : Pos} {keys : List (Option Expr)} {values : List Expr} {trs : List (TE × TE)} (h : PPs X pos keys values trs) (hall : keys.all (·.isSome) = true) (hl : keys.length = values.length) (h0 : keys ≠ [])
    (h15 : keys.length ≤ 15) : PE X (.Dict keys values pos) (tDisp trs) := by
  intro pins s σ H Q I q
  have hn := I.hok.fresh (Nat.le_refl s.heap.objs.size)
  have I1 := I.laid (a := s.heap.objs.size) (o := .dK []) (h' := s.heap.push { cls := .type "dict", data := .dict #[] }) (t' := s.toks) (fun _ _ q => Heap.get?_push_of_some _ q) (Nat.le_refl _) (dk_empty s.heap I.big)
  refine wpAny_Dict_walk (knd := mixKind X.prog X.w) hall hl h0 h15 (thn (h pins _ σ _ _ I1 (q _ hn)) fun ws s2 ⟨ps, H2, I2, rel, e, kvs, ep, lk, q2⟩ => ?_)
  subst ep
  obtain ⟨rs, c, rk⟩ := carries_of (P := X.prog) (w := X.w) rel
  obtain ⟨z, hd, vs0, r0, dd⟩ := dk_of I2.hok e
  cases r0
  refine ⟨rs, c, dd, fun h' dd' hs => ⟨.ref s.heap.objs.size, _, ?_, rfl, q2⟩⟩
  have hz : (mergeK [] kvs).length ≤ sizeLine := by
    have h1 := length_mergeK kvs []
    rw [List.length_nil] at h1
    rw [sizeLine_eq]; omega
  have he : ∃ q, h'.get? s.heap.objs.size = some q := let ⟨q, _, _, hq, _⟩ := dd'; ⟨q, hq⟩
  exact d_write I2 (by rw [e]; exact True.intro) hs he (dk_new hz hd (rk.merge .nil) dd')


structure M2 (X : Cx) (o : Expr) (m : Str) (apos : Pos) (e f : Expr) (cpos : Pos) : Prop where
  base : attributeBase o m X.env (eval o X.env) = eval o X.env
  few : ((backTo cpos (starEach [e, f] X.env)).all (fun x => !x.1) && (backToKw cpos (keywordEach [] X.env)).all (fun x => x.1.isSome)
    && decide (([e, f] : List Expr).length + ([] : List Keyword).length + (if ([] : List Keyword).isEmpty then 0 else 1) < 30)) = true
  line : (apos.endLine == cpos.line) = true
  trees : backTo cpos (starEach [e, f] X.env) = [(false, eval e X.env), (false, eval f X.env)]

/-- a is a dict, whatever its keys -/
def IsD (H : Hp) (a : Addr) : Prop := (∃ kvs, Rd H a (.dK kvs)) ∨ ∃ kvs, Rd H a (.dT kvs)
theorem isD_at {X : Cx} {pins : List (Addr × Obj)} {σ : St} {H : Hp} {s : Shared} {a : Addr} (I : Inv X pins σ H s) (d : IsD H a) :
    s.TypeIs (.ref a) "dict" ∧ (∀ b, Value.ref a = .ref b → ∃ ob, s.heap.get? b = some ob ∧ ob.dict = none) ∧ (a == sysModules) = false := by
  rcases d with ⟨kvs, e⟩ | ⟨kvs, e⟩
  · obtain ⟨_, hd, vs, _, dd⟩ := dk_rd I.hok e
    refine ⟨dd.typeIs, fun b q => ?_, hd⟩
    cases q
    obtain ⟨ob, _, _, h1, h2, _⟩ := dd
    exact ⟨ob, h1, h2.2.1⟩
  · obtain ⟨_, hd, xs, _, dd⟩ := dt_rd I.hok e
    refine ⟨dd.typeIs, fun b q => ?_, hd⟩
    cases q
    obtain ⟨ob, _, _, h1, h2, _⟩ := dd
    exact ⟨ob, h1, h2.2.1⟩

section
variable {X : Cx} {pins : List (Addr × Obj)} {σ : St} {H : Hp} {s : Shared} {a : Addr} {y d : V} {u r : Value} {o : Option V} {A : Around} {E : Value → Shared → Prop}
/-- d.get(y, x) -/
theorem d_get2 {Q : Value → Shared → Prop} (hu : A.units + 1 < cLine) (I : Inv X pins σ H s) (g : DGet H a y o) (ry : RelV y u) (rd : RelV d r) (h : ∀ w' s', Inv X pins σ H s' → RelV (o.getD d) w' → Q w' s') :
    wpAny (model X.prog X.w) A (call (.builtin "dict.get") [.ref a, u, r]) Q E s := by
  rcases g with ⟨kvs, k, e, ey, l⟩ | ⟨kvs, k, b, e, ey, eb, l⟩
  · subst ey
    obtain ⟨z, hd, vs, rel, dd⟩ := dk_rd I.hok e
    refine call_meetsIn PySem.F.slot_dict_get dd.typeIs PySem.F.entry_dict_get (PySem.F.args_dict_get_3 _ _ _) (meets_dict_get_default (mixKind X.prog X.w) a (kV_is ry) hd r) ⟨_, dd.mapOf, h _ _ (I.tok _) ?_⟩
    rw [l]
    exact (rel.val k).getD rd
  · subst ey
    cases (show u = Value.ref b from ry)
    obtain ⟨z, hd, xs, rel, dd⟩ := dt_rd I.hok e
    refine call_meetsIn PySem.F.slot_dict_get dd.typeIs PySem.F.entry_dict_get (PySem.F.args_dict_get_3 _ _ _) (meetsH_dict_get_default (tupleKind (mixKind X.prog X.w)) a b hd r) ⟨tupleKind_room_in1 hu, k, xs, key_of I.hok eb, dd, h _ _ (I.tok _) ?_⟩
    rw [l]
    exact (rel.val k).getD rd
end

def tDGet2 (td ty tx : TE) : TE := fun σ H Q => td σ H fun x H1 => ∃ a, x = .ref a ∧ IsD H1 a ∧ ty σ H1 fun y H2 => tx σ H2 fun z H3 => ∃ o, DGet H3 a y o ∧ Q (o.getD z) H3
section
variable {X : Cx} {o e f : Expr} {apos cpos : Pos} {td ty tx : TE}
theorem pe_dget2 (hu : X.A.units + 1 < cLine) (ho : PE X o td) (he : PE X e ty) (hf : PE X f tx) (m : M2 X o "get" apos e f cpos) : PE X (.Call (.Attribute o "get" apos) [e, f] [] cpos) (tDGet2 td ty tx) := by
  intro pins s σ H Q I h
  refine wpAny_Call_method m.base m.few m.line PySem.F.plainAttrs_dict PySem.F.slot_dict_get PySem.F.type_dict_get (thn (ho pins s σ H _ I h) fun u s1 ⟨x, H1, I1, rx, a, ex, d, q1⟩ => ?_)
  subst ex
  obtain rfl : u = Value.ref a := rx
  obtain ⟨t1, t2, _⟩ := isD_at I1 d
  refine ⟨t1, t2, ?_⟩
  rw [m.trees]
  refine Calls.callWith_builtin rfl (Calls.evalArgs_plain (Calls.spliced_cons (thn (he pins s1 σ H1 _ I1 q1) fun iv s2 ⟨y, H2, I2, ry, q2⟩ =>
    Calls.spliced_cons (thn (hf pins s2 σ H2 _ I2 q2) fun fv s3 ⟨z, H3, I3, rz, ov, g, q3⟩ => Calls.spliced_nil ?_))))
  exact d_get2 hu I3 g ry rz fun w' s4 I4 rw' => ⟨_, H3, I4, rw', q3⟩
end

section
variable {X : Cx} {pins : List (Addr × Obj)} {σ : St} {H : Hp} {s : Shared} {a : Addr} {kvs : List (Key × V)} {A : Around} {E : Value → Shared → Prop}
end


section
variable {X : Cx} {pins : List (Addr × Obj)} {σ : St} {H : Hp} {s : Shared} {a : Addr} {y : V} {u : Value} {A : Around} {E : Value → Shared → Prop}
end
end L2
namespace L3
open PySem

/-- a value with all that it holds -/
inductive D where
  | non | bl (b : Bool) | int (i : Int) | str (x : Str) | tup (xs : List D) | lst (xs : List D) | dic (ks : List (Sum Int Str)) (vs : List D)
theorem D.ind {P : D → Prop} (non : P .non) (bl : ∀ b, P (.bl b)) (int : ∀ i, P (.int i)) (str : ∀ x, P (.str x)) (tup : ∀ xs, (∀ d ∈ xs, P d) → P (.tup xs)) (lst : ∀ xs, (∀ d ∈ xs, P d) → P (.lst xs))
    (dic : ∀ ks xs, (∀ d ∈ xs, P d) → P (.dic ks xs)) (d : D) : P d :=
  D.rec (motive_1 := P) (motive_2 := fun ds => ∀ d ∈ ds, P d) non bl int str (fun xs h => tup xs h) (fun xs h => lst xs h) (fun ks xs h => dic ks xs h) (fun _ h => absurd h (by simp))
    (fun d ds hd hds e he => by
      rcases List.mem_cons.mp he with z | z
      · exact z ▸ hd
      · exact hds e z) d
-- ==
mutual
def dEq : D → D → Bool
  | .non, .non => true
  | .bl a, .bl b => a == b
  | .bl a, .int b => (if a then 1 else 0) == b
  | .int a, .bl b => a == (if b then 1 else 0)
  | .int a, .int b => a == b
  | .str a, .str b => a == b
  | .tup xs, .tup ys => dEqs xs ys
  | .lst xs, .lst ys => dEqs xs ys
  | _, _ => false
def dEqs : List D → List D → Bool
  | [], [] => true
  | x :: xs, y :: ys => dEq x y && dEqs xs ys
  | _, _ => false
end
abbrev Sl := Bool × D
abbrev SEnv := List (Option Sl)
abbrev FE := SEnv → Option D
abbrev FT := SEnv → Option Bool
abbrev FA := SEnv → Option (List D)
abbrev FG := D → SEnv → Option SEnv
inductive Fl where
  | nx (σ : SEnv) | rt (o : Bool) (d : D) | bk (σ : SEnv) | ct (σ : SEnv)
abbrev FS := SEnv → Option Fl
abbrev LIM : Nat := 16777216

-- expressions
def eVar (i : Nat) : FE := fun σ => match σ[i]? with
  | some (some (false, d)) => some d
  | _ => none
def eAny (i : Nat) : FE := fun σ => match σ[i]? with
  | some (some (_, d)) => some d
  | _ => none
def eC (d : D) : FE := fun _ => some d
def e1 (F : D → Option D) (a : FE) : FE := fun σ => (a σ).bind F
def e2 (F : D → D → Option D) (a b : FE) : FE := fun σ => (a σ).bind fun x => (b σ).bind fun y => F x y
def eL (F : List D → Option D) (a : FA) : FE := fun σ => (a σ).bind F
def aNil : FA := fun _ => some []
def aCons (a : FE) (r : FA) : FA := fun σ => (a σ).bind fun x => (r σ).bind fun xs => some (x :: xs)
def asB : D → Option Bool
  | .bl b => some b
  | _ => none
def tE (a : FE) : FT := fun σ => (a σ).bind asB
def tAndF (a b : FT) : FT := fun σ => (a σ).bind fun k => match k with
  | true => b σ
  | false => some false
def tOrF (a b : FT) : FT := fun σ => (a σ).bind fun k => match k with
  | true => some true
  | false => b σ
def tNotF (a : FT) : FT := fun σ => (a σ).bind fun k => some (!k)
def eAnd (a b : FE) : FE := fun σ => (a σ).bind fun x => (asB x).bind fun k => match k with
  | true => b σ
  | false => some (.bl false)
def eOr (a b : FE) : FE := fun σ => (a σ).bind fun x => (asB x).bind fun k => match k with
  | true => some (.bl true)
  | false => b σ
def eNot (a : FE) : FE := fun σ => (a σ).bind fun x => (asB x).bind fun k => some (.bl (!k))
def eIf (c : FT) (a b : FE) : FE := fun σ => (c σ).bind fun k => match k with
  | true => a σ
  | false => b σ
def eTup (a : FA) : FE := fun σ => (a σ).bind fun xs => some (.tup xs)
def eLst (a : FA) : FE := fun σ => (a σ).bind fun xs => some (.lst xs)

-- operations
def fAdd : D → D → Option D
  | .int i, .int j => some (.int (i + j))
  | .int i, .bl b => some (.int (i + (if b then 1 else 0)))
  | .str x, .str y => if x.length + y.length ≤ LIM then some (.str (x ++ y)) else none
  | .lst x, .lst y => if x.length + y.length ≤ LIM then some (.lst (x ++ y)) else none
  | .tup x, .tup y => if x.isEmpty = false ∧ x.length + y.length ≤ LIM then some (.tup (x ++ y)) else none
  | _, _ => none
def fI (C : Int → Int → Bool) (g : Int → Int → Int) : D → D → Option D
  | .int i, .int j => match C i j with
    | true => some (.int (g i j))
    | false => none
  | _, _ => none
def fSub : D → D → Option D
  | .int i, .int j => some (.int (i - j))
  | _, _ => none
def lt64 (i : Int) : Bool := decide (-(2 ^ 64) < i) && decide (i < 2 ^ 64)
def fMulL : D → D → Option D := fI (fun i _ => lt64 i) (· * ·)
def fMulR : D → D → Option D := fI (fun _ j => lt64 j) (· * ·)
def fMod : D → D → Option D := fI (fun _ j => decide (0 < j)) (· % ·)
def fDiv : D → D → Option D := fI (fun _ j => decide (0 < j) && decide (j < 2 ^ 64)) (· / ·)
def powOk (i j : Int) : Bool := decide (0 ≤ j) && (decide (j ≤ 1000000) && decide (i.natAbs < 2 ^ 64))
def fPow : D → D → Option D := fI powOk fun i j => i ^ j.toNat
def fShl : D → D → Option D := fI powOk fun i j => i * 2 ^ j.toNat
def fShr : D → D → Option D := fI (fun _ j => decide (0 ≤ j)) fun i j => i / 2 ^ j.toNat
def fBit (g : Int → Int → Int) : D → D → Option D
  | .int i, .int j => some (.int (g i j))
  | _, _ => none
def fNeg : D → Option D
  | .int i => some (.int (-i))
  | _ => none
def fCmp (g : Int → Int → Bool) : D → D → Option D
  | .int i, .int j => some (.bl (g i j))
  | _, _ => none
def isNon : D → Bool
  | .non => true
  | _ => false
def fIsN : D → D → Option D
  | x, .non => some (.bl (isNon x))
  | _, _ => none
def fNotN : D → D → Option D
  | x, .non => some (.bl (!isNon x))
  | _, _ => none
def flatD : D → Bool
  | .non => true
  | .bl _ => true
  | .int _ => true
  | .str _ => true
  | _ => false
def cmpAll (f : D → D → Bool) : List D → List D → Bool
  | x :: xs, y :: ys => f x y && cmpAll f xs ys
  | _, _ => true
/-- == of flat ones, of two lists or two tuples of such, less than n deep -/
def cmpOk : Nat → D → D → Bool
  | 0, _, _ => false
  | n + 1, x, y => match x, y with
    | .tup xs, .tup ys => cmpAll (cmpOk n) xs ys
    | .lst xs, .lst ys => cmpAll (cmpOk n) xs ys
    | x, y => flatD x && flatD y
def fEqB : D → D → Option Bool
  | .int _, .bl _ => none
  | .bl _, .int _ => none
  | x, y => match cmpOk 6 x y with
    | true => some (dEq x y)
    | false => none
def fEq (x y : D) : Option D := (fEqB x y).bind fun k => some (.bl k)
def keyD : D → Option (Sum Int Str)
  | .int i => some (.inl i)
  | .str x => some (.inr x)
  | _ => none
def getK {α : Type} : List (Sum Int Str) → List α → Sum Int Str → Option α
  | k' :: ks, v :: vs, k => if k' = k then some v else getK ks vs k
  | _, _, _ => none
def hasK (ks : List (Sum Int Str)) (k : Sum Int Str) : Bool := ks.any fun j => decide (j = k)
def fInB (x : D) : D → Option Bool
  | .lst ys => match flatD x && ys.all flatD with
    | true => some (ys.any fun y => dEq y x)
    | false => none
  | .tup ys => match flatD x && ys.all flatD with
    | true => some (ys.any fun y => dEq y x)
    | false => none
  | .str j => match x with
    | .str i => some (!(Builtin.Str.occurrences j i 0 j.length 1).isEmpty)
    | _ => none
  | .dic ks _ => (keyD x).bind fun k => some (hasK ks k)
  | _ => none
def fIn (x y : D) : Option D := (fInB x y).bind fun k => some (.bl k)
/-- an index from either end -/
def atD {α : Type} (xs : List α) (i : Int) : Option α := if 0 ≤ i then xs[i.toNat]? else if -(xs.length : Int) ≤ i then xs[(i + xs.length).toNat]? else none
def fIx : D → D → Option D
  | .lst xs, .int i => atD xs i
  | .tup xs, .int i => atD xs i
  | .str z, .int i => (atD z.cps.toList i).bind fun c => some (.str ⟨#[c]⟩)
  | .dic ks vs, k => (keyD k).bind fun k => getK ks vs k
  | _, _ => none
def fLen : List D → Option D
  | [.lst xs] => some (.int xs.length)
  | [.tup xs] => some (.int xs.length)
  | [.str z] => some (.int z.length)
  | _ => none
def fInt : List D → Option D
  | [.int i] => some (.int i)
  | [.bl k] => some (.int (if k then 1 else 0))
  | _ => none
inductive TyT where
  | int | bool | str | list | tuple
def TyT.nm : TyT → String
  | .int => "int"
  | .bool => "bool"
  | .str => "str"
  | .list => "list"
  | .tuple => "tuple"
def isTy : TyT → D → Option Bool
  | _, .dic _ _ => none
  | .int, .int _ => some true
  | .int, .bl _ => some true
  | .int, _ => some false
  | .bool, .bl _ => some true
  | .bool, _ => some false
  | .str, .str _ => some true
  | .str, _ => some false
  | .list, .lst _ => some true
  | .list, _ => some false
  | .tuple, .tup _ => some true
  | .tuple, _ => some false
def eIsi (T : TyT) (a : FE) : FE := fun τ => (a τ).bind fun d => (isTy T d).bind fun b => some (.bl b)

-- what is walked
def iSeq (a : FE) : FA := fun σ => (a σ).bind fun d => match d with
  | .lst xs => some xs
  | .tup xs => some xs
  | .str z => some (z.cps.toList.map fun c => .str ⟨#[c]⟩)
  | _ => none
def iRange (lo hi : FE) : FA := fun σ => (lo σ).bind fun x => (hi σ).bind fun y => match x, y with
  | .int i, .int j => if i.natAbs ≤ LIM ∧ j.natAbs ≤ LIM ∧ (j - i).toNat ≤ LIM then some ((List.range (j - i).toNat).map fun k : Nat => .int (i + k)) else none
  | _, _ => none

-- targets
def gVar (i : Nat) : FG := fun d σ => some (σ.set i (some (false, d)))
def gTwo (i j : Nat) : FG := fun d σ => match d with
  | .tup [x, y] => some ((σ.set i (some (false, x))).set j (some (false, y)))
  | _ => none

-- statements
def sNext : FS := fun σ => some (.nx σ)
def sSeq (a b : FS) : FS := fun σ => (a σ).bind fun f => match f with
  | .nx σ' => b σ'
  | f => some f
def sSet (i : Nat) (e : FE) : FS := fun σ => (e σ).bind fun d => some (.nx (σ.set i (some (false, d))))
def sSetO (i : Nat) (e : FE) : FS := fun σ => (e σ).bind fun d => some (.nx (σ.set i (some (true, d))))
def sRet (e : FE) : FS := fun σ => (e σ).bind fun d => some (.rt false d)
def sRetO (e : FE) : FS := fun σ => (e σ).bind fun d => some (.rt true d)
/-- an own list is given away -/
def sRetV (i : Nat) : FS := fun σ => match σ[i]? with
  | some (some (true, d)) => some (.rt true d)
  | _ => none
def sIf (c : FT) (a b : FS) : FS := fun σ => (c σ).bind fun k => match k with
  | true => a σ
  | false => b σ
def loopG (g : FG) (b : FS) : List D → SEnv → Option Fl
  | [], σ => some (.nx σ)
  | d :: r, σ => (g d σ).bind fun σ1 => (b σ1).bind fun f => match f with
    | .nx σ2 => loopG g b r σ2
    | .ct σ2 => loopG g b r σ2
    | .bk σ2 => some (.nx σ2)
    | .rt o d => some (.rt o d)
def sFor (it : FA) (g : FG) (b : FS) : FS := fun σ => (it σ).bind fun ds => loopG g b ds σ
/-- an own list or dict is its asker's no more: it stays as it is -/
def sFreeze (i : Nat) : FS := fun σ => match σ[i]? with
  | some (some (_, d)) => some (.nx (σ.set i (some (false, d))))
  | _ => none
def sMut (i : Nat) (F : D → Option D) : FS := fun σ => match σ[i]? with
  | some (some (true, d)) => (F d).bind fun d' => some (.nx (σ.set i (some (true, d'))))
  | _ => none
def sMut1 (i : Nat) (F : D → D → Option D) (e : FE) : FS := fun σ => match σ[i]? with
  | some (some (true, d)) => (e σ).bind fun x => (F d x).bind fun d' => some (.nx (σ.set i (some (true, d'))))
  | _ => none
/-- d.get(k, e) -/
def eGet2 (d k e : FE) : FE := fun σ => (d σ).bind fun x => match x with
  | .dic ks ds => (k σ).bind fun y => (e σ).bind fun z => (keyD y).bind fun y => some ((getK ks ds y).getD z)
  | _ => none
/-- {k: v, ..} with texts as keys -/
def eDisp (ks : List Str) (vs : FA) : FE := fun σ => (vs σ).bind fun ds => if ks.length = ds.length then some (.dic (ks.map .inr) ds) else none
-- comprehensions
def lcGo (g : FG) (c : FT) (e : FE) (σ : SEnv) : List D → Option (List D)
  | [] => some []
  | d :: r => (g d σ).bind fun σ1 => (c σ1).bind fun k => match k with
    | true => (e σ1).bind fun x => (lcGo g c e σ r).bind fun xs => some (x :: xs)
    | false => lcGo g c e σ r
def eLc (n : Nat) (it : FA) (g : FG) (c : FT) (e : FE) : FE := fun σ => (it σ).bind fun ds => (lcGo g c e (σ ++ List.replicate n none) ds).bind fun xs => some (.lst xs)

/-- a def, from its body -/
def runF (n : Nat) (b : FS) (ds : List D) : Option (Bool × D) := (b (ds.map (fun d => some (false, d)) ++ List.replicate (n - ds.length) none)).bind fun f => match f with
  | .rt o d => some (o, d)
  | .nx _ => some (false, .non)
  | _ => none
def eCall (F : List D → Option (Bool × D)) (a : FA) : FE := fun σ => (a σ).bind fun ds => (F ds).bind fun r => some r.2
/-- a call whose list is the asker's own -/
def eCallO (F : List D → Option (Bool × D)) (a : FA) : FE := fun σ => (a σ).bind fun ds => (F ds).bind fun r => match r with
  | (true, d) => some d
  | _ => none
end L3

namespace L3
open PySem PySem.Spec PyProof.Rows L2
abbrev St := L2.St

def SqD (_ : PySem.W.Frag) (H : Hp) (a : Addr) (kvs : List (Key × V)) : Prop := Rd H a (.dK kvs)
mutual
def Rep (K : PySem.W.Frag) (H : Hp) : D → V → Prop
  | .non, v => v = .non
  | .bl b, v => v = .bl b
  | .int i, v => v = .int i
  | .str x, v => v = .str x ∧ x.length ≤ sizeLine
  | .tup ds, v => ∃ a vs, v = .ref a ∧ SqT K H a vs ∧ Reps K H ds vs ∧ ds.length ≤ sizeLine
  | .lst ds, v => ∃ a vs, v = .ref a ∧ SqL K H a vs ∧ Reps K H ds vs ∧ ds.length ≤ sizeLine
  | .dic ks ds, v => ∃ a vs, v = .ref a ∧ SqD K H a (ks.zip vs) ∧ ks.length = vs.length ∧ Reps K H ds vs ∧ ds.length ≤ sizeLine
def Reps (K : PySem.W.Frag) (H : Hp) : List D → List V → Prop
  | [], vs => vs = []
  | d :: ds, vs => ∃ v r, vs = v :: r ∧ Rep K H d v ∧ Reps K H ds r
end
section
variable {K : PySem.W.Frag} {G H H' : Hp}
theorem Rd.mono {a : Addr} {u : HO} (s : Same H H') (h : Rd H a u) : Rd H' a u := by
  rcases h with h | ⟨o, h⟩
  · exact .inl (s _ _ h)
  · exact .inr ⟨o, s _ _ h⟩
theorem sqT_mono {a : Addr} {xs : List V} (s : Same H H') (h : SqT K H a xs) : SqT K H' a xs := by
  rcases h with h | h
  · exact .inl (Rd.mono s h)
  · exact .inr h
theorem sqL_mono {a : Addr} {xs : List V} (s : Same H H') (h : SqL K H a xs) : SqL K H' a xs := by
  rcases h with h | h
  · exact .inl (Rd.mono s h)
  · exact .inr h
theorem Reps.imp : ∀ {ds : List D} {vs : List V}, (∀ d ∈ ds, ∀ v, Rep K H d v → Rep K H' d v) → Reps K H ds vs → Reps K H' ds vs
  | [], _, _, h => h
  | d :: ds, vs, f, h => by
    obtain ⟨v, r, rfl, hv, hr⟩ := h
    exact ⟨v, r, rfl, f d List.mem_cons_self v hv, Reps.imp (fun d' m => f d' (List.mem_cons_of_mem _ m)) hr⟩
theorem Rep.mono (s : Same H H') : ∀ {d : D} {v : V}, Rep K H d v → Rep K H' d v := fun {d} => by
  refine D.ind (P := fun d => ∀ v, Rep K H d v → Rep K H' d v) (fun v h => h) (fun b v h => h) (fun i v h => h) (fun x v h => h) ?_ ?_ ?_ d _
  · rintro xs ih v ⟨a, vs, e, q, r, l⟩
    exact ⟨a, vs, e, sqT_mono s q, Reps.imp ih r, l⟩
  · rintro xs ih v ⟨a, vs, e, q, r, l⟩
    exact ⟨a, vs, e, sqL_mono s q, Reps.imp ih r, l⟩
  · rintro ks xs ih v ⟨a, vs, e, q, z, r, l⟩
    exact ⟨a, vs, e, Rd.mono s q, z, Reps.imp ih r, l⟩
theorem Reps.mono (s : Same H H') {ds : List D} {vs : List V} (h : Reps K H ds vs) : Reps K H' ds vs := Reps.imp (fun _ _ _ => Rep.mono s) h
theorem Reps.length : ∀ {ds : List D} {vs : List V}, Reps K H ds vs → vs.length = ds.length
  | [], _, h => by cases (show _ = [] from h); rfl
  | d :: ds, _, h => by
    obtain ⟨v, r, rfl, _, hr⟩ := h
    rw [List.length_cons, List.length_cons, Reps.length hr]
theorem Reps.get : ∀ {ds : List D} {vs : List V} {i : Nat} {d : D}, Reps K H ds vs → ds[i]? = some d → ∃ v, vs[i]? = some v ∧ Rep K H d v
  | [], _, _, _, _, e => by cases e
  | d :: ds, _, 0, _, h, e => by
    obtain ⟨v, r, rfl, hv, hr⟩ := h
    cases e
    exact ⟨v, rfl, hv⟩
  | d :: ds, _, i + 1, d', h, e => by
    obtain ⟨v, r, rfl, hv, hr⟩ := h
    exact Reps.get (i := i) hr (by simpa using e)
theorem Reps.at {ds : List D} {vs : List V} {i : Nat} {v : V} (h : Reps K H ds vs) (e : vs[i]? = some v) : ∃ d, ds[i]? = some d ∧ Rep K H d v := by
  have l := h.length
  have hi : i < ds.length := by rw [← l]; exact (List.getElem?_eq_some_iff.mp e).1
  obtain ⟨v', e', r⟩ := h.get (List.getElem?_eq_getElem hi)
  rw [e] at e'
  cases e'
  exact ⟨_, List.getElem?_eq_getElem hi, r⟩
theorem Reps.append : ∀ {ds es : List D} {vs us : List V}, Reps K H ds vs → Reps K H es us → Reps K H (ds ++ es) (vs ++ us)
  | [], _, _, _, h, g => by cases (show _ = [] from h); exact g
  | d :: ds, _, _, _, h, g => by
    obtain ⟨v, r, rfl, hv, hr⟩ := h
    exact ⟨v, _, rfl, hv, Reps.append hr g⟩
theorem Reps.ints : ∀ {ns : List Int}, Reps K H (ns.map D.int) (ns.map V.int)
  | [] => rfl
  | n :: ns => ⟨_, _, rfl, rfl, Reps.ints⟩
end

structure Ext (G H G' H' : Hp) : Prop where
  g : Same G G'
  h : Same H H'
  gh : Same G' H'
  new : ∀ p, G' p ≠ none → G p ≠ none ∨ H p = none
section
variable {G H G' H' G0 H0 G1 H1 G2 H2 : Hp} {p : Addr} {o : HO}
theorem Ext.refl (s : Same G H) : Ext G H G H := ⟨Same.refl _, Same.refl _, s, fun _ h => .inl h⟩
theorem Ext.trans (a : Ext G H G1 H1) (b : Ext G1 H1 G2 H2) : Ext G H G2 H2 := ⟨a.g.trans b.g, a.h.trans b.h, b.gh, fun p h => by
  rcases b.new p h with z | z
  · exact a.new p z
  · exact .inr (a.h.free z)⟩
/-- by a frozen part from further on -/
theorem Ext.rebase (a : Ext G0 H0 G1 H1) (b : Ext G1 H0 G2 H2) : Ext G0 H0 G2 H2 := ⟨a.g.trans b.g, b.h, b.gh, fun p h => by
  rcases b.new p h with z | z
  · exact a.new p z
  · exact .inr z⟩
theorem Ext.far (a : Ext G0 H0 G1 H1) : Ext G1 H0 G1 H1 := ⟨Same.refl _, a.h, a.gh, fun _ h => .inl h⟩
theorem upd_some {H : Hp} {p q : Addr} {o : HO} (h : upd H p o q ≠ none) : q = p ∨ H q ≠ none := by
  by_cases e : q = p
  · exact .inl e
  · rw [upd_ne e] at h
    exact .inr h
theorem same_upd2 (s : Same G H) : Same (upd G p o) (upd H p o) := fun b u e => by
  by_cases hb : b = p
  · subst hb
    rw [upd_same] at e ⊢
    exact e
  · rw [upd_ne hb] at e ⊢
    exact s _ _ e
/-- a new thing, frozen at once; a new thing of one's own -/
theorem Ext.lay (s : Same G H) (h : H p = none) : Ext G H (upd G p o) (upd H p o) := ⟨same_new (s.free h) o, same_new h o, same_upd2 s, fun q z => by
  rcases upd_some z with e | e
  · exact .inr (e ▸ h)
  · exact .inl e⟩
theorem Ext.layO (s : Same G H) (h : H p = none) : Ext G H G (upd H p o) := ⟨Same.refl _, same_new h o, s.trans (same_new h o), fun _ z => .inl z⟩
/-- what is one's own is frozen -/
theorem Ext.frz (a : Ext G H G1 H1) (h : H p = none) (g : G1 p = none) (e : H1 p = some o) : Ext G H (upd G1 p o) H1 := ⟨a.g.trans (same_new g o), a.h, fun b u q => by
  by_cases hb : b = p
  · subst hb
    rw [upd_same] at q
    cases q
    exact e
  · rw [upd_ne hb] at q
    exact a.gh _ _ q, fun q z => by
  rcases upd_some z with w | w
  · exact .inr (w ▸ h)
  · exact a.new q w⟩
end

/-- a list or dict of one's own -/
def OwnAt (K : PySem.W.Frag) (G H : Hp) (d : D) (p : Addr) : Prop := match d with
  | .lst ds => ∃ vs, H p = some (.lst vs) ∧ Reps K G ds vs ∧ ds.length ≤ sizeLine
  | .dic ks ds => ∃ vs, H p = some (.dK (ks.zip vs)) ∧ ks.length = vs.length ∧ Reps K G ds vs ∧ ds.length ≤ sizeLine
  | _ => False
section
variable {K : PySem.W.Frag} {G H G' H' : Hp} {d : D} {p : Addr}
theorem OwnAt.some (h : OwnAt K G H d p) : H p ≠ none := by
  cases d with
  | lst ds => obtain ⟨vs, e, _⟩ := h; rw [e]; exact fun z => nomatch z
  | dic ks ds => obtain ⟨vs, e, _⟩ := h; rw [e]; exact fun z => nomatch z
  | _ => exact h.elim
theorem OwnAt.mono (g : Same G G') (h : Same H H') (o : OwnAt K G H d p) : OwnAt K G' H' d p := by
  cases d with
  | lst ds => obtain ⟨vs, e, r, l⟩ := o; exact ⟨vs, h _ _ e, r.mono g, l⟩
  | dic ks ds => obtain ⟨vs, e, z, r, l⟩ := o; exact ⟨vs, h _ _ e, z, r.mono g, l⟩
  | _ => exact o.elim
/-- it may be frozen -/
theorem OwnAt.frz (o : OwnAt K G H d p) (g : G p = none) : ∃ u, H p = Option.some u ∧ Rep K (upd G p u) d (.ref p) := by
  cases d with
  | lst ds => obtain ⟨vs, e, r, l⟩ := o; exact ⟨_, e, p, vs, rfl, SqL.of upd_same, r.mono (same_new g _), l⟩
  | dic ks ds => obtain ⟨vs, e, z, r, l⟩ := o; exact ⟨_, e, p, vs, rfl, .inl upd_same, z, r.mono (same_new g _), l⟩
  | _ => exact o.elim
end

/-- a state and its shadow -/
structure EnvOk (K : PySem.W.Frag) (n : Nat) (G0 H0 G H : Hp) (τ : SEnv) (σ : St) : Prop where
  ext : Ext G0 H0 G H
  l1 : σ.length = n
  l2 : τ.length = n
  fr : ∀ (i : Nat) (d : D), τ[i]? = some (some (false, d)) → ∃ v, σ[i]? = some (some v) ∧ Rep K G d v
  ow : ∀ (i : Nat) (d : D), τ[i]? = some (some (true, d)) → ∃ p, σ[i]? = some (some (V.ref p)) ∧ G p = none ∧ H0 p = none ∧ OwnAt K G H d p
  ap : ∀ (i j : Nat) (d e : D) (p : Addr), i ≠ j → τ[i]? = some (some (true, d)) → τ[j]? = some (some (true, e)) → σ[i]? = some (some (V.ref p)) → σ[j]? = some (some (V.ref p)) → False
section
variable {K : PySem.W.Frag} {n : Nat} {G0 H0 G H G' H' : Hp} {τ : SEnv} {σ : St}
theorem EnvOk.go (E : EnvOk K n G0 H0 G H τ σ) (x : Ext G H G' H') : EnvOk K n G0 H0 G' H' τ σ := ⟨E.ext.trans x, E.l1, E.l2, fun i d h => by
  obtain ⟨v, e, r⟩ := E.fr i d h
  exact ⟨v, e, r.mono x.g⟩, fun i d h => by
  obtain ⟨p, e, g, z, o⟩ := E.ow i d h
  refine ⟨p, e, ?_, z, o.mono x.g x.h⟩
  cases q : G' p with
  | none => rfl
  | some u =>
    rcases x.new p (by rw [q]; exact fun z => nomatch z) with w | w
    · exact absurd g w
    · exact absurd w o.some, E.ap⟩
/-- the frozen part stands from here on -/
theorem EnvOk.far (E : EnvOk K n G0 H0 G H τ σ) : EnvOk K n G H0 G H τ σ := ⟨E.ext.far, E.l1, E.l2, E.fr, E.ow, E.ap⟩
theorem EnvOk.near {Ga Ha : Hp} (a : Ext G0 H0 Ga Ha) (E : EnvOk K n Ga H0 G H τ σ) : EnvOk K n G0 H0 G H τ σ := ⟨a.rebase E.ext, E.l1, E.l2, E.fr, E.ow, E.ap⟩
theorem set_get {α : Type} {xs : List α} {i j : Nat} {x y : α} (h : (xs.set i x)[j]? = some y) : (j = i ∧ y = x) ∨ (j ≠ i ∧ xs[j]? = some y) := by
  rw [List.getElem?_set] at h
  by_cases e : i = j
  · subst e
    rw [if_pos rfl] at h
    split at h
    · cases h; exact .inl ⟨rfl, rfl⟩
    · cases h
  · rw [if_neg e] at h
    exact .inr ⟨fun z => e z.symm, h⟩
theorem get_set_same {α : Type} {xs : List α} {i : Nat} {x : α} (h : i < xs.length) : (xs.set i x)[i]? = some x := by rw [List.getElem?_set, if_pos rfl, if_pos h]
theorem get_set_ne {α : Type} {xs : List α} {i j : Nat} {x : α} (h : j ≠ i) : (xs.set i x)[j]? = xs[j]? := by rw [List.getElem?_set, if_neg (fun z => h z.symm)]
theorem EnvOk.set {i : Nat} {d : D} {v : V} (E : EnvOk K n G0 H0 G H τ σ) (hi : i < n) (r : Rep K G d v) : EnvOk K n G0 H0 G H (τ.set i (some (false, d))) (σ.set i (some v)) := ⟨E.ext, by rw [List.length_set]; exact E.l1, by rw [List.length_set]; exact E.l2, fun j e h => by
  rcases set_get h with ⟨rfl, z⟩ | ⟨ne, z⟩
  · cases z
    exact ⟨v, get_set_same (by rw [E.l1]; exact hi), r⟩
  · rw [get_set_ne ne]
    exact E.fr j e z, fun j e h => by
  rcases set_get h with ⟨rfl, z⟩ | ⟨ne, z⟩
  · cases z
  · rw [get_set_ne ne]
    exact E.ow j e z, fun j k e f p hne h1 h2 => by
  rcases set_get h1 with ⟨rfl, z⟩ | ⟨ne, z⟩
  · cases z
  · rcases set_get h2 with ⟨rfl, z'⟩ | ⟨ne', z'⟩
    · cases z'
    · rw [get_set_ne ne, get_set_ne ne']
      exact E.ap j k e f p hne z z'⟩
end

section
variable (X : Cx)
structure SE (e : Expr) (f : FE) : Prop where
  h : ∃ t, PE X e t ∧ ∀ {G0 H0 G H : Hp} {τ : SEnv} {σ : St} {d : D} {Q : VK}, EnvOk X.K X.N.length G0 H0 G H τ σ → f τ = some d → (∀ v G' H', Ext G H G' H' → Rep X.K G' d v → Q v H') → t σ H Q
/-- read only -/
structure SB (e : Expr) (f : FE) : Prop where
  h : ∃ t, PE X e t ∧ ∀ {G0 H0 G H : Hp} {τ : SEnv} {σ : St} {d : D} {Q : VK}, EnvOk X.K X.N.length G0 H0 G H τ σ → f τ = some d → (∀ v G' H', Ext G H G' H' → Rep X.K H' d v → Q v H') → t σ H Q
/-- a new list or dict -/
structure SF (e : Expr) (f : FE) : Prop where
  h : ∃ t, PE X e t ∧ ∀ {G0 H0 G H : Hp} {τ : SEnv} {σ : St} {d : D} {Q : VK}, EnvOk X.K X.N.length G0 H0 G H τ σ → f τ = some d → (∀ p G' H', Ext G H G' H' → H p = none → G' p = none → OwnAt X.K G' H' d p → Q (.ref p) H') → t σ H Q
structure ST (e : Expr) (f : FT) : Prop where
  h : ∃ t, PT X e t ∧ ∀ {G0 H0 G H : Hp} {τ : SEnv} {σ : St} {d : Bool} {Q : Bool → Hp → Prop}, EnvOk X.K X.N.length G0 H0 G H τ σ → f τ = some d → (∀ G' H', Ext G H G' H' → Q d H') → t σ H Q
structure SW (e : Expr) (f : FT) : Prop where
  h : ∃ t, PW X e t ∧ ∀ {G0 H0 G H : Hp} {τ : SEnv} {σ : St} {d : Bool} {Q : Bool → Hp → Prop}, EnvOk X.K X.N.length G0 H0 G H τ σ → f τ = some d → (∀ G' H', Ext G H G' H' → Q d H') → t σ H Q
structure SA (es : List Expr) (f : FA) : Prop where
  h : ∃ t, PA X es t ∧ ∀ {G0 H0 G H : Hp} {τ : SEnv} {σ : St} {ds : List D} {Q : List V → Hp → Prop}, EnvOk X.K X.N.length G0 H0 G H τ σ → f τ = some ds → (∀ vs G' H', Ext G H G' H' → Reps X.K G' ds vs → Q vs H') → t σ H Q
structure SAB (es : List Expr) (f : FA) : Prop where
  h : ∃ t, PA X es t ∧ ∀ {G0 H0 G H : Hp} {τ : SEnv} {σ : St} {ds : List D} {Q : List V → Hp → Prop}, EnvOk X.K X.N.length G0 H0 G H τ σ → f τ = some ds → (∀ vs G' H', Ext G H G' H' → Reps X.K H' ds vs → Q vs H') → t σ H Q
end
def FlOk (K : PySem.W.Frag) (n : Nat) (G0 H0 : Hp) (E : Ends) : Fl → Prop
  | .nx τ => ∀ σ G H, EnvOk K n G0 H0 G H τ σ → E.nx σ H
  | .bk τ => ∀ σ G H, EnvOk K n G0 H0 G H τ σ → E.bk σ H
  | .ct τ => ∀ σ G H, EnvOk K n G0 H0 G H τ σ → E.ct σ H
  | .rt false d => ∀ v G H, Ext G0 H0 G H → Rep K G d v → E.rt v H
  | .rt true d => ∀ p G H, Ext G0 H0 G H → H0 p = none → G p = none → OwnAt K G H d p → E.rt (.ref p) H
section
variable (X : Cx)
structure SS (st : Stmt) (f : FS) : Prop where
  h : ∃ t, PS X st t ∧ ∀ {G0 H0 G H : Hp} {τ : SEnv} {σ : St} {fl : Fl} {E : Ends}, EnvOk X.K X.N.length G0 H0 G H τ σ → f τ = some fl → FlOk X.K X.N.length G0 H0 E fl → t E σ H
structure SSs (st : List Stmt) (f : FS) : Prop where
  h : ∃ t, PSs X st t ∧ ∀ {G0 H0 G H : Hp} {τ : SEnv} {σ : St} {fl : Fl} {E : Ends}, EnvOk X.K X.N.length G0 H0 G H τ σ → f τ = some fl → FlOk X.K X.N.length G0 H0 E fl → t E σ H
end
/-- what a loop walks, as plain values -/
structure Walk (K : PySem.W.Frag) (J : It) (G : Hp) (ds : List D) : Prop where
  go : ∀ i G2 H, Same G G2 → Same G2 H → i < ds.length → J.go i H
  yld : ∀ i G2 H x H', Same G G2 → Same G2 H → i < ds.length → J.yld i H x H' → ∃ G3 d, Ext G2 H G3 H' ∧ ds[i]? = some d ∧ Rep K G3 d x
  stop : ∀ i G2 H, Same G G2 → Same G2 H → ds.length ≤ i → J.stop i H
structure SI (X : Cx) (tg iter : Expr) (f : FA) : Prop where
  h : ∃ wi, PI X tg iter wi ∧ ∀ {G0 H0 G H : Hp} {τ : SEnv} {σ : St} {ds : List D} {R : It → Hp → Prop}, EnvOk X.K X.N.length G0 H0 G H τ σ → f τ = some ds → (∀ J G' H', Ext G H G' H' → ds.length ≤ sizeLine → Walk X.K J G' ds → R J H') → wi σ H R
/-- a def, by its function -/
def spF (K : PySem.W.Frag) (F : List D → Option (Bool × D)) : Sp := fun vs H Q _ => ∃ G ds o d, Same G H ∧ Reps K G ds vs ∧ F ds = some (o, d) ∧
  match o with
  | false => ∀ v G' H', Ext G H G' H' → Rep K G' d v → Q v H'
  | true => ∀ p G' H', Ext G H G' H' → H p = none → G' p = none → OwnAt K G' H' d p → Q (.ref p) H'
end L3

namespace L3
open PySem PySem.Spec PyProof.Rows L2
theorem bindE {α β : Type} {o : Option α} {f : α → Option β} {b : β} (h : o.bind f = some b) : ∃ a, o = some a ∧ f a = some b := by
  cases o with
  | none => cases h
  | some a => exact ⟨a, rfl, h⟩
theorem eVar_at {i : Nat} {τ : SEnv} {d : D} (h : eVar i τ = some d) : τ[i]? = some (some (false, d)) := by
  unfold eVar at h
  split at h
  · rename_i e
    cases h
    exact e
  · cases h
section
variable {X : Cx} {x : Str} {p pos apos cpos p2 : Pos} {e a b c o : Expr} {es rest : List Expr} {f fa fb fc : FE} {ft fu : FT} {fs : FA} {F : D → D → Option D} {r : R2}
theorem SE.sb (h : SE X e f) : SB X e f := ⟨let ⟨t, p, k⟩ := h.h; ⟨t, p, fun E hf q => k E hf fun v G' H' x r => q v G' H' x (r.mono x.gh)⟩⟩
theorem SF.se (h : SF X e f) : SE X e f := ⟨let ⟨t, p, k⟩ := h.h; ⟨t, p, fun E hf q => k E hf fun p G' H' x hp gp o => by
  obtain ⟨u, hu, r⟩ := o.frz gp
  exact q _ _ _ (x.frz hp gp hu) r⟩⟩
theorem sb_of (h : SE X e f) : SB X e f := h.sb
theorem se_of (h : SF X e f) : SE X e f := h.se
-- names and constants
theorem se_var (i : Nat) {x : Str} {pos : Pos} (hN : X.N[i]? = some x := by rfl) (hv : Vis X.env.scope x := by first | exact Or.inl rfl | exact Or.inr (Or.inl rfl) | exact Or.inr (Or.inr rfl)) (hd : (x == ("__debug__" : Str)) = false := by decide)
    (hcd : (x == ("__classdict__" : Str)) = false := by decide) : SE X (.Name x pos) (eVar i) := ⟨⟨_, pe_var hN hv hd hcd, fun E hf q => by
  obtain ⟨v, e, r⟩ := E.fr _ _ (eVar_at hf)
  exact ⟨v, e, q v _ _ (Ext.refl E.ext.gh) r⟩⟩⟩
theorem se_c {v : V} {d : D} (h : PE X e (tC v)) (r : ∀ H, Rep X.K H d v) : SE X e (eC d) := ⟨⟨_, h, fun E hf q => by
  cases hf
  exact q v _ _ (Ext.refl E.ext.gh) (r _)⟩⟩
theorem se_int {i k pos} : SE X (.Constant (.int i) k pos) (eC (.int i)) := se_c pe_int fun _ => rfl
theorem se_bl {i k pos} : SE X (.Constant (.bool i) k pos) (eC (.bl i)) := se_c pe_bl fun _ => rfl
theorem se_str {x k pos} (h : x.length ≤ 1000 := by decide) : SE X (.Constant (.str x) k pos) (eC (.str x)) := se_c pe_str fun _ => ⟨rfl, small h⟩
theorem se_gl {v : V} {d : D} (h : Glb X.mg x v) (r : ∀ H, Rep X.K H d v) (hg : Gl X x) (hd : (x == ("__debug__" : Str)) = false := by decide) : SE X (.Name x pos) (eC d) := se_c (pe_gl h hg hd) r
-- operations
def Ok2 (K : PySem.W.Frag) (r : R2) (F : D → D → Option D) : Prop := ∀ G H x y u v d (Q : VK), Same G H → Rep K G x u → Rep K G y v → F x y = some d → (∀ w G' H', Ext G H G' H' → Rep K G' d w → Q w H') → r u v H Q
def Ok2B (K : PySem.W.Frag) (r : R2) (F : D → D → Option D) : Prop := ∀ H x y u v d (Q : VK), Rep K H x u → Rep K H y v → F x y = some d → ∃ k, d = .bl k ∧ (Q (.bl k) H → r u v H Q)
theorem se_bin {op : Operator} (ho : OpR X (binaryOp op) r) (hF : Ok2 X.K r F) (ha : SE X a fa) (hb : SE X b fb) : SE X (.BinOp a op b pos) (e2 F fa fb) := by
  obtain ⟨ta, pa, ka⟩ := ha.h
  obtain ⟨tb, pb, kb⟩ := hb.h
  refine ⟨⟨_, pe_op ho pa pb, fun E hf q => ?_⟩⟩
  obtain ⟨x, hx, hf⟩ := bindE hf
  obtain ⟨y, hy, hf⟩ := bindE hf
  refine ka E hx fun v G1 H1 x1 r1 => ?_
  refine kb (E.go x1) hy fun u G2 H2 x2 r2 => ?_
  exact hF G2 H2 x y v u _ _ x2.gh (r1.mono x2.g) r2 hf fun w G' H' x3 r3 => q w G' H' (x1.trans (x2.trans x3)) r3
theorem se_ix (hr : IxR X r) (hF : Ok2 X.K r F) (ha : SE X a fa) (hb : SE X b fb) (hs : plainIx b = true := by rfl) : SE X (.Subscript a b pos) (e2 F fa fb) := by
  obtain ⟨ta, pa, ka⟩ := ha.h
  obtain ⟨tb, pb, kb⟩ := hb.h
  refine ⟨⟨_, pe_ix hr pa pb (plain_ix hs), fun E hf q => ?_⟩⟩
  obtain ⟨x, hx, hf⟩ := bindE hf
  obtain ⟨y, hy, hf⟩ := bindE hf
  refine ka E hx fun v G1 H1 x1 r1 => ?_
  refine kb (E.go x1) hy fun u G2 H2 x2 r2 => ?_
  exact hF G2 H2 x y v u _ _ x2.gh (r1.mono x2.g) r2 hf fun w G' H' x3 r3 => q w G' H' (x1.trans (x2.trans x3)) r3
theorem se_cmp {op : CmpOp} (ho : OpR X (compareOp op) r) (hF : Ok2B X.K r F) (ha : SB X a fa) (hb : SB X b fb) (hm : behindInMarks op b = false) : SE X (.Compare a [op] [b] pos) (e2 F fa fb) := by
  obtain ⟨ta, pa, ka⟩ := ha.h
  obtain ⟨tb, pb, kb⟩ := hb.h
  refine ⟨⟨_, pe_cmpR ho pa pb hm, fun E hf q => ?_⟩⟩
  obtain ⟨x, hx, hf⟩ := bindE hf
  obtain ⟨y, hy, hf⟩ := bindE hf
  refine ka E hx fun v G1 H1 x1 r1 => ?_
  refine kb (E.go x1) hy fun u G2 H2 x2 r2 => ?_
  obtain ⟨k, rfl, z⟩ := hF H2 x y v u _ _ (r1.mono x2.h) r2 hf
  exact z (q _ _ _ (x1.trans x2) rfl)
theorem st_cmp {op : CmpOp} (ho : OpR X (compareOp op) r) (hF : Ok2B X.K r F) (ha : SB X a fa) (hb : SB X b fb) (hm : behindInMarks op b = false) : ST X (.Compare a [op] [b] pos) (tE (e2 F fa fb)) := by
  obtain ⟨ta, pa, ka⟩ := ha.h
  obtain ⟨tb, pb, kb⟩ := hb.h
  refine ⟨⟨_, pt_cmpR ho pa pb hm, fun E hf q => ?_⟩⟩
  obtain ⟨z, hz, hf⟩ := bindE hf
  obtain ⟨x, hx, hz⟩ := bindE hz
  obtain ⟨y, hy, hz⟩ := bindE hz
  refine ka E hx fun v G1 H1 x1 r1 => ?_
  refine kb (E.go x1) hy fun u G2 H2 x2 r2 => ?_
  obtain ⟨k, rfl, z⟩ := hF H2 x y v u _ _ (r1.mono x2.h) r2 hz
  cases hf
  exact z ⟨_, rfl, q _ _ (x1.trans x2)⟩
theorem st_val (h : SE X e f) (he : plainTest e = true := by rfl) : ST X e (tE f) := by
  obtain ⟨t, p, k⟩ := h.h
  refine ⟨⟨_, pt_val p (plain_test he), fun E hf q => ?_⟩⟩
  obtain ⟨z, hz, hf⟩ := bindE hf
  refine k E hz fun v G' H' x r => ?_
  cases z <;> first | cases hf | skip
  cases r
  exact ⟨_, rfl, q _ _ x⟩
-- and, or, not, if
theorem sw_and1 (h : ST X a ft) : SW X (.BoolOp .And [a] pos) ft := ⟨let ⟨t, p, k⟩ := h.h; ⟨t, pw_and1 p, k⟩⟩
theorem sw_or1 (h : ST X a ft) : SW X (.BoolOp .Or [a] pos) ft := ⟨let ⟨t, p, k⟩ := h.h; ⟨t, pw_or1 p, k⟩⟩
theorem sw_and (ha : ST X a ft) (hb : SW X (.BoolOp .And (b :: rest) pos) fu) : SW X (.BoolOp .And (a :: b :: rest) pos) (tAndF ft fu) := by
  obtain ⟨ta, pa, ka⟩ := ha.h
  obtain ⟨tb, pb, kb⟩ := hb.h
  refine ⟨⟨_, pw_and pa pb, fun E hf q => ?_⟩⟩
  obtain ⟨k, hk, hf⟩ := bindE hf
  refine ka E hk fun G1 H1 x1 => ?_
  cases k with
  | true => exact iteT (kb (E.go x1) hf fun G' H' x2 => q _ _ (x1.trans x2))
  | false => cases hf; exact iteF (q _ _ x1)
theorem sw_or (ha : ST X a ft) (hb : SW X (.BoolOp .Or (b :: rest) pos) fu) : SW X (.BoolOp .Or (a :: b :: rest) pos) (tOrF ft fu) := by
  obtain ⟨ta, pa, ka⟩ := ha.h
  obtain ⟨tb, pb, kb⟩ := hb.h
  refine ⟨⟨_, pw_or pa pb, fun E hf q => ?_⟩⟩
  obtain ⟨k, hk, hf⟩ := bindE hf
  refine ka E hk fun G1 H1 x1 => ?_
  cases k with
  | false => exact iteF (kb (E.go x1) hf fun G' H' x2 => q _ _ (x1.trans x2))
  | true => cases hf; exact iteT (q _ _ x1)
theorem sw_t (h : SW X e ft) : ST X e ft := ⟨let ⟨t, p, k⟩ := h.h; ⟨t, p.pt, k⟩⟩
theorem st_not (h : ST X a ft) : ST X (.UnaryOp .Not a pos) (tNotF ft) := by
  obtain ⟨ta, pa, ka⟩ := h.h
  refine ⟨⟨_, pt_not pa, fun E hf q => ?_⟩⟩
  obtain ⟨k, hk, hf⟩ := bindE hf
  cases hf
  exact ka E hk fun G1 H1 x1 => q _ _ x1
theorem se_one {op} (h : SE X a f) : SE X (.BoolOp op [a] pos) f := ⟨let ⟨t, p, k⟩ := h.h; ⟨t, pe_one p, k⟩⟩
theorem rep_bl {K : PySem.W.Frag} {G : Hp} {z : D} {v : V} {k : Bool} (r : Rep K G z v) (h : asB z = some k) : v = .bl k := by
  cases z <;> first | cases h | skip
  exact r
theorem se_and (ha : SE X a fa) (hb : SE X (.BoolOp .And (b :: rest) pos) fb) : SE X (.BoolOp .And (a :: b :: rest) pos) (eAnd fa fb) := by
  obtain ⟨ta, pa, ka⟩ := ha.h
  obtain ⟨tb, pb, kb⟩ := hb.h
  refine ⟨⟨_, pe_and pa pb, fun E hf q => ?_⟩⟩
  obtain ⟨z, hz, hf⟩ := bindE hf
  obtain ⟨k, hk, hf⟩ := bindE hf
  refine ka E hz fun v G1 H1 x1 r1 => ⟨k, rep_bl r1 hk, ?_⟩
  cases k with
  | true => exact iteT (kb (E.go x1) hf fun v G' H' x2 r2 => q v _ _ (x1.trans x2) r2)
  | false => cases hf; exact iteF (q _ _ _ x1 rfl)
theorem se_or (ha : SE X a fa) (hb : SE X (.BoolOp .Or (b :: rest) pos) fb) : SE X (.BoolOp .Or (a :: b :: rest) pos) (eOr fa fb) := by
  obtain ⟨ta, pa, ka⟩ := ha.h
  obtain ⟨tb, pb, kb⟩ := hb.h
  refine ⟨⟨_, pe_or pa pb, fun E hf q => ?_⟩⟩
  obtain ⟨z, hz, hf⟩ := bindE hf
  obtain ⟨k, hk, hf⟩ := bindE hf
  refine ka E hz fun v G1 H1 x1 r1 => ⟨k, rep_bl r1 hk, ?_⟩
  cases k with
  | false => exact iteF (kb (E.go x1) hf fun v G' H' x2 r2 => q v _ _ (x1.trans x2) r2)
  | true => cases hf; exact iteT (q _ _ _ x1 rfl)
theorem se_not (ha : SE X a fa) : SE X (.UnaryOp .Not a pos) (eNot fa) := by
  obtain ⟨ta, pa, ka⟩ := ha.h
  refine ⟨⟨_, pe_not pa, fun E hf q => ?_⟩⟩
  obtain ⟨z, hz, hf⟩ := bindE hf
  obtain ⟨k, hk, hf⟩ := bindE hf
  cases hf
  exact ka E hz fun v G1 H1 x1 r1 => ⟨k, rep_bl r1 hk, q _ _ _ x1 rfl⟩
-- argument lists, displays
theorem sa_nil : SA X [] aNil := ⟨⟨_, pa_nil, fun E hf q => by cases hf; exact q _ _ _ (Ext.refl E.ext.gh) rfl⟩⟩
theorem sa_cons (ha : SE X e f) (hr : SA X es fs) (h : noStar e = true := by rfl) : SA X (e :: es) (aCons f fs) := by
  obtain ⟨ta, pa, ka⟩ := ha.h
  obtain ⟨tb, pb, kb⟩ := hr.h
  refine ⟨⟨_, pac pa pb h, fun E hf q => ?_⟩⟩
  obtain ⟨x, hx, hf⟩ := bindE hf
  obtain ⟨xs, hxs, hf⟩ := bindE hf
  cases hf
  refine ka E hx fun v G1 H1 x1 r1 => kb (E.go x1) hxs fun vs G2 H2 x2 r2 => ?_
  exact q _ _ _ (x1.trans x2) ⟨v, vs, rfl, r1.mono x2.g, r2⟩
theorem sab_nil : SAB X [] aNil := ⟨⟨_, pa_nil, fun E hf q => by cases hf; exact q _ _ _ (Ext.refl E.ext.gh) rfl⟩⟩
theorem sab_cons (ha : SB X e f) (hr : SAB X es fs) (h : noStar e = true := by rfl) : SAB X (e :: es) (aCons f fs) := by
  obtain ⟨ta, pa, ka⟩ := ha.h
  obtain ⟨tb, pb, kb⟩ := hr.h
  refine ⟨⟨_, pac pa pb h, fun E hf q => ?_⟩⟩
  obtain ⟨x, hx, hf⟩ := bindE hf
  obtain ⟨xs, hxs, hf⟩ := bindE hf
  cases hf
  refine ka E hx fun v G1 H1 x1 r1 => kb (E.go x1) hxs fun vs G2 H2 x2 r2 => ?_
  exact q _ _ _ (x1.trans x2) ⟨v, vs, rfl, r1.mono x2.h, r2⟩
theorem se_tup {x1} (h : SA X es fs) (hl : ∀ τ ds, fs τ = some ds → ds.length ≤ 1000) : SE X (.Tuple es x1 pos) (eTup fs) := by
  obtain ⟨t, pt, k⟩ := h.h
  refine ⟨⟨_, pe_tup pt, fun E hf q => ?_⟩⟩
  obtain ⟨xs, hx, hf⟩ := bindE hf
  cases hf
  have l : xs.length ≤ sizeLine := small (hl _ _ hx)
  refine k E hx fun vs G1 H1 x1 r1 => ⟨by rw [r1.length]; exact l, fun p hp => ?_⟩
  exact q _ _ _ (x1.trans (Ext.lay x1.gh hp)) ⟨p, vs, rfl, SqT.of upd_same, r1.mono (same_new (x1.gh.free hp) _), l⟩
theorem sf_lst (h : SA X es fs) (hl : ∀ τ ds, fs τ = some ds → ds.length ≤ 1000) : SF X (.List es pos) (eLst fs) := by
  obtain ⟨t, pt, k⟩ := h.h
  refine ⟨⟨_, pe_lst pt, fun E hf q => ?_⟩⟩
  obtain ⟨xs, hx, hf⟩ := bindE hf
  cases hf
  have l : xs.length ≤ sizeLine := small (hl _ _ hx)
  refine k E hx fun vs G1 H1 x1 r1 => ⟨by rw [r1.length]; exact l, fun p hp => ?_⟩
  exact q _ _ _ (x1.trans (Ext.layO x1.gh hp)) (x1.h.free hp) (x1.gh.free hp) ⟨vs, upd_same, r1, l⟩
/-- how many -/
theorem al_nil : ∀ (τ : SEnv) ds, aNil τ = some ds → ds.length ≤ 0 := fun _ _ h => by cases h; exact Nat.le_refl _
theorem al_cons {n : Nat} (h : ∀ τ ds, fs τ = some ds → ds.length ≤ n) : ∀ τ ds, aCons f fs τ = some ds → ds.length ≤ n + 1 := fun τ ds e => by
  obtain ⟨x, _, e⟩ := bindE e
  obtain ⟨xs, hx, e⟩ := bindE e
  cases e
  exact Nat.succ_le_succ (h _ _ hx)
theorem al_le {m n : Nat} (h : ∀ τ ds, fs τ = some ds → ds.length ≤ m) (hmn : m ≤ n) : ∀ τ ds, fs τ = some ds → ds.length ≤ n := fun τ ds e => Nat.le_trans (h τ ds e) hmn
-- calls
variable {ps : List Str} {j k : Nat} {FF : List D → Option (Bool × D)} {FL : List D → Option D} {id T : String}
theorem se_call (h : Has X.prog X.w X.K X.mg X.base x ps k (spF X.K FF)) (hr : Room j X.A) (hg : Gl X x) (ha : SA X (e :: es) fs) (hk : k ≤ j := by decide) (hdb : (x == ("__debug__" : Str)) = false := by decide)
    (he : (e :: es).all noStar = true := by rfl) : SE X (.Call (.Name x p) (e :: es) [] pos) (eCall FF fs) := by
  obtain ⟨t, pt, kt⟩ := ha.h
  refine ⟨⟨_, pe_own h hr hg pt hk hdb he, fun E hf q => ?_⟩⟩
  obtain ⟨ds, hd, hf⟩ := bindE hf
  obtain ⟨⟨o, d⟩, hr, hf⟩ := bindE hf
  cases hf
  refine kt E hd fun vs G1 H1 x1 r1 => ⟨G1, ds, o, d, x1.gh, by rw [List.append_nil]; exact r1, hr, ?_⟩
  cases o with
  | false => exact fun v G' H' x2 r => q v G' H' (x1.trans x2) r
  | true =>
    intro p G' H' x2 hp gp o
    obtain ⟨u, hu, r⟩ := o.frz gp
    exact q _ _ _ (x1.trans (x2.frz hp gp hu)) r
def OkCB (K : PySem.W.Frag) (r : List V → Hp → VK → Prop) (F : List D → Option D) : Prop := ∀ G H ds vs d (Q : VK), Same G H → Reps K H ds vs → F ds = some d → (∀ w G' H', Ext G H G' H' → Rep K G' d w → Q w H') → r vs H Q
theorem se_cb {rc : List V → Hp → VK → Prop} (hc : CallR X (.builtin id) rc) (hF : OkCB X.K rc FL) (hg : Gl X x) (hm : X.mg x = none) (hv : bootBuiltins x = some (.builtin id)) (ha : SAB X (e :: es) fs) (hn : x ≠ "__name__" := by decide) (hdb : (x == ("__debug__" : Str)) = false := by decide)
    (he : (e :: es).all noStar = true := by rfl) : SE X (.Call (.Name x p) (e :: es) [] pos) (eL FL fs) := by
  obtain ⟨t, pt, kt⟩ := ha.h
  refine ⟨⟨_, (qe_callB hc hg hm hv ⟨pt⟩ hn hdb he).h, fun E hf q => ?_⟩⟩
  obtain ⟨ds, hd, hf⟩ := bindE hf
  exact kt E hd fun vs G1 H1 x1 r1 => hF G1 H1 ds vs _ _ x1.gh r1 hf fun w G' H' x2 r2 => q w G' H' (x1.trans x2) r2
theorem se_cty {rc : List V → Hp → VK → Prop} (hc : CallR X (.type T) rc) (hF : OkCB X.K rc FL) (hg : Gl X x) (hm : X.mg x = none) (hv : bootBuiltins x = some (.type T)) (ha : SAB X (e :: es) fs) (hn : x ≠ "__name__" := by decide) (hdb : (x == ("__debug__" : Str)) = false := by decide)
    (he : (e :: es).all noStar = true := by rfl) : SE X (.Call (.Name x p) (e :: es) [] pos) (eL FL fs) := by
  obtain ⟨t, pt, kt⟩ := ha.h
  refine ⟨⟨_, (qe_callTy hc hg hm hv ⟨pt⟩ hn hdb he).h, fun E hf q => ?_⟩⟩
  obtain ⟨ds, hd, hf⟩ := bindE hf
  exact kt E hd fun vs G1 H1 x1 r1 => hF G1 H1 ds vs _ _ x1.gh r1 hf fun w G' H' x2 r2 => q w G' H' (x1.trans x2) r2
end
end L3

namespace L3
open PySem PySem.Spec PyProof.Rows L2
section
variable {X : Cx} {x : Str} {p pos pos' apos cpos : Pos} {e a b c tg iter elt : Expr} {es ifs : List Expr} {f fa fb : FE} {ft : FT} {fs : FA} {st : Stmt} {sts body : List Stmt} {g g' : FS}
theorem sss_nil : SSs X [] sNext := ⟨⟨_, pss_nil, fun {_ _ G H τ σ fl E} K hf q => by
  cases hf
  exact q σ G H K⟩⟩
theorem FlOk.with {K : PySem.W.Frag} {n : Nat} {G0 H0 : Hp} {E E' : Ends} {fl : Fl} (h : FlOk K n G0 H0 E fl) (hn : ∀ τ, fl = .nx τ → FlOk K n G0 H0 E' (.nx τ)) (hb : ∀ τ, fl = .bk τ → FlOk K n G0 H0 E' (.bk τ)) (hc : ∀ τ, fl = .ct τ → FlOk K n G0 H0 E' (.ct τ)) (hr : E'.rt = E.rt) : FlOk K n G0 H0 E' fl := by
  cases fl with
  | nx τ => exact hn τ rfl
  | bk τ => exact hb τ rfl
  | ct τ => exact hc τ rfl
  | rt o d =>
    cases o with
    | false => intro v G H x r; rw [hr]; exact h v G H x r
    | true => intro v G H x r1 r2 r3; rw [hr]; exact h v G H x r1 r2 r3
theorem sss_cons (h1 : SS X st g) (h2 : SSs X sts g') : SSs X (st :: sts) (sSeq g g') := by
  obtain ⟨t, p, k⟩ := h1.h
  obtain ⟨t', p', k'⟩ := h2.h
  refine ⟨⟨_, pss_cons p p', fun {G0 H0 G H τ σ fl E} K hf q => ?_⟩⟩
  obtain ⟨f1, h1, hf⟩ := bindE hf
  refine k K h1 ?_
  cases f1 with
  | nx τ' => exact fun σ' G' H' K' => k' K' hf q
  | bk τ' => cases hf; exact q
  | ct τ' => cases hf; exact q
  | rt o d => cases hf; exact FlOk.with q (fun _ z => nomatch z) (fun _ z => nomatch z) (fun _ z => nomatch z) rfl
theorem sss_one (h1 : SS X st g) : SSs X [st] g := ⟨let ⟨t, p, k⟩ := h1.h; ⟨t, pss_one p, k⟩⟩
theorem ss_set {i : Nat} {x : Str} {pos' : Pos} (hN : X.N.Nodup) (hi : X.N[i]? = some x) (hx : Loc X.env.scope x) (he : SE X e f) (hs : noComp e = true := by rfl) (hf : X.fn x = true ∨ X.env.scope.names.lookup x = some .local := by first | exact .inl rfl | exact .inr rfl | assumption) :
    SS X (.Assign [.Name x pos'] e pos) (sSet i f) := by
  obtain ⟨t, p, k⟩ := he.h
  refine ⟨⟨_, (qs_set hN hi hx ⟨p⟩ hs hf).h, fun {G0 H0 G H τ σ fl E} K hf q => ?_⟩⟩
  obtain ⟨d, hd, hf⟩ := bindE hf
  cases hf
  exact k K hd fun v G' H' x r => q _ _ _ ((K.go x).set (List.getElem?_eq_some_iff.mp hi).1 r)
theorem ss_ret (he : SE X e f) : SS X (.Return (some e) pos) (sRet f) := by
  obtain ⟨t, p, k⟩ := he.h
  refine ⟨⟨_, ps_ret p, fun {G0 H0 G H τ σ fl E} K hf q => ?_⟩⟩
  obtain ⟨d, hd, hf⟩ := bindE hf
  cases hf
  exact k K hd fun v G' H' x r => q v _ _ (K.ext.trans x) r
theorem ss_if {sa sb : List Stmt} (hc : ST X c ft) (ha : SSs X sa g) (hb : SSs X sb g') : SS X (.If c sa sb pos) (sIf ft g g') := by
  obtain ⟨tc, pc, kc⟩ := hc.h
  obtain ⟨ta, pa, ka⟩ := ha.h
  obtain ⟨tb, pb, kb⟩ := hb.h
  refine ⟨⟨_, ps_if pc pa pb, fun {G0 H0 G H τ σ fl E} K hf q => ?_⟩⟩
  obtain ⟨k, hk, hf⟩ := bindE hf
  refine kc K hk fun G1 H1 x1 => ?_
  cases k with
  | true => exact iteT (ka (K.go x1) hf q)
  | false => exact iteF (kb (K.go x1) hf q)
-- for
theorem FlOk.near {K : PySem.W.Frag} {n : Nat} {G0 H0 Ga Ha : Hp} {E : Ends} {fl : Fl} (x : Ext G0 H0 Ga Ha) (h : FlOk K n G0 H0 E fl) : FlOk K n Ga H0 E fl := by
  cases fl with
  | nx τ => exact fun σ G H z => h σ G H (EnvOk.near x z)
  | bk τ => exact fun σ G H z => h σ G H (EnvOk.near x z)
  | ct τ => exact fun σ G H z => h σ G H (EnvOk.near x z)
  | rt o d =>
    cases o with
    | false => exact fun v G H y r => h v G H (x.rebase y) r
    | true => exact fun p G H y r1 r2 r3 => h p G H (x.rebase y) r1 r2 r3
/-- a target, by its function -/
structure SG (X : Cx) (tg : Expr) (fg : FG) : Prop where
  h : ∃ t, PG X tg t ∧ ∀ {G0 H0 G H : Hp} {τ τ' : SEnv} {σ : St} {d : D} {v : V} {Q : St → Hp → Prop}, EnvOk X.K X.N.length G0 H0 G H τ σ → Rep X.K G d v → fg d τ = some τ' → (∀ σ', EnvOk X.K X.N.length G0 H0 G H τ' σ' → Q σ' H) → t v σ H Q
theorem sg_var {i : Nat} {x : Str} (h : QG X (.Name x pos) (gName i)) (hi : X.N[i]? = some x) : SG X (.Name x pos) (gVar i) := ⟨⟨_, h.h, fun K r hf q => by
  cases hf
  exact q _ (K.set (List.getElem?_eq_some_iff.mp hi).1 r)⟩⟩
theorem ss_for {fg : FG} (hp : PassesOwn (model X.prog X.w) X.A X.env X.xe) (hc : X.calm = true) (hi : SI X tg iter fs) (hg : SG X tg fg) (hb : SSs X body g) (hs : ∀ x, foldedSetIterable iter X.env x = pure x := by intro _; rfl) : SS X (.For tg iter body [] pos) (sFor fs fg g) := by
  obtain ⟨ti, pi, ki⟩ := hi.h
  obtain ⟨tg', pg, kg⟩ := hg.h
  obtain ⟨tb, pb, kb⟩ := hb.h
  refine ⟨⟨_, ps_for hp hc pi pg pb hs, fun {G0 H0 G H τ σ fl E} K hf q => ?_⟩⟩
  obtain ⟨ds, hd, hf⟩ := bindE hf
  refine ki K hd fun J Ga Ha xa _ wk => ?_
  have Ka := K.go xa
  have q' := FlOk.near Ka.ext q
  refine ⟨fun i m σ H => m = ds.length - i ∧ i ≤ ds.length ∧ ∃ τ G, EnvOk X.K X.N.length Ga H0 G H τ σ ∧ loopG fg g (ds.drop i) τ = some fl, ⟨ds.length, rfl, Nat.zero_le _, τ, Ga, Ka.far, hf⟩, ?_⟩
  rintro i m σ H ⟨rfl, hle, τ, G, K, hf⟩
  by_cases hlt : i < ds.length
  · refine .inr ⟨wk.go i G H K.ext.g K.ext.gh hlt, fun σ' H' => ∃ τ G, EnvOk X.K X.N.length Ga H0 G H' τ σ' ∧ loopG fg g (ds.drop (i + 1)) τ = some fl, fun σ' H' z => ⟨ds.length - (i + 1), by omega, rfl, hlt, z⟩, fun x H' y => ?_⟩
    obtain ⟨G3, d, x3, ed, rd⟩ := wk.yld i G H x H' K.ext.g K.ext.gh hlt y
    rw [List.drop_eq_getElem_cons hlt] at hf
    rw [List.getElem?_eq_getElem hlt] at ed
    cases ed
    obtain ⟨τ1, h1, hf⟩ := bindE (show (fg _ τ).bind _ = _ from hf)
    obtain ⟨f1, h2, hf⟩ := bindE hf
    refine kg (K.go x3) rd h1 fun σ1 K1 => kb K1 h2 ?_
    cases f1 with
    | nx τ2 => exact fun σ2 G2 H2 K2 => ⟨τ2, G2, K2, hf⟩
    | ct τ2 => exact fun σ2 G2 H2 K2 => ⟨τ2, G2, K2, hf⟩
    | bk τ2 => cases hf; exact q'
    | rt o d => cases hf; exact FlOk.with q' (fun _ z => nomatch z) (fun _ z => nomatch z) (fun _ z => nomatch z) rfl
  · have e : ds.drop i = [] := List.drop_eq_nil_of_le (by omega)
    rw [e] at hf
    cases hf
    exact .inl ⟨wk.stop i G H K.ext.g K.ext.gh (by omega), q' _ _ _ K⟩
-- what is walked
theorem ints_walk {K : PySem.W.Frag} {G : Hp} {lo : Int} {n : Nat} : Walk K (Itr lo n) G ((List.range n).map fun k : Nat => D.int (lo + k)) where
  go := fun i G2 H _ _ hi => by
    show i < n
    simpa using hi
  yld := fun i G2 H x H' _ g2 hi y => by
    obtain ⟨rfl, rfl⟩ := y
    exact ⟨G2, .int (lo + i), Ext.refl g2, by simp at hi; simp [hi], rfl⟩
  stop := fun i G2 H _ _ hi => by
    show n ≤ i
    simpa using hi
theorem si_range1 (hg : Gl X "range") (hm : X.mg "range" = none) (ha : SE X a fa) (hs : noStar a = true := by rfl) : SI X tg (.Call (.Name "range" p) [a] [] pos) (iRange (eC (.int 0)) fa) := by
  obtain ⟨t, pt, k⟩ := (sa_cons ha sa_nil hs).h
  refine ⟨⟨_, pi_range1 hg hm pt (star_cons hs), fun {G0 H0 G H τ σ ds R} K hf q => ?_⟩⟩
  obtain ⟨x, hx, hf⟩ := bindE hf
  cases hx
  obtain ⟨y, hy, hf⟩ := bindE hf
  refine k K (ds := [y]) (by unfold aCons; rw [hy]; rfl) fun vs G1 H1 x1 r1 => ?_
  cases y <;> first | cases hf | skip
  rename_i j
  obtain ⟨v, r, rfl, hv, hr⟩ := r1
  cases (show r = [] from hr)
  cases (show v = .int j from hv)
  change (if (0 : Int).natAbs ≤ LIM ∧ j.natAbs ≤ LIM ∧ (j - 0).toNat ≤ LIM then _ else _) = _ at hf
  by_cases c : (0 : Int).natAbs ≤ LIM ∧ j.natAbs ≤ LIM ∧ (j - 0).toNat ≤ LIM
  · rw [if_pos c] at hf
    cases hf
    have c2 : j.natAbs ≤ 16777216 := c.2.1
    have c3 : (j - 0).toNat ≤ 16777216 := c.2.2
    refine ⟨j, rfl, by omega, by omega, q _ _ _ x1 ?_ ?_⟩
    · rw [List.length_map, List.length_range, sizeLine_eq]; omega
    · have e : (j - 0).toNat = j.toNat := by omega
      rw [e]
      exact ints_walk
  · rw [if_neg c] at hf
    cases hf
theorem list_walk {K : PySem.W.Frag} {G : Hp} {a : Addr} {vs : List V} {ds : List D} (sq : SqL K G a vs) (r : Reps K G ds vs) : Walk K (Itl K a) G ds where
  go := fun i G2 H g1 g2 hi => by
    obtain ⟨v, e, _⟩ := r.get (List.getElem?_eq_getElem hi)
    exact ⟨vs, v, sqL_mono (g1.trans g2) sq, e⟩
  yld := fun i G2 H x H' g1 g2 hi y => by
    obtain ⟨rfl, y⟩ := y
    have e := y vs (sqL_mono (g1.trans g2) sq)
    obtain ⟨d, ed, rd⟩ := r.at e
    exact ⟨G2, d, Ext.refl g2, ed, rd.mono g1⟩
  stop := fun i G2 H g1 g2 hi => ⟨vs, sqL_mono (g1.trans g2) sq, by rw [r.length]; exact hi⟩
theorem tup_walk {K : PySem.W.Frag} {G : Hp} {a : Addr} {vs : List V} {ds : List D} (sq : SqT K G a vs) (r : Reps K G ds vs) : Walk K (Itt K a) G ds where
  go := fun i G2 H g1 g2 hi => by
    obtain ⟨v, e, _⟩ := r.get (List.getElem?_eq_getElem hi)
    exact ⟨vs, v, sqT_mono (g1.trans g2) sq, e⟩
  yld := fun i G2 H x H' g1 g2 hi y => by
    obtain ⟨rfl, y⟩ := y
    have e := y vs (sqT_mono (g1.trans g2) sq)
    obtain ⟨d, ed, rd⟩ := r.at e
    exact ⟨G2, d, Ext.refl g2, ed, rd.mono g1⟩
  stop := fun i G2 H g1 g2 hi => ⟨vs, sqT_mono (g1.trans g2) sq, by rw [r.length]; exact hi⟩
theorem str_walk {K : PySem.W.Frag} {G : Hp} {z : Str} : Walk K (Its z) G (z.cps.toList.map fun c => D.str ⟨#[c]⟩) where
  go := fun i G2 H _ _ hi => by
    rw [List.length_map, Array.length_toList] at hi
    exact hi
  yld := fun i G2 H x H' _ g2 hi y => by
    obtain ⟨rfl, c, ec, rfl⟩ := y
    refine ⟨G2, .str ⟨#[c]⟩, Ext.refl g2, ?_, rfl, small (n := 1) (by decide)⟩
    rw [List.getElem?_map, Array.getElem?_toList, ec]
    rfl
  stop := fun i G2 H _ _ hi => by
    rw [List.length_map, Array.length_toList] at hi
    exact hi
theorem PI.or {w1 w2 : TI} (h1 : PI X tg e w1) (h2 : PI X tg e w2) : PI X tg e (fun σ H R => w1 σ H R ∨ w2 σ H R) := fun pins s σ H R I q => by
  rcases q with q | q
  · exact h1 pins s σ H R I q
  · exact h2 pins s σ H R I q
theorem si_seq (h : SE X e f) : SI X tg e (iSeq f) := by
  obtain ⟨t, p, k⟩ := h.h
  refine ⟨⟨_, PI.or (pi_list p) (PI.or (pi_tup p) (pi_str p)), fun {G0 H0 G H τ σ ds R} K hf q => ?_⟩⟩
  obtain ⟨d, hd, hf⟩ := bindE hf
  cases d <;> first | cases hf | skip
  · rename_i z
    refine .inr (.inr (k K hd fun v G' H' x r => ?_))
    obtain ⟨rfl, l⟩ := r
    exact ⟨z, rfl, q _ _ _ x (by rw [List.length_map, Array.length_toList]; exact l) str_walk⟩
  · refine .inr (.inl (k K hd fun v G' H' x r => ?_))
    obtain ⟨a, vs, rfl, sq, rs, l⟩ := r
    exact ⟨a, rfl, ⟨vs, sqT_mono x.gh sq⟩, q _ _ _ x l (tup_walk sq rs)⟩
  · refine .inl (k K hd fun v G' H' x r => ?_)
    obtain ⟨a, vs, rfl, sq, rs, l⟩ := r
    exact ⟨a, rfl, ⟨vs, sqL_mono x.gh sq⟩, q _ _ _ x l (list_walk sq rs)⟩
end

section
variable {X : Cx} {e c : Expr} {f : FE} {ft : FT}
end
section
variable {X : Cx} {tg iter elt : Expr} {ifs : List Expr} {scope : Scope} {cl : List (Str × Addr)} {own : List Str} {pos : Pos} {fs : FA} {fg : FG} {ft : FT} {f : FE} {g : TG}
end

section
variable {K : PySem.W.Frag} {n : Nat} {G0 H0 G H : Hp} {τ : SEnv} {σ : St}
end
section
variable {X : Cx} {x : Str} {xp pos apos cpos : Pos} {e : Expr} {f : FE}
end

section
variable {P : Program} {w : World} {K : PySem.W.Frag} {mg : Str → Option Value} {base : Heap}
theorem map_get {α β : Type} {ds : List α} {k i : Nat} {h : α → Option β} {y : β} (e : (ds.map h ++ List.replicate k none)[i]? = some (some y)) : ∃ d, ds[i]? = some d ∧ h d = some y := by
  have e' := get_tail e
  rw [List.getElem?_map] at e'
  cases q : ds[i]? with
  | none => rw [q] at e'; cases e'
  | some d =>
    rw [q] at e'
    exact ⟨d, rfl, Option.some.inj e'⟩
theorem env_start {N : List Str} {G H : Hp} {ds : List D} {vs : List V} (s : Same G H) (r : Reps K G ds vs) (hl : ds.length ≤ N.length) : EnvOk K N.length G H G H (ds.map (fun d => some (false, d)) ++ List.replicate (N.length - ds.length) none) (L2.start N vs) := by
  have l := r.length
  refine ⟨Ext.refl s, ?_, ?_, fun i d h => ?_, fun i d h => ?_, fun i j d e p _ h1 => ?_⟩
  · unfold L2.start
    rw [List.length_append, List.length_map, List.length_replicate]
    omega
  · rw [List.length_append, List.length_map, List.length_replicate]
    omega
  · obtain ⟨d', e, z⟩ := map_get h
    cases z
    obtain ⟨v, ev, rv⟩ := r.get e
    refine ⟨v, ?_, rv⟩
    unfold L2.start
    rw [List.getElem?_append_left (by rw [List.length_map]; exact (List.getElem?_eq_some_iff.mp ev).1), List.getElem?_map, ev]
    rfl
  · obtain ⟨d', e, z⟩ := map_get h
    cases z
  · obtain ⟨d', e, z⟩ := map_get h1
    cases z
theorem Def.okS {x : Str} {st : Stmt} {N ps : List Str} {k : Nat} {F : List D → Option (Bool × D)} {b : FS} (d : Def K mg x st ps) (S : FnScope N ps (defScope st)) (hN : ps.length ≤ N.length) (hF : ∀ ds r, F ds = some r → ds.length = ps.length ∧ runF N.length b ds = some r)
    (hb : ∀ (f : Addr) (cdv : Value) (A : Around) (outer : List Env) (s : Shared) (H : Hp) (E : XK), Room k (A.deeper (envOfC x (defScope st) s.heap.objs.size f cdv)) → SSs (cxOf CX0 P w K mg base N x (defScope st) f cdv A outer s H E).nox (defBody st) b) : Has P w K mg base x ps (k + 1) (spF K F) := by
  refine d.ok S (fun vs H Q E h => ?_) fun f cdv A outer s H vs Q E hr h => ?_
  · obtain ⟨G, ds, o, dd, _, r, e, _⟩ := h
    rw [r.length, (hF _ _ e).1]
  · obtain ⟨G, ds, o, dd, s', r, e, q⟩ := h
    obtain ⟨l, hrun⟩ := hF _ _ e
    obtain ⟨t, p, kt⟩ := (hb f cdv A outer s H E hr).h
    obtain ⟨fl, hfl, hrun⟩ := bindE hrun
    refine ⟨t, p, kt (env_start (N := N) s' r (by omega)) hfl ?_⟩
    cases fl with
    | nx τ =>
      cases hrun
      exact fun σ G' H' z => q .non G' H' z.ext rfl
    | rt o' d' =>
      cases hrun
      cases o with
      | false => exact q
      | true => exact q
    | _ => cases hrun
end
end L3
namespace L3
open PySem PySem.Spec PyProof.Rows L2
section
variable {P : Program} {w : World} {K : PySem.W.Frag} {mg : Str → Option Value} {base : Heap}
end
end L3

namespace L3
open PySem PySem.Spec PyProof.Rows L2
section
variable {X : Cx} {K : PySem.W.Frag}
theorem ok_I {C : Int → Int → Prop} {Cb : Int → Int → Bool} {g : Int → Int → Int} (h : ∀ i j, Cb i j = true → C i j) : Ok2 K (rI C fun i j => .int (g i j)) (fI Cb g) := fun G H x y u v d Q s rx ry hf q => by
  cases x <;> first | (cases hf; done) | skip
  cases y <;> first | (cases hf; done) | skip
  rename_i i j
  change (match Cb i j with | true => some (D.int (g i j)) | false => none) = some d at hf
  cases c : Cb i j with
  | false => rw [c] at hf; cases hf
  | true =>
    rw [c] at hf
    cases hf
    exact ⟨i, j, rx, ry, h i j c, q _ _ _ (Ext.refl s) rfl⟩
theorem ok_bit {g : Int → Int → Int} : Ok2 K (rI0 fun i j => .int (g i j)) (fBit g) := fun G H x y u v d Q s rx ry hf q => by
  cases x <;> first | (cases hf; done) | skip
  cases y <;> first | (cases hf; done) | skip
  cases hf
  exact ⟨_, _, rx, ry, q _ _ _ (Ext.refl s) rfl⟩
theorem lt64_of {i : Int} (h : lt64 i = true) : -(2 ^ 64) < i ∧ i < 2 ^ 64 := by
  unfold lt64 at h
  rw [Bool.and_eq_true] at h
  exact ⟨of_decide_eq_true h.1, of_decide_eq_true h.2⟩
theorem ok_mulL : Ok2 K (rI CMul fun i j => .int (i * j)) fMulL := ok_I fun _ _ h => .inl (lt64_of h)
theorem ok_mulR : Ok2 K (rI CMul fun i j => .int (i * j)) fMulR := ok_I fun _ _ h => .inr (lt64_of h)
theorem ok_mod : Ok2 K (rI (fun _ j => 0 < j) fun i j => .int (i % j)) fMod := ok_I fun _ _ h => of_decide_eq_true h
theorem ok_div : Ok2 K (rI (fun _ j => 0 < j ∧ j < 2 ^ 64) fun i j => .int (i / j)) fDiv := ok_I fun _ _ h => by
  rw [Bool.and_eq_true] at h
  exact ⟨of_decide_eq_true h.1, of_decide_eq_true h.2⟩
theorem powOk_of {i j : Int} (h : powOk i j = true) : CPow i j := by
  unfold powOk at h
  rw [Bool.and_eq_true, Bool.and_eq_true] at h
  exact ⟨of_decide_eq_true h.1, of_decide_eq_true h.2.1, of_decide_eq_true h.2.2⟩
theorem ok_shl : Ok2 K (rI CPow fun i j => .int (i * 2 ^ j.toNat)) fShl := ok_I fun _ _ h => powOk_of h
theorem ok_cmp {g : Int → Int → Bool} : Ok2B K (rI0 fun i j => .bl (g i j)) (fCmp g) := fun H x y u v d Q rx ry hf => by
  cases x <;> first | (cases hf; done) | skip
  cases y <;> first | (cases hf; done) | skip
  cases hf
  exact ⟨_, rfl, fun q => ⟨_, _, rx, ry, q⟩⟩
def rCatS (K : PySem.W.Frag) : R2 := fun x y H Q => ∃ l b xs zs, x = .ref l ∧ y = .ref b ∧ SqL K H l xs ∧ SqL K H b zs ∧ xs.length + zs.length ≤ sizeLine ∧ ∀ p, H p = none → Q (.ref p) (upd H p (.lst (xs ++ zs)))
theorem op_catS : OpR X (binaryOp .Add) (rCatS X.K) := by
  intro pins s σ H x y v u Q I rx ry h
  obtain ⟨l, b, xs, zs, rfl, rfl, hl, hb, hz, q⟩ := h
  cases rx
  cases ry
  obtain ⟨its, r1, p1, _⟩ := I.list hl
  obtain ⟨its2, r2, p2, _⟩ := I.list hb
  obtain ⟨⟨c1, d1, t1, sl1⟩, n1, ho1, hc1, hd1, ht1⟩ := p1
  obtain ⟨⟨c2, d2, t2, sl2⟩, n2, ho2, hc2, hd2, ht2⟩ := p2
  simp only at hc1 ht1 hc2 ht2
  subst hc1 ht1 hc2 ht2
  refine concat_meets ⟨_, ho1, rfl⟩ ⟨_, ho2, rfl⟩ noFill_list_add seq_list_add PySem.F.slot_list_add PySem.F.entry_list_add (PySem.F.args_list_add_2 _ _)
    (list_addW l b its.toArray its2.toArray n1 n2 d1 d2 sl1 sl2 (by rw [List.size_toArray, List.size_toArray, ← r1.length, ← r2.length]; exact hz)) ⟨ho1, ho2, ?_⟩
  rw [show its.toArray ++ its2.toArray = (its ++ its2).toArray by simp]
  exact ⟨.ref _, _, I.lnew (t' := s.toks) (r1.append r2) (by rw [List.length_append]; exact hz), rfl, q _ I.fresh⟩
def rAddA (K : PySem.W.Frag) : R2 := fun x y H Q => rI0 (fun i j => .int (i + j)) x y H Q ∨ (∃ i k, x = .int i ∧ y = .bl k ∧ Q (.int (i + b2i k)) H) ∨ (∃ i j, x = .str i ∧ y = .str j ∧ i.length + j.length ≤ sizeLine ∧ Q (.str (i ++ j)) H) ∨ rCatS K x y H Q ∨ rCatT K x y H Q
theorem op_addA : OpR X (binaryOp .Add) (rAddA X.K) := op_add.or (op_add_ib.or (op_add_str.or (op_catS.or op_catT)))
theorem ok_add : Ok2 K (rAddA K) fAdd := fun G H x y u v d Q s rx ry hf q => by
  cases x <;> cases y <;> first | (cases hf; done) | skip
  · rename_i i b
    cases rx
    cases ry
    cases hf
    refine .inr (.inl ⟨i, b, rfl, rfl, ?_⟩)
    have e : i + b2i b = i + (if b then 1 else 0) := by cases b <;> rfl
    rw [e]
    exact q _ _ _ (Ext.refl s) rfl
  · cases hf
    exact .inl ⟨_, _, rx, ry, q _ _ _ (Ext.refl s) rfl⟩
  · rename_i i j
    obtain ⟨rfl, l1⟩ := rx
    obtain ⟨rfl, l2⟩ := ry
    change (if i.length + j.length ≤ LIM then _ else _) = _ at hf
    by_cases c : i.length + j.length ≤ LIM
    · rw [if_pos c] at hf
      cases hf
      have c' : i.length + j.length ≤ sizeLine := by rw [sizeLine_eq]; exact c
      exact .inr (.inr (.inl ⟨i, j, rfl, rfl, c', q _ _ _ (Ext.refl s) ⟨rfl, by rw [strLen_append]; exact c'⟩⟩))
    · rw [if_neg c] at hf
      cases hf
  · rename_i xs ys
    obtain ⟨a, vs, rfl, sa, ra, _⟩ := rx
    obtain ⟨b, us, rfl, sb, rb, _⟩ := ry
    change (if xs.isEmpty = false ∧ xs.length + ys.length ≤ LIM then _ else _) = _ at hf
    by_cases c0 : xs.isEmpty = false ∧ xs.length + ys.length ≤ LIM
    · rw [if_pos c0] at hf
      have c := c0.2
      cases hf
      have c' : (xs ++ ys).length ≤ sizeLine := by rw [sizeLine_eq, List.length_append]; exact c
      have hx : vs ≠ [] := fun e => by
        have l := ra.length
        rw [e] at l
        cases xs with
        | nil => cases c0.1
        | cons => cases l
      · refine .inr (.inr (.inr (.inr ⟨a, b, vs, us, rfl, rfl, sqT_mono s sa, sqT_mono s sb, hx, by rw [ra.length, rb.length, sizeLine_eq]; exact c, fun e => ?_, fun e p hp => ?_⟩)))
        · subst e
          have e2 : ys = [] := by
            cases ys with
            | nil => rfl
            | cons => obtain ⟨_, _, z, _⟩ := rb; cases z
          subst e2
          exact q _ _ _ (Ext.refl s) ⟨a, vs, rfl, sa, by rw [List.append_nil]; exact ra, c'⟩
        · exact q _ _ _ (Ext.lay s hp) ⟨p, vs ++ us, rfl, SqT.of upd_same, (ra.append rb).mono (same_new (s.free hp) _), c'⟩
    · rw [if_neg c0] at hf
      cases hf
  · rename_i xs ys
    obtain ⟨a, vs, rfl, sa, ra, _⟩ := rx
    obtain ⟨b, us, rfl, sb, rb, _⟩ := ry
    change (if xs.length + ys.length ≤ LIM then _ else _) = _ at hf
    by_cases c : xs.length + ys.length ≤ LIM
    · rw [if_pos c] at hf
      cases hf
      have c' : (xs ++ ys).length ≤ sizeLine := by rw [sizeLine_eq, List.length_append]; exact c
      refine .inr (.inr (.inr (.inl ⟨a, b, vs, us, rfl, rfl, sqL_mono s sa, sqL_mono s sb, by rw [ra.length, rb.length, sizeLine_eq]; exact c, fun p hp => ?_⟩)))
      exact q _ _ _ (Ext.lay s hp) ⟨p, vs ++ us, rfl, SqL.of upd_same, (ra.append rb).mono (same_new (s.free hp) _), c'⟩
    · rw [if_neg c] at hf
      cases hf
theorem atI_map {α : Type} {xs : List α} {i : Int} {x : α} (h : atI xs i = some x) : ∃ j : Nat, xs[j]? = some x ∧ ∀ {β : Type} (ys : List β), ys.length = xs.length → atI ys i = ys[j]? := by
  unfold atI at h
  cases e : ixN xs.length i with
  | none => rw [e] at h; cases h
  | some j =>
    rw [e] at h
    exact ⟨j, h, fun ys l => by unfold atI; rw [l, e]; rfl⟩
theorem atI_D {α : Type} (xs : List α) (i : Int) : atI xs i = atD xs i := by
  unfold atI atD ixN
  by_cases h : 0 ≤ i
  · rw [if_pos h, if_pos h]
    by_cases h2 : i < xs.length
    · rw [if_pos h2]; rfl
    · rw [if_neg h2]
      exact (List.getElem?_eq_none (by omega)).symm
  · rw [if_neg h, if_neg h]
    split <;> rfl
theorem reps_atI {H : Hp} {ds : List D} {vs : List V} {i : Int} {d : D} (r : Reps K H ds vs) (h : atD ds i = some d) : ∃ v, atI vs i = some v ∧ Rep K H d v := by
  rw [← atI_D] at h
  obtain ⟨j, e, k⟩ := atI_map h
  obtain ⟨v, ev, rv⟩ := r.get e
  exact ⟨v, by rw [k vs r.length]; exact ev, rv⟩
def fIx0 : D → D → Option D
  | .lst xs, .int i => atD xs i
  | .tup xs, .int i => atD xs i
  | .str z, .int i => (atD z.cps.toList i).bind fun c => some (.str ⟨#[c]⟩)
  | _, _ => none
theorem ok_ix0 : Ok2 K (rIx K) fIx0 := fun G H x y u v d Q s rx ry hf q => by
  cases x <;> first | (cases hf; done) | skip
  all_goals (cases y <;> first | (cases hf; done) | skip)
  · rename_i z i
    obtain ⟨rfl, l⟩ := rx
    cases ry
    obtain ⟨c, hc, hf⟩ := bindE hf
    cases hf
    rw [← atI_D] at hc
    exact .inr (.inr ⟨z, i, c, rfl, rfl, l, hc, q _ _ _ (Ext.refl s) ⟨rfl, small (n := 1) (by decide)⟩⟩)
  · rename_i xs i
    obtain ⟨a, vs, rfl, sa, ra, _⟩ := rx
    cases ry
    obtain ⟨w, hw, rw_⟩ := reps_atI ra hf
    exact .inr (.inl ⟨a, vs, i, w, rfl, rfl, sqT_mono s sa, hw, q _ _ _ (Ext.refl s) rw_⟩)
  · rename_i xs i
    obtain ⟨a, vs, rfl, sa, ra, _⟩ := rx
    cases ry
    obtain ⟨w, hw, rw_⟩ := reps_atI ra hf
    exact .inl ⟨a, vs, i, w, rfl, rfl, sqL_mono s sa, hw, q _ _ _ (Ext.refl s) rw_⟩
theorem call_lenS : CallR X (.builtin "len") (fun xs H Q => (∃ p ys, xs = [.ref p] ∧ (SqL X.K H p ys ∨ SqT X.K H p ys) ∧ Q (.int ys.length) H) ∨ ∃ z, xs = [.str z] ∧ z.length ≤ sizeLine ∧ Q (.int z.length) H) := call_len_seq.or call_len_str
theorem ok_len : OkCB K (fun xs H Q => (∃ p ys, xs = [.ref p] ∧ (SqL K H p ys ∨ SqT K H p ys) ∧ Q (.int ys.length) H) ∨ ∃ z, xs = [.str z] ∧ z.length ≤ sizeLine ∧ Q (.int z.length) H) fLen := fun G H ds vs d Q s r hf q => by
  match ds, hf with
  | [.lst xs], hf =>
    cases hf
    obtain ⟨v, r', rfl, ⟨a, us, rfl, sq, ru, _⟩, h2⟩ := r
    cases (show r' = [] from h2)
    exact .inl ⟨a, us, rfl, .inl sq, by rw [ru.length]; exact q _ _ _ (Ext.refl s) rfl⟩
  | [.tup xs], hf =>
    cases hf
    obtain ⟨v, r', rfl, ⟨a, us, rfl, sq, ru, _⟩, h2⟩ := r
    cases (show r' = [] from h2)
    exact .inl ⟨a, us, rfl, .inr sq, by rw [ru.length]; exact q _ _ _ (Ext.refl s) rfl⟩
  | [.str z], hf =>
    cases hf
    obtain ⟨v, r', rfl, ⟨rfl, l⟩, h2⟩ := r
    cases (show r' = [] from h2)
    exact .inr ⟨z, rfl, l, q _ _ _ (Ext.refl s) rfl⟩
theorem ok_int : OkCB K (fun xs H Q => (∃ i, xs = [.int i] ∧ Q (.int i) H) ∨ ∃ k, xs = [.bl k] ∧ Q (.int (if k then 1 else 0)) H) fInt := fun G H ds vs d Q s r hf q => by
  match ds, hf with
  | [.int i], hf =>
    cases hf
    obtain ⟨v, r', rfl, rfl, h2⟩ := r
    cases (show r' = [] from h2)
    exact .inl ⟨i, rfl, q _ _ _ (Ext.refl s) rfl⟩
  | [.bl k], hf =>
    cases hf
    obtain ⟨v, r', rfl, rfl, h2⟩ := r
    cases (show r' = [] from h2)
    exact .inr ⟨k, rfl, q _ _ _ (Ext.refl s) rfl⟩
end
end L3

namespace L3
open PySem PySem.Spec PyProof.Rows L2
theorem dEqs_range : ∀ xs ys : List D, (((List.range (min xs.length ys.length)).all fun j => dEq (xs.getD j .non) (ys.getD j .non)) && xs.length == ys.length) = dEqs xs ys
  | [], [] => rfl
  | [], _ :: _ => rfl
  | _ :: _, [] => rfl
  | x :: xs, y :: ys => by
    have ih := dEqs_range xs ys
    show _ = (dEq x y && dEqs xs ys)
    rw [← ih, List.length_cons, List.length_cons, Nat.succ_min_succ, List.range_succ_eq_map, List.all_cons, List.all_map, Bool.and_assoc]
    congr 1
    congr 1
    rw [Bool.eq_iff_iff]
    simp
theorem cmpAll_at {f : D → D → Bool} : ∀ {xs ys : List D}, cmpAll f xs ys = true → ∀ (j : Nat) x y, xs[j]? = some x → ys[j]? = some y → f x y = true
  | [], _, _, j, x, y, e, _ => by cases e
  | x :: xs, [], _, j, _, y, _, e => by cases e
  | x :: xs, y :: ys, h, 0, _, _, e1, e2 => by
    cases e1
    cases e2
    have h' : (f x y && cmpAll f xs ys) = true := h
    rw [Bool.and_eq_true] at h'
    exact h'.1
  | x :: xs, y :: ys, h, j + 1, a, b, e1, e2 => by
    have h' : (f x y && cmpAll f xs ys) = true := h
    rw [Bool.and_eq_true] at h'
    exact cmpAll_at h'.2 j a b (by simpa using e1) (by simpa using e2)
section
variable {X : Cx} {pins : List (Addr × Obj)} {σ : St} {H : Hp} {s : Shared} {K : PySem.W.Frag}
theorem eqs_of {n : Nat} (ih : ∀ d1 d2 v, cmpOk n d1 d2 = true → Rep K H d1 v → Rep K H d2 v → dEq d1 d2 = true) : ∀ {xs ys : List D} {vs : List V}, cmpAll (cmpOk n) xs ys = true → Reps K H xs vs → Reps K H ys vs → dEqs xs ys = true
  | [], [], _, _, _, _ => rfl
  | [], _ :: _, _, _, r1, r2 => by
    cases (show _ = [] from r1)
    obtain ⟨_, _, e, _⟩ := r2
    cases e
  | _ :: _, [], _, _, r1, r2 => by
    cases (show _ = [] from r2)
    obtain ⟨_, _, e, _⟩ := r1
    cases e
  | x :: xs, y :: ys, _, h, r1, r2 => by
    obtain ⟨v, r, rfl, a, b⟩ := r1
    obtain ⟨v', r', e, a', b'⟩ := r2
    cases e
    have h' : (cmpOk n x y && cmpAll (cmpOk n) xs ys) = true := h
    rw [Bool.and_eq_true] at h'
    show (dEq x y && dEqs xs ys) = true
    rw [ih x y v h'.1 a a', eqs_of ih h'.2 b b']
    rfl
theorem cmp_cases {n : Nat} {x y : D} (h : cmpOk (n + 1) x y = true) : (∃ xs ys, x = .tup xs ∧ y = .tup ys ∧ cmpAll (cmpOk n) xs ys = true) ∨ (∃ xs ys, x = .lst xs ∧ y = .lst ys ∧ cmpAll (cmpOk n) xs ys = true) ∨ (flatD x = true ∧ flatD y = true) := by
  unfold cmpOk at h
  split at h
  · exact .inl ⟨_, _, rfl, rfl, h⟩
  · exact .inr (.inl ⟨_, _, rfl, rfl, h⟩)
  · rw [Bool.and_eq_true] at h
    exact .inr (.inr h)
theorem rep_flat {d : D} {v : V} (h : flatD d = true) (r : Rep K H d v) : flatV v = true := by
  cases d <;> first | exact absurd h Bool.false_ne_true | skip
  · cases (show v = _ from r); rfl
  · cases (show v = _ from r); rfl
  · cases (show v = _ from r); rfl
  · cases (show v = _ ∧ _ from r).1; rfl
theorem rep_eqV {d1 d2 : D} {x y : V} (h1 : flatD d1 = true) (h2 : flatD d2 = true) (r1 : Rep K H d1 x) (r2 : Rep K H d2 y) : eqV x y = dEq d1 d2 := by
  cases d1 <;> first | exact absurd h1 Bool.false_ne_true | skip
  all_goals (cases d2 <;> first | exact absurd h2 Bool.false_ne_true | skip)
  all_goals first
    | (cases (show x = _ from r1); cases (show y = _ from r2); rfl)
    | (cases (show x = _ from r1); cases (show y = _ ∧ _ from r2).1; rfl)
    | (cases (show x = _ ∧ _ from r1).1; cases (show y = _ from r2); rfl)
    | (cases (show x = _ ∧ _ from r1).1; cases (show y = _ ∧ _ from r2).1; rfl)
theorem eq_same (I : Inv X pins σ H s) : ∀ (n : Nat) (d1 d2 : D) (v : V), cmpOk n d1 d2 = true → Rep X.K H d1 v → Rep X.K H d2 v → dEq d1 d2 = true
  | 0, _, _, _, h, _, _ => by cases h
  | n + 1, d1, d2, v, h, r1, r2 => by
    rcases cmp_cases h with ⟨xs, ys, rfl, rfl, h⟩ | ⟨xs, ys, rfl, rfl, h⟩ | ⟨f1, f2⟩
    · obtain ⟨a, vs, rfl, s1, q1, _⟩ := r1
      obtain ⟨a', us, e, s2, q2, _⟩ := r2
      cases e
      cases I.tuple_inj s1 s2
      exact eqs_of (fun d1 d2 v => eq_same I n d1 d2 v) h q1 q2
    · obtain ⟨a, vs, rfl, s1, q1, _⟩ := r1
      obtain ⟨a', us, e, s2, q2, _⟩ := r2
      cases e
      cases I.list_inj s1 s2
      exact eqs_of (fun d1 d2 v => eq_same I n d1 d2 v) h q1 q2
    · rw [← rep_eqV f1 f2 r1 r2]
      exact eqV_self (rep_flat f1 r1)
theorem getD_at {α : Type} {xs : List α} {j : Nat} {x d : α} (h : xs[j]? = some x) : xs.getD j d = x := by rw [List.getD_eq_getElem?_getD, h]; rfl
theorem rc_reps {A : Around} {n : Nat} {a c : Addr} {xs ys : List D} {vs us : List V} (I : Inv X pins σ H s) (hu : A.units < cLine) (hq : SqB X.K H a c vs us) (q1 : Reps X.K H xs vs) (q2 : Reps X.K H ys us) (h : cmpAll (cmpOk n) xs ys = true)
    (ih : ∀ (d1 d2 : D) (x y : V) (u v : Value), cmpOk n d1 d2 = true → Rep X.K H d1 x → Rep X.K H d2 y → RelV x u → RelV y v → SeqAt.EqAt A.in1 s u v (dEq d1 d2)) : SeqAt.RcAt A s (.ref a) (.ref c) (dEqs xs ys) ∧ SeqAt.RcNeAt A s (.ref a) (.ref c) (!dEqs xs ys) := by
  have z := rc_seq (A := A) (e := fun j => dEq (xs.getD j .non) (ys.getD j .non)) I hu hq fun j x' y' u' v' e1 e2 w1 w2 => by
    obtain ⟨d1, g1, t1⟩ := q1.at e1
    obtain ⟨d2, g2, t2⟩ := q2.at e2
    show SeqAt.EqAt A.in1 s u' v' (dEq (xs.getD j .non) (ys.getD j .non))
    rw [getD_at g1, getD_at g2]
    exact ih d1 d2 x' y' u' v' (cmpAll_at h j d1 d2 g1 g2) t1 t2 w1 w2
  rw [q1.length, q2.length, dEqs_range] at z
  exact z
theorem eqAt_rep (I : Inv X pins σ H s) : ∀ (n : Nat) (A : Around) (d1 d2 : D) (x y : V) (u v : Value), A.units + n < cLine → cmpOk n d1 d2 = true → Rep X.K H d1 x → Rep X.K H d2 y → RelV x u → RelV y v → SeqAt.EqAt A s u v (dEq d1 d2)
  | 0, _, _, _, _, _, _, _, _, h, _, _, _, _ => by cases h
  | n + 1, A, d1, d2, x, y, u, v, hu, h, r1, r2, rx, ry => by
    have h0 := h
    have ra := r1
    have rb := r2
    rcases cmp_cases h with ⟨xs, ys, rfl, rfl, h⟩ | ⟨xs, ys, rfl, rfl, h⟩ | ⟨f1, f2⟩
    · obtain ⟨a, vs, rfl, s1, q1, l1⟩ := r1
      obtain ⟨c, us, rfl, s2, q2, l2⟩ := r2
      cases (show u = Value.ref a from rx)
      cases (show v = Value.ref c from ry)
      by_cases hac : a = c
      · subst hac
        rw [eq_same I (n + 1) _ _ _ h0 ra rb]
        exact SeqAt.EqAt.same _
      · exact SeqAt.EqAt.of_refs hac (rc_reps I (by omega) (.inl ⟨s1, s2⟩) q1 q2 h fun d1 d2 x y u v hh t1 t2 w1 w2 => eqAt_rep I n A.in1 d1 d2 x y u v (by rw [in1_units]; omega) hh t1 t2 w1 w2).1
    · obtain ⟨a, vs, rfl, s1, q1, l1⟩ := r1
      obtain ⟨c, us, rfl, s2, q2, l2⟩ := r2
      cases (show u = Value.ref a from rx)
      cases (show v = Value.ref c from ry)
      by_cases hac : a = c
      · subst hac
        rw [eq_same I (n + 1) _ _ _ h0 ra rb]
        exact SeqAt.EqAt.same _
      · exact SeqAt.EqAt.of_refs hac (rc_reps I (by omega) (.inr ⟨s1, s2⟩) q1 q2 h fun d1 d2 x y u v hh t1 t2 w1 w2 => eqAt_rep I n A.in1 d1 d2 x y u v (by rw [in1_units]; omega) hh t1 t2 w1 w2).1
    · rw [← rep_eqV f1 f2 r1 r2]
      exact eqAt_V rx ry (rep_flat f1 r1) (rep_flat f2 r2)
end
def rEqS (K : PySem.W.Frag) (neg : Bool) : R2 := fun x y H Q => ∃ d1 d2 k, Rep K H d1 x ∧ Rep K H d2 y ∧ fEqB d1 d2 = some k ∧ Q (.bl (if neg then !k else k)) H
theorem hu7 {A : Around} {k : Nat} (hr : Room k A) : A.units + 7 < cLine := Nat.lt_of_le_of_lt (Nat.add_le_add_left (by decide : 7 ≤ 64) _) hr.units
section
variable {X : Cx} {K : PySem.W.Frag}
theorem fEqB_ok {d1 d2 : D} {k : Bool} (h : fEqB d1 d2 = some k) : cmpOk 6 d1 d2 = true ∧ k = dEq d1 d2 := by
  unfold fEqB at h
  split at h
  · cases h
  · cases h
  · split at h
    · rename_i e
      cases h
      exact ⟨e, rfl⟩
    · cases h
theorem scal_of {H : Hp} {d1 d2 : D} {x y : V} {k : Bool} (h : fEqB d1 d2 = some k) (h1 : flatD d1 = true) (h2 : flatD d2 = true) (r1 : Rep K H d1 x) (r2 : Rep K H d2 y) : scal x y = true ∧ decide (x = y) = k := by
  obtain ⟨_, e⟩ := fEqB_ok h
  subst e
  cases d1 <;> first | exact absurd h1 Bool.false_ne_true | skip
  all_goals (cases d2 <;> first | exact absurd h2 Bool.false_ne_true | (cases h; done) | skip)
  all_goals first
    | (cases (show x = _ from r1); cases (show y = _ from r2); exact ⟨rfl, by first | rfl | exact dec_int | exact dec_bl⟩)
    | (cases (show x = _ from r1); cases (show y = _ ∧ _ from r2).1; exact ⟨rfl, rfl⟩)
    | (cases (show x = _ ∧ _ from r1).1; cases (show y = _ from r2); exact ⟨rfl, rfl⟩)
    | (cases (show x = _ ∧ _ from r1).1; cases (show y = _ ∧ _ from r2).1; exact ⟨rfl, dec_str⟩)
theorem eqS_core {pins : List (Addr × Obj)} {σ : St} {H : Hp} {s : Shared} {A : Around} {d1 d2 : D} {x y : V} {u v : Value} (I : Inv X pins σ H s) (hu : A.units + 7 < cLine) (h : cmpOk 6 d1 d2 = true) (hf : ¬ (flatD d1 && flatD d2) = true) (r1 : Rep X.K H d1 x) (r2 : Rep X.K H d2 y) (rx : RelV x u) (ry : RelV y v) :
    SeqAt.RcAt A s u v (dEq d1 d2) ∧ SeqAt.RcNeAt A s u v (!dEq d1 d2) := by
  rcases cmp_cases h with ⟨xs, ys, rfl, rfl, h⟩ | ⟨xs, ys, rfl, rfl, h⟩ | ⟨f1, f2⟩
  · obtain ⟨a, vs, rfl, s1, q1, l1⟩ := r1
    obtain ⟨c, us, rfl, s2, q2, l2⟩ := r2
    cases (show u = Value.ref a from rx)
    cases (show v = Value.ref c from ry)
    exact rc_reps I (by omega) (.inl ⟨s1, s2⟩) q1 q2 h fun d1 d2 x y u v hh t1 t2 w1 w2 => eqAt_rep I 5 A.in1 d1 d2 x y u v (by rw [in1_units]; omega) hh t1 t2 w1 w2
  · obtain ⟨a, vs, rfl, s1, q1, l1⟩ := r1
    obtain ⟨c, us, rfl, s2, q2, l2⟩ := r2
    cases (show u = Value.ref a from rx)
    cases (show v = Value.ref c from ry)
    exact rc_reps I (by omega) (.inr ⟨s1, s2⟩) q1 q2 h fun d1 d2 x y u v hh t1 t2 w1 w2 => eqAt_rep I 5 A.in1 d1 d2 x y u v (by rw [in1_units]; omega) hh t1 t2 w1 w2
  · exact absurd (by rw [f1, f2]; rfl) hf
theorem op_eqS (hu : X.A.units + 7 < cLine) : OpR X (compareOp .Eq) (rEqS X.K false) := by
  intro pins s σ H x y v u Q I rx ry h
  obtain ⟨d1, d2, k, r1, r2, hk, q⟩ := h
  by_cases hf : (flatD d1 && flatD d2) = true
  · have hf' := hf
    rw [Bool.and_eq_true] at hf'
    obtain ⟨a, b⟩ := scal_of hk hf'.1 hf'.2 r1 r2
    exact op_eq pins s σ H x y v u Q I rx ry ⟨a, by rw [b]; exact q⟩
  · obtain ⟨hc, rfl⟩ := fEqB_ok hk
    exact (eqS_core I hu hc hf r1 r2 rx ry).1 _ _ _ _ ⟨.bl _, H, I, rfl, q⟩
theorem ok_eq : Ok2B K (rEqS K false) fEq := fun H x y u v d Q rx ry hf => by
  obtain ⟨k, hk, hf⟩ := bindE hf
  cases hf
  exact ⟨_, rfl, fun q => ⟨x, y, k, rx, ry, hk, q⟩⟩
end
theorem kit_x {K : PySem.W.Frag} : PySem.W.kitOne K (.type "NoneType") (.type "str") = some false ∧ PySem.W.kitOne K (.type "NoneType") (.type "list") = some false ∧ PySem.W.kitOne K (.type "NoneType") (.type "tuple") = some false ∧
    PySem.W.kitOne K (.type "bool") (.type "str") = some false ∧ PySem.W.kitOne K (.type "bool") (.type "list") = some false ∧ PySem.W.kitOne K (.type "bool") (.type "tuple") = some false ∧
    PySem.W.kitOne K (.type "int") (.type "str") = some false ∧ PySem.W.kitOne K (.type "int") (.type "list") = some false ∧ PySem.W.kitOne K (.type "int") (.type "tuple") = some false := by refine ⟨?_, ?_, ?_, ?_, ?_, ?_, ?_, ?_, ?_⟩ <;> kernel_rfl
theorem kit_y {K : PySem.W.Frag} : PySem.W.kitOne K (.type "str") (.type "int") = some false ∧ PySem.W.kitOne K (.type "str") (.type "bool") = some false ∧ PySem.W.kitOne K (.type "str") (.type "list") = some false ∧ PySem.W.kitOne K (.type "str") (.type "tuple") = some false ∧
    PySem.W.kitOne K (.type "list") (.type "int") = some false ∧ PySem.W.kitOne K (.type "list") (.type "bool") = some false ∧ PySem.W.kitOne K (.type "list") (.type "str") = some false ∧ PySem.W.kitOne K (.type "list") (.type "tuple") = some false ∧ PySem.W.kitOne K (.type "list") (.type "list") = some true := by refine ⟨?_, ?_, ?_, ?_, ?_, ?_, ?_, ?_, ?_⟩ <;> first | kernel_rfl | rfl
theorem kit_z {K : PySem.W.Frag} : PySem.W.kitOne K (.type "tuple") (.type "int") = some false ∧ PySem.W.kitOne K (.type "tuple") (.type "bool") = some false ∧ PySem.W.kitOne K (.type "tuple") (.type "list") = some false ∧ PySem.W.kitOne K (.type "tuple") (.type "str") = some false := by refine ⟨?_, ?_, ?_, ?_⟩ <;> kernel_rfl
def tyN : D → String
  | .non => "NoneType"
  | .bl _ => "bool"
  | .int _ => "int"
  | .str _ => "str"
  | .tup _ => "tuple"
  | .lst _ => "list"
  | .dic _ _ => "dict"
theorem kit_of {K : PySem.W.Frag} {T : TyT} {d : D} {b : Bool} (h : isTy T d = some b) : PySem.W.kitOne K (.type (tyN d)) (.type T.nm) = some b := by
  obtain ⟨x1, x2, x3, x4, x5, x6, x7, x8, x9⟩ := kit_x (K := K)
  obtain ⟨y1, y2, y3, y4, y5, y6, y7, y8, y9⟩ := kit_y (K := K)
  obtain ⟨z1, z2, z3, z4⟩ := kit_z (K := K)
  cases T <;> cases d <;> cases h
  all_goals first | exact kit_int_int | exact kit_bool_int | exact kit_int_bool | exact kit_bool_bool | exact kit_none_int | exact kit_none_bool | exact kit_tup_tup | exact kit_str_str | assumption
def rIsi (K : PySem.W.Frag) (T : TyT) : List V → Hp → VK → Prop := fun xs H Q => ∃ x d b, xs = [x, .ty T.nm] ∧ Rep K H d x ∧ isTy T d = some b ∧ Q (.bl b) H
theorem call_isi {X : Cx} (T : TyT) : CallR X (.builtin "isinstance") (rIsi X.K T) := by
  intro pins s σ H xs us Q I r h
  obtain ⟨x, d, b, rfl, rd, e, q⟩ := h
  obtain ⟨u, c, rfl, rx, rc⟩ := vals2 r
  cases (show c = Value.type T.nm from rc)
  have fin : ∀ tk, EP X pins σ Q (.bool b) { s with toks := tk } := fun tk => ⟨.bl b, H, I.tok tk, rfl, q⟩
  cases d with
  | non => cases (show x = _ from rd); exact isinst_ok I rx .non (kit_of (d := .non) e) fin
  | bl y => cases (show x = _ from rd); exact isinst_ok I rx (.bl _) (kit_of (d := .bl y) e) fin
  | int y => cases (show x = _ from rd); exact isinst_ok I rx (.int _) (kit_of (d := .int y) e) fin
  | str y => cases (show x = _ ∧ _ from rd).1; exact isinst_ok I rx (.str _) (kit_of (d := .str y) e) fin
  | tup ds =>
    obtain ⟨a, vs, rfl, sq, _⟩ := rd
    cases (show u = Value.ref a from rx)
    obtain ⟨its, _, ⟨o, h1, h2, _⟩, _⟩ := I.tuple sq
    exact PySem.W.kia_one PySem.W.kitx_tuple I.kIn ⟨o, h1, h2⟩ (kit_of (d := .tup ds) e) (fun z => nomatch z) fin
  | lst ds =>
    obtain ⟨a, vs, rfl, sq, _⟩ := rd
    cases (show u = Value.ref a from rx)
    obtain ⟨its, _, ⟨o, n, h1, h2, _⟩, _⟩ := I.list sq
    exact PySem.W.kia_one PySem.W.kitx_list I.kIn ⟨o, h1, h2⟩ (kit_of (d := .lst ds) e) (fun z => nomatch z) fin
  | dic ks ds => cases T <;> cases e
theorem se_isi {X : Cx} {a : Expr} {f : FE} {x : Str} {p p1 pos : Pos} (T : TyT) (hg : Gl X "isinstance") (hgT : Gl X x) (hm : X.mg "isinstance" = none) (hmT : X.mg x = none) (hv : bootBuiltins x = some (.type T.nm)) (ha : SB X a f) (hs : noStar a = true := by rfl)
    (hn : x ≠ "__name__" := by decide) (hd : (x == ("__debug__" : Str)) = false := by decide) : SE X (.Call (.Name "isinstance" p) [a, .Name x p1] [] pos) (eIsi T f) := by
  obtain ⟨t, pt, k⟩ := ha.h
  refine ⟨⟨_, (qe_callB (call_isi T) hg hm bt_isinstance (qa_cons ⟨pt⟩ (qa_cons (qe_bty hgT hmT hv hn hd) qa_nil rfl) hs) (by decide) (by decide) (by rw [List.all_cons, hs]; rfl)).h, fun {G0 H0 G H τ σ d Q} E hf q => ?_⟩⟩
  obtain ⟨z, hz, hf⟩ := bindE hf
  obtain ⟨b, hb, hf⟩ := bindE hf
  cases hf
  exact k E hz fun v G' H' x r => ⟨v, z, b, rfl, r, hb, q _ _ _ x rfl⟩
end L3

namespace L3
open PySem
/-- a loop by a word of its turn and state -/
theorem loop_by {g : FG} {b : FS} (P : Nat → SEnv → Prop) : ∀ {ds : List D} {σ : SEnv} (n : Nat), P n σ → (∀ i d σ, ds[i]? = some d → P (n + i) σ → ∃ σ1 σ2, g d σ = some σ1 ∧ (b σ1 = some (.nx σ2) ∨ b σ1 = some (.ct σ2)) ∧ P (n + i + 1) σ2) →
    ∃ σ', loopG g b ds σ = some (.nx σ') ∧ P (n + ds.length) σ'
  | [], σ, n, h, _ => ⟨σ, rfl, h⟩
  | d :: ds, σ, n, h, step => by
    obtain ⟨σ1, σ2, e1, e2, p2⟩ := step 0 d σ rfl h
    obtain ⟨σ', e3, p3⟩ := loop_by P (ds := ds) (σ := σ2) (n + 1) p2 fun i d' τ hd hp => by
      obtain ⟨a, b', c1, c2, c3⟩ := step (i + 1) d' τ (by simpa using hd) (by rw [show n + (i + 1) = n + 1 + i by omega]; exact hp)
      exact ⟨a, b', c1, c2, by rw [show n + 1 + i + 1 = n + (i + 1) + 1 by omega]; exact c3⟩
    refine ⟨σ', ?_, by rw [List.length_cons, show n + (ds.length + 1) = n + 1 + ds.length by omega]; exact p3⟩
    show (g d σ).bind _ = _
    rw [e1]
    show (b σ1).bind _ = _
    rcases e2 with e2 | e2
    · rw [e2]; exact e3
    · rw [e2]; exact e3
/-- 0, 1, .. below j -/
abbrev upTo (j : Nat) : List D := (List.range j).map fun k : Nat => D.int k
theorem range_of {f : FE} {τ : SEnv} {n : Int} (h : f τ = some (.int n)) (h1 : n.natAbs ≤ 1000000) : iRange (eC (.int 0)) f τ = some (upTo n.toNat) := by
  unfold iRange
  rw [h]
  show (if (0 : Int).natAbs ≤ LIM ∧ n.natAbs ≤ LIM ∧ (n - 0).toNat ≤ LIM then _ else _) = _
  rw [if_pos ⟨by decide, by show _ ≤ 16777216; omega, by show _ ≤ 16777216; omega⟩, Int.sub_zero]
  simp only [Int.zero_add]
end L3
namespace L3
/-- the functions run as far as they go: what simp is given -/
def shx :=
  And.intro runF.eq_1 <| And.intro sSeq.eq_1 <| And.intro sSet.eq_1 <| And.intro sSetO.eq_1 <| And.intro sRet.eq_1 <| And.intro sRetO.eq_1 <| And.intro sRetV.eq_1 <| And.intro sIf.eq_1 <| And.intro sNext.eq_1 <| And.intro sFreeze.eq_1 <|
  And.intro sMut.eq_1 <| And.intro sMut1.eq_1 <| And.intro sFor.eq_1 <| And.intro loopG.eq_1 <| And.intro loopG.eq_2 <| And.intro e1.eq_1 <| And.intro e2.eq_1 <| And.intro eL.eq_1 <| And.intro eC.eq_1 <| And.intro eVar.eq_1 <| And.intro eAny.eq_1 <|
  And.intro aCons.eq_1 <| And.intro aNil.eq_1 <| And.intro tE.eq_1 <| And.intro asB.eq_def <| And.intro tAndF.eq_1 <| And.intro tOrF.eq_1 <| And.intro tNotF.eq_1 <| And.intro eAnd.eq_1 <| And.intro eOr.eq_1 <| And.intro eNot.eq_1 <| And.intro eIf.eq_1 <|
  And.intro eTup.eq_1 <| And.intro eLst.eq_1 <| And.intro eIsi.eq_1 <| And.intro isTy.eq_def <| And.intro fI.eq_def <| And.intro fSub.eq_def <| And.intro fCmp.eq_def <| And.intro fMulL.eq_1 <| And.intro fMulR.eq_1 <| And.intro fMod.eq_1 <| And.intro fDiv.eq_1 <|
  And.intro fPow.eq_1 <| And.intro fShl.eq_1 <| And.intro fShr.eq_1 <| And.intro fBit.eq_def <| And.intro fNeg.eq_def <| And.intro fLen.eq_def <| And.intro fInt.eq_def <| And.intro fIsN.eq_def <| And.intro fNotN.eq_def <| And.intro isNon.eq_def <|
  And.intro gVar.eq_1 <| And.intro gTwo.eq_1 <| And.intro iSeq.eq_1 <| And.intro eCall.eq_1 <| And.intro eCallO.eq_1 <| And.intro eLc.eq_1 <|
  And.intro @Option.bind_some.{0, 0} <| And.intro @Option.bind_none.{0, 0} <| And.intro @List.getElem?_cons_zero.{0} <| And.intro @List.getElem?_cons_succ.{0} <| And.intro @List.set_cons_zero.{0} <| And.intro @List.set_cons_succ.{0} <| And.intro @List.map_cons.{0, 0} <| And.intro @List.map_nil.{0, 0} <|
  And.intro @List.cons_append.{0} <| And.intro @List.nil_append.{0} <| And.intro @List.length_cons.{0} <| And.intro @List.length_nil.{0} <| And.intro @List.replicate_zero.{0} <| And.intro @List.replicate_succ.{0} <| And.intro Bool.not_true <| And.intro Bool.not_false <|
  And.intro @decide_true <| And.intro @decide_false <| And.intro Bool.and_self <| And.intro Bool.and_true Bool.true_and
end L3

namespace L3
open PySem PySem.Spec PyProof.Rows L2
section
variable {α : Type}
theorem zip_val : ∀ {ks : List Key} {vs : List V} (k : Key), ks.length = vs.length → valV (ks.zip vs) k = getK ks vs k
  | [], [], _, _ => rfl
  | k' :: ks, v :: vs, k, h => by
    have ih := zip_val (ks := ks) (vs := vs) k (by simpa using h)
    by_cases e : k' = k
    · rw [List.zip_cons_cons, valV_pos (p := (k', v)) e]
      show _ = (if k' = k then some v else _)
      rw [if_pos e]
    · rw [List.zip_cons_cons, valV_neg (p := (k', v)) e, ih]
      show _ = (if k' = k then some v else _)
      rw [if_neg e]
end
section
variable {K : PySem.W.Frag} {G H : Hp}
theorem Reps.getK : ∀ {ks : List Key} {ds : List D} {vs : List V} {k : Key} {d : D}, Reps K H ds vs → getK ks ds k = some d → ∃ v, getK ks vs k = some v ∧ Rep K H d v
  | [], _, _, _, _, _, e => by cases e
  | _ :: _, [], _, _, _, _, e => by cases e
  | k' :: ks, d' :: ds, _, k, d, r, e => by
    obtain ⟨v, r', rfl, hv, hr⟩ := r
    change (if k' = k then some d' else L3.getK ks ds k) = some d at e
    by_cases c : k' = k
    · rw [if_pos c] at e
      cases e
      exact ⟨v, by show (if k' = k then some v else _) = _; rw [if_pos c], hv⟩
    · rw [if_neg c] at e
      obtain ⟨u, hu, ru⟩ := Reps.getK hr e
      exact ⟨u, by show (if k' = k then some v else _) = _; rw [if_neg c]; exact hu, ru⟩
theorem getK_none {α β : Type} : ∀ {ks : List Key} {ds : List α} {vs : List β} {k : Key}, ds.length = vs.length → getK ks ds k = none → getK ks vs k = none
  | [], _, _, _, _, _ => by unfold getK; rfl
  | _ :: _, [], [], _, _, _ => rfl
  | k' :: ks, d' :: ds, v :: vs, k, h, e => by
    change (if k' = k then some d' else getK ks ds k) = none at e
    show (if k' = k then some v else getK ks vs k) = none
    by_cases c : k' = k
    · rw [if_pos c] at e; cases e
    · rw [if_neg c] at e
      rw [if_neg c]
      exact getK_none (by simpa using h) e
theorem getK_has {α : Type} : ∀ {ks : List Key} {vs : List α} (k : Key), ks.length = vs.length → (getK ks vs k).isSome = hasK ks k
  | [], [], _, _ => rfl
  | k' :: ks, v :: vs, k, h => by
    have ih := getK_has (ks := ks) (vs := vs) k (by simpa using h)
    show (if k' = k then some v else getK ks vs k).isSome = (decide (k' = k) || _)
    by_cases c : k' = k
    · rw [if_pos c, decide_eq_true c]; rfl
    · rw [if_neg c, decide_eq_false c, ih]; rfl
theorem key_rep {x : D} {k : Key} {u : V} (h : keyD x = some k) (r : Rep K H x u) : u = kV k := by
  cases x <;> first | (cases h; done) | skip
  · cases h; exact r
  · cases h; exact (show u = _ ∧ _ from r).1
end
section
variable {X : Cx} {K : PySem.W.Frag}
/-- d[k] of a dict that is read -/
def rIxD : R2 := fun x y H Q => ∃ a kvs k v, x = .ref a ∧ y = kV k ∧ Rd H a (.dK kvs) ∧ valV kvs k = some v ∧ Q v H
theorem ix_dict : IxR X rIxD := by
  intro value slice pins s σ H x y v u Q I rx ry h hs
  obtain ⟨a, kvs, k, z, rfl, rfl, e, l, q⟩ := h
  cases rx
  obtain ⟨_, _, vs, rel, dd⟩ := dk_rd I.hok e
  obtain ⟨w', hw, rw'⟩ := RelO.some_of (v := z) (o := valueAt vs k) (by rw [← l]; exact rel.val k)
  exact subscriptTail_builtinR (x := w') (dict_typeIs I (.inl ⟨kvs, k, e, rfl, rfl⟩)) PySem.F.slot_dict_getitem.lookup
    (wpAny_getItem_of (Q := fun r s' => r = w' ∧ EP X pins σ Q r s') (kV_is ry) dd.mapOf hw ⟨rfl, z, H, I.tok _, rw', q⟩) hs
def rIxA (K : PySem.W.Frag) : R2 := fun x y H Q => rIx K x y H Q ∨ rIxD x y H Q
theorem ix_S (_ : X.A.units + 1 < cLine) : IxR X (rIxA X.K) := ix_seq.or ix_dict
theorem ok_ix : Ok2 K (rIxA K) fIx := fun G H x y u v d Q s rx ry hf q => by
  cases x with
  | dic ks ds =>
    obtain ⟨a, vs, rfl, sq, l, rs, _⟩ := rx
    obtain ⟨k, hk, hf⟩ := bindE hf
    obtain ⟨z, hz, rz⟩ := rs.getK hf
    exact .inr ⟨a, _, k, z, rfl, key_rep hk ry, Rd.mono s sq, by rw [zip_val k l]; exact hz, q _ _ _ (Ext.refl s) rz⟩
  | non => cases hf
  | bl b => cases hf
  | int b => cases hf
  | str z => exact .inl (ok_ix0 G H (.str z) y u v d Q s rx ry (by cases y <;> exact hf) q)
  | tup z => exact .inl (ok_ix0 G H (.tup z) y u v d Q s rx ry (by cases y <;> exact hf) q)
  | lst z => exact .inl (ok_ix0 G H (.lst z) y u v d Q s rx ry (by cases y <;> exact hf) q)
def rInD (neg : Bool) : R2 := fun x y H Q => ∃ a kvs k, y = .ref a ∧ x = kV k ∧ Rd H a (.dK kvs) ∧ Q (.bl (if neg then !(valV kvs k).isSome else (valV kvs k).isSome)) H
theorem op_inD (hu : X.A.units + 1 < cLine) : OpR X (compareOp .In) (rInD false) := by
  intro pins s σ H x y v u Q I rx ry h
  obtain ⟨a, kvs, k, rfl, rfl, e, q⟩ := h
  cases ry
  exact d_in hu I (.inl ⟨kvs, k, e, rfl, rfl⟩) rx fun s' I' => ⟨.bl _, H, I', rfl, q⟩
def rInA (K : PySem.W.Frag) (neg : Bool) : R2 := fun x y H Q => rIn K neg x y H Q ∨ (∃ i j, x = .str i ∧ y = .str j ∧ Q (.bl (if neg then !(!(Builtin.Str.occurrences j i 0 j.length 1).isEmpty) else !(Builtin.Str.occurrences j i 0 j.length 1).isEmpty)) H) ∨ rInD neg x y H Q
theorem op_inS (hu : X.A.units + 1 < cLine) : OpR X (compareOp .In) (rInA X.K false) := op_in_seq.or (op_in_str.or (op_inD hu))
theorem reps_any {H : Hp} {x : D} {u : V} (hx : flatD x = true) (rx : Rep K H x u) : ∀ {ys : List D} {vs : List V}, Reps K H ys vs → ys.all flatD = true → vs.all flatV = true ∧ inV u vs = ys.any fun y => dEq y x
  | [], _, r, _ => by cases (show _ = [] from r); exact ⟨rfl, rfl⟩
  | y :: ys, _, r, h => by
    obtain ⟨v, r', rfl, hv, hr⟩ := r
    rw [List.all_cons, Bool.and_eq_true] at h
    obtain ⟨a, b⟩ := reps_any hx rx hr h.2
    refine ⟨by rw [List.all_cons, rep_flat h.1 hv, a]; rfl, ?_⟩
    show (eqV v u || inV u r') = (dEq y x || _)
    rw [rep_eqV h.1 hx hv rx, b]
theorem in_core {neg : Bool} {H : Hp} {x y : D} {u v : V} {k : Bool} {Q : VK} (rx : Rep K H x u) (ry : Rep K H y v) (hf : fInB x y = some k) (q : Q (.bl (if neg then !k else k)) H) : rInA K neg u v H Q := by
  cases y with
  | lst ys =>
    obtain ⟨a, vs, rfl, sq, rs, _⟩ := ry
    change (match flatD x && ys.all flatD with | true => some (ys.any fun y => dEq y x) | false => none) = some k at hf
    cases c : (flatD x && ys.all flatD) with
    | false => rw [c] at hf; cases hf
    | true =>
      rw [c] at hf
      cases hf
      rw [Bool.and_eq_true] at c
      obtain ⟨c1, c2⟩ := reps_any c.1 rx rs c.2
      exact .inl ⟨a, vs, rfl, .inl sq, rep_flat c.1 rx, c1, by rw [c2]; exact q⟩
  | tup ys =>
    obtain ⟨a, vs, rfl, sq, rs, _⟩ := ry
    change (match flatD x && ys.all flatD with | true => some (ys.any fun y => dEq y x) | false => none) = some k at hf
    cases c : (flatD x && ys.all flatD) with
    | false => rw [c] at hf; cases hf
    | true =>
      rw [c] at hf
      cases hf
      rw [Bool.and_eq_true] at c
      obtain ⟨c1, c2⟩ := reps_any c.1 rx rs c.2
      exact .inl ⟨a, vs, rfl, .inr sq, rep_flat c.1 rx, c1, by rw [c2]; exact q⟩
  | str j =>
    cases x <;> first | (cases hf; done) | skip
    rename_i i
    cases hf
    exact .inr (.inl ⟨i, j, (show u = _ ∧ _ from rx).1, (show v = _ ∧ _ from ry).1, q⟩)
  | dic ks ds =>
    obtain ⟨kk, hk, hf⟩ := bindE hf
    cases hf
    obtain ⟨a, vs, rfl, sq, l, rs, _⟩ := ry
    refine .inr (.inr ⟨a, _, kk, rfl, key_rep hk rx, sq, ?_⟩)
    rw [zip_val kk l, getK_has kk l]
    exact q
  | _ => cases hf
theorem ok_in : Ok2B K (rInA K false) fIn := fun H x y u v d Q rx ry hf => by
  obtain ⟨k, hk, hf⟩ := bindE hf
  cases hf
  exact ⟨_, rfl, fun q => in_core rx ry hk q⟩
end
end L3

namespace L3
open PySem PySem.Spec PyProof.Rows L2
section
variable {K : PySem.W.Frag} {G H : Hp}
end
section
variable {X : Cx} {a b e o : Expr} {fa fb f : FE} {p pos apos cpos : Pos}
theorem reps_one {K : PySem.W.Frag} {G : Hp} {d : D} {vs : List V} (r : Reps K G [d] vs) : ∃ v, vs = [v] ∧ Rep K G d v := by
  obtain ⟨v, r', rfl, hv, hr⟩ := r
  cases (show r' = [] from hr)
  exact ⟨v, rfl, hv⟩
def ixOf (x : D) : List D → Nat → Option Nat
  | [], _ => none
  | y :: ys, n => match dEq y x with
    | true => some n
    | false => ixOf x ys (n + 1)
def fIndex : D → D → Option D
  | .lst ys, x => match flatD x && ys.all flatD with
    | true => (ixOf x ys 0).bind fun n => some (.int n)
    | false => none
  | _, _ => none
theorem ixOf_at {x : D} : ∀ {ys : List D} {n m : Nat}, ixOf x ys n = some m → ∃ j y, m = n + j ∧ ys[j]? = some y ∧ dEq y x = true ∧ ∀ i z, i < j → ys[i]? = some z → dEq z x = false
  | [], _, _, h => by cases h
  | y :: ys, n, m, h => by
    change (match dEq y x with | true => some n | false => ixOf x ys (n + 1)) = some m at h
    cases c : dEq y x with
    | true =>
      rw [c] at h
      cases h
      exact ⟨0, y, rfl, rfl, c, fun i z hi => absurd hi (Nat.not_lt_zero _)⟩
    | false =>
      rw [c] at h
      obtain ⟨j, y', e1, e2, e3, e4⟩ := ixOf_at h
      refine ⟨j + 1, y', by omega, by simpa using e2, e3, fun i z hi ez => ?_⟩
      cases i with
      | zero => cases ez; exact c
      | succ i => exact e4 i z (by omega) (by simpa using ez)
variable {x : Str} {ps : List Str} {j k : Nat} {FF : List D → Option (Bool × D)}
theorem se_call0 (h : Has X.prog X.w X.K X.mg X.base x ps k (spF X.K FF)) (hr : Room j X.A) (hg : Gl X x) (hk : k ≤ j := by decide) (hdb : (x == ("__debug__" : Str)) = false := by decide) : SE X (.Call (.Name x p) [] [] pos) (eCall FF aNil) := by
  obtain ⟨f, fd, hm, kp, b, F⟩ := h
  refine ⟨⟨_, pe_call0 F (hr.mono hk) hg hm kp b .nil pass0 hdb, fun {G0 H0 G H τ σ d Q} E hf q => ?_⟩⟩
  obtain ⟨ds, hd, hf⟩ := bindE hf
  cases hd
  obtain ⟨⟨o, d⟩, hr, hf⟩ := bindE hf
  cases hf
  refine ⟨G, [], o, d, E.ext.gh, rfl, hr, ?_⟩
  cases o with
  | false => exact fun v G' H' x2 r => q v G' H' x2 r
  | true =>
    intro p G' H' x2 hp gp o
    obtain ⟨u, hu, r⟩ := o.frz gp
    exact q _ _ _ (x2.frz hp gp hu) r
end
/-- a def by its own run -/
def FR (n N : Nat) (b : FS) (ds : List D) : Option (Bool × D) := if ds.length = n then runF N b ds else none
theorem FR_ok {n N : Nat} {b : FS} : ∀ ds r, FR n N b ds = some r → ds.length = n ∧ runF N b ds = some r := fun ds r h => by
  unfold FR at h
  split at h
  · rename_i c
    exact ⟨c, h⟩
  · cases h
end L3

namespace L3
open PySem PySem.Spec PyProof.Rows L2
theorem tuple_loop {M : Model} {A : Around} {E : Value → Shared → Prop} {items : Array Value} {x : Value} {e : Value → Bool} {j : Nat} (hM : ∃ prog w, M = model prog w) (hj : j < items.size) (hit : e items[j] = true) (no : ∀ m (hm : m < items.size), m < j → e items[m] = false) {s : Shared}
    (he : ∀ y ∈ items, SeqAt.EqAt A s y x (e y)) {Q : Option PySem.Fin × Unit → Shared → Prop} (h : Q (some (.done (.ret (.int j s.toks))), ()) { s with toks := s.toks + 1 }) : ∀ m i : Nat, i + m = items.size → i ≤ j →
    wpAny M A (forIn (List.range' i m) ((none, ()) : Option PySem.Fin × Unit) fun (i : Nat) (_ : Option PySem.Fin × Unit) => match items[i]? with
      | some y => do
        let __do_lift ← eqBool y x
        if __do_lift = true then do
            let __do_lift ← retInt (i : Int)
            pure (ForInStep.done (some __do_lift, ()))
          else pure (ForInStep.yield (none, ()))
      | _ => pure (ForInStep.yield (none, ()))) Q E s
  | 0, i, h1, h2 => by omega
  | m + 1, i, h1, h2 => by
    obtain ⟨prog, w, rfl⟩ := hM
    have hi : i < items.size := by omega
    rw [List.range'_succ, List.forIn_cons]
    refine wpAny_bind ?_
    rw [Array.getElem?_eq_getElem hi]
    refine wpAny_bind (he _ (Array.getElem_mem hi) prog w E _ ?_)
    by_cases c : i = j
    · subst c
      rw [hit, if_pos rfl]
      wp_walk
      exact h
    · rw [no i hi (by omega), if_neg (by decide)]
      refine wpAny_pure ?_
      exact tuple_loop ⟨prog, w, rfl⟩ hj hit no he h m (i + 1) (by omega) (by omega)
theorem tuple_indexM (t : Addr) (items : Array Value) (x : Value) (e : Value → Bool) (j : Nat) (hj : j < items.size) (hit : e items[j] = true) (no : ∀ m (hm : m < items.size), m < j → e items[m] = false) :
    Meets (Builtin.«tuple.index» ⟨[.ref t, x], []⟩) (fun A R s => IsTup s.heap t items ∧ (∀ y ∈ items, SeqAt.EqAt A.in1 s y x (e y)) ∧ R (.ok (.ret (.int j s.toks))) { s with toks := s.toks + 1 }) := by
  intro prog w A R s h
  obtain ⟨hp, g, d, tk, os⟩ := s
  obtain ⟨⟨o, ho, hc, n, hd⟩, he, h⟩ := h
  unfold Builtin.«tuple.index»
  wp_walk
  skip
  rw [hd]
  refine wpAny_pure (wpAny_pure ?_)
  show wpAny _ _ (pure 0 >>= _) _ _ _
  refine wpAny_bind (wpAny_pure (wpAny_bind (wpAny_pure (wpAny_bind ?_))))
  rw [Std.Legacy.Range.forIn_eq_forIn_range']
  have hs : Std.Legacy.Range.size [0:min items.size items.size] = items.size := by simp [Std.Legacy.Range.size]
  rw [hs]
  refine tuple_loop ⟨prog, w, rfl⟩ hj hit no he ?_ items.size 0 (by omega) (by omega)
  exact wpAny_pure h
section
variable {X : Cx} {e o k v : Expr} {f fo fk fv : FE} {x : Str} {xp p pos apos cpos : Pos}
theorem mt_indexT : MtR X "tuple.index" (fun x vs H Q => ∃ (a : Addr) (us : List V) (y : V) (j : Nat) (u : V), x = .ref a ∧ vs = [y] ∧ SqT X.K H a us ∧ flatV y = true ∧ us.all flatV = true ∧ us[j]? = some u ∧ eqV u y = true ∧ (∀ i z, i < j → us[i]? = some z → eqV z y = false) ∧ Q (.int (j : Int)) H) := by
  intro pins s σ H x xs v us' Q I rx rs h
  obtain ⟨a, us, y, j, u, rfl, rfl, sq, fy, fu, eu, hit, no, q⟩ := h
  cases rx
  obtain ⟨w, rfl, ry⟩ := vals1 rs
  obtain ⟨its, r, pt, hz⟩ := I.tuple sq
  have hl := r.length
  have hj : j < us.length := (List.getElem?_eq_some_iff.mp eu).1
  have key : ∀ (i : Nat) (z : V) (hi : i < its.toArray.size), us[i]? = some z → eqU y its.toArray[i] = eqV z y := fun i z hi ez => by
    obtain ⟨t, et, rt⟩ := r.get ez
    have e : its.toArray[i] = t := by
      have h2 : its[i]? = some its[i] := List.getElem?_eq_getElem (by rw [List.size_toArray] at hi; exact hi)
      rw [h2] at et
      simpa using et
    rw [e]
    exact eqU_of rt (List.all_eq_true.mp fu z (List.mem_of_getElem? ez))
  have hjs : j < its.toArray.size := by rw [List.size_toArray, ← hl]; exact hj
  refine call_meets PySem.F.slot_tuple_index pt.typeIs PySem.F.entry_tuple_index (PySem.F.args_tuple_index_2 _ _) (tuple_indexM a its.toArray w (eqU y) j hjs (by rw [key j u hjs eu]; exact hit) fun m hm hlt => ?_) ⟨pt, fun t ht => ?_, ⟨.int j, H, I.tok _, ⟨_, rfl⟩, q⟩⟩
  · have hm' : m < us.length := by rw [List.size_toArray, ← hl] at hm; exact hm
    rw [key m us[m] hm (List.getElem?_eq_getElem hm')]
    exact no m _ hlt (List.getElem?_eq_getElem hm')
  · exact mem_eqAt ry fy r fu t (by simpa using ht)
def TupK (K : PySem.W.Frag) (A : Addr) : Prop := ∃ o, K.lookup A = some o ∧ o.cls = .type "tuple" ∧ o.dict = none
/-- the place of a thing in a tuple of the module -/
def fTix (ds : List D) (y : D) : Option D := fIndex (.lst ds) y
theorem se_gtindex {A : Addr} {ds : List D} (h : Glb X.mg x (.ref A)) (r : ∀ H, Rep X.K H (.tup ds) (.ref A)) (kt : TupK X.K A) (hg : Gl X x) (he : SE X e f) (hd : (x == ("__debug__" : Str)) = false := by decide)
    (hbase : attributeBase (.Name x xp) "index" X.env (eval (.Name x xp) X.env) = eval (.Name x xp) X.env := by rfl) (hline : (apos.endLine == cpos.line) = true := by rfl) (hs : noStar e = true := by rfl) :
    SE X (.Call (.Attribute (.Name x xp) "index" apos) [e] [] cpos) (e1 (fTix ds) f) := by
  obtain ⟨te, pe, ke⟩ := (sa_cons he sa_nil hs).h
  refine ⟨⟨_, (qe_bm PySem.F.plainAttrs_tuple PySem.F.slot_tuple_index PySem.F.type_tuple_index mt_indexT (qe_gl h hg hd) ⟨pe⟩ hbase hline (by rw [List.all_cons, hs]; rfl) (by show 1 < 30; decide)).h, fun {G0 H0 G H τ σ d Q} E hf q => ?_⟩⟩
  obtain ⟨y, hy, hf⟩ := bindE hf
  refine ⟨.inr (.inl ⟨rfl, kt⟩), ke E (ds := [y]) (by unfold aCons; rw [hy]; rfl) fun ws G2 H2 x2 r2 => ?_⟩
  obtain ⟨w, rfl, rw_⟩ := reps_one r2
  obtain ⟨a, us, ea, sq, rs, _⟩ := r G2
  cases ea
  change (match flatD y && ds.all flatD with | true => (ixOf y ds 0).bind fun n => some (D.int n) | false => none) = some d at hf
  cases c : (flatD y && ds.all flatD) with
  | false => rw [c] at hf; cases hf
  | true =>
    rw [c] at hf
    obtain ⟨n, hn, hf⟩ := bindE hf
    cases hf
    rw [Bool.and_eq_true] at c
    obtain ⟨j, z, e1, e2, e3, e4⟩ := ixOf_at hn
    rw [Nat.zero_add] at e1
    subst e1
    obtain ⟨u, eu, ru⟩ := rs.get e2
    have fl : ∀ {i : Nat} {z : D}, ds[i]? = some z → flatD z = true := fun {i z} ez => List.all_eq_true.mp c.2 z (List.mem_of_getElem? ez)
    refine ⟨A, us, w, n, u, rfl, rfl, sqT_mono x2.gh sq, rep_flat c.1 rw_, (reps_any c.1 rw_ rs c.2).1, eu, by rw [rep_eqV (fl e2) c.1 ru rw_]; exact e3, fun i z hi ez => ?_, q _ _ _ x2 rfl⟩
    obtain ⟨dz, ed, rd⟩ := rs.at ez
    rw [rep_eqV (fl ed) c.1 rd rw_]
    exact e4 i dz hi ed
structure SD (X : Cx) (pos : Pos) (keys : List (Option Expr)) (values : List Expr) (ks : List Str) (fs : FA) : Prop where
  h : ∃ trs, PPs X pos keys values trs ∧ ∀ {G0 H0 G H : Hp} {τ : SEnv} {σ : St} {ds : List D} {Q : List (V × V) → Hp → Prop}, EnvOk X.K X.N.length G0 H0 G H τ σ → fs τ = some ds → (∀ vs G' H', Ext G H G' H' → Reps X.K G' ds vs → vs.length = ks.length → Q ((ks.map V.str).zip vs) H') → tPairs trs σ H Q
theorem sd_nil : SD X pos [] [] [] aNil := ⟨⟨_, pps_nil, fun E hf q => by
  cases hf
  exact q [] _ _ (Ext.refl E.ext.gh) rfl rfl⟩⟩
theorem sd_cons {x : Str} {j : Nat} {ks : List (Option Expr)} {vs : List Expr} {xs : List Str} {fs : FA} (hv : SE X v fv) (hr : SD X pos ks vs xs fs) : SD X pos (some (.Constant (.str x) j xp) :: ks) (v :: vs) (x :: xs) (aCons fv fs) := by
  obtain ⟨tv, pv, kv⟩ := hv.h
  obtain ⟨tr, pr, kr⟩ := hr.h
  refine ⟨⟨_, pps_cons pe_str pv pr, fun {G0 H0 G H τ σ ds Q} E hf q => ?_⟩⟩
  obtain ⟨d, hd, hf⟩ := bindE hf
  obtain ⟨es, hes, hf⟩ := bindE hf
  cases hf
  refine kv E hd fun u G1 H1 x1 r1 => kr (E.go x1) hes fun us G2 H2 x2 r2 l => ?_
  exact q (u :: us) _ _ (x1.trans x2) ⟨u, us, rfl, r1.mono x2.g, r2⟩ (by rw [List.length_cons, List.length_cons, l])
theorem merge_new : ∀ (kvs acc : List (Key × V)), (kvs.map (·.1)).Nodup → (∀ kv ∈ kvs, valV acc kv.1 = none) → mergeK acc kvs = acc ++ kvs
  | [], acc, _, _ => by rw [List.append_nil]; rfl
  | kv :: r, acc, nd, hn => by
    rw [List.map_cons, List.nodup_cons] at nd
    have h0 := hn kv List.mem_cons_self
    show mergeK (putK acc kv.1 kv.2) r = _
    rw [putK_new kv.2 h0, merge_new r _ nd.2 (fun kv' m => ?_)]
    · rw [List.append_assoc]; rfl
    · rw [valV_snoc kv.1 kv'.1 kv.2 acc h0, if_neg (fun e => nd.1 (by rw [← e]; exact List.mem_map_of_mem m))]
      exact hn kv' (List.mem_cons_of_mem _ m)
theorem zip_strs : ∀ {ks : List Str} {vs : List V}, (ks.map V.str).zip vs = (((ks.map Sum.inr : List Key).zip vs).map fun kv => (kV kv.1, kv.2))
  | [], _ => rfl
  | _ :: _, [] => rfl
  | k :: ks, v :: vs => by
    rw [List.map_cons, List.map_cons, List.zip_cons_cons, List.zip_cons_cons, List.map_cons, zip_strs]
    rfl
theorem zip_keys : ∀ {ks : List Key} {vs : List V}, ks.length = vs.length → (ks.zip vs).map (·.1) = ks
  | [], [], _ => rfl
  | k :: ks, v :: vs, h => by rw [List.zip_cons_cons, List.map_cons, zip_keys (by simpa using h)]
theorem sf_disp {keys : List (Option Expr)} {values : List Expr} {ks : List Str} {fs : FA} (h : SD X pos keys values ks fs) (nd : ks.Nodup) (h15 : ks.length ≤ 15) (hall : keys.all (·.isSome) = true := by rfl) (hl : keys.length = values.length := by rfl) (h0 : keys ≠ [] := by exact fun z => nomatch z) (h15' : keys.length ≤ 15 := by decide) :
    SF X (.Dict keys values pos) (eDisp ks fs) := by
  obtain ⟨trs, pr, kr⟩ := h.h
  refine ⟨⟨_, pe_disp pr hall hl h0 h15', fun {G0 H0 G H τ σ d Q} E hf q p hp => ?_⟩⟩
  obtain ⟨ds, hds, hf⟩ := bindE hf
  have x0 : Ext G H G (upd H p (.dK [])) := Ext.layO E.ext.gh hp
  refine kr (E.go x0) hds fun vs G2 H2 x2 r2 l => ?_
  have e2 : H2 p = some (.dK []) := x2.h _ _ upd_same
  have g2 : G2 p = none := by
    cases c : G2 p with
    | none => rfl
    | some u =>
      rcases x2.new p (by rw [c]; exact fun z => nomatch z) with z | z
      · exact absurd (E.ext.gh.free hp) z
      · rw [upd_same] at z; cases z
  have hk : (ks.map Sum.inr : List Key).length = vs.length := by rw [List.length_map, l]
  by_cases c : ks.length = ds.length
  · rw [if_pos c] at hf
    cases hf
    refine ⟨e2, (ks.map Sum.inr : List Key).zip vs, zip_strs, by rw [List.length_zip, hk, Nat.min_self, l]; exact h15, ?_⟩
    rw [merge_new _ [] (by rw [zip_keys hk]; exact List.Pairwise.map _ (fun a b h z => h (Sum.inr.inj z)) nd) (fun _ _ => rfl), List.nil_append]
    have xx : Ext G H G2 (upd H2 p (.dK ((ks.map Sum.inr : List Key).zip vs))) := by
      have y := x0.trans x2
      refine ⟨y.g, fun b u z => ?_, fun b u z => ?_, y.new⟩
      · rw [upd_ne (ne_of_none z hp)]; exact y.h _ _ z
      · rw [upd_ne (ne_of_none z g2)]; exact x2.gh _ _ z
    exact q p _ _ xx hp g2 ⟨vs, upd_same, hk, r2, by rw [← c]; exact small (by omega)⟩
  · rw [if_neg c] at hf
    cases hf
theorem se_get2 (hu : X.A.units + 1 < cLine) (ho : SE X o fo) (hk : SE X k fk) (hv : SE X v fv) (m : M2 X o "get" apos k v cpos) : SE X (.Call (.Attribute o "get" apos) [k, v] [] cpos) (eGet2 fo fk fv) := by
  obtain ⟨to, po, ko⟩ := ho.h
  obtain ⟨tk, pk, kk⟩ := hk.h
  obtain ⟨tv, pv, kv⟩ := hv.h
  refine ⟨⟨_, pe_dget2 hu po pk pv m, fun {G0 H0 G H τ σ d Q} E hf q => ?_⟩⟩
  obtain ⟨x, hx, hf⟩ := bindE hf
  refine ko E hx fun w G1 H1 x1 r1 => ?_
  cases x with
  | dic ks ds =>
    obtain ⟨y, hy, hf⟩ := bindE hf
    obtain ⟨z, hz, hf⟩ := bindE hf
    obtain ⟨key, hkey, hf⟩ := bindE hf
    cases hf
    obtain ⟨a, vs, rfl, sq, l, rs, _⟩ := r1
    refine ⟨a, rfl, .inl ⟨_, Rd.mono x1.gh sq⟩, kk (E.go x1) hy fun u G2 H2 x2 r2 => kv ((E.go x1).go x2) hz fun w' G3 H3 x3 r3 => ?_⟩
    refine ⟨valV (ks.zip vs) key, .inl ⟨_, key, Rd.mono (x1.gh.trans (x2.h.trans x3.h)) sq, key_rep hkey r2, rfl⟩, ?_⟩
    rw [zip_val key l]
    have rs3 := rs.mono (x2.g.trans x3.g)
    cases c : getK ks ds key with
    | none =>
      rw [c] at q
      rw [getK_none (by rw [rs.length]) c]
      exact q _ _ _ (x1.trans (x2.trans x3)) r3
    | some d' =>
      rw [c] at q
      obtain ⟨z', hz', rz'⟩ := rs3.getK c
      rw [hz']
      exact q _ _ _ (x1.trans (x2.trans x3)) rz'
  | _ => cases hf
def bitsI (i : Int) : Nat := Builtin.Int.intBits i
def fMulB : D → D → Option D := fI (fun i j => decide (bitsI i + bitsI j ≤ 134217728)) (· * ·)
theorem op_mulB : OpR X (binaryOp .Mult) (rI (fun i j => bitsI i + bitsI j ≤ 134217728) fun i j => .int (i * j)) := opI fun i j _ _ _ _ _ hc q => mul_int q (by
  unfold IntMulOk
  intro h
  rw [Bool.and_eq_true] at h
  have h2 : decide (((Builtin.Int.intBits i + Builtin.Int.intBits j : Nat) : Int) > (134217728 : Nat)) = true := h.2
  have h3 := of_decide_eq_true h2
  have h4 : Builtin.Int.intBits i + Builtin.Int.intBits j ≤ 134217728 := hc
  omega)
theorem ok_mulB {K : PySem.W.Frag} : Ok2 K (rI (fun i j => bitsI i + bitsI j ≤ 134217728) fun i j => .int (i * j)) fMulB := ok_I fun _ _ h => of_decide_eq_true h
end
end L3

namespace L3
open PySem PySem.Spec PyProof.Rows L2 PySem.W
theorem weight_bits : ∀ {ns : List Int} {m : Int}, m ∈ ns → bitsI m ≤ WData.weightAll (ns.map WData.int)
  | [], _, h => by cases h
  | n :: ns, m, h => by
    have e : WData.weightAll ((n :: ns).map WData.int) = bitsI n + 1 + WData.weightAll (ns.map WData.int) := by
      show WData.weightAll (WData.int n :: ns.map WData.int) = _
      rw [WData.weightAll]
      rfl
    rw [e]
    rcases List.mem_cons.mp h with rfl | h
    · omega
    · have := weight_bits h
      omega
theorem lay_bits {ns : List Int} (h : WData.layableAll [.list (ns.map WData.int)] = true) : ∀ m ∈ ns, bitsI m ≤ 1048576 := fun m hm => by
  have h1 : WData.layable (.list (ns.map WData.int)) = true := List.all_eq_true.mp h _ (List.mem_singleton.mpr rfl)
  unfold WData.layable at h1
  rw [Bool.and_eq_true] at h1
  have h2 : WData.weight (.list (ns.map WData.int)) ≤ 2 ^ 20 := of_decide_eq_true h1.2
  have h3 := weight_bits hm
  have h4 : WData.weight (.list (ns.map WData.int)) = WData.weightAll (ns.map WData.int) := by rw [WData.weight]
  omega
section
variable {P : Program} {w : World} {K : PySem.W.Frag} {mg : Str → Option Value} {base : Heap}
def spLawB (K : PySem.W.Frag) : Sp := fun vs H Q _ => ∃ (a : Addr) (ns : List Int), vs = [.ref a] ∧ SqL K H a (ns.map V.int) ∧ ns.length ≤ 63 ∧ (∀ m ∈ ns, bitsI m ≤ 1048576) ∧ ∀ H', Q (.bl true) H'
theorem law_okB {x : Str} {st : Stmt} {N : List Str} {k : Nat} {b : FS} {f : Addr} {fd : FuncData} (d : Fun K "law" "law" st f fd) (S : FnScope N [x] (defScope st)) (hN : 1 ≤ N.length) (hrun : ∀ ns : List Int, ns.length ≤ 63 → (∀ m ∈ ns, bitsI m ≤ 1048576) → ∃ o, runF N.length b [.lst (ns.map D.int)] = some (o, .bl true))
    (hb : ∀ (cdv : Value) (A : Around) (outer : List Env) (s : Shared) (H : Hp) (E : XK), Room k (A.deeper (envOfC "law" (defScope st) s.heap.objs.size f cdv)) → SSs (cxOf CX0 P w K mg base N "law" (defScope st) f cdv A outer s H E).nox (defBody st) b) : FnOk P w K mg base CX0 (k + 1) f fd [x] (spLawB K) := by
  refine d.ok S (fun vs H Q E h => ?_) fun cdv A outer s H vs Q E hr h => ?_
  · obtain ⟨a, ns, rfl, _⟩ := h
    rfl
  · obtain ⟨a, ns, rfl, sq, l, hbits, q⟩ := h
    obtain ⟨o, hrun⟩ := hrun ns l hbits
    obtain ⟨t, p, kt⟩ := (hb cdv A outer s H E hr).h
    obtain ⟨fl, hfl, hrun⟩ := bindE hrun
    have r : Reps K H [.lst (ns.map D.int)] [.ref a] := ⟨_, _, rfl, ⟨a, _, rfl, sq, Reps.ints, by rw [List.length_map]; exact small (by omega)⟩, rfl⟩
    refine ⟨t, p, kt (env_start (N := N) (Same.refl H) r hN) hfl ?_⟩
    cases fl with
    | nx τ => cases hrun
    | rt o' d' =>
      cases hrun
      cases o with
      | false =>
        intro v G H' _ r
        cases (show v = .bl true from r)
        exact q H'
      | true => exact fun p G H' _ _ _ z => z.elim
    | _ => cases hrun
end
theorem walkB {l : PySem.W.OpenLaw} {n k : Nat} {q : Program} {loose : List Str} {XP : (Str → Option Value) → Heap → Prop} {YP : World → Heap → Prop} {d : DefRec} {K : Params → PySem.W.Frag} {sp : PySem.W.Frag → Sp} {x : Str}
    (hn : l.most = some n) (hn2 : n ≤ sizeLine) (hdf : d.params.defaults = []) (hr : Room k callerA) (hY : ∀ (w : World) (h : Heap), YP w h → (K w.params).In h)
    (F : ∀ (w : World) (mg : Str → Option Value) (fa : Addr) (h : Heap), (K w.params).In h → h.Ns mainGlobals mg → mg d.name = some (.ref fa) →
      ∃ fd : FuncData, (∀ (s : Shared) (u : Value), BindsTo s fd ⟨[u], []⟩ [(x, u)]) ∧ ∀ base : Heap, (K w.params).In base → base.Ns mainGlobals mg → FnOk l.prog w (K w.params) mg base CX0 k fa fd [x] (sp (K w.params)))
    (hsp : ∀ (K : PySem.W.Frag) (H : Hp) (a : Addr) (ns : List Int), ns.length ≤ n → (∀ m ∈ ns, bitsI m ≤ 1048576) → SqL K H a (ns.map V.int) → sp K [.ref a] H (fun v _ => v = .bl true) fun _ _ _ => False) :
    PySem.W.WalkO q loose XP YP l.row.toRowW d [] (fun f vs => PySem.call f vs) := by
  intro w s0 s1 mg mb Gr Y fa o pm cd doc dV kV ho hd hcd hD hmg hg args vals as hpre hlay hrd hwl hlo
  have e1 : dV = .none := Dflts.none hD hdf
  have e2 : kV = .none := Dflts.noKw hD
  subst e1 e2
  obtain ⟨a, vs, ns, rfl, rfl, hobj, hints, hlen⟩ := Att.script_of hn hpre hwl
  have KX := hY w _ Y
  obtain ⟨fd, hb, hF⟩ := F w mg fa _ KX Gr.T.g hmg
  have main := law_call KX Gr.T.g Gr.T.b Gr.T.builtins Gr.T.nolimit hg hobj hints (Nat.le_trans hlen hn2) hr hF hb (fun H _ hS => hsp _ H a ns hlen (lay_bits hlay) hS) (fun _ _ _ z => z)
  refine enter_call (codeAny_mono main fun r s' hq => ?_)
  obtain ⟨rfl, h2, h3, h4⟩ := hq
  refine ⟨.inl ⟨.bool true, .bool true, [], rfl, fun _ => rfl, .bool true, Att.post_true l _, fun _ => ?_⟩, h2, h3, h4⟩
  exact ⟨List.Pairwise.nil, fun _ hm => nomatch hm⟩
end L3

namespace L3
open PySem
def gl_MARKS : List D := [(.str "carry"), (.str "nought"), (.str "sign")]
def gt_MARKS : D := .tup gl_MARKS
def gl_LOOK_AT_D : List D := [(.str "high"), (.str "left"), (.str "right"), (.str "add"), (.str "addc"), (.str "sub"), (.str "subc"), (.str "and"), (.str "or"), (.str "xor"), (.str "test"), (.str "store"), (.str "storew")]
def gt_LOOK_AT_D : D := .tup gl_LOOK_AT_D
def gl_LOOK_AT_S : List D := [(.str "copy"), (.str "load"), (.str "loadw"), (.str "add"), (.str "addc"), (.str "sub"), (.str "subc"), (.str "and"), (.str "or"), (.str "xor"), (.str "test"), (.str "store"), (.str "storew")]
def gt_LOOK_AT_S : D := .tup gl_LOOK_AT_S
def gl_LOOK_AT_CARRY : List D := [(.str "addc"), (.str "subc")]
def gt_LOOK_AT_CARRY : D := .tup gl_LOOK_AT_CARRY
def gl_PUT_D : List D := [(.str "set"), (.str "high"), (.str "copy"), (.str "load"), (.str "loadw"), (.str "add"), (.str "addc"), (.str "sub"), (.str "subc"), (.str "and"), (.str "or"), (.str "xor"), (.str "left"), (.str "right")]
def gt_PUT_D : D := .tup gl_PUT_D
def gl_PUT_NOUGHT_AND_SIGN : List D := [(.str "add"), (.str "addc"), (.str "sub"), (.str "subc"), (.str "test"), (.str "and"), (.str "or"), (.str "xor"), (.str "left"), (.str "right")]
def gt_PUT_NOUGHT_AND_SIGN : D := .tup gl_PUT_NOUGHT_AND_SIGN
def gl_PUT_CARRY : List D := [(.str "add"), (.str "addc"), (.str "sub"), (.str "subc"), (.str "test"), (.str "left"), (.str "right")]
def gt_PUT_CARRY : D := .tup gl_PUT_CARRY
end L3
namespace L3
open PySem
def b_law_cell_at : FS :=
  (sSeq (sIf (tE (e2 (fCmp fun i j => decide (i < j)) (eVar 1) (eL fLen (aCons (eVar 0) aNil))))
      (sRet (e2 fIx (eVar 0) (eVar 1)))
      sNext)
    (sRet (eC (.int 0))))
theorem ints_at (ns : List Int) (k : Nat) : (ns.map D.int)[k]? = (ns[k]?).map D.int := List.getElem?_map
/-- the script's k-th, or 0 -/
def cellAt (ns : List Int) (k : Int) : Int := ns.getD k.toNat 0
def F_law_cell_at : List D → Option (Bool × D)
  | [.lst xs, .int k] => if 0 ≤ k then ((xs[k.toNat]?).getD (.int 0) |> fun d => some (false, d)) else none
  | _ => none
theorem cell_ints (ns : List Int) {k : Int} (h : 0 ≤ k) : F_law_cell_at [.lst (ns.map D.int), .int k] = some (false, .int (cellAt ns k)) := by
  show (if 0 ≤ k then _ else _) = _
  rw [if_pos h, ints_at]
  unfold cellAt
  rw [List.getD_eq_getElem?_getD]
  cases ns[k.toNat]? <;> rfl
theorem run_law_cell_at : ∀ ds r, F_law_cell_at ds = some r → ds.length = 2 ∧ runF 2 b_law_cell_at ds = some r := fun ds r h => by
  unfold F_law_cell_at at h
  split at h
  · rename_i xs k
    refine ⟨rfl, ?_⟩
    by_cases h0 : 0 ≤ k
    · rw [if_pos h0] at h
      cases h
      unfold b_law_cell_at
      by_cases c : k < (xs.length : Int)
      · have e : fIx (.lst xs) (.int k) = some ((xs[k.toNat]?).getD (.int 0)) := by
          show atD xs k = _
          unfold atD
          rw [if_pos h0, List.getElem?_eq_getElem (by omega)]
          rfl
        simp only [shx, Nat.reduceAdd, Nat.reduceSub, Int.reduceLT, Int.reduceLE, Int.reducePow, Int.reduceToNat, Int.reduceAdd, Int.reduceSub, Int.reduceMul, Int.reduceNeg, decide_eq_true c, e]
      · have e : xs[k.toNat]? = none := List.getElem?_eq_none (by omega)
        simp only [shx, Nat.reduceAdd, Nat.reduceSub, Int.reduceLT, Int.reduceLE, Int.reducePow, Int.reduceToNat, Int.reduceAdd, Int.reduceSub, Int.reduceMul, Int.reduceNeg, decide_eq_false c, e, Option.getD]
    · rw [if_neg h0] at h
      cases h
  · cases h
end L3

namespace L3
open PySem
def b_law_mark : FS :=
  (sSeq (sSet 2 (e2 fAdd (e2 fAdd (e2 fAdd (e2 fMulR (eCall F_law_cell_at (aCons (eVar 0) (aCons (eVar 1) aNil))) (eC (.int 48271))) (e2 fMulL (eC (.int 104729)) (eVar 1))) (e2 fMulL (eC (.int 7919)) (eL fLen (aCons (eVar 0) aNil)))) (eC (.int 1))))
    (sRet (e2 fMod (e2 fMulR (e2 fMod (e2 fMulB (eVar 2) (eVar 2)) (eC (.int 2147483647))) (eC (.int 2003))) (eC (.int 2147483629)))))
def F_law_mark : List D → Option (Bool × D) := FR 2 3 b_law_mark
theorem run_law_mark : ∀ ds r, F_law_mark ds = some r → ds.length = 2 ∧ runF 3 b_law_mark ds = some r := FR_ok
theorem go_law_mark (x0 x1 : D) : F_law_mark [x0, x1] = runF 3 b_law_mark [x0, x1] := rfl
theorem bits_lt {i : Int} {m : Nat} (h : bitsI i ≤ m) : i.natAbs < 2 ^ m := by
  by_cases c : i = 0
  · subst c
    exact Nat.pow_pos (by decide)
  · have e : bitsI i = i.natAbs.log2 + 1 := by
      show (if (i == 0) = true then 0 else i.natAbs.log2 + 1) = _
      rw [if_neg (by simpa using c)]
    exact (Nat.log2_lt (by omega)).mp (by omega)
theorem bits_le {i : Int} {m : Nat} (h : i.natAbs < 2 ^ m) : bitsI i ≤ m := by
  by_cases c : i = 0
  · subst c
    exact Nat.zero_le _
  · have e : bitsI i = i.natAbs.log2 + 1 := by
      show (if (i == 0) = true then 0 else i.natAbs.log2 + 1) = _
      rw [if_neg (by simpa using c)]
    rw [e]
    exact (Nat.log2_lt (by omega)).mpr h
theorem cell_bits {ns : List Int} {M : Nat} (hb : ∀ m ∈ ns, bitsI m ≤ M) (k : Int) : bitsI (cellAt ns k) ≤ M := by
  unfold cellAt
  rw [List.getD_eq_getElem?_getD]
  cases e : ns[k.toNat]? with
  | none => exact Nat.zero_le _
  | some m => exact hb m (List.mem_of_getElem? e)
theorem mark_bits {c k l : Int} {M : Nat} (hM : 4 ≤ M) (hc : bitsI c ≤ M) (k0 : 0 ≤ k) (k1 : k < 100) (l0 : 0 ≤ l) (l1 : l ≤ 63) : bitsI (c * 48271 + 104729 * k + 7919 * l + 1) ≤ M + 20 := by
  have h1 := bits_lt hc
  have h2 : 2 ^ 4 ≤ 2 ^ M := Nat.pow_le_pow_right (by decide) hM
  refine bits_le ?_
  rw [Nat.pow_add]
  generalize 2 ^ M = P at h1 h2
  have h3 : (2 : Nat) ^ 20 = 1048576 := by decide
  have h4 : (2 : Nat) ^ 4 = 16 := by decide
  rw [h3]
  rw [h4] at h2
  omega
theorem mark_F {ns : List Int} (hl : ns.length ≤ 63) (hb : ∀ m ∈ ns, bitsI m ≤ 1048576) {k : Int} (k0 : 0 ≤ k) (k1 : k < 100) : ∃ m : Int, 0 ≤ m ∧ m < 2147483629 ∧ F_law_mark [.lst (ns.map D.int), .int k] = some (false, .int m) := by
  have hc := cell_ints ns (k := k) k0
  have cb := cell_bits hb k
  generalize cellAt ns k = c at hc cb
  have mb := mark_bits (M := 1048576) (l := (ns.length : Int)) (by decide) cb k0 k1 (by omega) (by omega)
  have g1 : decide (bitsI (c * 48271 + 104729 * k + 7919 * (ns.length : Int) + 1) + bitsI (c * 48271 + 104729 * k + 7919 * (ns.length : Int) + 1) ≤ 134217728) = true := decide_eq_true (by omega)
  have g2 : lt64 48271 = true ∧ lt64 104729 = true ∧ lt64 7919 = true ∧ lt64 2003 = true := ⟨by decide, by decide, by decide, by decide⟩
  have ai : ∀ {i j : Int}, fAdd (.int i) (.int j) = some (.int (i + j)) := rfl
  refine ⟨(c * 48271 + 104729 * k + 7919 * (ns.length : Int) + 1) * (c * 48271 + 104729 * k + 7919 * (ns.length : Int) + 1) % 2147483647 * 2003 % 2147483629, Int.emod_nonneg _ (by decide), Int.emod_lt_of_pos _ (by decide), ?_⟩
  rw [go_law_mark]
  unfold b_law_mark
  simp only [shx, Nat.reduceAdd, Nat.reduceSub, hc, List.length_map, ai, g2, fMulB, g1, decide_true, Int.reduceLT]
end L3

namespace L3
open PySem
def b_mark_bit : FS :=
  (sRet (e2 fShl (eC (.int 1)) (e2 fAdd (eC (.int 8)) (e1 (fTix gl_MARKS) (eVar 0)))))
def F_mark_bit : List D → Option (Bool × D) := FR 1 1 b_mark_bit
theorem run_mark_bit : ∀ ds r, F_mark_bit ds = some r → ds.length = 1 ∧ runF 1 b_mark_bit ds = some r := FR_ok
theorem go_mark_bit (x0 : D) : F_mark_bit [x0] = runF 1 b_mark_bit [x0] := rfl
def b_moves_by_nought : FS :=
  (sRet (eAnd (eOr (e2 fEq (e2 fIx (eVar 0) (eC (.int 0))) (eC (.str "left"))) (e2 fEq (e2 fIx (eVar 0) (eC (.int 0))) (eC (.str "right")))) (e2 fEq (e2 fIx (eVar 0) (eC (.int 2))) (eC (.int 0)))))
def F_moves_by_nought : List D → Option (Bool × D) := FR 1 1 b_moves_by_nought
theorem run_moves_by_nought : ∀ ds r, F_moves_by_nought ds = some r → ds.length = 1 ∧ runF 1 b_moves_by_nought ds = some r := FR_ok
theorem go_moves_by_nought (x0 : D) : F_moves_by_nought [x0] = runF 1 b_moves_by_nought [x0] := rfl
def b_used : FS :=
  (sSeq (sIf (tE (e2 fEq (e2 fIx (eVar 0) (eC (.int 0))) (eC (.str "stop"))))
      (sRet (eC (.int 2047)))
      sNext)
    (sSeq (sIf (tOrF (tE (e2 fEq (e2 fIx (eVar 0) (eC (.int 0))) (eC (.str "when")))) (tE (e2 fEq (e2 fIx (eVar 0) (eC (.int 0))) (eC (.str "unless")))))
      (sRet (eCall F_mark_bit (aCons (e2 fIx (eVar 0) (eC (.int 1))) aNil)))
      sNext)
    (sSeq (sSet 1 (eC (.int 0)))
    (sSeq (sIf (tE (e2 fIn (e2 fIx (eVar 0) (eC (.int 0))) (eC gt_LOOK_AT_D)))
      (sSet 1 (e2 (fBit Builtin.bitOr) (eVar 1) (e2 fShl (eC (.int 1)) (e2 fIx (eVar 0) (eC (.int 1))))))
      sNext)
    (sSeq (sIf (tE (e2 fIn (e2 fIx (eVar 0) (eC (.int 0))) (eC gt_LOOK_AT_S)))
      (sSet 1 (e2 (fBit Builtin.bitOr) (eVar 1) (e2 fShl (eC (.int 1)) (e2 fIx (eVar 0) (eC (.int 2))))))
      sNext)
    (sSeq (sIf (tE (e2 fIn (e2 fIx (eVar 0) (eC (.int 0))) (eC gt_LOOK_AT_CARRY)))
      (sSet 1 (e2 (fBit Builtin.bitOr) (eVar 1) (eCall F_mark_bit (aCons (eC (.str "carry")) aNil))))
      sNext)
    (sRet (eVar 1))))))))
def F_used : List D → Option (Bool × D) := FR 1 2 b_used
theorem run_used : ∀ ds r, F_used ds = some r → ds.length = 1 ∧ runF 2 b_used ds = some r := FR_ok
theorem go_used (x0 : D) : F_used [x0] = runF 2 b_used [x0] := rfl
def b_put : FS :=
  (sSeq (sSet 1 (eC (.int 0)))
    (sSeq (sIf (tE (e2 fIn (e2 fIx (eVar 0) (eC (.int 0))) (eC gt_PUT_D)))
      (sSet 1 (e2 (fBit Builtin.bitOr) (eVar 1) (e2 fShl (eC (.int 1)) (e2 fIx (eVar 0) (eC (.int 1))))))
      sNext)
    (sSeq (sIf (tE (e2 fIn (e2 fIx (eVar 0) (eC (.int 0))) (eC gt_PUT_NOUGHT_AND_SIGN)))
      (sSet 1 (e2 (fBit Builtin.bitOr) (e2 (fBit Builtin.bitOr) (eVar 1) (eCall F_mark_bit (aCons (eC (.str "nought")) aNil))) (eCall F_mark_bit (aCons (eC (.str "sign")) aNil))))
      sNext)
    (sSeq (sIf (tAndF (tE (e2 fIn (e2 fIx (eVar 0) (eC (.int 0))) (eC gt_PUT_CARRY))) (tNotF (tE (eCall F_moves_by_nought (aCons (eVar 0) aNil)))))
      (sSet 1 (e2 (fBit Builtin.bitOr) (eVar 1) (eCall F_mark_bit (aCons (eC (.str "carry")) aNil))))
      sNext)
    (sRet (eVar 1))))))
def F_put : List D → Option (Bool × D) := FR 1 2 b_put
theorem run_put : ∀ ds r, F_put ds = some r → ds.length = 1 ∧ runF 2 b_put ds = some r := FR_ok
theorem go_put (x0 : D) : F_put [x0] = runF 2 b_put [x0] := rfl

def b_law_words : FS :=
  (sSeq (sSet 0 (eLst (aCons (eC (.str "set")) (aCons (eC (.str "high")) (aCons (eC (.str "copy")) (aCons (eC (.str "add")) (aCons (eC (.str "addc")) (aCons (eC (.str "sub")) (aCons (eC (.str "subc")) (aCons (eC (.str "and")) (aCons (eC (.str "or")) (aCons (eC (.str "xor")) (aCons (eC (.str "test")) (aCons (eC (.str "left")) (aCons (eC (.str "right")) aNil)))))))))))))))
    (sSeq (sSet 0 (e2 fAdd (eVar 0) (eLst (aCons (eC (.str "load")) (aCons (eC (.str "store")) (aCons (eC (.str "loadw")) (aCons (eC (.str "storew")) (aCons (eC (.str "jump")) (aCons (eC (.str "when")) (aCons (eC (.str "unless")) (aCons (eC (.str "stop")) aNil)))))))))))
    (sRet (e2 fAdd (eVar 0) (eLst (aCons (eC (.str "set")) (aCons (eC (.str "copy")) (aCons (eC (.str "add")) (aCons (eC (.str "when")) (aCons (eC (.str "unless")) (aCons (eC (.str "test")) (aCons (eC (.str "sub")) aNil))))))))))))
def F_law_words : List D → Option (Bool × D) := FR 0 1 b_law_words
theorem run_law_words : ∀ ds r, F_law_words ds = some r → ds.length = 0 ∧ runF 1 b_law_words ds = some r := FR_ok
theorem go_law_words : F_law_words [] = runF 1 b_law_words [] := rfl
def b_law_row_by : FS :=
  (sSeq (sSet 3 (e2 fIx (eCall F_law_words aNil) (e2 fMod (eVar 0) (eC (.int 28)))))
    (sSeq (sSet 0 (e2 fDiv (eVar 0) (eC (.int 28))))
    (sSeq (sSet 4 (e2 fMod (eVar 0) (eVar 2)))
    (sSeq (sSet 5 (e2 fMod (e2 fDiv (eVar 0) (eC (.int 8))) (eVar 2)))
    (sSeq (sSet 6 (e2 fDiv (eVar 0) (eC (.int 64))))
    (sSeq (sIf (tE (e2 fIn (eVar 3) (eTup (aCons (eC (.str "set")) (aCons (eC (.str "high")) aNil)))))
      (sRet (eTup (aCons (eVar 3) (aCons (eVar 4) (aCons (e2 fIx (eLst (aCons (e2 fMod (eVar 6) (eC (.int 65536))) (aCons (e2 fMod (eVar 6) (eC (.int 3))) aNil))) (e2 fMod (e2 fDiv (eVar 0) (eC (.int 32))) (eC (.int 2)))) aNil)))))
      sNext)
    (sSeq (sIf (tE (e2 fIn (eVar 3) (eTup (aCons (eC (.str "left")) (aCons (eC (.str "right")) aNil)))))
      (sRet (eTup (aCons (eVar 3) (aCons (eVar 4) (aCons (e2 fIx (eLst (aCons (e2 fMod (eVar 6) (eC (.int 32))) (aCons (e2 fMod (eVar 6) (eC (.int 3))) aNil))) (e2 fMod (e2 fDiv (eVar 0) (eC (.int 32))) (eC (.int 2)))) aNil)))))
      sNext)
    (sSeq (sIf (tE (e2 fIn (eVar 3) (eTup (aCons (eC (.str "load")) (aCons (eC (.str "store")) (aCons (eC (.str "loadw")) (aCons (eC (.str "storew")) aNil)))))))
      (sRet (eTup (aCons (eVar 3) (aCons (eVar 4) (aCons (eVar 5) (aCons (e2 fIx (eLst (aCons (e2 fMod (eVar 6) (eC (.int 256))) (aCons (e2 fMod (eVar 6) (eC (.int 4))) aNil))) (e2 fMod (e2 fDiv (eVar 0) (eC (.int 32))) (eC (.int 2)))) aNil))))))
      sNext)
    (sSeq (sIf (tE (e2 fEq (eVar 3) (eC (.str "jump"))))
      (sRet (eTup (aCons (eVar 3) (aCons (e2 fIx (eVar 1) (e2 fMod (eVar 6) (eL fLen (aCons (eVar 1) aNil)))) aNil))))
      sNext)
    (sSeq (sIf (tE (e2 fIn (eVar 3) (eTup (aCons (eC (.str "when")) (aCons (eC (.str "unless")) aNil)))))
      (sRet (eTup (aCons (eVar 3) (aCons (e2 fIx (eLst (aCons (eC (.str "carry")) (aCons (eC (.str "nought")) (aCons (eC (.str "sign")) aNil)))) (e2 fMod (eVar 5) (eC (.int 3)))) (aCons (e2 fIx (eVar 1) (e2 fMod (eVar 6) (eL fLen (aCons (eVar 1) aNil)))) aNil)))))
      sNext)
    (sSeq (sIf (tE (e2 fEq (eVar 3) (eC (.str "stop"))))
      (sRet (eTup (aCons (eVar 3) aNil)))
      sNext)
    (sRet (eTup (aCons (eVar 3) (aCons (eVar 4) (aCons (eVar 5) aNil))))))))))))))))
def F_law_row_by : List D → Option (Bool × D) := FR 3 7 b_law_row_by
theorem run_law_row_by : ∀ ds r, F_law_row_by ds = some r → ds.length = 3 ∧ runF 7 b_law_row_by ds = some r := FR_ok
theorem go_law_row_by (x0 x1 x2 : D) : F_law_row_by [x0, x1, x2] = runF 7 b_law_row_by [x0, x1, x2] := rfl
def l_law_bits_1 : FS := (sSet 3 (e2 (fBit Builtin.bitOr) (eVar 3) (e2 fShl (eC (.int 1)) (e2 fIx (eVar 0) (eVar 4)))))
def l_law_bits_2 : FS := (sSet 3 (e2 (fBit Builtin.bitOr) (eVar 3) (e2 fIx (eDisp ["carry", "nought", "sign"] (aCons (eC (.int 256)) (aCons (eC (.int 512)) (aCons (eC (.int 1024)) aNil)))) (eVar 5))))
def b_law_bits : FS :=
  (sSeq (sSet 3 (eC (.int 0)))
    (sSeq (sFor (iSeq (eVar 1)) (gVar 4)
      l_law_bits_1)
    (sSeq (sFor (iSeq (eVar 2)) (gVar 5)
      l_law_bits_2)
    (sRet (eVar 3)))))
def F_law_bits : List D → Option (Bool × D) := FR 3 6 b_law_bits
theorem run_law_bits : ∀ ds r, F_law_bits ds = some r → ds.length = 3 ∧ runF 6 b_law_bits ds = some r := FR_ok
theorem go_law_bits (x0 x1 x2 : D) : F_law_bits [x0, x1, x2] = runF 6 b_law_bits [x0, x1, x2] := rfl
def b_law_used : FS :=
  (sSeq (sIf (tE (e2 fEq (e2 fIx (eVar 0) (eC (.int 0))) (eC (.str "stop"))))
      (sRet (eC (.int 2047)))
      sNext)
    (sSeq (sIf (tE (e2 fIn (e2 fIx (eVar 0) (eC (.int 0))) (eTup (aCons (eC (.str "when")) (aCons (eC (.str "unless")) aNil)))))
      (sRet (eCall F_law_bits (aCons (eVar 0) (aCons (eLst aNil) (aCons (eLst (aCons (e2 fIx (eVar 0) (eC (.int 1))) aNil)) aNil)))))
      sNext)
    (sSeq (sSet 1 (eDisp ["set", "jump", "high", "left", "right", "copy", "load", "loadw"] (aCons (eLst aNil) (aCons (eLst aNil) (aCons (eLst (aCons (eC (.int 1)) aNil)) (aCons (eLst (aCons (eC (.int 1)) aNil)) (aCons (eLst (aCons (eC (.int 1)) aNil)) (aCons (eLst (aCons (eC (.int 2)) aNil)) (aCons (eLst (aCons (eC (.int 2)) aNil)) (aCons (eLst (aCons (eC (.int 2)) aNil)) aNil))))))))))
    (sSeq (sSet 2 (eDisp ["addc", "subc"] (aCons (eLst (aCons (eC (.str "carry")) aNil)) (aCons (eLst (aCons (eC (.str "carry")) aNil)) aNil))))
    (sRet (eCall F_law_bits (aCons (eVar 0) (aCons (eGet2 (eVar 1) (e2 fIx (eVar 0) (eC (.int 0))) (eLst (aCons (eC (.int 1)) (aCons (eC (.int 2)) aNil)))) (aCons (eGet2 (eVar 2) (e2 fIx (eVar 0) (eC (.int 0))) (eLst aNil)) aNil)))))))))
def F_law_used : List D → Option (Bool × D) := FR 1 3 b_law_used
theorem run_law_used : ∀ ds r, F_law_used ds = some r → ds.length = 1 ∧ runF 3 b_law_used ds = some r := FR_ok
theorem go_law_used (x0 : D) : F_law_used [x0] = runF 3 b_law_used [x0] := rfl
def b_law_put : FS :=
  (sSeq (sIf (tE (e2 fIn (e2 fIx (eVar 0) (eC (.int 0))) (eTup (aCons (eC (.str "jump")) (aCons (eC (.str "when")) (aCons (eC (.str "unless")) (aCons (eC (.str "stop")) (aCons (eC (.str "store")) (aCons (eC (.str "storew")) aNil)))))))))
      (sRet (eC (.int 0)))
      sNext)
    (sSeq (sSet 1 (eLst aNil))
    (sSeq (sIf (tE (e2 fIn (e2 fIx (eVar 0) (eC (.int 0))) (eTup (aCons (eC (.str "and")) (aCons (eC (.str "or")) (aCons (eC (.str "xor")) (aCons (eC (.str "left")) (aCons (eC (.str "right")) aNil))))))))
      (sSet 1 (eLst (aCons (eC (.str "nought")) (aCons (eC (.str "sign")) aNil))))
      sNext)
    (sSeq (sIf (tOrF (tE (e2 fIn (e2 fIx (eVar 0) (eC (.int 0))) (eTup (aCons (eC (.str "add")) (aCons (eC (.str "addc")) (aCons (eC (.str "sub")) (aCons (eC (.str "subc")) (aCons (eC (.str "test")) aNil)))))))) (tAndF (tE (e2 fIn (e2 fIx (eVar 0) (eC (.int 0))) (eTup (aCons (eC (.str "left")) (aCons (eC (.str "right")) aNil))))) (tE (e2 (fCmp fun i j => decide (j < i)) (e2 fIx (eVar 0) (eC (.int 2))) (eC (.int 0))))))
      (sSet 1 (eLst (aCons (eC (.str "carry")) (aCons (eC (.str "nought")) (aCons (eC (.str "sign")) aNil)))))
      sNext)
    (sRet (eCall F_law_bits (aCons (eVar 0) (aCons (e2 fIx (eLst (aCons (eLst (aCons (eC (.int 1)) aNil)) (aCons (eLst aNil) aNil))) (eL fInt (aCons (e2 fEq (e2 fIx (eVar 0) (eC (.int 0))) (eC (.str "test"))) aNil))) (aCons (eVar 1) aNil)))))))))
def F_law_put : List D → Option (Bool × D) := FR 1 2 b_law_put
theorem run_law_put : ∀ ds r, F_law_put ds = some r → ds.length = 1 ∧ runF 2 b_law_put ds = some r := FR_ok
theorem go_law_put (x0 : D) : F_law_put [x0] = runF 2 b_law_put [x0] := rfl
def b_law_right : FS :=
  (sRet (eAnd (eIsi .int (eVar 0)) (eAnd (eNot (eIsi .bool (eVar 0))) (e2 fEq (eVar 0) (eVar 1)))))
def F_law_right : List D → Option (Bool × D) := FR 2 2 b_law_right
theorem run_law_right : ∀ ds r, F_law_right ds = some r → ds.length = 2 ∧ runF 2 b_law_right ds = some r := FR_ok
theorem go_law_right (x0 x1 : D) : F_law_right [x0, x1] = runF 2 b_law_right [x0, x1] := rfl
theorem pow1 {d : Int} (h0 : 0 ≤ d) (h1 : d < 8) : powOk 1 d = true := by
  unfold powOk
  rw [decide_eq_true h0, decide_eq_true (show d ≤ 1000000 by omega)]
  rfl
theorem mb : F_mark_bit [.str "carry"] = some (false, .int 256) ∧ F_mark_bit [.str "nought"] = some (false, .int 512) ∧ F_mark_bit [.str "sign"] = some (false, .int 1024) := ⟨by rfl, by rfl, by rfl⟩
def mkD : D := .dic (List.map .inr ["carry", "nought", "sign"]) [.int 256, .int 512, .int 1024]
theorem disp_mk (τ : SEnv) : eDisp ["carry", "nought", "sign"] (aCons (eC (.int 256)) (aCons (eC (.int 512)) (aCons (eC (.int 1024)) aNil))) τ = some mkD := rfl
theorem mk_ix : fIx mkD (.str "carry") = some (.int 256) ∧ fIx mkD (.str "nought") = some (.int 512) ∧ fIx mkD (.str "sign") = some (.int 1024) := ⟨by rfl, by rfl, by rfl⟩
def plKs : List (Sum Int Str) := List.map .inr ["set", "jump", "high", "left", "right", "copy", "load", "loadw"]
def plVs : List D := [.lst [], .lst [], .lst [.int 1], .lst [.int 1], .lst [.int 1], .lst [.int 2], .lst [.int 2], .lst [.int 2]]
def mkKs : List (Sum Int Str) := List.map .inr ["addc", "subc"]
def mkVs : List D := [.lst [.str "carry"], .lst [.str "carry"]]
theorem disp_pl (τ : SEnv) : eDisp ["set", "jump", "high", "left", "right", "copy", "load", "loadw"] (aCons (eLst aNil) (aCons (eLst aNil) (aCons (eLst (aCons (eC (.int 1)) aNil)) (aCons (eLst (aCons (eC (.int 1)) aNil)) (aCons (eLst (aCons (eC (.int 1)) aNil)) (aCons (eLst (aCons (eC (.int 2)) aNil)) (aCons (eLst (aCons (eC (.int 2)) aNil)) (aCons (eLst (aCons (eC (.int 2)) aNil)) aNil)))))))) τ = some (.dic plKs plVs) := rfl
theorem disp_ma (τ : SEnv) : eDisp ["addc", "subc"] (aCons (eLst (aCons (eC (.str "carry")) aNil)) (aCons (eLst (aCons (eC (.str "carry")) aNil)) aNil)) τ = some (.dic mkKs mkVs) := rfl
theorem ixa {a : D} {r : List D} : fIx (.tup (a :: r)) (.int 0) = some a := rfl
theorem ixb {a b : D} {r : List D} : fIx (.tup (a :: b :: r)) (.int 1) = some b := rfl
theorem ixc {a b c : D} {r : List D} : fIx (.tup (a :: b :: c :: r)) (.int 2) = some c := rfl
theorem lp : fIx (.lst [.lst [.int 1], .lst []]) (.int (if false = true then 1 else 0)) = some (.lst [.int 1]) ∧ fIx (.lst [.lst [.int 1], .lst []]) (.int (if true = true then 1 else 0)) = some (.lst []) ∧ fIx (.lst [.lst [.int 1], .lst []]) (.int (if True then 1 else 0)) = some (.lst []) := ⟨by rfl, by rfl, by simp only [if_true]; rfl⟩
theorem or0 : Builtin.bitOr 0 256 = 256 ∧ Builtin.bitOr 0 512 = 512 ∧ Builtin.bitOr 0 1024 = 1024 := ⟨by decide +kernel, by decide +kernel, by decide +kernel⟩
/-- used and put, and what the law says of them, are alike -/
def Alike (r : D) : Prop := ∃ u p : Int, F_used [r] = some (false, .int u) ∧ F_law_used [r] = some (false, .int u) ∧ F_put [r] = some (false, .int p) ∧ F_law_put [r] = some (false, .int p)
theorem int_eq {i j : Int} (h : i = j) : fEq (.int i) (.int j) = some (.bl true) := by
  subst h
  show some (D.bl (i == i)) = _
  rw [beq_self_eq_true]
theorem int_ne {i j : Int} (h : i ≠ j) : fEq (.int i) (.int j) = some (.bl false) := by
  show some (D.bl (i == j)) = _
  rw [beq_eq_false_iff_ne.mpr h]
theorem or_turn {d : Int} (h0 : 0 ≤ d) (h1 : d < 8) : Builtin.bitOr (Builtin.bitOr (Builtin.bitOr (Builtin.bitOr 0 (1 * 2 ^ d.toNat)) 512) 1024) 256 = Builtin.bitOr (Builtin.bitOr (Builtin.bitOr (Builtin.bitOr 0 (1 * 2 ^ d.toNat)) 256) 512) 1024 := by
  rcases (show d = 0 ∨ d = 1 ∨ d = 2 ∨ d = 3 ∨ d = 4 ∨ d = 5 ∨ d = 6 ∨ d = 7 by omega) with rfl | rfl | rfl | rfl | rfl | rfl | rfl | rfl <;> decide +kernel
theorem or_test : Builtin.bitOr (Builtin.bitOr (Builtin.bitOr 0 512) 1024) 256 = Builtin.bitOr (Builtin.bitOr (Builtin.bitOr 0 256) 512) 1024 := by decide +kernel
theorem fx_copy : fEq (.str "copy") (.str "stop") = some (.bl false) ∧ fEq (.str "copy") (.str "when") = some (.bl false) ∧ fEq (.str "copy") (.str "unless") = some (.bl false) ∧ fEq (.str "copy") (.str "left") = some (.bl false) ∧ fEq (.str "copy") (.str "right") = some (.bl false) ∧ fEq (.str "copy") (.str "test") = some (.bl false) ∧ fIn (.str "copy") gt_LOOK_AT_D = some (.bl false) ∧ fIn (.str "copy") gt_LOOK_AT_S = some (.bl true) ∧ fIn (.str "copy") gt_LOOK_AT_CARRY = some (.bl false) ∧ fIn (.str "copy") gt_PUT_D = some (.bl true) ∧ fIn (.str "copy") gt_PUT_NOUGHT_AND_SIGN = some (.bl false) ∧ fIn (.str "copy") gt_PUT_CARRY = some (.bl false) ∧ fIn (.str "copy") (.tup [.str "when", .str "unless"]) = some (.bl false) ∧ fIn (.str "copy") (.tup [.str "jump", .str "when", .str "unless", .str "stop", .str "store", .str "storew"]) = some (.bl false) ∧ fIn (.str "copy") (.tup [.str "and", .str "or", .str "xor", .str "left", .str "right"]) = some (.bl false) ∧ fIn (.str "copy") (.tup [.str "add", .str "addc", .str "sub", .str "subc", .str "test"]) = some (.bl false) ∧ fIn (.str "copy") (.tup [.str "left", .str "right"]) = some (.bl false) ∧ getK plKs plVs (.inr "copy") = some (.lst [.int 2]) ∧ getK mkKs mkVs (.inr "copy") = none := ⟨by rfl, by rfl, by rfl, by rfl, by rfl, by rfl, by rfl, by rfl, by rfl, by rfl, by rfl, by rfl, by rfl, by rfl, by rfl, by rfl, by rfl, by rfl, by rfl⟩
theorem fx_add : fEq (.str "add") (.str "stop") = some (.bl false) ∧ fEq (.str "add") (.str "when") = some (.bl false) ∧ fEq (.str "add") (.str "unless") = some (.bl false) ∧ fEq (.str "add") (.str "left") = some (.bl false) ∧ fEq (.str "add") (.str "right") = some (.bl false) ∧ fEq (.str "add") (.str "test") = some (.bl false) ∧ fIn (.str "add") gt_LOOK_AT_D = some (.bl true) ∧ fIn (.str "add") gt_LOOK_AT_S = some (.bl true) ∧ fIn (.str "add") gt_LOOK_AT_CARRY = some (.bl false) ∧ fIn (.str "add") gt_PUT_D = some (.bl true) ∧ fIn (.str "add") gt_PUT_NOUGHT_AND_SIGN = some (.bl true) ∧ fIn (.str "add") gt_PUT_CARRY = some (.bl true) ∧ fIn (.str "add") (.tup [.str "when", .str "unless"]) = some (.bl false) ∧ fIn (.str "add") (.tup [.str "jump", .str "when", .str "unless", .str "stop", .str "store", .str "storew"]) = some (.bl false) ∧ fIn (.str "add") (.tup [.str "and", .str "or", .str "xor", .str "left", .str "right"]) = some (.bl false) ∧ fIn (.str "add") (.tup [.str "add", .str "addc", .str "sub", .str "subc", .str "test"]) = some (.bl true) ∧ fIn (.str "add") (.tup [.str "left", .str "right"]) = some (.bl false) ∧ getK plKs plVs (.inr "add") = none ∧ getK mkKs mkVs (.inr "add") = none := ⟨by rfl, by rfl, by rfl, by rfl, by rfl, by rfl, by rfl, by rfl, by rfl, by rfl, by rfl, by rfl, by rfl, by rfl, by rfl, by rfl, by rfl, by rfl, by rfl⟩
theorem fx_addc : fEq (.str "addc") (.str "stop") = some (.bl false) ∧ fEq (.str "addc") (.str "when") = some (.bl false) ∧ fEq (.str "addc") (.str "unless") = some (.bl false) ∧ fEq (.str "addc") (.str "left") = some (.bl false) ∧ fEq (.str "addc") (.str "right") = some (.bl false) ∧ fEq (.str "addc") (.str "test") = some (.bl false) ∧ fIn (.str "addc") gt_LOOK_AT_D = some (.bl true) ∧ fIn (.str "addc") gt_LOOK_AT_S = some (.bl true) ∧ fIn (.str "addc") gt_LOOK_AT_CARRY = some (.bl true) ∧ fIn (.str "addc") gt_PUT_D = some (.bl true) ∧ fIn (.str "addc") gt_PUT_NOUGHT_AND_SIGN = some (.bl true) ∧ fIn (.str "addc") gt_PUT_CARRY = some (.bl true) ∧ fIn (.str "addc") (.tup [.str "when", .str "unless"]) = some (.bl false) ∧ fIn (.str "addc") (.tup [.str "jump", .str "when", .str "unless", .str "stop", .str "store", .str "storew"]) = some (.bl false) ∧ fIn (.str "addc") (.tup [.str "and", .str "or", .str "xor", .str "left", .str "right"]) = some (.bl false) ∧ fIn (.str "addc") (.tup [.str "add", .str "addc", .str "sub", .str "subc", .str "test"]) = some (.bl true) ∧ fIn (.str "addc") (.tup [.str "left", .str "right"]) = some (.bl false) ∧ getK plKs plVs (.inr "addc") = none ∧ getK mkKs mkVs (.inr "addc") = some (.lst [.str "carry"]) := ⟨by rfl, by rfl, by rfl, by rfl, by rfl, by rfl, by rfl, by rfl, by rfl, by rfl, by rfl, by rfl, by rfl, by rfl, by rfl, by rfl, by rfl, by rfl, by rfl⟩
theorem fx_sub : fEq (.str "sub") (.str "stop") = some (.bl false) ∧ fEq (.str "sub") (.str "when") = some (.bl false) ∧ fEq (.str "sub") (.str "unless") = some (.bl false) ∧ fEq (.str "sub") (.str "left") = some (.bl false) ∧ fEq (.str "sub") (.str "right") = some (.bl false) ∧ fEq (.str "sub") (.str "test") = some (.bl false) ∧ fIn (.str "sub") gt_LOOK_AT_D = some (.bl true) ∧ fIn (.str "sub") gt_LOOK_AT_S = some (.bl true) ∧ fIn (.str "sub") gt_LOOK_AT_CARRY = some (.bl false) ∧ fIn (.str "sub") gt_PUT_D = some (.bl true) ∧ fIn (.str "sub") gt_PUT_NOUGHT_AND_SIGN = some (.bl true) ∧ fIn (.str "sub") gt_PUT_CARRY = some (.bl true) ∧ fIn (.str "sub") (.tup [.str "when", .str "unless"]) = some (.bl false) ∧ fIn (.str "sub") (.tup [.str "jump", .str "when", .str "unless", .str "stop", .str "store", .str "storew"]) = some (.bl false) ∧ fIn (.str "sub") (.tup [.str "and", .str "or", .str "xor", .str "left", .str "right"]) = some (.bl false) ∧ fIn (.str "sub") (.tup [.str "add", .str "addc", .str "sub", .str "subc", .str "test"]) = some (.bl true) ∧ fIn (.str "sub") (.tup [.str "left", .str "right"]) = some (.bl false) ∧ getK plKs plVs (.inr "sub") = none ∧ getK mkKs mkVs (.inr "sub") = none := ⟨by rfl, by rfl, by rfl, by rfl, by rfl, by rfl, by rfl, by rfl, by rfl, by rfl, by rfl, by rfl, by rfl, by rfl, by rfl, by rfl, by rfl, by rfl, by rfl⟩
theorem fx_subc : fEq (.str "subc") (.str "stop") = some (.bl false) ∧ fEq (.str "subc") (.str "when") = some (.bl false) ∧ fEq (.str "subc") (.str "unless") = some (.bl false) ∧ fEq (.str "subc") (.str "left") = some (.bl false) ∧ fEq (.str "subc") (.str "right") = some (.bl false) ∧ fEq (.str "subc") (.str "test") = some (.bl false) ∧ fIn (.str "subc") gt_LOOK_AT_D = some (.bl true) ∧ fIn (.str "subc") gt_LOOK_AT_S = some (.bl true) ∧ fIn (.str "subc") gt_LOOK_AT_CARRY = some (.bl true) ∧ fIn (.str "subc") gt_PUT_D = some (.bl true) ∧ fIn (.str "subc") gt_PUT_NOUGHT_AND_SIGN = some (.bl true) ∧ fIn (.str "subc") gt_PUT_CARRY = some (.bl true) ∧ fIn (.str "subc") (.tup [.str "when", .str "unless"]) = some (.bl false) ∧ fIn (.str "subc") (.tup [.str "jump", .str "when", .str "unless", .str "stop", .str "store", .str "storew"]) = some (.bl false) ∧ fIn (.str "subc") (.tup [.str "and", .str "or", .str "xor", .str "left", .str "right"]) = some (.bl false) ∧ fIn (.str "subc") (.tup [.str "add", .str "addc", .str "sub", .str "subc", .str "test"]) = some (.bl true) ∧ fIn (.str "subc") (.tup [.str "left", .str "right"]) = some (.bl false) ∧ getK plKs plVs (.inr "subc") = none ∧ getK mkKs mkVs (.inr "subc") = some (.lst [.str "carry"]) := ⟨by rfl, by rfl, by rfl, by rfl, by rfl, by rfl, by rfl, by rfl, by rfl, by rfl, by rfl, by rfl, by rfl, by rfl, by rfl, by rfl, by rfl, by rfl, by rfl⟩
theorem fx_and : fEq (.str "and") (.str "stop") = some (.bl false) ∧ fEq (.str "and") (.str "when") = some (.bl false) ∧ fEq (.str "and") (.str "unless") = some (.bl false) ∧ fEq (.str "and") (.str "left") = some (.bl false) ∧ fEq (.str "and") (.str "right") = some (.bl false) ∧ fEq (.str "and") (.str "test") = some (.bl false) ∧ fIn (.str "and") gt_LOOK_AT_D = some (.bl true) ∧ fIn (.str "and") gt_LOOK_AT_S = some (.bl true) ∧ fIn (.str "and") gt_LOOK_AT_CARRY = some (.bl false) ∧ fIn (.str "and") gt_PUT_D = some (.bl true) ∧ fIn (.str "and") gt_PUT_NOUGHT_AND_SIGN = some (.bl true) ∧ fIn (.str "and") gt_PUT_CARRY = some (.bl false) ∧ fIn (.str "and") (.tup [.str "when", .str "unless"]) = some (.bl false) ∧ fIn (.str "and") (.tup [.str "jump", .str "when", .str "unless", .str "stop", .str "store", .str "storew"]) = some (.bl false) ∧ fIn (.str "and") (.tup [.str "and", .str "or", .str "xor", .str "left", .str "right"]) = some (.bl true) ∧ fIn (.str "and") (.tup [.str "add", .str "addc", .str "sub", .str "subc", .str "test"]) = some (.bl false) ∧ fIn (.str "and") (.tup [.str "left", .str "right"]) = some (.bl false) ∧ getK plKs plVs (.inr "and") = none ∧ getK mkKs mkVs (.inr "and") = none := ⟨by rfl, by rfl, by rfl, by rfl, by rfl, by rfl, by rfl, by rfl, by rfl, by rfl, by rfl, by rfl, by rfl, by rfl, by rfl, by rfl, by rfl, by rfl, by rfl⟩
theorem fx_or : fEq (.str "or") (.str "stop") = some (.bl false) ∧ fEq (.str "or") (.str "when") = some (.bl false) ∧ fEq (.str "or") (.str "unless") = some (.bl false) ∧ fEq (.str "or") (.str "left") = some (.bl false) ∧ fEq (.str "or") (.str "right") = some (.bl false) ∧ fEq (.str "or") (.str "test") = some (.bl false) ∧ fIn (.str "or") gt_LOOK_AT_D = some (.bl true) ∧ fIn (.str "or") gt_LOOK_AT_S = some (.bl true) ∧ fIn (.str "or") gt_LOOK_AT_CARRY = some (.bl false) ∧ fIn (.str "or") gt_PUT_D = some (.bl true) ∧ fIn (.str "or") gt_PUT_NOUGHT_AND_SIGN = some (.bl true) ∧ fIn (.str "or") gt_PUT_CARRY = some (.bl false) ∧ fIn (.str "or") (.tup [.str "when", .str "unless"]) = some (.bl false) ∧ fIn (.str "or") (.tup [.str "jump", .str "when", .str "unless", .str "stop", .str "store", .str "storew"]) = some (.bl false) ∧ fIn (.str "or") (.tup [.str "and", .str "or", .str "xor", .str "left", .str "right"]) = some (.bl true) ∧ fIn (.str "or") (.tup [.str "add", .str "addc", .str "sub", .str "subc", .str "test"]) = some (.bl false) ∧ fIn (.str "or") (.tup [.str "left", .str "right"]) = some (.bl false) ∧ getK plKs plVs (.inr "or") = none ∧ getK mkKs mkVs (.inr "or") = none := ⟨by rfl, by rfl, by rfl, by rfl, by rfl, by rfl, by rfl, by rfl, by rfl, by rfl, by rfl, by rfl, by rfl, by rfl, by rfl, by rfl, by rfl, by rfl, by rfl⟩
theorem fx_xor : fEq (.str "xor") (.str "stop") = some (.bl false) ∧ fEq (.str "xor") (.str "when") = some (.bl false) ∧ fEq (.str "xor") (.str "unless") = some (.bl false) ∧ fEq (.str "xor") (.str "left") = some (.bl false) ∧ fEq (.str "xor") (.str "right") = some (.bl false) ∧ fEq (.str "xor") (.str "test") = some (.bl false) ∧ fIn (.str "xor") gt_LOOK_AT_D = some (.bl true) ∧ fIn (.str "xor") gt_LOOK_AT_S = some (.bl true) ∧ fIn (.str "xor") gt_LOOK_AT_CARRY = some (.bl false) ∧ fIn (.str "xor") gt_PUT_D = some (.bl true) ∧ fIn (.str "xor") gt_PUT_NOUGHT_AND_SIGN = some (.bl true) ∧ fIn (.str "xor") gt_PUT_CARRY = some (.bl false) ∧ fIn (.str "xor") (.tup [.str "when", .str "unless"]) = some (.bl false) ∧ fIn (.str "xor") (.tup [.str "jump", .str "when", .str "unless", .str "stop", .str "store", .str "storew"]) = some (.bl false) ∧ fIn (.str "xor") (.tup [.str "and", .str "or", .str "xor", .str "left", .str "right"]) = some (.bl true) ∧ fIn (.str "xor") (.tup [.str "add", .str "addc", .str "sub", .str "subc", .str "test"]) = some (.bl false) ∧ fIn (.str "xor") (.tup [.str "left", .str "right"]) = some (.bl false) ∧ getK plKs plVs (.inr "xor") = none ∧ getK mkKs mkVs (.inr "xor") = none := ⟨by rfl, by rfl, by rfl, by rfl, by rfl, by rfl, by rfl, by rfl, by rfl, by rfl, by rfl, by rfl, by rfl, by rfl, by rfl, by rfl, by rfl, by rfl, by rfl⟩
theorem fx_test : fEq (.str "test") (.str "stop") = some (.bl false) ∧ fEq (.str "test") (.str "when") = some (.bl false) ∧ fEq (.str "test") (.str "unless") = some (.bl false) ∧ fEq (.str "test") (.str "left") = some (.bl false) ∧ fEq (.str "test") (.str "right") = some (.bl false) ∧ fEq (.str "test") (.str "test") = some (.bl true) ∧ fIn (.str "test") gt_LOOK_AT_D = some (.bl true) ∧ fIn (.str "test") gt_LOOK_AT_S = some (.bl true) ∧ fIn (.str "test") gt_LOOK_AT_CARRY = some (.bl false) ∧ fIn (.str "test") gt_PUT_D = some (.bl false) ∧ fIn (.str "test") gt_PUT_NOUGHT_AND_SIGN = some (.bl true) ∧ fIn (.str "test") gt_PUT_CARRY = some (.bl true) ∧ fIn (.str "test") (.tup [.str "when", .str "unless"]) = some (.bl false) ∧ fIn (.str "test") (.tup [.str "jump", .str "when", .str "unless", .str "stop", .str "store", .str "storew"]) = some (.bl false) ∧ fIn (.str "test") (.tup [.str "and", .str "or", .str "xor", .str "left", .str "right"]) = some (.bl false) ∧ fIn (.str "test") (.tup [.str "add", .str "addc", .str "sub", .str "subc", .str "test"]) = some (.bl true) ∧ fIn (.str "test") (.tup [.str "left", .str "right"]) = some (.bl false) ∧ getK plKs plVs (.inr "test") = none ∧ getK mkKs mkVs (.inr "test") = none := ⟨by rfl, by rfl, by rfl, by rfl, by rfl, by rfl, by rfl, by rfl, by rfl, by rfl, by rfl, by rfl, by rfl, by rfl, by rfl, by rfl, by rfl, by rfl, by rfl⟩
theorem fx_set : fEq (.str "set") (.str "stop") = some (.bl false) ∧ fEq (.str "set") (.str "when") = some (.bl false) ∧ fEq (.str "set") (.str "unless") = some (.bl false) ∧ fEq (.str "set") (.str "left") = some (.bl false) ∧ fEq (.str "set") (.str "right") = some (.bl false) ∧ fEq (.str "set") (.str "test") = some (.bl false) ∧ fIn (.str "set") gt_LOOK_AT_D = some (.bl false) ∧ fIn (.str "set") gt_LOOK_AT_S = some (.bl false) ∧ fIn (.str "set") gt_LOOK_AT_CARRY = some (.bl false) ∧ fIn (.str "set") gt_PUT_D = some (.bl true) ∧ fIn (.str "set") gt_PUT_NOUGHT_AND_SIGN = some (.bl false) ∧ fIn (.str "set") gt_PUT_CARRY = some (.bl false) ∧ fIn (.str "set") (.tup [.str "when", .str "unless"]) = some (.bl false) ∧ fIn (.str "set") (.tup [.str "jump", .str "when", .str "unless", .str "stop", .str "store", .str "storew"]) = some (.bl false) ∧ fIn (.str "set") (.tup [.str "and", .str "or", .str "xor", .str "left", .str "right"]) = some (.bl false) ∧ fIn (.str "set") (.tup [.str "add", .str "addc", .str "sub", .str "subc", .str "test"]) = some (.bl false) ∧ fIn (.str "set") (.tup [.str "left", .str "right"]) = some (.bl false) ∧ getK plKs plVs (.inr "set") = some (.lst []) ∧ getK mkKs mkVs (.inr "set") = none := ⟨by rfl, by rfl, by rfl, by rfl, by rfl, by rfl, by rfl, by rfl, by rfl, by rfl, by rfl, by rfl, by rfl, by rfl, by rfl, by rfl, by rfl, by rfl, by rfl⟩
theorem fx_high : fEq (.str "high") (.str "stop") = some (.bl false) ∧ fEq (.str "high") (.str "when") = some (.bl false) ∧ fEq (.str "high") (.str "unless") = some (.bl false) ∧ fEq (.str "high") (.str "left") = some (.bl false) ∧ fEq (.str "high") (.str "right") = some (.bl false) ∧ fEq (.str "high") (.str "test") = some (.bl false) ∧ fIn (.str "high") gt_LOOK_AT_D = some (.bl true) ∧ fIn (.str "high") gt_LOOK_AT_S = some (.bl false) ∧ fIn (.str "high") gt_LOOK_AT_CARRY = some (.bl false) ∧ fIn (.str "high") gt_PUT_D = some (.bl true) ∧ fIn (.str "high") gt_PUT_NOUGHT_AND_SIGN = some (.bl false) ∧ fIn (.str "high") gt_PUT_CARRY = some (.bl false) ∧ fIn (.str "high") (.tup [.str "when", .str "unless"]) = some (.bl false) ∧ fIn (.str "high") (.tup [.str "jump", .str "when", .str "unless", .str "stop", .str "store", .str "storew"]) = some (.bl false) ∧ fIn (.str "high") (.tup [.str "and", .str "or", .str "xor", .str "left", .str "right"]) = some (.bl false) ∧ fIn (.str "high") (.tup [.str "add", .str "addc", .str "sub", .str "subc", .str "test"]) = some (.bl false) ∧ fIn (.str "high") (.tup [.str "left", .str "right"]) = some (.bl false) ∧ getK plKs plVs (.inr "high") = some (.lst [.int 1]) ∧ getK mkKs mkVs (.inr "high") = none := ⟨by rfl, by rfl, by rfl, by rfl, by rfl, by rfl, by rfl, by rfl, by rfl, by rfl, by rfl, by rfl, by rfl, by rfl, by rfl, by rfl, by rfl, by rfl, by rfl⟩
theorem fx_left : fEq (.str "left") (.str "stop") = some (.bl false) ∧ fEq (.str "left") (.str "when") = some (.bl false) ∧ fEq (.str "left") (.str "unless") = some (.bl false) ∧ fEq (.str "left") (.str "left") = some (.bl true) ∧ fEq (.str "left") (.str "right") = some (.bl false) ∧ fEq (.str "left") (.str "test") = some (.bl false) ∧ fIn (.str "left") gt_LOOK_AT_D = some (.bl true) ∧ fIn (.str "left") gt_LOOK_AT_S = some (.bl false) ∧ fIn (.str "left") gt_LOOK_AT_CARRY = some (.bl false) ∧ fIn (.str "left") gt_PUT_D = some (.bl true) ∧ fIn (.str "left") gt_PUT_NOUGHT_AND_SIGN = some (.bl true) ∧ fIn (.str "left") gt_PUT_CARRY = some (.bl true) ∧ fIn (.str "left") (.tup [.str "when", .str "unless"]) = some (.bl false) ∧ fIn (.str "left") (.tup [.str "jump", .str "when", .str "unless", .str "stop", .str "store", .str "storew"]) = some (.bl false) ∧ fIn (.str "left") (.tup [.str "and", .str "or", .str "xor", .str "left", .str "right"]) = some (.bl true) ∧ fIn (.str "left") (.tup [.str "add", .str "addc", .str "sub", .str "subc", .str "test"]) = some (.bl false) ∧ fIn (.str "left") (.tup [.str "left", .str "right"]) = some (.bl true) ∧ getK plKs plVs (.inr "left") = some (.lst [.int 1]) ∧ getK mkKs mkVs (.inr "left") = none := ⟨by rfl, by rfl, by rfl, by rfl, by rfl, by rfl, by rfl, by rfl, by rfl, by rfl, by rfl, by rfl, by rfl, by rfl, by rfl, by rfl, by rfl, by rfl, by rfl⟩
theorem fx_right : fEq (.str "right") (.str "stop") = some (.bl false) ∧ fEq (.str "right") (.str "when") = some (.bl false) ∧ fEq (.str "right") (.str "unless") = some (.bl false) ∧ fEq (.str "right") (.str "left") = some (.bl false) ∧ fEq (.str "right") (.str "right") = some (.bl true) ∧ fEq (.str "right") (.str "test") = some (.bl false) ∧ fIn (.str "right") gt_LOOK_AT_D = some (.bl true) ∧ fIn (.str "right") gt_LOOK_AT_S = some (.bl false) ∧ fIn (.str "right") gt_LOOK_AT_CARRY = some (.bl false) ∧ fIn (.str "right") gt_PUT_D = some (.bl true) ∧ fIn (.str "right") gt_PUT_NOUGHT_AND_SIGN = some (.bl true) ∧ fIn (.str "right") gt_PUT_CARRY = some (.bl true) ∧ fIn (.str "right") (.tup [.str "when", .str "unless"]) = some (.bl false) ∧ fIn (.str "right") (.tup [.str "jump", .str "when", .str "unless", .str "stop", .str "store", .str "storew"]) = some (.bl false) ∧ fIn (.str "right") (.tup [.str "and", .str "or", .str "xor", .str "left", .str "right"]) = some (.bl true) ∧ fIn (.str "right") (.tup [.str "add", .str "addc", .str "sub", .str "subc", .str "test"]) = some (.bl false) ∧ fIn (.str "right") (.tup [.str "left", .str "right"]) = some (.bl true) ∧ getK plKs plVs (.inr "right") = some (.lst [.int 1]) ∧ getK mkKs mkVs (.inr "right") = none := ⟨by rfl, by rfl, by rfl, by rfl, by rfl, by rfl, by rfl, by rfl, by rfl, by rfl, by rfl, by rfl, by rfl, by rfl, by rfl, by rfl, by rfl, by rfl, by rfl⟩
theorem fx_load : fEq (.str "load") (.str "stop") = some (.bl false) ∧ fEq (.str "load") (.str "when") = some (.bl false) ∧ fEq (.str "load") (.str "unless") = some (.bl false) ∧ fEq (.str "load") (.str "left") = some (.bl false) ∧ fEq (.str "load") (.str "right") = some (.bl false) ∧ fEq (.str "load") (.str "test") = some (.bl false) ∧ fIn (.str "load") gt_LOOK_AT_D = some (.bl false) ∧ fIn (.str "load") gt_LOOK_AT_S = some (.bl true) ∧ fIn (.str "load") gt_LOOK_AT_CARRY = some (.bl false) ∧ fIn (.str "load") gt_PUT_D = some (.bl true) ∧ fIn (.str "load") gt_PUT_NOUGHT_AND_SIGN = some (.bl false) ∧ fIn (.str "load") gt_PUT_CARRY = some (.bl false) ∧ fIn (.str "load") (.tup [.str "when", .str "unless"]) = some (.bl false) ∧ fIn (.str "load") (.tup [.str "jump", .str "when", .str "unless", .str "stop", .str "store", .str "storew"]) = some (.bl false) ∧ fIn (.str "load") (.tup [.str "and", .str "or", .str "xor", .str "left", .str "right"]) = some (.bl false) ∧ fIn (.str "load") (.tup [.str "add", .str "addc", .str "sub", .str "subc", .str "test"]) = some (.bl false) ∧ fIn (.str "load") (.tup [.str "left", .str "right"]) = some (.bl false) ∧ getK plKs plVs (.inr "load") = some (.lst [.int 2]) ∧ getK mkKs mkVs (.inr "load") = none := ⟨by rfl, by rfl, by rfl, by rfl, by rfl, by rfl, by rfl, by rfl, by rfl, by rfl, by rfl, by rfl, by rfl, by rfl, by rfl, by rfl, by rfl, by rfl, by rfl⟩
theorem fx_store : fEq (.str "store") (.str "stop") = some (.bl false) ∧ fEq (.str "store") (.str "when") = some (.bl false) ∧ fEq (.str "store") (.str "unless") = some (.bl false) ∧ fEq (.str "store") (.str "left") = some (.bl false) ∧ fEq (.str "store") (.str "right") = some (.bl false) ∧ fEq (.str "store") (.str "test") = some (.bl false) ∧ fIn (.str "store") gt_LOOK_AT_D = some (.bl true) ∧ fIn (.str "store") gt_LOOK_AT_S = some (.bl true) ∧ fIn (.str "store") gt_LOOK_AT_CARRY = some (.bl false) ∧ fIn (.str "store") gt_PUT_D = some (.bl false) ∧ fIn (.str "store") gt_PUT_NOUGHT_AND_SIGN = some (.bl false) ∧ fIn (.str "store") gt_PUT_CARRY = some (.bl false) ∧ fIn (.str "store") (.tup [.str "when", .str "unless"]) = some (.bl false) ∧ fIn (.str "store") (.tup [.str "jump", .str "when", .str "unless", .str "stop", .str "store", .str "storew"]) = some (.bl true) ∧ fIn (.str "store") (.tup [.str "and", .str "or", .str "xor", .str "left", .str "right"]) = some (.bl false) ∧ fIn (.str "store") (.tup [.str "add", .str "addc", .str "sub", .str "subc", .str "test"]) = some (.bl false) ∧ fIn (.str "store") (.tup [.str "left", .str "right"]) = some (.bl false) ∧ getK plKs plVs (.inr "store") = none ∧ getK mkKs mkVs (.inr "store") = none := ⟨by rfl, by rfl, by rfl, by rfl, by rfl, by rfl, by rfl, by rfl, by rfl, by rfl, by rfl, by rfl, by rfl, by rfl, by rfl, by rfl, by rfl, by rfl, by rfl⟩
theorem fx_loadw : fEq (.str "loadw") (.str "stop") = some (.bl false) ∧ fEq (.str "loadw") (.str "when") = some (.bl false) ∧ fEq (.str "loadw") (.str "unless") = some (.bl false) ∧ fEq (.str "loadw") (.str "left") = some (.bl false) ∧ fEq (.str "loadw") (.str "right") = some (.bl false) ∧ fEq (.str "loadw") (.str "test") = some (.bl false) ∧ fIn (.str "loadw") gt_LOOK_AT_D = some (.bl false) ∧ fIn (.str "loadw") gt_LOOK_AT_S = some (.bl true) ∧ fIn (.str "loadw") gt_LOOK_AT_CARRY = some (.bl false) ∧ fIn (.str "loadw") gt_PUT_D = some (.bl true) ∧ fIn (.str "loadw") gt_PUT_NOUGHT_AND_SIGN = some (.bl false) ∧ fIn (.str "loadw") gt_PUT_CARRY = some (.bl false) ∧ fIn (.str "loadw") (.tup [.str "when", .str "unless"]) = some (.bl false) ∧ fIn (.str "loadw") (.tup [.str "jump", .str "when", .str "unless", .str "stop", .str "store", .str "storew"]) = some (.bl false) ∧ fIn (.str "loadw") (.tup [.str "and", .str "or", .str "xor", .str "left", .str "right"]) = some (.bl false) ∧ fIn (.str "loadw") (.tup [.str "add", .str "addc", .str "sub", .str "subc", .str "test"]) = some (.bl false) ∧ fIn (.str "loadw") (.tup [.str "left", .str "right"]) = some (.bl false) ∧ getK plKs plVs (.inr "loadw") = some (.lst [.int 2]) ∧ getK mkKs mkVs (.inr "loadw") = none := ⟨by rfl, by rfl, by rfl, by rfl, by rfl, by rfl, by rfl, by rfl, by rfl, by rfl, by rfl, by rfl, by rfl, by rfl, by rfl, by rfl, by rfl, by rfl, by rfl⟩
theorem fx_storew : fEq (.str "storew") (.str "stop") = some (.bl false) ∧ fEq (.str "storew") (.str "when") = some (.bl false) ∧ fEq (.str "storew") (.str "unless") = some (.bl false) ∧ fEq (.str "storew") (.str "left") = some (.bl false) ∧ fEq (.str "storew") (.str "right") = some (.bl false) ∧ fEq (.str "storew") (.str "test") = some (.bl false) ∧ fIn (.str "storew") gt_LOOK_AT_D = some (.bl true) ∧ fIn (.str "storew") gt_LOOK_AT_S = some (.bl true) ∧ fIn (.str "storew") gt_LOOK_AT_CARRY = some (.bl false) ∧ fIn (.str "storew") gt_PUT_D = some (.bl false) ∧ fIn (.str "storew") gt_PUT_NOUGHT_AND_SIGN = some (.bl false) ∧ fIn (.str "storew") gt_PUT_CARRY = some (.bl false) ∧ fIn (.str "storew") (.tup [.str "when", .str "unless"]) = some (.bl false) ∧ fIn (.str "storew") (.tup [.str "jump", .str "when", .str "unless", .str "stop", .str "store", .str "storew"]) = some (.bl true) ∧ fIn (.str "storew") (.tup [.str "and", .str "or", .str "xor", .str "left", .str "right"]) = some (.bl false) ∧ fIn (.str "storew") (.tup [.str "add", .str "addc", .str "sub", .str "subc", .str "test"]) = some (.bl false) ∧ fIn (.str "storew") (.tup [.str "left", .str "right"]) = some (.bl false) ∧ getK plKs plVs (.inr "storew") = none ∧ getK mkKs mkVs (.inr "storew") = none := ⟨by rfl, by rfl, by rfl, by rfl, by rfl, by rfl, by rfl, by rfl, by rfl, by rfl, by rfl, by rfl, by rfl, by rfl, by rfl, by rfl, by rfl, by rfl, by rfl⟩
theorem fx_jump : fEq (.str "jump") (.str "stop") = some (.bl false) ∧ fEq (.str "jump") (.str "when") = some (.bl false) ∧ fEq (.str "jump") (.str "unless") = some (.bl false) ∧ fEq (.str "jump") (.str "left") = some (.bl false) ∧ fEq (.str "jump") (.str "right") = some (.bl false) ∧ fEq (.str "jump") (.str "test") = some (.bl false) ∧ fIn (.str "jump") gt_LOOK_AT_D = some (.bl false) ∧ fIn (.str "jump") gt_LOOK_AT_S = some (.bl false) ∧ fIn (.str "jump") gt_LOOK_AT_CARRY = some (.bl false) ∧ fIn (.str "jump") gt_PUT_D = some (.bl false) ∧ fIn (.str "jump") gt_PUT_NOUGHT_AND_SIGN = some (.bl false) ∧ fIn (.str "jump") gt_PUT_CARRY = some (.bl false) ∧ fIn (.str "jump") (.tup [.str "when", .str "unless"]) = some (.bl false) ∧ fIn (.str "jump") (.tup [.str "jump", .str "when", .str "unless", .str "stop", .str "store", .str "storew"]) = some (.bl true) ∧ fIn (.str "jump") (.tup [.str "and", .str "or", .str "xor", .str "left", .str "right"]) = some (.bl false) ∧ fIn (.str "jump") (.tup [.str "add", .str "addc", .str "sub", .str "subc", .str "test"]) = some (.bl false) ∧ fIn (.str "jump") (.tup [.str "left", .str "right"]) = some (.bl false) ∧ getK plKs plVs (.inr "jump") = some (.lst []) ∧ getK mkKs mkVs (.inr "jump") = none := ⟨by rfl, by rfl, by rfl, by rfl, by rfl, by rfl, by rfl, by rfl, by rfl, by rfl, by rfl, by rfl, by rfl, by rfl, by rfl, by rfl, by rfl, by rfl, by rfl⟩
theorem fx_when : fEq (.str "when") (.str "stop") = some (.bl false) ∧ fEq (.str "when") (.str "when") = some (.bl true) ∧ fEq (.str "when") (.str "unless") = some (.bl false) ∧ fEq (.str "when") (.str "left") = some (.bl false) ∧ fEq (.str "when") (.str "right") = some (.bl false) ∧ fEq (.str "when") (.str "test") = some (.bl false) ∧ fIn (.str "when") gt_LOOK_AT_D = some (.bl false) ∧ fIn (.str "when") gt_LOOK_AT_S = some (.bl false) ∧ fIn (.str "when") gt_LOOK_AT_CARRY = some (.bl false) ∧ fIn (.str "when") gt_PUT_D = some (.bl false) ∧ fIn (.str "when") gt_PUT_NOUGHT_AND_SIGN = some (.bl false) ∧ fIn (.str "when") gt_PUT_CARRY = some (.bl false) ∧ fIn (.str "when") (.tup [.str "when", .str "unless"]) = some (.bl true) ∧ fIn (.str "when") (.tup [.str "jump", .str "when", .str "unless", .str "stop", .str "store", .str "storew"]) = some (.bl true) ∧ fIn (.str "when") (.tup [.str "and", .str "or", .str "xor", .str "left", .str "right"]) = some (.bl false) ∧ fIn (.str "when") (.tup [.str "add", .str "addc", .str "sub", .str "subc", .str "test"]) = some (.bl false) ∧ fIn (.str "when") (.tup [.str "left", .str "right"]) = some (.bl false) ∧ getK plKs plVs (.inr "when") = none ∧ getK mkKs mkVs (.inr "when") = none := ⟨by rfl, by rfl, by rfl, by rfl, by rfl, by rfl, by rfl, by rfl, by rfl, by rfl, by rfl, by rfl, by rfl, by rfl, by rfl, by rfl, by rfl, by rfl, by rfl⟩
theorem fx_unless : fEq (.str "unless") (.str "stop") = some (.bl false) ∧ fEq (.str "unless") (.str "when") = some (.bl false) ∧ fEq (.str "unless") (.str "unless") = some (.bl true) ∧ fEq (.str "unless") (.str "left") = some (.bl false) ∧ fEq (.str "unless") (.str "right") = some (.bl false) ∧ fEq (.str "unless") (.str "test") = some (.bl false) ∧ fIn (.str "unless") gt_LOOK_AT_D = some (.bl false) ∧ fIn (.str "unless") gt_LOOK_AT_S = some (.bl false) ∧ fIn (.str "unless") gt_LOOK_AT_CARRY = some (.bl false) ∧ fIn (.str "unless") gt_PUT_D = some (.bl false) ∧ fIn (.str "unless") gt_PUT_NOUGHT_AND_SIGN = some (.bl false) ∧ fIn (.str "unless") gt_PUT_CARRY = some (.bl false) ∧ fIn (.str "unless") (.tup [.str "when", .str "unless"]) = some (.bl true) ∧ fIn (.str "unless") (.tup [.str "jump", .str "when", .str "unless", .str "stop", .str "store", .str "storew"]) = some (.bl true) ∧ fIn (.str "unless") (.tup [.str "and", .str "or", .str "xor", .str "left", .str "right"]) = some (.bl false) ∧ fIn (.str "unless") (.tup [.str "add", .str "addc", .str "sub", .str "subc", .str "test"]) = some (.bl false) ∧ fIn (.str "unless") (.tup [.str "left", .str "right"]) = some (.bl false) ∧ getK plKs plVs (.inr "unless") = none ∧ getK mkKs mkVs (.inr "unless") = none := ⟨by rfl, by rfl, by rfl, by rfl, by rfl, by rfl, by rfl, by rfl, by rfl, by rfl, by rfl, by rfl, by rfl, by rfl, by rfl, by rfl, by rfl, by rfl, by rfl⟩
theorem fx_stop : fEq (.str "stop") (.str "stop") = some (.bl true) ∧ fEq (.str "stop") (.str "when") = some (.bl false) ∧ fEq (.str "stop") (.str "unless") = some (.bl false) ∧ fEq (.str "stop") (.str "left") = some (.bl false) ∧ fEq (.str "stop") (.str "right") = some (.bl false) ∧ fEq (.str "stop") (.str "test") = some (.bl false) ∧ fIn (.str "stop") gt_LOOK_AT_D = some (.bl false) ∧ fIn (.str "stop") gt_LOOK_AT_S = some (.bl false) ∧ fIn (.str "stop") gt_LOOK_AT_CARRY = some (.bl false) ∧ fIn (.str "stop") gt_PUT_D = some (.bl false) ∧ fIn (.str "stop") gt_PUT_NOUGHT_AND_SIGN = some (.bl false) ∧ fIn (.str "stop") gt_PUT_CARRY = some (.bl false) ∧ fIn (.str "stop") (.tup [.str "when", .str "unless"]) = some (.bl false) ∧ fIn (.str "stop") (.tup [.str "jump", .str "when", .str "unless", .str "stop", .str "store", .str "storew"]) = some (.bl true) ∧ fIn (.str "stop") (.tup [.str "and", .str "or", .str "xor", .str "left", .str "right"]) = some (.bl false) ∧ fIn (.str "stop") (.tup [.str "add", .str "addc", .str "sub", .str "subc", .str "test"]) = some (.bl false) ∧ fIn (.str "stop") (.tup [.str "left", .str "right"]) = some (.bl false) ∧ getK plKs plVs (.inr "stop") = none ∧ getK mkKs mkVs (.inr "stop") = none := ⟨by rfl, by rfl, by rfl, by rfl, by rfl, by rfl, by rfl, by rfl, by rfl, by rfl, by rfl, by rfl, by rfl, by rfl, by rfl, by rfl, by rfl, by rfl, by rfl⟩
theorem al_copy {d s : Int} (d0 : 0 ≤ d) (d1 : d < 8) (s0 : 0 ≤ s) (s1 : s < 8) : Alike (.tup [.str "copy", .int d, .int s]) := by
  refine ⟨(Builtin.bitOr 0 (1 * 2 ^ s.toNat)), (Builtin.bitOr 0 (1 * 2 ^ d.toNat)), ?_, ?_, ?_, ?_⟩
  · rw [go_used]
    unfold b_used
    simp only [shx, Nat.reduceAdd, Nat.reduceSub, Int.reduceLT, Int.reduceLE, Int.reducePow, Int.reduceToNat, Int.reduceAdd, Int.reduceSub, Int.reduceMul, Int.reduceNeg, lp, fx_copy, disp_mk, mk_ix, disp_pl, disp_ma, mb, ixa, ixb, ixc, eGet2, keyD, Option.getD, l_law_bits_1, l_law_bits_2, go_law_bits, b_law_bits, go_moves_by_nought, b_moves_by_nought, pow1 d0 d1, pow1 s0 s1]
  · rw [go_law_used]
    unfold b_law_used
    simp only [shx, Nat.reduceAdd, Nat.reduceSub, Int.reduceLT, Int.reduceLE, Int.reducePow, Int.reduceToNat, Int.reduceAdd, Int.reduceSub, Int.reduceMul, Int.reduceNeg, lp, fx_copy, disp_mk, mk_ix, disp_pl, disp_ma, mb, ixa, ixb, ixc, eGet2, keyD, Option.getD, l_law_bits_1, l_law_bits_2, go_law_bits, b_law_bits, go_moves_by_nought, b_moves_by_nought, pow1 d0 d1, pow1 s0 s1]
  · rw [go_put]
    unfold b_put
    simp only [shx, Nat.reduceAdd, Nat.reduceSub, Int.reduceLT, Int.reduceLE, Int.reducePow, Int.reduceToNat, Int.reduceAdd, Int.reduceSub, Int.reduceMul, Int.reduceNeg, lp, fx_copy, disp_mk, mk_ix, disp_pl, disp_ma, mb, ixa, ixb, ixc, eGet2, keyD, Option.getD, l_law_bits_1, l_law_bits_2, go_law_bits, b_law_bits, go_moves_by_nought, b_moves_by_nought, pow1 d0 d1, pow1 s0 s1]
  · rw [go_law_put]
    unfold b_law_put
    simp only [shx, Nat.reduceAdd, Nat.reduceSub, Int.reduceLT, Int.reduceLE, Int.reducePow, Int.reduceToNat, Int.reduceAdd, Int.reduceSub, Int.reduceMul, Int.reduceNeg, lp, fx_copy, disp_mk, mk_ix, disp_pl, disp_ma, mb, ixa, ixb, ixc, eGet2, keyD, Option.getD, l_law_bits_1, l_law_bits_2, go_law_bits, b_law_bits, go_moves_by_nought, b_moves_by_nought, pow1 d0 d1, pow1 s0 s1]
theorem al_add {d s : Int} (d0 : 0 ≤ d) (d1 : d < 8) (s0 : 0 ≤ s) (s1 : s < 8) : Alike (.tup [.str "add", .int d, .int s]) := by
  refine ⟨(Builtin.bitOr (Builtin.bitOr 0 (1 * 2 ^ d.toNat)) (1 * 2 ^ s.toNat)), (Builtin.bitOr (Builtin.bitOr (Builtin.bitOr (Builtin.bitOr 0 (1 * 2 ^ d.toNat)) 512) 1024) 256), ?_, ?_, ?_, ?_⟩
  · rw [go_used]
    unfold b_used
    simp only [shx, Nat.reduceAdd, Nat.reduceSub, Int.reduceLT, Int.reduceLE, Int.reducePow, Int.reduceToNat, Int.reduceAdd, Int.reduceSub, Int.reduceMul, Int.reduceNeg, lp, fx_add, disp_mk, mk_ix, disp_pl, disp_ma, mb, ixa, ixb, ixc, eGet2, keyD, Option.getD, l_law_bits_1, l_law_bits_2, go_law_bits, b_law_bits, go_moves_by_nought, b_moves_by_nought, pow1 d0 d1, pow1 s0 s1]
  · rw [go_law_used]
    unfold b_law_used
    simp only [shx, Nat.reduceAdd, Nat.reduceSub, Int.reduceLT, Int.reduceLE, Int.reducePow, Int.reduceToNat, Int.reduceAdd, Int.reduceSub, Int.reduceMul, Int.reduceNeg, lp, fx_add, disp_mk, mk_ix, disp_pl, disp_ma, mb, ixa, ixb, ixc, eGet2, keyD, Option.getD, l_law_bits_1, l_law_bits_2, go_law_bits, b_law_bits, go_moves_by_nought, b_moves_by_nought, pow1 d0 d1, pow1 s0 s1]
  · rw [go_put]
    unfold b_put
    simp only [shx, Nat.reduceAdd, Nat.reduceSub, Int.reduceLT, Int.reduceLE, Int.reducePow, Int.reduceToNat, Int.reduceAdd, Int.reduceSub, Int.reduceMul, Int.reduceNeg, lp, fx_add, disp_mk, mk_ix, disp_pl, disp_ma, mb, ixa, ixb, ixc, eGet2, keyD, Option.getD, l_law_bits_1, l_law_bits_2, go_law_bits, b_law_bits, go_moves_by_nought, b_moves_by_nought, pow1 d0 d1, pow1 s0 s1]
  · rw [go_law_put]
    unfold b_law_put
    simp only [shx, Nat.reduceAdd, Nat.reduceSub, Int.reduceLT, Int.reduceLE, Int.reducePow, Int.reduceToNat, Int.reduceAdd, Int.reduceSub, Int.reduceMul, Int.reduceNeg, lp, fx_add, disp_mk, mk_ix, disp_pl, disp_ma, mb, ixa, ixb, ixc, eGet2, keyD, Option.getD, l_law_bits_1, l_law_bits_2, go_law_bits, b_law_bits, go_moves_by_nought, b_moves_by_nought, pow1 d0 d1, pow1 s0 s1, ← or_turn d0 d1]
theorem al_addc {d s : Int} (d0 : 0 ≤ d) (d1 : d < 8) (s0 : 0 ≤ s) (s1 : s < 8) : Alike (.tup [.str "addc", .int d, .int s]) := by
  refine ⟨(Builtin.bitOr (Builtin.bitOr (Builtin.bitOr 0 (1 * 2 ^ d.toNat)) (1 * 2 ^ s.toNat)) 256), (Builtin.bitOr (Builtin.bitOr (Builtin.bitOr (Builtin.bitOr 0 (1 * 2 ^ d.toNat)) 512) 1024) 256), ?_, ?_, ?_, ?_⟩
  · rw [go_used]
    unfold b_used
    simp only [shx, Nat.reduceAdd, Nat.reduceSub, Int.reduceLT, Int.reduceLE, Int.reducePow, Int.reduceToNat, Int.reduceAdd, Int.reduceSub, Int.reduceMul, Int.reduceNeg, lp, fx_addc, disp_mk, mk_ix, disp_pl, disp_ma, mb, ixa, ixb, ixc, eGet2, keyD, Option.getD, l_law_bits_1, l_law_bits_2, go_law_bits, b_law_bits, go_moves_by_nought, b_moves_by_nought, pow1 d0 d1, pow1 s0 s1]
  · rw [go_law_used]
    unfold b_law_used
    simp only [shx, Nat.reduceAdd, Nat.reduceSub, Int.reduceLT, Int.reduceLE, Int.reducePow, Int.reduceToNat, Int.reduceAdd, Int.reduceSub, Int.reduceMul, Int.reduceNeg, lp, fx_addc, disp_mk, mk_ix, disp_pl, disp_ma, mb, ixa, ixb, ixc, eGet2, keyD, Option.getD, l_law_bits_1, l_law_bits_2, go_law_bits, b_law_bits, go_moves_by_nought, b_moves_by_nought, pow1 d0 d1, pow1 s0 s1]
  · rw [go_put]
    unfold b_put
    simp only [shx, Nat.reduceAdd, Nat.reduceSub, Int.reduceLT, Int.reduceLE, Int.reducePow, Int.reduceToNat, Int.reduceAdd, Int.reduceSub, Int.reduceMul, Int.reduceNeg, lp, fx_addc, disp_mk, mk_ix, disp_pl, disp_ma, mb, ixa, ixb, ixc, eGet2, keyD, Option.getD, l_law_bits_1, l_law_bits_2, go_law_bits, b_law_bits, go_moves_by_nought, b_moves_by_nought, pow1 d0 d1, pow1 s0 s1]
  · rw [go_law_put]
    unfold b_law_put
    simp only [shx, Nat.reduceAdd, Nat.reduceSub, Int.reduceLT, Int.reduceLE, Int.reducePow, Int.reduceToNat, Int.reduceAdd, Int.reduceSub, Int.reduceMul, Int.reduceNeg, lp, fx_addc, disp_mk, mk_ix, disp_pl, disp_ma, mb, ixa, ixb, ixc, eGet2, keyD, Option.getD, l_law_bits_1, l_law_bits_2, go_law_bits, b_law_bits, go_moves_by_nought, b_moves_by_nought, pow1 d0 d1, pow1 s0 s1, ← or_turn d0 d1]
theorem al_sub {d s : Int} (d0 : 0 ≤ d) (d1 : d < 8) (s0 : 0 ≤ s) (s1 : s < 8) : Alike (.tup [.str "sub", .int d, .int s]) := by
  refine ⟨(Builtin.bitOr (Builtin.bitOr 0 (1 * 2 ^ d.toNat)) (1 * 2 ^ s.toNat)), (Builtin.bitOr (Builtin.bitOr (Builtin.bitOr (Builtin.bitOr 0 (1 * 2 ^ d.toNat)) 512) 1024) 256), ?_, ?_, ?_, ?_⟩
  · rw [go_used]
    unfold b_used
    simp only [shx, Nat.reduceAdd, Nat.reduceSub, Int.reduceLT, Int.reduceLE, Int.reducePow, Int.reduceToNat, Int.reduceAdd, Int.reduceSub, Int.reduceMul, Int.reduceNeg, lp, fx_sub, disp_mk, mk_ix, disp_pl, disp_ma, mb, ixa, ixb, ixc, eGet2, keyD, Option.getD, l_law_bits_1, l_law_bits_2, go_law_bits, b_law_bits, go_moves_by_nought, b_moves_by_nought, pow1 d0 d1, pow1 s0 s1]
  · rw [go_law_used]
    unfold b_law_used
    simp only [shx, Nat.reduceAdd, Nat.reduceSub, Int.reduceLT, Int.reduceLE, Int.reducePow, Int.reduceToNat, Int.reduceAdd, Int.reduceSub, Int.reduceMul, Int.reduceNeg, lp, fx_sub, disp_mk, mk_ix, disp_pl, disp_ma, mb, ixa, ixb, ixc, eGet2, keyD, Option.getD, l_law_bits_1, l_law_bits_2, go_law_bits, b_law_bits, go_moves_by_nought, b_moves_by_nought, pow1 d0 d1, pow1 s0 s1]
  · rw [go_put]
    unfold b_put
    simp only [shx, Nat.reduceAdd, Nat.reduceSub, Int.reduceLT, Int.reduceLE, Int.reducePow, Int.reduceToNat, Int.reduceAdd, Int.reduceSub, Int.reduceMul, Int.reduceNeg, lp, fx_sub, disp_mk, mk_ix, disp_pl, disp_ma, mb, ixa, ixb, ixc, eGet2, keyD, Option.getD, l_law_bits_1, l_law_bits_2, go_law_bits, b_law_bits, go_moves_by_nought, b_moves_by_nought, pow1 d0 d1, pow1 s0 s1]
  · rw [go_law_put]
    unfold b_law_put
    simp only [shx, Nat.reduceAdd, Nat.reduceSub, Int.reduceLT, Int.reduceLE, Int.reducePow, Int.reduceToNat, Int.reduceAdd, Int.reduceSub, Int.reduceMul, Int.reduceNeg, lp, fx_sub, disp_mk, mk_ix, disp_pl, disp_ma, mb, ixa, ixb, ixc, eGet2, keyD, Option.getD, l_law_bits_1, l_law_bits_2, go_law_bits, b_law_bits, go_moves_by_nought, b_moves_by_nought, pow1 d0 d1, pow1 s0 s1, ← or_turn d0 d1]
theorem al_subc {d s : Int} (d0 : 0 ≤ d) (d1 : d < 8) (s0 : 0 ≤ s) (s1 : s < 8) : Alike (.tup [.str "subc", .int d, .int s]) := by
  refine ⟨(Builtin.bitOr (Builtin.bitOr (Builtin.bitOr 0 (1 * 2 ^ d.toNat)) (1 * 2 ^ s.toNat)) 256), (Builtin.bitOr (Builtin.bitOr (Builtin.bitOr (Builtin.bitOr 0 (1 * 2 ^ d.toNat)) 512) 1024) 256), ?_, ?_, ?_, ?_⟩
  · rw [go_used]
    unfold b_used
    simp only [shx, Nat.reduceAdd, Nat.reduceSub, Int.reduceLT, Int.reduceLE, Int.reducePow, Int.reduceToNat, Int.reduceAdd, Int.reduceSub, Int.reduceMul, Int.reduceNeg, lp, fx_subc, disp_mk, mk_ix, disp_pl, disp_ma, mb, ixa, ixb, ixc, eGet2, keyD, Option.getD, l_law_bits_1, l_law_bits_2, go_law_bits, b_law_bits, go_moves_by_nought, b_moves_by_nought, pow1 d0 d1, pow1 s0 s1]
  · rw [go_law_used]
    unfold b_law_used
    simp only [shx, Nat.reduceAdd, Nat.reduceSub, Int.reduceLT, Int.reduceLE, Int.reducePow, Int.reduceToNat, Int.reduceAdd, Int.reduceSub, Int.reduceMul, Int.reduceNeg, lp, fx_subc, disp_mk, mk_ix, disp_pl, disp_ma, mb, ixa, ixb, ixc, eGet2, keyD, Option.getD, l_law_bits_1, l_law_bits_2, go_law_bits, b_law_bits, go_moves_by_nought, b_moves_by_nought, pow1 d0 d1, pow1 s0 s1]
  · rw [go_put]
    unfold b_put
    simp only [shx, Nat.reduceAdd, Nat.reduceSub, Int.reduceLT, Int.reduceLE, Int.reducePow, Int.reduceToNat, Int.reduceAdd, Int.reduceSub, Int.reduceMul, Int.reduceNeg, lp, fx_subc, disp_mk, mk_ix, disp_pl, disp_ma, mb, ixa, ixb, ixc, eGet2, keyD, Option.getD, l_law_bits_1, l_law_bits_2, go_law_bits, b_law_bits, go_moves_by_nought, b_moves_by_nought, pow1 d0 d1, pow1 s0 s1]
  · rw [go_law_put]
    unfold b_law_put
    simp only [shx, Nat.reduceAdd, Nat.reduceSub, Int.reduceLT, Int.reduceLE, Int.reducePow, Int.reduceToNat, Int.reduceAdd, Int.reduceSub, Int.reduceMul, Int.reduceNeg, lp, fx_subc, disp_mk, mk_ix, disp_pl, disp_ma, mb, ixa, ixb, ixc, eGet2, keyD, Option.getD, l_law_bits_1, l_law_bits_2, go_law_bits, b_law_bits, go_moves_by_nought, b_moves_by_nought, pow1 d0 d1, pow1 s0 s1, ← or_turn d0 d1]
theorem al_and {d s : Int} (d0 : 0 ≤ d) (d1 : d < 8) (s0 : 0 ≤ s) (s1 : s < 8) : Alike (.tup [.str "and", .int d, .int s]) := by
  refine ⟨(Builtin.bitOr (Builtin.bitOr 0 (1 * 2 ^ d.toNat)) (1 * 2 ^ s.toNat)), (Builtin.bitOr (Builtin.bitOr (Builtin.bitOr 0 (1 * 2 ^ d.toNat)) 512) 1024), ?_, ?_, ?_, ?_⟩
  · rw [go_used]
    unfold b_used
    simp only [shx, Nat.reduceAdd, Nat.reduceSub, Int.reduceLT, Int.reduceLE, Int.reducePow, Int.reduceToNat, Int.reduceAdd, Int.reduceSub, Int.reduceMul, Int.reduceNeg, lp, fx_and, disp_mk, mk_ix, disp_pl, disp_ma, mb, ixa, ixb, ixc, eGet2, keyD, Option.getD, l_law_bits_1, l_law_bits_2, go_law_bits, b_law_bits, go_moves_by_nought, b_moves_by_nought, pow1 d0 d1, pow1 s0 s1]
  · rw [go_law_used]
    unfold b_law_used
    simp only [shx, Nat.reduceAdd, Nat.reduceSub, Int.reduceLT, Int.reduceLE, Int.reducePow, Int.reduceToNat, Int.reduceAdd, Int.reduceSub, Int.reduceMul, Int.reduceNeg, lp, fx_and, disp_mk, mk_ix, disp_pl, disp_ma, mb, ixa, ixb, ixc, eGet2, keyD, Option.getD, l_law_bits_1, l_law_bits_2, go_law_bits, b_law_bits, go_moves_by_nought, b_moves_by_nought, pow1 d0 d1, pow1 s0 s1]
  · rw [go_put]
    unfold b_put
    simp only [shx, Nat.reduceAdd, Nat.reduceSub, Int.reduceLT, Int.reduceLE, Int.reducePow, Int.reduceToNat, Int.reduceAdd, Int.reduceSub, Int.reduceMul, Int.reduceNeg, lp, fx_and, disp_mk, mk_ix, disp_pl, disp_ma, mb, ixa, ixb, ixc, eGet2, keyD, Option.getD, l_law_bits_1, l_law_bits_2, go_law_bits, b_law_bits, go_moves_by_nought, b_moves_by_nought, pow1 d0 d1, pow1 s0 s1]
  · rw [go_law_put]
    unfold b_law_put
    simp only [shx, Nat.reduceAdd, Nat.reduceSub, Int.reduceLT, Int.reduceLE, Int.reducePow, Int.reduceToNat, Int.reduceAdd, Int.reduceSub, Int.reduceMul, Int.reduceNeg, lp, fx_and, disp_mk, mk_ix, disp_pl, disp_ma, mb, ixa, ixb, ixc, eGet2, keyD, Option.getD, l_law_bits_1, l_law_bits_2, go_law_bits, b_law_bits, go_moves_by_nought, b_moves_by_nought, pow1 d0 d1, pow1 s0 s1]
theorem al_or {d s : Int} (d0 : 0 ≤ d) (d1 : d < 8) (s0 : 0 ≤ s) (s1 : s < 8) : Alike (.tup [.str "or", .int d, .int s]) := by
  refine ⟨(Builtin.bitOr (Builtin.bitOr 0 (1 * 2 ^ d.toNat)) (1 * 2 ^ s.toNat)), (Builtin.bitOr (Builtin.bitOr (Builtin.bitOr 0 (1 * 2 ^ d.toNat)) 512) 1024), ?_, ?_, ?_, ?_⟩
  · rw [go_used]
    unfold b_used
    simp only [shx, Nat.reduceAdd, Nat.reduceSub, Int.reduceLT, Int.reduceLE, Int.reducePow, Int.reduceToNat, Int.reduceAdd, Int.reduceSub, Int.reduceMul, Int.reduceNeg, lp, fx_or, disp_mk, mk_ix, disp_pl, disp_ma, mb, ixa, ixb, ixc, eGet2, keyD, Option.getD, l_law_bits_1, l_law_bits_2, go_law_bits, b_law_bits, go_moves_by_nought, b_moves_by_nought, pow1 d0 d1, pow1 s0 s1]
  · rw [go_law_used]
    unfold b_law_used
    simp only [shx, Nat.reduceAdd, Nat.reduceSub, Int.reduceLT, Int.reduceLE, Int.reducePow, Int.reduceToNat, Int.reduceAdd, Int.reduceSub, Int.reduceMul, Int.reduceNeg, lp, fx_or, disp_mk, mk_ix, disp_pl, disp_ma, mb, ixa, ixb, ixc, eGet2, keyD, Option.getD, l_law_bits_1, l_law_bits_2, go_law_bits, b_law_bits, go_moves_by_nought, b_moves_by_nought, pow1 d0 d1, pow1 s0 s1]
  · rw [go_put]
    unfold b_put
    simp only [shx, Nat.reduceAdd, Nat.reduceSub, Int.reduceLT, Int.reduceLE, Int.reducePow, Int.reduceToNat, Int.reduceAdd, Int.reduceSub, Int.reduceMul, Int.reduceNeg, lp, fx_or, disp_mk, mk_ix, disp_pl, disp_ma, mb, ixa, ixb, ixc, eGet2, keyD, Option.getD, l_law_bits_1, l_law_bits_2, go_law_bits, b_law_bits, go_moves_by_nought, b_moves_by_nought, pow1 d0 d1, pow1 s0 s1]
  · rw [go_law_put]
    unfold b_law_put
    simp only [shx, Nat.reduceAdd, Nat.reduceSub, Int.reduceLT, Int.reduceLE, Int.reducePow, Int.reduceToNat, Int.reduceAdd, Int.reduceSub, Int.reduceMul, Int.reduceNeg, lp, fx_or, disp_mk, mk_ix, disp_pl, disp_ma, mb, ixa, ixb, ixc, eGet2, keyD, Option.getD, l_law_bits_1, l_law_bits_2, go_law_bits, b_law_bits, go_moves_by_nought, b_moves_by_nought, pow1 d0 d1, pow1 s0 s1]
theorem al_xor {d s : Int} (d0 : 0 ≤ d) (d1 : d < 8) (s0 : 0 ≤ s) (s1 : s < 8) : Alike (.tup [.str "xor", .int d, .int s]) := by
  refine ⟨(Builtin.bitOr (Builtin.bitOr 0 (1 * 2 ^ d.toNat)) (1 * 2 ^ s.toNat)), (Builtin.bitOr (Builtin.bitOr (Builtin.bitOr 0 (1 * 2 ^ d.toNat)) 512) 1024), ?_, ?_, ?_, ?_⟩
  · rw [go_used]
    unfold b_used
    simp only [shx, Nat.reduceAdd, Nat.reduceSub, Int.reduceLT, Int.reduceLE, Int.reducePow, Int.reduceToNat, Int.reduceAdd, Int.reduceSub, Int.reduceMul, Int.reduceNeg, lp, fx_xor, disp_mk, mk_ix, disp_pl, disp_ma, mb, ixa, ixb, ixc, eGet2, keyD, Option.getD, l_law_bits_1, l_law_bits_2, go_law_bits, b_law_bits, go_moves_by_nought, b_moves_by_nought, pow1 d0 d1, pow1 s0 s1]
  · rw [go_law_used]
    unfold b_law_used
    simp only [shx, Nat.reduceAdd, Nat.reduceSub, Int.reduceLT, Int.reduceLE, Int.reducePow, Int.reduceToNat, Int.reduceAdd, Int.reduceSub, Int.reduceMul, Int.reduceNeg, lp, fx_xor, disp_mk, mk_ix, disp_pl, disp_ma, mb, ixa, ixb, ixc, eGet2, keyD, Option.getD, l_law_bits_1, l_law_bits_2, go_law_bits, b_law_bits, go_moves_by_nought, b_moves_by_nought, pow1 d0 d1, pow1 s0 s1]
  · rw [go_put]
    unfold b_put
    simp only [shx, Nat.reduceAdd, Nat.reduceSub, Int.reduceLT, Int.reduceLE, Int.reducePow, Int.reduceToNat, Int.reduceAdd, Int.reduceSub, Int.reduceMul, Int.reduceNeg, lp, fx_xor, disp_mk, mk_ix, disp_pl, disp_ma, mb, ixa, ixb, ixc, eGet2, keyD, Option.getD, l_law_bits_1, l_law_bits_2, go_law_bits, b_law_bits, go_moves_by_nought, b_moves_by_nought, pow1 d0 d1, pow1 s0 s1]
  · rw [go_law_put]
    unfold b_law_put
    simp only [shx, Nat.reduceAdd, Nat.reduceSub, Int.reduceLT, Int.reduceLE, Int.reducePow, Int.reduceToNat, Int.reduceAdd, Int.reduceSub, Int.reduceMul, Int.reduceNeg, lp, fx_xor, disp_mk, mk_ix, disp_pl, disp_ma, mb, ixa, ixb, ixc, eGet2, keyD, Option.getD, l_law_bits_1, l_law_bits_2, go_law_bits, b_law_bits, go_moves_by_nought, b_moves_by_nought, pow1 d0 d1, pow1 s0 s1]
theorem al_test {d s : Int} (d0 : 0 ≤ d) (d1 : d < 8) (s0 : 0 ≤ s) (s1 : s < 8) : Alike (.tup [.str "test", .int d, .int s]) := by
  refine ⟨(Builtin.bitOr (Builtin.bitOr 0 (1 * 2 ^ d.toNat)) (1 * 2 ^ s.toNat)), (Builtin.bitOr (Builtin.bitOr (Builtin.bitOr 0 512) 1024) 256), ?_, ?_, ?_, ?_⟩
  · rw [go_used]
    unfold b_used
    simp only [shx, Nat.reduceAdd, Nat.reduceSub, Int.reduceLT, Int.reduceLE, Int.reducePow, Int.reduceToNat, Int.reduceAdd, Int.reduceSub, Int.reduceMul, Int.reduceNeg, lp, fx_test, disp_mk, mk_ix, disp_pl, disp_ma, mb, ixa, ixb, ixc, eGet2, keyD, Option.getD, l_law_bits_1, l_law_bits_2, go_law_bits, b_law_bits, go_moves_by_nought, b_moves_by_nought, pow1 d0 d1, pow1 s0 s1]
  · rw [go_law_used]
    unfold b_law_used
    simp only [shx, Nat.reduceAdd, Nat.reduceSub, Int.reduceLT, Int.reduceLE, Int.reducePow, Int.reduceToNat, Int.reduceAdd, Int.reduceSub, Int.reduceMul, Int.reduceNeg, lp, fx_test, disp_mk, mk_ix, disp_pl, disp_ma, mb, ixa, ixb, ixc, eGet2, keyD, Option.getD, l_law_bits_1, l_law_bits_2, go_law_bits, b_law_bits, go_moves_by_nought, b_moves_by_nought, pow1 d0 d1, pow1 s0 s1]
  · rw [go_put]
    unfold b_put
    simp only [shx, Nat.reduceAdd, Nat.reduceSub, Int.reduceLT, Int.reduceLE, Int.reducePow, Int.reduceToNat, Int.reduceAdd, Int.reduceSub, Int.reduceMul, Int.reduceNeg, lp, fx_test, disp_mk, mk_ix, disp_pl, disp_ma, mb, ixa, ixb, ixc, eGet2, keyD, Option.getD, l_law_bits_1, l_law_bits_2, go_law_bits, b_law_bits, go_moves_by_nought, b_moves_by_nought, pow1 d0 d1, pow1 s0 s1]
  · rw [go_law_put]
    unfold b_law_put
    simp only [shx, Nat.reduceAdd, Nat.reduceSub, Int.reduceLT, Int.reduceLE, Int.reducePow, Int.reduceToNat, Int.reduceAdd, Int.reduceSub, Int.reduceMul, Int.reduceNeg, lp, fx_test, disp_mk, mk_ix, disp_pl, disp_ma, mb, ixa, ixb, ixc, eGet2, keyD, Option.getD, l_law_bits_1, l_law_bits_2, go_law_bits, b_law_bits, go_moves_by_nought, b_moves_by_nought, pow1 d0 d1, pow1 s0 s1, ← or_test]
theorem al_set {d n : Int} (d0 : 0 ≤ d) (d1 : d < 8) : Alike (.tup [.str "set", .int d, .int n]) := by
  refine ⟨0, (Builtin.bitOr 0 (1 * 2 ^ d.toNat)), ?_, ?_, ?_, ?_⟩
  · rw [go_used]
    unfold b_used
    simp only [shx, Nat.reduceAdd, Nat.reduceSub, Int.reduceLT, Int.reduceLE, Int.reducePow, Int.reduceToNat, Int.reduceAdd, Int.reduceSub, Int.reduceMul, Int.reduceNeg, lp, fx_set, disp_mk, mk_ix, disp_pl, disp_ma, mb, ixa, ixb, ixc, eGet2, keyD, Option.getD, l_law_bits_1, l_law_bits_2, go_law_bits, b_law_bits, go_moves_by_nought, b_moves_by_nought, pow1 d0 d1]
  · rw [go_law_used]
    unfold b_law_used
    simp only [shx, Nat.reduceAdd, Nat.reduceSub, Int.reduceLT, Int.reduceLE, Int.reducePow, Int.reduceToNat, Int.reduceAdd, Int.reduceSub, Int.reduceMul, Int.reduceNeg, lp, fx_set, disp_mk, mk_ix, disp_pl, disp_ma, mb, ixa, ixb, ixc, eGet2, keyD, Option.getD, l_law_bits_1, l_law_bits_2, go_law_bits, b_law_bits, go_moves_by_nought, b_moves_by_nought, pow1 d0 d1]
  · rw [go_put]
    unfold b_put
    simp only [shx, Nat.reduceAdd, Nat.reduceSub, Int.reduceLT, Int.reduceLE, Int.reducePow, Int.reduceToNat, Int.reduceAdd, Int.reduceSub, Int.reduceMul, Int.reduceNeg, lp, fx_set, disp_mk, mk_ix, disp_pl, disp_ma, mb, ixa, ixb, ixc, eGet2, keyD, Option.getD, l_law_bits_1, l_law_bits_2, go_law_bits, b_law_bits, go_moves_by_nought, b_moves_by_nought, pow1 d0 d1]
  · rw [go_law_put]
    unfold b_law_put
    simp only [shx, Nat.reduceAdd, Nat.reduceSub, Int.reduceLT, Int.reduceLE, Int.reducePow, Int.reduceToNat, Int.reduceAdd, Int.reduceSub, Int.reduceMul, Int.reduceNeg, lp, fx_set, disp_mk, mk_ix, disp_pl, disp_ma, mb, ixa, ixb, ixc, eGet2, keyD, Option.getD, l_law_bits_1, l_law_bits_2, go_law_bits, b_law_bits, go_moves_by_nought, b_moves_by_nought, pow1 d0 d1]
theorem al_high {d n : Int} (d0 : 0 ≤ d) (d1 : d < 8) : Alike (.tup [.str "high", .int d, .int n]) := by
  refine ⟨(Builtin.bitOr 0 (1 * 2 ^ d.toNat)), (Builtin.bitOr 0 (1 * 2 ^ d.toNat)), ?_, ?_, ?_, ?_⟩
  · rw [go_used]
    unfold b_used
    simp only [shx, Nat.reduceAdd, Nat.reduceSub, Int.reduceLT, Int.reduceLE, Int.reducePow, Int.reduceToNat, Int.reduceAdd, Int.reduceSub, Int.reduceMul, Int.reduceNeg, lp, fx_high, disp_mk, mk_ix, disp_pl, disp_ma, mb, ixa, ixb, ixc, eGet2, keyD, Option.getD, l_law_bits_1, l_law_bits_2, go_law_bits, b_law_bits, go_moves_by_nought, b_moves_by_nought, pow1 d0 d1]
  · rw [go_law_used]
    unfold b_law_used
    simp only [shx, Nat.reduceAdd, Nat.reduceSub, Int.reduceLT, Int.reduceLE, Int.reducePow, Int.reduceToNat, Int.reduceAdd, Int.reduceSub, Int.reduceMul, Int.reduceNeg, lp, fx_high, disp_mk, mk_ix, disp_pl, disp_ma, mb, ixa, ixb, ixc, eGet2, keyD, Option.getD, l_law_bits_1, l_law_bits_2, go_law_bits, b_law_bits, go_moves_by_nought, b_moves_by_nought, pow1 d0 d1]
  · rw [go_put]
    unfold b_put
    simp only [shx, Nat.reduceAdd, Nat.reduceSub, Int.reduceLT, Int.reduceLE, Int.reducePow, Int.reduceToNat, Int.reduceAdd, Int.reduceSub, Int.reduceMul, Int.reduceNeg, lp, fx_high, disp_mk, mk_ix, disp_pl, disp_ma, mb, ixa, ixb, ixc, eGet2, keyD, Option.getD, l_law_bits_1, l_law_bits_2, go_law_bits, b_law_bits, go_moves_by_nought, b_moves_by_nought, pow1 d0 d1]
  · rw [go_law_put]
    unfold b_law_put
    simp only [shx, Nat.reduceAdd, Nat.reduceSub, Int.reduceLT, Int.reduceLE, Int.reducePow, Int.reduceToNat, Int.reduceAdd, Int.reduceSub, Int.reduceMul, Int.reduceNeg, lp, fx_high, disp_mk, mk_ix, disp_pl, disp_ma, mb, ixa, ixb, ixc, eGet2, keyD, Option.getD, l_law_bits_1, l_law_bits_2, go_law_bits, b_law_bits, go_moves_by_nought, b_moves_by_nought, pow1 d0 d1]
theorem al_left_n {d n : Int} (d0 : 0 ≤ d) (d1 : d < 8) (n0 : 0 < n) : Alike (.tup [.str "left", .int d, .int n]) := by
  refine ⟨(Builtin.bitOr 0 (1 * 2 ^ d.toNat)), (Builtin.bitOr (Builtin.bitOr (Builtin.bitOr (Builtin.bitOr 0 (1 * 2 ^ d.toNat)) 512) 1024) 256), ?_, ?_, ?_, ?_⟩
  · rw [go_used]
    unfold b_used
    simp only [shx, Nat.reduceAdd, Nat.reduceSub, Int.reduceLT, Int.reduceLE, Int.reducePow, Int.reduceToNat, Int.reduceAdd, Int.reduceSub, Int.reduceMul, Int.reduceNeg, lp, fx_left, disp_mk, mk_ix, disp_pl, disp_ma, mb, ixa, ixb, ixc, eGet2, keyD, Option.getD, l_law_bits_1, l_law_bits_2, go_law_bits, b_law_bits, go_moves_by_nought, b_moves_by_nought, pow1 d0 d1, int_ne (show n ≠ 0 by omega), decide_eq_true n0]
  · rw [go_law_used]
    unfold b_law_used
    simp only [shx, Nat.reduceAdd, Nat.reduceSub, Int.reduceLT, Int.reduceLE, Int.reducePow, Int.reduceToNat, Int.reduceAdd, Int.reduceSub, Int.reduceMul, Int.reduceNeg, lp, fx_left, disp_mk, mk_ix, disp_pl, disp_ma, mb, ixa, ixb, ixc, eGet2, keyD, Option.getD, l_law_bits_1, l_law_bits_2, go_law_bits, b_law_bits, go_moves_by_nought, b_moves_by_nought, pow1 d0 d1, int_ne (show n ≠ 0 by omega), decide_eq_true n0]
  · rw [go_put]
    unfold b_put
    simp only [shx, Nat.reduceAdd, Nat.reduceSub, Int.reduceLT, Int.reduceLE, Int.reducePow, Int.reduceToNat, Int.reduceAdd, Int.reduceSub, Int.reduceMul, Int.reduceNeg, lp, fx_left, disp_mk, mk_ix, disp_pl, disp_ma, mb, ixa, ixb, ixc, eGet2, keyD, Option.getD, l_law_bits_1, l_law_bits_2, go_law_bits, b_law_bits, go_moves_by_nought, b_moves_by_nought, pow1 d0 d1, int_ne (show n ≠ 0 by omega), decide_eq_true n0]
  · rw [go_law_put]
    unfold b_law_put
    simp only [shx, Nat.reduceAdd, Nat.reduceSub, Int.reduceLT, Int.reduceLE, Int.reducePow, Int.reduceToNat, Int.reduceAdd, Int.reduceSub, Int.reduceMul, Int.reduceNeg, lp, fx_left, disp_mk, mk_ix, disp_pl, disp_ma, mb, ixa, ixb, ixc, eGet2, keyD, Option.getD, l_law_bits_1, l_law_bits_2, go_law_bits, b_law_bits, go_moves_by_nought, b_moves_by_nought, pow1 d0 d1, int_ne (show n ≠ 0 by omega), decide_eq_true n0, ← or_turn d0 d1]
theorem al_left_0 {d : Int} (d0 : 0 ≤ d) (d1 : d < 8) : Alike (.tup [.str "left", .int d, .int 0]) := by
  refine ⟨(Builtin.bitOr 0 (1 * 2 ^ d.toNat)), (Builtin.bitOr (Builtin.bitOr (Builtin.bitOr 0 (1 * 2 ^ d.toNat)) 512) 1024), ?_, ?_, ?_, ?_⟩
  · rw [go_used]
    unfold b_used
    simp only [shx, Nat.reduceAdd, Nat.reduceSub, Int.reduceLT, Int.reduceLE, Int.reducePow, Int.reduceToNat, Int.reduceAdd, Int.reduceSub, Int.reduceMul, Int.reduceNeg, lp, fx_left, disp_mk, mk_ix, disp_pl, disp_ma, mb, ixa, ixb, ixc, eGet2, keyD, Option.getD, l_law_bits_1, l_law_bits_2, go_law_bits, b_law_bits, go_moves_by_nought, b_moves_by_nought, pow1 d0 d1, int_eq]
  · rw [go_law_used]
    unfold b_law_used
    simp only [shx, Nat.reduceAdd, Nat.reduceSub, Int.reduceLT, Int.reduceLE, Int.reducePow, Int.reduceToNat, Int.reduceAdd, Int.reduceSub, Int.reduceMul, Int.reduceNeg, lp, fx_left, disp_mk, mk_ix, disp_pl, disp_ma, mb, ixa, ixb, ixc, eGet2, keyD, Option.getD, l_law_bits_1, l_law_bits_2, go_law_bits, b_law_bits, go_moves_by_nought, b_moves_by_nought, pow1 d0 d1, int_eq]
  · rw [go_put]
    unfold b_put
    simp only [shx, Nat.reduceAdd, Nat.reduceSub, Int.reduceLT, Int.reduceLE, Int.reducePow, Int.reduceToNat, Int.reduceAdd, Int.reduceSub, Int.reduceMul, Int.reduceNeg, lp, fx_left, disp_mk, mk_ix, disp_pl, disp_ma, mb, ixa, ixb, ixc, eGet2, keyD, Option.getD, l_law_bits_1, l_law_bits_2, go_law_bits, b_law_bits, go_moves_by_nought, b_moves_by_nought, pow1 d0 d1, int_eq]
  · rw [go_law_put]
    unfold b_law_put
    simp only [shx, Nat.reduceAdd, Nat.reduceSub, Int.reduceLT, Int.reduceLE, Int.reducePow, Int.reduceToNat, Int.reduceAdd, Int.reduceSub, Int.reduceMul, Int.reduceNeg, lp, fx_left, disp_mk, mk_ix, disp_pl, disp_ma, mb, ixa, ixb, ixc, eGet2, keyD, Option.getD, l_law_bits_1, l_law_bits_2, go_law_bits, b_law_bits, go_moves_by_nought, b_moves_by_nought, pow1 d0 d1, int_eq]
theorem al_right_n {d n : Int} (d0 : 0 ≤ d) (d1 : d < 8) (n0 : 0 < n) : Alike (.tup [.str "right", .int d, .int n]) := by
  refine ⟨(Builtin.bitOr 0 (1 * 2 ^ d.toNat)), (Builtin.bitOr (Builtin.bitOr (Builtin.bitOr (Builtin.bitOr 0 (1 * 2 ^ d.toNat)) 512) 1024) 256), ?_, ?_, ?_, ?_⟩
  · rw [go_used]
    unfold b_used
    simp only [shx, Nat.reduceAdd, Nat.reduceSub, Int.reduceLT, Int.reduceLE, Int.reducePow, Int.reduceToNat, Int.reduceAdd, Int.reduceSub, Int.reduceMul, Int.reduceNeg, lp, fx_right, disp_mk, mk_ix, disp_pl, disp_ma, mb, ixa, ixb, ixc, eGet2, keyD, Option.getD, l_law_bits_1, l_law_bits_2, go_law_bits, b_law_bits, go_moves_by_nought, b_moves_by_nought, pow1 d0 d1, int_ne (show n ≠ 0 by omega), decide_eq_true n0]
  · rw [go_law_used]
    unfold b_law_used
    simp only [shx, Nat.reduceAdd, Nat.reduceSub, Int.reduceLT, Int.reduceLE, Int.reducePow, Int.reduceToNat, Int.reduceAdd, Int.reduceSub, Int.reduceMul, Int.reduceNeg, lp, fx_right, disp_mk, mk_ix, disp_pl, disp_ma, mb, ixa, ixb, ixc, eGet2, keyD, Option.getD, l_law_bits_1, l_law_bits_2, go_law_bits, b_law_bits, go_moves_by_nought, b_moves_by_nought, pow1 d0 d1, int_ne (show n ≠ 0 by omega), decide_eq_true n0]
  · rw [go_put]
    unfold b_put
    simp only [shx, Nat.reduceAdd, Nat.reduceSub, Int.reduceLT, Int.reduceLE, Int.reducePow, Int.reduceToNat, Int.reduceAdd, Int.reduceSub, Int.reduceMul, Int.reduceNeg, lp, fx_right, disp_mk, mk_ix, disp_pl, disp_ma, mb, ixa, ixb, ixc, eGet2, keyD, Option.getD, l_law_bits_1, l_law_bits_2, go_law_bits, b_law_bits, go_moves_by_nought, b_moves_by_nought, pow1 d0 d1, int_ne (show n ≠ 0 by omega), decide_eq_true n0]
  · rw [go_law_put]
    unfold b_law_put
    simp only [shx, Nat.reduceAdd, Nat.reduceSub, Int.reduceLT, Int.reduceLE, Int.reducePow, Int.reduceToNat, Int.reduceAdd, Int.reduceSub, Int.reduceMul, Int.reduceNeg, lp, fx_right, disp_mk, mk_ix, disp_pl, disp_ma, mb, ixa, ixb, ixc, eGet2, keyD, Option.getD, l_law_bits_1, l_law_bits_2, go_law_bits, b_law_bits, go_moves_by_nought, b_moves_by_nought, pow1 d0 d1, int_ne (show n ≠ 0 by omega), decide_eq_true n0, ← or_turn d0 d1]
theorem al_right_0 {d : Int} (d0 : 0 ≤ d) (d1 : d < 8) : Alike (.tup [.str "right", .int d, .int 0]) := by
  refine ⟨(Builtin.bitOr 0 (1 * 2 ^ d.toNat)), (Builtin.bitOr (Builtin.bitOr (Builtin.bitOr 0 (1 * 2 ^ d.toNat)) 512) 1024), ?_, ?_, ?_, ?_⟩
  · rw [go_used]
    unfold b_used
    simp only [shx, Nat.reduceAdd, Nat.reduceSub, Int.reduceLT, Int.reduceLE, Int.reducePow, Int.reduceToNat, Int.reduceAdd, Int.reduceSub, Int.reduceMul, Int.reduceNeg, lp, fx_right, disp_mk, mk_ix, disp_pl, disp_ma, mb, ixa, ixb, ixc, eGet2, keyD, Option.getD, l_law_bits_1, l_law_bits_2, go_law_bits, b_law_bits, go_moves_by_nought, b_moves_by_nought, pow1 d0 d1, int_eq]
  · rw [go_law_used]
    unfold b_law_used
    simp only [shx, Nat.reduceAdd, Nat.reduceSub, Int.reduceLT, Int.reduceLE, Int.reducePow, Int.reduceToNat, Int.reduceAdd, Int.reduceSub, Int.reduceMul, Int.reduceNeg, lp, fx_right, disp_mk, mk_ix, disp_pl, disp_ma, mb, ixa, ixb, ixc, eGet2, keyD, Option.getD, l_law_bits_1, l_law_bits_2, go_law_bits, b_law_bits, go_moves_by_nought, b_moves_by_nought, pow1 d0 d1, int_eq]
  · rw [go_put]
    unfold b_put
    simp only [shx, Nat.reduceAdd, Nat.reduceSub, Int.reduceLT, Int.reduceLE, Int.reducePow, Int.reduceToNat, Int.reduceAdd, Int.reduceSub, Int.reduceMul, Int.reduceNeg, lp, fx_right, disp_mk, mk_ix, disp_pl, disp_ma, mb, ixa, ixb, ixc, eGet2, keyD, Option.getD, l_law_bits_1, l_law_bits_2, go_law_bits, b_law_bits, go_moves_by_nought, b_moves_by_nought, pow1 d0 d1, int_eq]
  · rw [go_law_put]
    unfold b_law_put
    simp only [shx, Nat.reduceAdd, Nat.reduceSub, Int.reduceLT, Int.reduceLE, Int.reducePow, Int.reduceToNat, Int.reduceAdd, Int.reduceSub, Int.reduceMul, Int.reduceNeg, lp, fx_right, disp_mk, mk_ix, disp_pl, disp_ma, mb, ixa, ixb, ixc, eGet2, keyD, Option.getD, l_law_bits_1, l_law_bits_2, go_law_bits, b_law_bits, go_moves_by_nought, b_moves_by_nought, pow1 d0 d1, int_eq]
theorem al_load {d s n : Int} (d0 : 0 ≤ d) (d1 : d < 8) (s0 : 0 ≤ s) (s1 : s < 8) : Alike (.tup [.str "load", .int d, .int s, .int n]) := by
  refine ⟨(Builtin.bitOr 0 (1 * 2 ^ s.toNat)), (Builtin.bitOr 0 (1 * 2 ^ d.toNat)), ?_, ?_, ?_, ?_⟩
  · rw [go_used]
    unfold b_used
    simp only [shx, Nat.reduceAdd, Nat.reduceSub, Int.reduceLT, Int.reduceLE, Int.reducePow, Int.reduceToNat, Int.reduceAdd, Int.reduceSub, Int.reduceMul, Int.reduceNeg, lp, fx_load, disp_mk, mk_ix, disp_pl, disp_ma, mb, ixa, ixb, ixc, eGet2, keyD, Option.getD, l_law_bits_1, l_law_bits_2, go_law_bits, b_law_bits, go_moves_by_nought, b_moves_by_nought, pow1 d0 d1, pow1 s0 s1]
  · rw [go_law_used]
    unfold b_law_used
    simp only [shx, Nat.reduceAdd, Nat.reduceSub, Int.reduceLT, Int.reduceLE, Int.reducePow, Int.reduceToNat, Int.reduceAdd, Int.reduceSub, Int.reduceMul, Int.reduceNeg, lp, fx_load, disp_mk, mk_ix, disp_pl, disp_ma, mb, ixa, ixb, ixc, eGet2, keyD, Option.getD, l_law_bits_1, l_law_bits_2, go_law_bits, b_law_bits, go_moves_by_nought, b_moves_by_nought, pow1 d0 d1, pow1 s0 s1]
  · rw [go_put]
    unfold b_put
    simp only [shx, Nat.reduceAdd, Nat.reduceSub, Int.reduceLT, Int.reduceLE, Int.reducePow, Int.reduceToNat, Int.reduceAdd, Int.reduceSub, Int.reduceMul, Int.reduceNeg, lp, fx_load, disp_mk, mk_ix, disp_pl, disp_ma, mb, ixa, ixb, ixc, eGet2, keyD, Option.getD, l_law_bits_1, l_law_bits_2, go_law_bits, b_law_bits, go_moves_by_nought, b_moves_by_nought, pow1 d0 d1, pow1 s0 s1]
  · rw [go_law_put]
    unfold b_law_put
    simp only [shx, Nat.reduceAdd, Nat.reduceSub, Int.reduceLT, Int.reduceLE, Int.reducePow, Int.reduceToNat, Int.reduceAdd, Int.reduceSub, Int.reduceMul, Int.reduceNeg, lp, fx_load, disp_mk, mk_ix, disp_pl, disp_ma, mb, ixa, ixb, ixc, eGet2, keyD, Option.getD, l_law_bits_1, l_law_bits_2, go_law_bits, b_law_bits, go_moves_by_nought, b_moves_by_nought, pow1 d0 d1, pow1 s0 s1]
theorem al_store {d s n : Int} (d0 : 0 ≤ d) (d1 : d < 8) (s0 : 0 ≤ s) (s1 : s < 8) : Alike (.tup [.str "store", .int d, .int s, .int n]) := by
  refine ⟨(Builtin.bitOr (Builtin.bitOr 0 (1 * 2 ^ d.toNat)) (1 * 2 ^ s.toNat)), 0, ?_, ?_, ?_, ?_⟩
  · rw [go_used]
    unfold b_used
    simp only [shx, Nat.reduceAdd, Nat.reduceSub, Int.reduceLT, Int.reduceLE, Int.reducePow, Int.reduceToNat, Int.reduceAdd, Int.reduceSub, Int.reduceMul, Int.reduceNeg, lp, fx_store, disp_mk, mk_ix, disp_pl, disp_ma, mb, ixa, ixb, ixc, eGet2, keyD, Option.getD, l_law_bits_1, l_law_bits_2, go_law_bits, b_law_bits, go_moves_by_nought, b_moves_by_nought, pow1 d0 d1, pow1 s0 s1]
  · rw [go_law_used]
    unfold b_law_used
    simp only [shx, Nat.reduceAdd, Nat.reduceSub, Int.reduceLT, Int.reduceLE, Int.reducePow, Int.reduceToNat, Int.reduceAdd, Int.reduceSub, Int.reduceMul, Int.reduceNeg, lp, fx_store, disp_mk, mk_ix, disp_pl, disp_ma, mb, ixa, ixb, ixc, eGet2, keyD, Option.getD, l_law_bits_1, l_law_bits_2, go_law_bits, b_law_bits, go_moves_by_nought, b_moves_by_nought, pow1 d0 d1, pow1 s0 s1]
  · rw [go_put]
    unfold b_put
    simp only [shx, Nat.reduceAdd, Nat.reduceSub, Int.reduceLT, Int.reduceLE, Int.reducePow, Int.reduceToNat, Int.reduceAdd, Int.reduceSub, Int.reduceMul, Int.reduceNeg, lp, fx_store, disp_mk, mk_ix, disp_pl, disp_ma, mb, ixa, ixb, ixc, eGet2, keyD, Option.getD, l_law_bits_1, l_law_bits_2, go_law_bits, b_law_bits, go_moves_by_nought, b_moves_by_nought, pow1 d0 d1, pow1 s0 s1]
  · rw [go_law_put]
    unfold b_law_put
    simp only [shx, Nat.reduceAdd, Nat.reduceSub, Int.reduceLT, Int.reduceLE, Int.reducePow, Int.reduceToNat, Int.reduceAdd, Int.reduceSub, Int.reduceMul, Int.reduceNeg, lp, fx_store, disp_mk, mk_ix, disp_pl, disp_ma, mb, ixa, ixb, ixc, eGet2, keyD, Option.getD, l_law_bits_1, l_law_bits_2, go_law_bits, b_law_bits, go_moves_by_nought, b_moves_by_nought, pow1 d0 d1, pow1 s0 s1]
theorem al_loadw {d s n : Int} (d0 : 0 ≤ d) (d1 : d < 8) (s0 : 0 ≤ s) (s1 : s < 8) : Alike (.tup [.str "loadw", .int d, .int s, .int n]) := by
  refine ⟨(Builtin.bitOr 0 (1 * 2 ^ s.toNat)), (Builtin.bitOr 0 (1 * 2 ^ d.toNat)), ?_, ?_, ?_, ?_⟩
  · rw [go_used]
    unfold b_used
    simp only [shx, Nat.reduceAdd, Nat.reduceSub, Int.reduceLT, Int.reduceLE, Int.reducePow, Int.reduceToNat, Int.reduceAdd, Int.reduceSub, Int.reduceMul, Int.reduceNeg, lp, fx_loadw, disp_mk, mk_ix, disp_pl, disp_ma, mb, ixa, ixb, ixc, eGet2, keyD, Option.getD, l_law_bits_1, l_law_bits_2, go_law_bits, b_law_bits, go_moves_by_nought, b_moves_by_nought, pow1 d0 d1, pow1 s0 s1]
  · rw [go_law_used]
    unfold b_law_used
    simp only [shx, Nat.reduceAdd, Nat.reduceSub, Int.reduceLT, Int.reduceLE, Int.reducePow, Int.reduceToNat, Int.reduceAdd, Int.reduceSub, Int.reduceMul, Int.reduceNeg, lp, fx_loadw, disp_mk, mk_ix, disp_pl, disp_ma, mb, ixa, ixb, ixc, eGet2, keyD, Option.getD, l_law_bits_1, l_law_bits_2, go_law_bits, b_law_bits, go_moves_by_nought, b_moves_by_nought, pow1 d0 d1, pow1 s0 s1]
  · rw [go_put]
    unfold b_put
    simp only [shx, Nat.reduceAdd, Nat.reduceSub, Int.reduceLT, Int.reduceLE, Int.reducePow, Int.reduceToNat, Int.reduceAdd, Int.reduceSub, Int.reduceMul, Int.reduceNeg, lp, fx_loadw, disp_mk, mk_ix, disp_pl, disp_ma, mb, ixa, ixb, ixc, eGet2, keyD, Option.getD, l_law_bits_1, l_law_bits_2, go_law_bits, b_law_bits, go_moves_by_nought, b_moves_by_nought, pow1 d0 d1, pow1 s0 s1]
  · rw [go_law_put]
    unfold b_law_put
    simp only [shx, Nat.reduceAdd, Nat.reduceSub, Int.reduceLT, Int.reduceLE, Int.reducePow, Int.reduceToNat, Int.reduceAdd, Int.reduceSub, Int.reduceMul, Int.reduceNeg, lp, fx_loadw, disp_mk, mk_ix, disp_pl, disp_ma, mb, ixa, ixb, ixc, eGet2, keyD, Option.getD, l_law_bits_1, l_law_bits_2, go_law_bits, b_law_bits, go_moves_by_nought, b_moves_by_nought, pow1 d0 d1, pow1 s0 s1]
theorem al_storew {d s n : Int} (d0 : 0 ≤ d) (d1 : d < 8) (s0 : 0 ≤ s) (s1 : s < 8) : Alike (.tup [.str "storew", .int d, .int s, .int n]) := by
  refine ⟨(Builtin.bitOr (Builtin.bitOr 0 (1 * 2 ^ d.toNat)) (1 * 2 ^ s.toNat)), 0, ?_, ?_, ?_, ?_⟩
  · rw [go_used]
    unfold b_used
    simp only [shx, Nat.reduceAdd, Nat.reduceSub, Int.reduceLT, Int.reduceLE, Int.reducePow, Int.reduceToNat, Int.reduceAdd, Int.reduceSub, Int.reduceMul, Int.reduceNeg, lp, fx_storew, disp_mk, mk_ix, disp_pl, disp_ma, mb, ixa, ixb, ixc, eGet2, keyD, Option.getD, l_law_bits_1, l_law_bits_2, go_law_bits, b_law_bits, go_moves_by_nought, b_moves_by_nought, pow1 d0 d1, pow1 s0 s1]
  · rw [go_law_used]
    unfold b_law_used
    simp only [shx, Nat.reduceAdd, Nat.reduceSub, Int.reduceLT, Int.reduceLE, Int.reducePow, Int.reduceToNat, Int.reduceAdd, Int.reduceSub, Int.reduceMul, Int.reduceNeg, lp, fx_storew, disp_mk, mk_ix, disp_pl, disp_ma, mb, ixa, ixb, ixc, eGet2, keyD, Option.getD, l_law_bits_1, l_law_bits_2, go_law_bits, b_law_bits, go_moves_by_nought, b_moves_by_nought, pow1 d0 d1, pow1 s0 s1]
  · rw [go_put]
    unfold b_put
    simp only [shx, Nat.reduceAdd, Nat.reduceSub, Int.reduceLT, Int.reduceLE, Int.reducePow, Int.reduceToNat, Int.reduceAdd, Int.reduceSub, Int.reduceMul, Int.reduceNeg, lp, fx_storew, disp_mk, mk_ix, disp_pl, disp_ma, mb, ixa, ixb, ixc, eGet2, keyD, Option.getD, l_law_bits_1, l_law_bits_2, go_law_bits, b_law_bits, go_moves_by_nought, b_moves_by_nought, pow1 d0 d1, pow1 s0 s1]
  · rw [go_law_put]
    unfold b_law_put
    simp only [shx, Nat.reduceAdd, Nat.reduceSub, Int.reduceLT, Int.reduceLE, Int.reducePow, Int.reduceToNat, Int.reduceAdd, Int.reduceSub, Int.reduceMul, Int.reduceNeg, lp, fx_storew, disp_mk, mk_ix, disp_pl, disp_ma, mb, ixa, ixb, ixc, eGet2, keyD, Option.getD, l_law_bits_1, l_law_bits_2, go_law_bits, b_law_bits, go_moves_by_nought, b_moves_by_nought, pow1 d0 d1, pow1 s0 s1]
theorem al_jump {x : D} : Alike (.tup [.str "jump", x]) := by
  refine ⟨0, 0, ?_, ?_, ?_, ?_⟩
  · rw [go_used]
    unfold b_used
    simp only [shx, Nat.reduceAdd, Nat.reduceSub, Int.reduceLT, Int.reduceLE, Int.reducePow, Int.reduceToNat, Int.reduceAdd, Int.reduceSub, Int.reduceMul, Int.reduceNeg, lp, fx_jump, disp_mk, mk_ix, disp_pl, disp_ma, mb, ixa, ixb, ixc, eGet2, keyD, Option.getD, l_law_bits_1, l_law_bits_2, go_law_bits, b_law_bits, go_moves_by_nought, b_moves_by_nought]
  · rw [go_law_used]
    unfold b_law_used
    simp only [shx, Nat.reduceAdd, Nat.reduceSub, Int.reduceLT, Int.reduceLE, Int.reducePow, Int.reduceToNat, Int.reduceAdd, Int.reduceSub, Int.reduceMul, Int.reduceNeg, lp, fx_jump, disp_mk, mk_ix, disp_pl, disp_ma, mb, ixa, ixb, ixc, eGet2, keyD, Option.getD, l_law_bits_1, l_law_bits_2, go_law_bits, b_law_bits, go_moves_by_nought, b_moves_by_nought]
  · rw [go_put]
    unfold b_put
    simp only [shx, Nat.reduceAdd, Nat.reduceSub, Int.reduceLT, Int.reduceLE, Int.reducePow, Int.reduceToNat, Int.reduceAdd, Int.reduceSub, Int.reduceMul, Int.reduceNeg, lp, fx_jump, disp_mk, mk_ix, disp_pl, disp_ma, mb, ixa, ixb, ixc, eGet2, keyD, Option.getD, l_law_bits_1, l_law_bits_2, go_law_bits, b_law_bits, go_moves_by_nought, b_moves_by_nought]
  · rw [go_law_put]
    unfold b_law_put
    simp only [shx, Nat.reduceAdd, Nat.reduceSub, Int.reduceLT, Int.reduceLE, Int.reducePow, Int.reduceToNat, Int.reduceAdd, Int.reduceSub, Int.reduceMul, Int.reduceNeg, lp, fx_jump, disp_mk, mk_ix, disp_pl, disp_ma, mb, ixa, ixb, ixc, eGet2, keyD, Option.getD, l_law_bits_1, l_law_bits_2, go_law_bits, b_law_bits, go_moves_by_nought, b_moves_by_nought]
theorem al_when_carry {x : D} : Alike (.tup [.str "when", .str "carry", x]) := by
  refine ⟨256, 0, ?_, ?_, ?_, ?_⟩
  · rw [go_used]
    unfold b_used
    simp only [shx, Nat.reduceAdd, Nat.reduceSub, Int.reduceLT, Int.reduceLE, Int.reducePow, Int.reduceToNat, Int.reduceAdd, Int.reduceSub, Int.reduceMul, Int.reduceNeg, or0, lp, fx_when, disp_mk, mk_ix, disp_pl, disp_ma, mb, ixa, ixb, ixc, eGet2, keyD, Option.getD, l_law_bits_1, l_law_bits_2, go_law_bits, b_law_bits, go_moves_by_nought, b_moves_by_nought]
  · rw [go_law_used]
    unfold b_law_used
    simp only [shx, Nat.reduceAdd, Nat.reduceSub, Int.reduceLT, Int.reduceLE, Int.reducePow, Int.reduceToNat, Int.reduceAdd, Int.reduceSub, Int.reduceMul, Int.reduceNeg, or0, lp, fx_when, disp_mk, mk_ix, disp_pl, disp_ma, mb, ixa, ixb, ixc, eGet2, keyD, Option.getD, l_law_bits_1, l_law_bits_2, go_law_bits, b_law_bits, go_moves_by_nought, b_moves_by_nought]
  · rw [go_put]
    unfold b_put
    simp only [shx, Nat.reduceAdd, Nat.reduceSub, Int.reduceLT, Int.reduceLE, Int.reducePow, Int.reduceToNat, Int.reduceAdd, Int.reduceSub, Int.reduceMul, Int.reduceNeg, or0, lp, fx_when, disp_mk, mk_ix, disp_pl, disp_ma, mb, ixa, ixb, ixc, eGet2, keyD, Option.getD, l_law_bits_1, l_law_bits_2, go_law_bits, b_law_bits, go_moves_by_nought, b_moves_by_nought]
  · rw [go_law_put]
    unfold b_law_put
    simp only [shx, Nat.reduceAdd, Nat.reduceSub, Int.reduceLT, Int.reduceLE, Int.reducePow, Int.reduceToNat, Int.reduceAdd, Int.reduceSub, Int.reduceMul, Int.reduceNeg, or0, lp, fx_when, disp_mk, mk_ix, disp_pl, disp_ma, mb, ixa, ixb, ixc, eGet2, keyD, Option.getD, l_law_bits_1, l_law_bits_2, go_law_bits, b_law_bits, go_moves_by_nought, b_moves_by_nought]
theorem al_when_nought {x : D} : Alike (.tup [.str "when", .str "nought", x]) := by
  refine ⟨512, 0, ?_, ?_, ?_, ?_⟩
  · rw [go_used]
    unfold b_used
    simp only [shx, Nat.reduceAdd, Nat.reduceSub, Int.reduceLT, Int.reduceLE, Int.reducePow, Int.reduceToNat, Int.reduceAdd, Int.reduceSub, Int.reduceMul, Int.reduceNeg, or0, lp, fx_when, disp_mk, mk_ix, disp_pl, disp_ma, mb, ixa, ixb, ixc, eGet2, keyD, Option.getD, l_law_bits_1, l_law_bits_2, go_law_bits, b_law_bits, go_moves_by_nought, b_moves_by_nought]
  · rw [go_law_used]
    unfold b_law_used
    simp only [shx, Nat.reduceAdd, Nat.reduceSub, Int.reduceLT, Int.reduceLE, Int.reducePow, Int.reduceToNat, Int.reduceAdd, Int.reduceSub, Int.reduceMul, Int.reduceNeg, or0, lp, fx_when, disp_mk, mk_ix, disp_pl, disp_ma, mb, ixa, ixb, ixc, eGet2, keyD, Option.getD, l_law_bits_1, l_law_bits_2, go_law_bits, b_law_bits, go_moves_by_nought, b_moves_by_nought]
  · rw [go_put]
    unfold b_put
    simp only [shx, Nat.reduceAdd, Nat.reduceSub, Int.reduceLT, Int.reduceLE, Int.reducePow, Int.reduceToNat, Int.reduceAdd, Int.reduceSub, Int.reduceMul, Int.reduceNeg, or0, lp, fx_when, disp_mk, mk_ix, disp_pl, disp_ma, mb, ixa, ixb, ixc, eGet2, keyD, Option.getD, l_law_bits_1, l_law_bits_2, go_law_bits, b_law_bits, go_moves_by_nought, b_moves_by_nought]
  · rw [go_law_put]
    unfold b_law_put
    simp only [shx, Nat.reduceAdd, Nat.reduceSub, Int.reduceLT, Int.reduceLE, Int.reducePow, Int.reduceToNat, Int.reduceAdd, Int.reduceSub, Int.reduceMul, Int.reduceNeg, or0, lp, fx_when, disp_mk, mk_ix, disp_pl, disp_ma, mb, ixa, ixb, ixc, eGet2, keyD, Option.getD, l_law_bits_1, l_law_bits_2, go_law_bits, b_law_bits, go_moves_by_nought, b_moves_by_nought]
theorem al_when_sign {x : D} : Alike (.tup [.str "when", .str "sign", x]) := by
  refine ⟨1024, 0, ?_, ?_, ?_, ?_⟩
  · rw [go_used]
    unfold b_used
    simp only [shx, Nat.reduceAdd, Nat.reduceSub, Int.reduceLT, Int.reduceLE, Int.reducePow, Int.reduceToNat, Int.reduceAdd, Int.reduceSub, Int.reduceMul, Int.reduceNeg, or0, lp, fx_when, disp_mk, mk_ix, disp_pl, disp_ma, mb, ixa, ixb, ixc, eGet2, keyD, Option.getD, l_law_bits_1, l_law_bits_2, go_law_bits, b_law_bits, go_moves_by_nought, b_moves_by_nought]
  · rw [go_law_used]
    unfold b_law_used
    simp only [shx, Nat.reduceAdd, Nat.reduceSub, Int.reduceLT, Int.reduceLE, Int.reducePow, Int.reduceToNat, Int.reduceAdd, Int.reduceSub, Int.reduceMul, Int.reduceNeg, or0, lp, fx_when, disp_mk, mk_ix, disp_pl, disp_ma, mb, ixa, ixb, ixc, eGet2, keyD, Option.getD, l_law_bits_1, l_law_bits_2, go_law_bits, b_law_bits, go_moves_by_nought, b_moves_by_nought]
  · rw [go_put]
    unfold b_put
    simp only [shx, Nat.reduceAdd, Nat.reduceSub, Int.reduceLT, Int.reduceLE, Int.reducePow, Int.reduceToNat, Int.reduceAdd, Int.reduceSub, Int.reduceMul, Int.reduceNeg, or0, lp, fx_when, disp_mk, mk_ix, disp_pl, disp_ma, mb, ixa, ixb, ixc, eGet2, keyD, Option.getD, l_law_bits_1, l_law_bits_2, go_law_bits, b_law_bits, go_moves_by_nought, b_moves_by_nought]
  · rw [go_law_put]
    unfold b_law_put
    simp only [shx, Nat.reduceAdd, Nat.reduceSub, Int.reduceLT, Int.reduceLE, Int.reducePow, Int.reduceToNat, Int.reduceAdd, Int.reduceSub, Int.reduceMul, Int.reduceNeg, or0, lp, fx_when, disp_mk, mk_ix, disp_pl, disp_ma, mb, ixa, ixb, ixc, eGet2, keyD, Option.getD, l_law_bits_1, l_law_bits_2, go_law_bits, b_law_bits, go_moves_by_nought, b_moves_by_nought]
theorem al_unless_carry {x : D} : Alike (.tup [.str "unless", .str "carry", x]) := by
  refine ⟨256, 0, ?_, ?_, ?_, ?_⟩
  · rw [go_used]
    unfold b_used
    simp only [shx, Nat.reduceAdd, Nat.reduceSub, Int.reduceLT, Int.reduceLE, Int.reducePow, Int.reduceToNat, Int.reduceAdd, Int.reduceSub, Int.reduceMul, Int.reduceNeg, or0, lp, fx_unless, disp_mk, mk_ix, disp_pl, disp_ma, mb, ixa, ixb, ixc, eGet2, keyD, Option.getD, l_law_bits_1, l_law_bits_2, go_law_bits, b_law_bits, go_moves_by_nought, b_moves_by_nought]
  · rw [go_law_used]
    unfold b_law_used
    simp only [shx, Nat.reduceAdd, Nat.reduceSub, Int.reduceLT, Int.reduceLE, Int.reducePow, Int.reduceToNat, Int.reduceAdd, Int.reduceSub, Int.reduceMul, Int.reduceNeg, or0, lp, fx_unless, disp_mk, mk_ix, disp_pl, disp_ma, mb, ixa, ixb, ixc, eGet2, keyD, Option.getD, l_law_bits_1, l_law_bits_2, go_law_bits, b_law_bits, go_moves_by_nought, b_moves_by_nought]
  · rw [go_put]
    unfold b_put
    simp only [shx, Nat.reduceAdd, Nat.reduceSub, Int.reduceLT, Int.reduceLE, Int.reducePow, Int.reduceToNat, Int.reduceAdd, Int.reduceSub, Int.reduceMul, Int.reduceNeg, or0, lp, fx_unless, disp_mk, mk_ix, disp_pl, disp_ma, mb, ixa, ixb, ixc, eGet2, keyD, Option.getD, l_law_bits_1, l_law_bits_2, go_law_bits, b_law_bits, go_moves_by_nought, b_moves_by_nought]
  · rw [go_law_put]
    unfold b_law_put
    simp only [shx, Nat.reduceAdd, Nat.reduceSub, Int.reduceLT, Int.reduceLE, Int.reducePow, Int.reduceToNat, Int.reduceAdd, Int.reduceSub, Int.reduceMul, Int.reduceNeg, or0, lp, fx_unless, disp_mk, mk_ix, disp_pl, disp_ma, mb, ixa, ixb, ixc, eGet2, keyD, Option.getD, l_law_bits_1, l_law_bits_2, go_law_bits, b_law_bits, go_moves_by_nought, b_moves_by_nought]
theorem al_unless_nought {x : D} : Alike (.tup [.str "unless", .str "nought", x]) := by
  refine ⟨512, 0, ?_, ?_, ?_, ?_⟩
  · rw [go_used]
    unfold b_used
    simp only [shx, Nat.reduceAdd, Nat.reduceSub, Int.reduceLT, Int.reduceLE, Int.reducePow, Int.reduceToNat, Int.reduceAdd, Int.reduceSub, Int.reduceMul, Int.reduceNeg, or0, lp, fx_unless, disp_mk, mk_ix, disp_pl, disp_ma, mb, ixa, ixb, ixc, eGet2, keyD, Option.getD, l_law_bits_1, l_law_bits_2, go_law_bits, b_law_bits, go_moves_by_nought, b_moves_by_nought]
  · rw [go_law_used]
    unfold b_law_used
    simp only [shx, Nat.reduceAdd, Nat.reduceSub, Int.reduceLT, Int.reduceLE, Int.reducePow, Int.reduceToNat, Int.reduceAdd, Int.reduceSub, Int.reduceMul, Int.reduceNeg, or0, lp, fx_unless, disp_mk, mk_ix, disp_pl, disp_ma, mb, ixa, ixb, ixc, eGet2, keyD, Option.getD, l_law_bits_1, l_law_bits_2, go_law_bits, b_law_bits, go_moves_by_nought, b_moves_by_nought]
  · rw [go_put]
    unfold b_put
    simp only [shx, Nat.reduceAdd, Nat.reduceSub, Int.reduceLT, Int.reduceLE, Int.reducePow, Int.reduceToNat, Int.reduceAdd, Int.reduceSub, Int.reduceMul, Int.reduceNeg, or0, lp, fx_unless, disp_mk, mk_ix, disp_pl, disp_ma, mb, ixa, ixb, ixc, eGet2, keyD, Option.getD, l_law_bits_1, l_law_bits_2, go_law_bits, b_law_bits, go_moves_by_nought, b_moves_by_nought]
  · rw [go_law_put]
    unfold b_law_put
    simp only [shx, Nat.reduceAdd, Nat.reduceSub, Int.reduceLT, Int.reduceLE, Int.reducePow, Int.reduceToNat, Int.reduceAdd, Int.reduceSub, Int.reduceMul, Int.reduceNeg, or0, lp, fx_unless, disp_mk, mk_ix, disp_pl, disp_ma, mb, ixa, ixb, ixc, eGet2, keyD, Option.getD, l_law_bits_1, l_law_bits_2, go_law_bits, b_law_bits, go_moves_by_nought, b_moves_by_nought]
theorem al_unless_sign {x : D} : Alike (.tup [.str "unless", .str "sign", x]) := by
  refine ⟨1024, 0, ?_, ?_, ?_, ?_⟩
  · rw [go_used]
    unfold b_used
    simp only [shx, Nat.reduceAdd, Nat.reduceSub, Int.reduceLT, Int.reduceLE, Int.reducePow, Int.reduceToNat, Int.reduceAdd, Int.reduceSub, Int.reduceMul, Int.reduceNeg, or0, lp, fx_unless, disp_mk, mk_ix, disp_pl, disp_ma, mb, ixa, ixb, ixc, eGet2, keyD, Option.getD, l_law_bits_1, l_law_bits_2, go_law_bits, b_law_bits, go_moves_by_nought, b_moves_by_nought]
  · rw [go_law_used]
    unfold b_law_used
    simp only [shx, Nat.reduceAdd, Nat.reduceSub, Int.reduceLT, Int.reduceLE, Int.reducePow, Int.reduceToNat, Int.reduceAdd, Int.reduceSub, Int.reduceMul, Int.reduceNeg, or0, lp, fx_unless, disp_mk, mk_ix, disp_pl, disp_ma, mb, ixa, ixb, ixc, eGet2, keyD, Option.getD, l_law_bits_1, l_law_bits_2, go_law_bits, b_law_bits, go_moves_by_nought, b_moves_by_nought]
  · rw [go_put]
    unfold b_put
    simp only [shx, Nat.reduceAdd, Nat.reduceSub, Int.reduceLT, Int.reduceLE, Int.reducePow, Int.reduceToNat, Int.reduceAdd, Int.reduceSub, Int.reduceMul, Int.reduceNeg, or0, lp, fx_unless, disp_mk, mk_ix, disp_pl, disp_ma, mb, ixa, ixb, ixc, eGet2, keyD, Option.getD, l_law_bits_1, l_law_bits_2, go_law_bits, b_law_bits, go_moves_by_nought, b_moves_by_nought]
  · rw [go_law_put]
    unfold b_law_put
    simp only [shx, Nat.reduceAdd, Nat.reduceSub, Int.reduceLT, Int.reduceLE, Int.reducePow, Int.reduceToNat, Int.reduceAdd, Int.reduceSub, Int.reduceMul, Int.reduceNeg, or0, lp, fx_unless, disp_mk, mk_ix, disp_pl, disp_ma, mb, ixa, ixb, ixc, eGet2, keyD, Option.getD, l_law_bits_1, l_law_bits_2, go_law_bits, b_law_bits, go_moves_by_nought, b_moves_by_nought]
theorem al_stop  : Alike (.tup [.str "stop"]) := by
  refine ⟨2047, 0, ?_, ?_, ?_, ?_⟩
  · rw [go_used]
    unfold b_used
    simp only [shx, Nat.reduceAdd, Nat.reduceSub, Int.reduceLT, Int.reduceLE, Int.reducePow, Int.reduceToNat, Int.reduceAdd, Int.reduceSub, Int.reduceMul, Int.reduceNeg, lp, fx_stop, disp_mk, mk_ix, disp_pl, disp_ma, mb, ixa, ixb, ixc, eGet2, keyD, Option.getD, l_law_bits_1, l_law_bits_2, go_law_bits, b_law_bits, go_moves_by_nought, b_moves_by_nought]
  · rw [go_law_used]
    unfold b_law_used
    simp only [shx, Nat.reduceAdd, Nat.reduceSub, Int.reduceLT, Int.reduceLE, Int.reducePow, Int.reduceToNat, Int.reduceAdd, Int.reduceSub, Int.reduceMul, Int.reduceNeg, lp, fx_stop, disp_mk, mk_ix, disp_pl, disp_ma, mb, ixa, ixb, ixc, eGet2, keyD, Option.getD, l_law_bits_1, l_law_bits_2, go_law_bits, b_law_bits, go_moves_by_nought, b_moves_by_nought]
  · rw [go_put]
    unfold b_put
    simp only [shx, Nat.reduceAdd, Nat.reduceSub, Int.reduceLT, Int.reduceLE, Int.reducePow, Int.reduceToNat, Int.reduceAdd, Int.reduceSub, Int.reduceMul, Int.reduceNeg, lp, fx_stop, disp_mk, mk_ix, disp_pl, disp_ma, mb, ixa, ixb, ixc, eGet2, keyD, Option.getD, l_law_bits_1, l_law_bits_2, go_law_bits, b_law_bits, go_moves_by_nought, b_moves_by_nought]
  · rw [go_law_put]
    unfold b_law_put
    simp only [shx, Nat.reduceAdd, Nat.reduceSub, Int.reduceLT, Int.reduceLE, Int.reducePow, Int.reduceToNat, Int.reduceAdd, Int.reduceSub, Int.reduceMul, Int.reduceNeg, lp, fx_stop, disp_mk, mk_ix, disp_pl, disp_ma, mb, ixa, ixb, ixc, eGet2, keyD, Option.getD, l_law_bits_1, l_law_bits_2, go_law_bits, b_law_bits, go_moves_by_nought, b_moves_by_nought]
abbrev wordsD : D := .lst [.str "set", .str "high", .str "copy", .str "add", .str "addc", .str "sub", .str "subc", .str "and", .str "or", .str "xor", .str "test", .str "left", .str "right", .str "load", .str "store", .str "loadw", .str "storew", .str "jump", .str "when", .str "unless", .str "stop", .str "set", .str "copy", .str "add", .str "when", .str "unless", .str "test", .str "sub"]
theorem words_F : F_law_words [] = some (false, wordsD) := by rfl
abbrev abcD : D := .lst [.str "a", .str "b", .str "c"]
theorem p2 {a b i : Int} (h0 : 0 ≤ i) (h1 : i < 2) : ∃ n, (n = a ∨ n = b) ∧ fIx (.lst [.int a, .int b]) (.int i) = some (.int n) := by
  rcases (show i = 0 ∨ i = 1 by omega) with rfl | rfl
  · exact ⟨a, by simp, rfl⟩
  · exact ⟨b, by simp, rfl⟩
theorem abc3 {i : Int} (h0 : 0 ≤ i) (h1 : i < 3) : ∃ x, fIx abcD (.int i) = some x := by
  rcases (show i = 0 ∨ i = 1 ∨ i = 2 by omega) with rfl | rfl | rfl
  · exact ⟨_, rfl⟩
  · exact ⟨_, rfl⟩
  · exact ⟨_, rfl⟩
theorem mks3 {i : Int} (h0 : 0 ≤ i) (h1 : i < 3) : ∃ m, (m = ("carry" : Str) ∨ m = ("nought" : Str) ∨ m = ("sign" : Str)) ∧ fIx (.lst [.str "carry", .str "nought", .str "sign"]) (.int i) = some (.str m) := by
  rcases (show i = 0 ∨ i = 1 ∨ i = 2 by omega) with rfl | rfl | rfl
  · exact ⟨"carry", .inl rfl, rfl⟩
  · exact ⟨"nought", .inr (.inl rfl), rfl⟩
  · exact ⟨"sign", .inr (.inr rfl), rfl⟩
theorem g3 : decide ((0 : Int) < ((3 : Nat) : Int)) = true := rfl
theorem fr_set : fIn (.str "set") (.tup [.str "set", .str "high"]) = some (.bl true) ∧ fIn (.str "set") (.tup [.str "left", .str "right"]) = some (.bl false) ∧ fIn (.str "set") (.tup [.str "load", .str "store", .str "loadw", .str "storew"]) = some (.bl false) ∧ fEq (.str "set") (.str "jump") = some (.bl false) ∧ fEq (.str "set") (.str "stop") = some (.bl false) ∧ fIn (.str "set") (.tup [.str "when", .str "unless"]) = some (.bl false) := ⟨by rfl, by rfl, by rfl, by rfl, by rfl, by rfl⟩
theorem fr_high : fIn (.str "high") (.tup [.str "set", .str "high"]) = some (.bl true) ∧ fIn (.str "high") (.tup [.str "left", .str "right"]) = some (.bl false) ∧ fIn (.str "high") (.tup [.str "load", .str "store", .str "loadw", .str "storew"]) = some (.bl false) ∧ fEq (.str "high") (.str "jump") = some (.bl false) ∧ fEq (.str "high") (.str "stop") = some (.bl false) ∧ fIn (.str "high") (.tup [.str "when", .str "unless"]) = some (.bl false) := ⟨by rfl, by rfl, by rfl, by rfl, by rfl, by rfl⟩
theorem fr_copy : fIn (.str "copy") (.tup [.str "set", .str "high"]) = some (.bl false) ∧ fIn (.str "copy") (.tup [.str "left", .str "right"]) = some (.bl false) ∧ fIn (.str "copy") (.tup [.str "load", .str "store", .str "loadw", .str "storew"]) = some (.bl false) ∧ fEq (.str "copy") (.str "jump") = some (.bl false) ∧ fEq (.str "copy") (.str "stop") = some (.bl false) ∧ fIn (.str "copy") (.tup [.str "when", .str "unless"]) = some (.bl false) := ⟨by rfl, by rfl, by rfl, by rfl, by rfl, by rfl⟩
theorem fr_add : fIn (.str "add") (.tup [.str "set", .str "high"]) = some (.bl false) ∧ fIn (.str "add") (.tup [.str "left", .str "right"]) = some (.bl false) ∧ fIn (.str "add") (.tup [.str "load", .str "store", .str "loadw", .str "storew"]) = some (.bl false) ∧ fEq (.str "add") (.str "jump") = some (.bl false) ∧ fEq (.str "add") (.str "stop") = some (.bl false) ∧ fIn (.str "add") (.tup [.str "when", .str "unless"]) = some (.bl false) := ⟨by rfl, by rfl, by rfl, by rfl, by rfl, by rfl⟩
theorem fr_addc : fIn (.str "addc") (.tup [.str "set", .str "high"]) = some (.bl false) ∧ fIn (.str "addc") (.tup [.str "left", .str "right"]) = some (.bl false) ∧ fIn (.str "addc") (.tup [.str "load", .str "store", .str "loadw", .str "storew"]) = some (.bl false) ∧ fEq (.str "addc") (.str "jump") = some (.bl false) ∧ fEq (.str "addc") (.str "stop") = some (.bl false) ∧ fIn (.str "addc") (.tup [.str "when", .str "unless"]) = some (.bl false) := ⟨by rfl, by rfl, by rfl, by rfl, by rfl, by rfl⟩
theorem fr_sub : fIn (.str "sub") (.tup [.str "set", .str "high"]) = some (.bl false) ∧ fIn (.str "sub") (.tup [.str "left", .str "right"]) = some (.bl false) ∧ fIn (.str "sub") (.tup [.str "load", .str "store", .str "loadw", .str "storew"]) = some (.bl false) ∧ fEq (.str "sub") (.str "jump") = some (.bl false) ∧ fEq (.str "sub") (.str "stop") = some (.bl false) ∧ fIn (.str "sub") (.tup [.str "when", .str "unless"]) = some (.bl false) := ⟨by rfl, by rfl, by rfl, by rfl, by rfl, by rfl⟩
theorem fr_subc : fIn (.str "subc") (.tup [.str "set", .str "high"]) = some (.bl false) ∧ fIn (.str "subc") (.tup [.str "left", .str "right"]) = some (.bl false) ∧ fIn (.str "subc") (.tup [.str "load", .str "store", .str "loadw", .str "storew"]) = some (.bl false) ∧ fEq (.str "subc") (.str "jump") = some (.bl false) ∧ fEq (.str "subc") (.str "stop") = some (.bl false) ∧ fIn (.str "subc") (.tup [.str "when", .str "unless"]) = some (.bl false) := ⟨by rfl, by rfl, by rfl, by rfl, by rfl, by rfl⟩
theorem fr_and : fIn (.str "and") (.tup [.str "set", .str "high"]) = some (.bl false) ∧ fIn (.str "and") (.tup [.str "left", .str "right"]) = some (.bl false) ∧ fIn (.str "and") (.tup [.str "load", .str "store", .str "loadw", .str "storew"]) = some (.bl false) ∧ fEq (.str "and") (.str "jump") = some (.bl false) ∧ fEq (.str "and") (.str "stop") = some (.bl false) ∧ fIn (.str "and") (.tup [.str "when", .str "unless"]) = some (.bl false) := ⟨by rfl, by rfl, by rfl, by rfl, by rfl, by rfl⟩
theorem fr_or : fIn (.str "or") (.tup [.str "set", .str "high"]) = some (.bl false) ∧ fIn (.str "or") (.tup [.str "left", .str "right"]) = some (.bl false) ∧ fIn (.str "or") (.tup [.str "load", .str "store", .str "loadw", .str "storew"]) = some (.bl false) ∧ fEq (.str "or") (.str "jump") = some (.bl false) ∧ fEq (.str "or") (.str "stop") = some (.bl false) ∧ fIn (.str "or") (.tup [.str "when", .str "unless"]) = some (.bl false) := ⟨by rfl, by rfl, by rfl, by rfl, by rfl, by rfl⟩
theorem fr_xor : fIn (.str "xor") (.tup [.str "set", .str "high"]) = some (.bl false) ∧ fIn (.str "xor") (.tup [.str "left", .str "right"]) = some (.bl false) ∧ fIn (.str "xor") (.tup [.str "load", .str "store", .str "loadw", .str "storew"]) = some (.bl false) ∧ fEq (.str "xor") (.str "jump") = some (.bl false) ∧ fEq (.str "xor") (.str "stop") = some (.bl false) ∧ fIn (.str "xor") (.tup [.str "when", .str "unless"]) = some (.bl false) := ⟨by rfl, by rfl, by rfl, by rfl, by rfl, by rfl⟩
theorem fr_test : fIn (.str "test") (.tup [.str "set", .str "high"]) = some (.bl false) ∧ fIn (.str "test") (.tup [.str "left", .str "right"]) = some (.bl false) ∧ fIn (.str "test") (.tup [.str "load", .str "store", .str "loadw", .str "storew"]) = some (.bl false) ∧ fEq (.str "test") (.str "jump") = some (.bl false) ∧ fEq (.str "test") (.str "stop") = some (.bl false) ∧ fIn (.str "test") (.tup [.str "when", .str "unless"]) = some (.bl false) := ⟨by rfl, by rfl, by rfl, by rfl, by rfl, by rfl⟩
theorem fr_left : fIn (.str "left") (.tup [.str "set", .str "high"]) = some (.bl false) ∧ fIn (.str "left") (.tup [.str "left", .str "right"]) = some (.bl true) ∧ fIn (.str "left") (.tup [.str "load", .str "store", .str "loadw", .str "storew"]) = some (.bl false) ∧ fEq (.str "left") (.str "jump") = some (.bl false) ∧ fEq (.str "left") (.str "stop") = some (.bl false) ∧ fIn (.str "left") (.tup [.str "when", .str "unless"]) = some (.bl false) := ⟨by rfl, by rfl, by rfl, by rfl, by rfl, by rfl⟩
theorem fr_right : fIn (.str "right") (.tup [.str "set", .str "high"]) = some (.bl false) ∧ fIn (.str "right") (.tup [.str "left", .str "right"]) = some (.bl true) ∧ fIn (.str "right") (.tup [.str "load", .str "store", .str "loadw", .str "storew"]) = some (.bl false) ∧ fEq (.str "right") (.str "jump") = some (.bl false) ∧ fEq (.str "right") (.str "stop") = some (.bl false) ∧ fIn (.str "right") (.tup [.str "when", .str "unless"]) = some (.bl false) := ⟨by rfl, by rfl, by rfl, by rfl, by rfl, by rfl⟩
theorem fr_load : fIn (.str "load") (.tup [.str "set", .str "high"]) = some (.bl false) ∧ fIn (.str "load") (.tup [.str "left", .str "right"]) = some (.bl false) ∧ fIn (.str "load") (.tup [.str "load", .str "store", .str "loadw", .str "storew"]) = some (.bl true) ∧ fEq (.str "load") (.str "jump") = some (.bl false) ∧ fEq (.str "load") (.str "stop") = some (.bl false) ∧ fIn (.str "load") (.tup [.str "when", .str "unless"]) = some (.bl false) := ⟨by rfl, by rfl, by rfl, by rfl, by rfl, by rfl⟩
theorem fr_store : fIn (.str "store") (.tup [.str "set", .str "high"]) = some (.bl false) ∧ fIn (.str "store") (.tup [.str "left", .str "right"]) = some (.bl false) ∧ fIn (.str "store") (.tup [.str "load", .str "store", .str "loadw", .str "storew"]) = some (.bl true) ∧ fEq (.str "store") (.str "jump") = some (.bl false) ∧ fEq (.str "store") (.str "stop") = some (.bl false) ∧ fIn (.str "store") (.tup [.str "when", .str "unless"]) = some (.bl false) := ⟨by rfl, by rfl, by rfl, by rfl, by rfl, by rfl⟩
theorem fr_loadw : fIn (.str "loadw") (.tup [.str "set", .str "high"]) = some (.bl false) ∧ fIn (.str "loadw") (.tup [.str "left", .str "right"]) = some (.bl false) ∧ fIn (.str "loadw") (.tup [.str "load", .str "store", .str "loadw", .str "storew"]) = some (.bl true) ∧ fEq (.str "loadw") (.str "jump") = some (.bl false) ∧ fEq (.str "loadw") (.str "stop") = some (.bl false) ∧ fIn (.str "loadw") (.tup [.str "when", .str "unless"]) = some (.bl false) := ⟨by rfl, by rfl, by rfl, by rfl, by rfl, by rfl⟩
theorem fr_storew : fIn (.str "storew") (.tup [.str "set", .str "high"]) = some (.bl false) ∧ fIn (.str "storew") (.tup [.str "left", .str "right"]) = some (.bl false) ∧ fIn (.str "storew") (.tup [.str "load", .str "store", .str "loadw", .str "storew"]) = some (.bl true) ∧ fEq (.str "storew") (.str "jump") = some (.bl false) ∧ fEq (.str "storew") (.str "stop") = some (.bl false) ∧ fIn (.str "storew") (.tup [.str "when", .str "unless"]) = some (.bl false) := ⟨by rfl, by rfl, by rfl, by rfl, by rfl, by rfl⟩
theorem fr_jump : fIn (.str "jump") (.tup [.str "set", .str "high"]) = some (.bl false) ∧ fIn (.str "jump") (.tup [.str "left", .str "right"]) = some (.bl false) ∧ fIn (.str "jump") (.tup [.str "load", .str "store", .str "loadw", .str "storew"]) = some (.bl false) ∧ fEq (.str "jump") (.str "jump") = some (.bl true) ∧ fEq (.str "jump") (.str "stop") = some (.bl false) ∧ fIn (.str "jump") (.tup [.str "when", .str "unless"]) = some (.bl false) := ⟨by rfl, by rfl, by rfl, by rfl, by rfl, by rfl⟩
theorem fr_when : fIn (.str "when") (.tup [.str "set", .str "high"]) = some (.bl false) ∧ fIn (.str "when") (.tup [.str "left", .str "right"]) = some (.bl false) ∧ fIn (.str "when") (.tup [.str "load", .str "store", .str "loadw", .str "storew"]) = some (.bl false) ∧ fEq (.str "when") (.str "jump") = some (.bl false) ∧ fEq (.str "when") (.str "stop") = some (.bl false) ∧ fIn (.str "when") (.tup [.str "when", .str "unless"]) = some (.bl true) := ⟨by rfl, by rfl, by rfl, by rfl, by rfl, by rfl⟩
theorem fr_unless : fIn (.str "unless") (.tup [.str "set", .str "high"]) = some (.bl false) ∧ fIn (.str "unless") (.tup [.str "left", .str "right"]) = some (.bl false) ∧ fIn (.str "unless") (.tup [.str "load", .str "store", .str "loadw", .str "storew"]) = some (.bl false) ∧ fEq (.str "unless") (.str "jump") = some (.bl false) ∧ fEq (.str "unless") (.str "stop") = some (.bl false) ∧ fIn (.str "unless") (.tup [.str "when", .str "unless"]) = some (.bl true) := ⟨by rfl, by rfl, by rfl, by rfl, by rfl, by rfl⟩
theorem fr_stop : fIn (.str "stop") (.tup [.str "set", .str "high"]) = some (.bl false) ∧ fIn (.str "stop") (.tup [.str "left", .str "right"]) = some (.bl false) ∧ fIn (.str "stop") (.tup [.str "load", .str "store", .str "loadw", .str "storew"]) = some (.bl false) ∧ fEq (.str "stop") (.str "jump") = some (.bl false) ∧ fEq (.str "stop") (.str "stop") = some (.bl true) ∧ fIn (.str "stop") (.tup [.str "when", .str "unless"]) = some (.bl false) := ⟨by rfl, by rfl, by rfl, by rfl, by rfl, by rfl⟩
theorem rw_set {m k : Int} (k0 : 0 < k) (k1 : k ≤ 8) (hw : fIx wordsD (.int (m % 28)) = some (.str "set")) : ∃ r, F_law_row_by [.int m, abcD, .int k] = some (false, r) ∧ Alike r := by
  have d0 := Int.emod_nonneg (m / 28) (show k ≠ 0 by omega)
  have d1 := Int.emod_lt_of_pos (m / 28) k0
  have s0 := Int.emod_nonneg (m / 28 / 8) (show k ≠ 0 by omega)
  have s1 := Int.emod_lt_of_pos (m / 28 / 8) k0
  have hO := words_F
  obtain ⟨n, hn, e⟩ := p2 (a := m / 28 / 64 % 65536) (b := m / 28 / 64 % 3) (i := m / 28 / 32 % 2) (by omega) (by omega)
  refine ⟨.tup [.str "set", .int (m / 28 % k), .int n], ?_, al_set d0 (by omega)⟩
  rw [go_law_row_by]
  unfold b_law_row_by
  generalize wordsD = O at hw hO
  simp only [shx, Nat.reduceAdd, Nat.reduceSub, Int.reduceLT, Int.reduceLE, Int.reducePow, Int.reduceToNat, Int.reduceAdd, Int.reduceSub, Int.reduceMul, Int.reduceNeg, hO, hw, decide_eq_true k0, fr_set, e]
theorem rw_high {m k : Int} (k0 : 0 < k) (k1 : k ≤ 8) (hw : fIx wordsD (.int (m % 28)) = some (.str "high")) : ∃ r, F_law_row_by [.int m, abcD, .int k] = some (false, r) ∧ Alike r := by
  have d0 := Int.emod_nonneg (m / 28) (show k ≠ 0 by omega)
  have d1 := Int.emod_lt_of_pos (m / 28) k0
  have s0 := Int.emod_nonneg (m / 28 / 8) (show k ≠ 0 by omega)
  have s1 := Int.emod_lt_of_pos (m / 28 / 8) k0
  have hO := words_F
  obtain ⟨n, hn, e⟩ := p2 (a := m / 28 / 64 % 65536) (b := m / 28 / 64 % 3) (i := m / 28 / 32 % 2) (by omega) (by omega)
  refine ⟨.tup [.str "high", .int (m / 28 % k), .int n], ?_, al_high d0 (by omega)⟩
  rw [go_law_row_by]
  unfold b_law_row_by
  generalize wordsD = O at hw hO
  simp only [shx, Nat.reduceAdd, Nat.reduceSub, Int.reduceLT, Int.reduceLE, Int.reducePow, Int.reduceToNat, Int.reduceAdd, Int.reduceSub, Int.reduceMul, Int.reduceNeg, hO, hw, decide_eq_true k0, fr_high, e]
theorem rw_copy {m k : Int} (k0 : 0 < k) (k1 : k ≤ 8) (hw : fIx wordsD (.int (m % 28)) = some (.str "copy")) : ∃ r, F_law_row_by [.int m, abcD, .int k] = some (false, r) ∧ Alike r := by
  have d0 := Int.emod_nonneg (m / 28) (show k ≠ 0 by omega)
  have d1 := Int.emod_lt_of_pos (m / 28) k0
  have s0 := Int.emod_nonneg (m / 28 / 8) (show k ≠ 0 by omega)
  have s1 := Int.emod_lt_of_pos (m / 28 / 8) k0
  have hO := words_F
  refine ⟨.tup [.str "copy", .int (m / 28 % k), .int (m / 28 / 8 % k)], ?_, al_copy d0 (by omega) s0 (by omega)⟩
  rw [go_law_row_by]
  unfold b_law_row_by
  generalize wordsD = O at hw hO
  simp only [shx, Nat.reduceAdd, Nat.reduceSub, Int.reduceLT, Int.reduceLE, Int.reducePow, Int.reduceToNat, Int.reduceAdd, Int.reduceSub, Int.reduceMul, Int.reduceNeg, hO, hw, decide_eq_true k0, fr_copy]
theorem rw_add {m k : Int} (k0 : 0 < k) (k1 : k ≤ 8) (hw : fIx wordsD (.int (m % 28)) = some (.str "add")) : ∃ r, F_law_row_by [.int m, abcD, .int k] = some (false, r) ∧ Alike r := by
  have d0 := Int.emod_nonneg (m / 28) (show k ≠ 0 by omega)
  have d1 := Int.emod_lt_of_pos (m / 28) k0
  have s0 := Int.emod_nonneg (m / 28 / 8) (show k ≠ 0 by omega)
  have s1 := Int.emod_lt_of_pos (m / 28 / 8) k0
  have hO := words_F
  refine ⟨.tup [.str "add", .int (m / 28 % k), .int (m / 28 / 8 % k)], ?_, al_add d0 (by omega) s0 (by omega)⟩
  rw [go_law_row_by]
  unfold b_law_row_by
  generalize wordsD = O at hw hO
  simp only [shx, Nat.reduceAdd, Nat.reduceSub, Int.reduceLT, Int.reduceLE, Int.reducePow, Int.reduceToNat, Int.reduceAdd, Int.reduceSub, Int.reduceMul, Int.reduceNeg, hO, hw, decide_eq_true k0, fr_add]
theorem rw_addc {m k : Int} (k0 : 0 < k) (k1 : k ≤ 8) (hw : fIx wordsD (.int (m % 28)) = some (.str "addc")) : ∃ r, F_law_row_by [.int m, abcD, .int k] = some (false, r) ∧ Alike r := by
  have d0 := Int.emod_nonneg (m / 28) (show k ≠ 0 by omega)
  have d1 := Int.emod_lt_of_pos (m / 28) k0
  have s0 := Int.emod_nonneg (m / 28 / 8) (show k ≠ 0 by omega)
  have s1 := Int.emod_lt_of_pos (m / 28 / 8) k0
  have hO := words_F
  refine ⟨.tup [.str "addc", .int (m / 28 % k), .int (m / 28 / 8 % k)], ?_, al_addc d0 (by omega) s0 (by omega)⟩
  rw [go_law_row_by]
  unfold b_law_row_by
  generalize wordsD = O at hw hO
  simp only [shx, Nat.reduceAdd, Nat.reduceSub, Int.reduceLT, Int.reduceLE, Int.reducePow, Int.reduceToNat, Int.reduceAdd, Int.reduceSub, Int.reduceMul, Int.reduceNeg, hO, hw, decide_eq_true k0, fr_addc]
theorem rw_sub {m k : Int} (k0 : 0 < k) (k1 : k ≤ 8) (hw : fIx wordsD (.int (m % 28)) = some (.str "sub")) : ∃ r, F_law_row_by [.int m, abcD, .int k] = some (false, r) ∧ Alike r := by
  have d0 := Int.emod_nonneg (m / 28) (show k ≠ 0 by omega)
  have d1 := Int.emod_lt_of_pos (m / 28) k0
  have s0 := Int.emod_nonneg (m / 28 / 8) (show k ≠ 0 by omega)
  have s1 := Int.emod_lt_of_pos (m / 28 / 8) k0
  have hO := words_F
  refine ⟨.tup [.str "sub", .int (m / 28 % k), .int (m / 28 / 8 % k)], ?_, al_sub d0 (by omega) s0 (by omega)⟩
  rw [go_law_row_by]
  unfold b_law_row_by
  generalize wordsD = O at hw hO
  simp only [shx, Nat.reduceAdd, Nat.reduceSub, Int.reduceLT, Int.reduceLE, Int.reducePow, Int.reduceToNat, Int.reduceAdd, Int.reduceSub, Int.reduceMul, Int.reduceNeg, hO, hw, decide_eq_true k0, fr_sub]
theorem rw_subc {m k : Int} (k0 : 0 < k) (k1 : k ≤ 8) (hw : fIx wordsD (.int (m % 28)) = some (.str "subc")) : ∃ r, F_law_row_by [.int m, abcD, .int k] = some (false, r) ∧ Alike r := by
  have d0 := Int.emod_nonneg (m / 28) (show k ≠ 0 by omega)
  have d1 := Int.emod_lt_of_pos (m / 28) k0
  have s0 := Int.emod_nonneg (m / 28 / 8) (show k ≠ 0 by omega)
  have s1 := Int.emod_lt_of_pos (m / 28 / 8) k0
  have hO := words_F
  refine ⟨.tup [.str "subc", .int (m / 28 % k), .int (m / 28 / 8 % k)], ?_, al_subc d0 (by omega) s0 (by omega)⟩
  rw [go_law_row_by]
  unfold b_law_row_by
  generalize wordsD = O at hw hO
  simp only [shx, Nat.reduceAdd, Nat.reduceSub, Int.reduceLT, Int.reduceLE, Int.reducePow, Int.reduceToNat, Int.reduceAdd, Int.reduceSub, Int.reduceMul, Int.reduceNeg, hO, hw, decide_eq_true k0, fr_subc]
theorem rw_and {m k : Int} (k0 : 0 < k) (k1 : k ≤ 8) (hw : fIx wordsD (.int (m % 28)) = some (.str "and")) : ∃ r, F_law_row_by [.int m, abcD, .int k] = some (false, r) ∧ Alike r := by
  have d0 := Int.emod_nonneg (m / 28) (show k ≠ 0 by omega)
  have d1 := Int.emod_lt_of_pos (m / 28) k0
  have s0 := Int.emod_nonneg (m / 28 / 8) (show k ≠ 0 by omega)
  have s1 := Int.emod_lt_of_pos (m / 28 / 8) k0
  have hO := words_F
  refine ⟨.tup [.str "and", .int (m / 28 % k), .int (m / 28 / 8 % k)], ?_, al_and d0 (by omega) s0 (by omega)⟩
  rw [go_law_row_by]
  unfold b_law_row_by
  generalize wordsD = O at hw hO
  simp only [shx, Nat.reduceAdd, Nat.reduceSub, Int.reduceLT, Int.reduceLE, Int.reducePow, Int.reduceToNat, Int.reduceAdd, Int.reduceSub, Int.reduceMul, Int.reduceNeg, hO, hw, decide_eq_true k0, fr_and]
theorem rw_or {m k : Int} (k0 : 0 < k) (k1 : k ≤ 8) (hw : fIx wordsD (.int (m % 28)) = some (.str "or")) : ∃ r, F_law_row_by [.int m, abcD, .int k] = some (false, r) ∧ Alike r := by
  have d0 := Int.emod_nonneg (m / 28) (show k ≠ 0 by omega)
  have d1 := Int.emod_lt_of_pos (m / 28) k0
  have s0 := Int.emod_nonneg (m / 28 / 8) (show k ≠ 0 by omega)
  have s1 := Int.emod_lt_of_pos (m / 28 / 8) k0
  have hO := words_F
  refine ⟨.tup [.str "or", .int (m / 28 % k), .int (m / 28 / 8 % k)], ?_, al_or d0 (by omega) s0 (by omega)⟩
  rw [go_law_row_by]
  unfold b_law_row_by
  generalize wordsD = O at hw hO
  simp only [shx, Nat.reduceAdd, Nat.reduceSub, Int.reduceLT, Int.reduceLE, Int.reducePow, Int.reduceToNat, Int.reduceAdd, Int.reduceSub, Int.reduceMul, Int.reduceNeg, hO, hw, decide_eq_true k0, fr_or]
theorem rw_xor {m k : Int} (k0 : 0 < k) (k1 : k ≤ 8) (hw : fIx wordsD (.int (m % 28)) = some (.str "xor")) : ∃ r, F_law_row_by [.int m, abcD, .int k] = some (false, r) ∧ Alike r := by
  have d0 := Int.emod_nonneg (m / 28) (show k ≠ 0 by omega)
  have d1 := Int.emod_lt_of_pos (m / 28) k0
  have s0 := Int.emod_nonneg (m / 28 / 8) (show k ≠ 0 by omega)
  have s1 := Int.emod_lt_of_pos (m / 28 / 8) k0
  have hO := words_F
  refine ⟨.tup [.str "xor", .int (m / 28 % k), .int (m / 28 / 8 % k)], ?_, al_xor d0 (by omega) s0 (by omega)⟩
  rw [go_law_row_by]
  unfold b_law_row_by
  generalize wordsD = O at hw hO
  simp only [shx, Nat.reduceAdd, Nat.reduceSub, Int.reduceLT, Int.reduceLE, Int.reducePow, Int.reduceToNat, Int.reduceAdd, Int.reduceSub, Int.reduceMul, Int.reduceNeg, hO, hw, decide_eq_true k0, fr_xor]
theorem rw_test {m k : Int} (k0 : 0 < k) (k1 : k ≤ 8) (hw : fIx wordsD (.int (m % 28)) = some (.str "test")) : ∃ r, F_law_row_by [.int m, abcD, .int k] = some (false, r) ∧ Alike r := by
  have d0 := Int.emod_nonneg (m / 28) (show k ≠ 0 by omega)
  have d1 := Int.emod_lt_of_pos (m / 28) k0
  have s0 := Int.emod_nonneg (m / 28 / 8) (show k ≠ 0 by omega)
  have s1 := Int.emod_lt_of_pos (m / 28 / 8) k0
  have hO := words_F
  refine ⟨.tup [.str "test", .int (m / 28 % k), .int (m / 28 / 8 % k)], ?_, al_test d0 (by omega) s0 (by omega)⟩
  rw [go_law_row_by]
  unfold b_law_row_by
  generalize wordsD = O at hw hO
  simp only [shx, Nat.reduceAdd, Nat.reduceSub, Int.reduceLT, Int.reduceLE, Int.reducePow, Int.reduceToNat, Int.reduceAdd, Int.reduceSub, Int.reduceMul, Int.reduceNeg, hO, hw, decide_eq_true k0, fr_test]
theorem rw_left {m k : Int} (k0 : 0 < k) (k1 : k ≤ 8) (hw : fIx wordsD (.int (m % 28)) = some (.str "left")) : ∃ r, F_law_row_by [.int m, abcD, .int k] = some (false, r) ∧ Alike r := by
  have d0 := Int.emod_nonneg (m / 28) (show k ≠ 0 by omega)
  have d1 := Int.emod_lt_of_pos (m / 28) k0
  have s0 := Int.emod_nonneg (m / 28 / 8) (show k ≠ 0 by omega)
  have s1 := Int.emod_lt_of_pos (m / 28 / 8) k0
  have hO := words_F
  obtain ⟨n, hn, e⟩ := p2 (a := m / 28 / 64 % 32) (b := m / 28 / 64 % 3) (i := m / 28 / 32 % 2) (by omega) (by omega)
  have al : Alike (.tup [.str "left", .int (m / 28 % k), .int n]) := by
    by_cases c : n = 0
    · subst c; exact al_left_0 d0 (by omega)
    · exact al_left_n d0 (by omega) (by omega)
  refine ⟨_, ?_, al⟩
  rw [go_law_row_by]
  unfold b_law_row_by
  generalize wordsD = O at hw hO
  simp only [shx, Nat.reduceAdd, Nat.reduceSub, Int.reduceLT, Int.reduceLE, Int.reducePow, Int.reduceToNat, Int.reduceAdd, Int.reduceSub, Int.reduceMul, Int.reduceNeg, hO, hw, decide_eq_true k0, fr_left, e]
theorem rw_right {m k : Int} (k0 : 0 < k) (k1 : k ≤ 8) (hw : fIx wordsD (.int (m % 28)) = some (.str "right")) : ∃ r, F_law_row_by [.int m, abcD, .int k] = some (false, r) ∧ Alike r := by
  have d0 := Int.emod_nonneg (m / 28) (show k ≠ 0 by omega)
  have d1 := Int.emod_lt_of_pos (m / 28) k0
  have s0 := Int.emod_nonneg (m / 28 / 8) (show k ≠ 0 by omega)
  have s1 := Int.emod_lt_of_pos (m / 28 / 8) k0
  have hO := words_F
  obtain ⟨n, hn, e⟩ := p2 (a := m / 28 / 64 % 32) (b := m / 28 / 64 % 3) (i := m / 28 / 32 % 2) (by omega) (by omega)
  have al : Alike (.tup [.str "right", .int (m / 28 % k), .int n]) := by
    by_cases c : n = 0
    · subst c; exact al_right_0 d0 (by omega)
    · exact al_right_n d0 (by omega) (by omega)
  refine ⟨_, ?_, al⟩
  rw [go_law_row_by]
  unfold b_law_row_by
  generalize wordsD = O at hw hO
  simp only [shx, Nat.reduceAdd, Nat.reduceSub, Int.reduceLT, Int.reduceLE, Int.reducePow, Int.reduceToNat, Int.reduceAdd, Int.reduceSub, Int.reduceMul, Int.reduceNeg, hO, hw, decide_eq_true k0, fr_right, e]
theorem rw_load {m k : Int} (k0 : 0 < k) (k1 : k ≤ 8) (hw : fIx wordsD (.int (m % 28)) = some (.str "load")) : ∃ r, F_law_row_by [.int m, abcD, .int k] = some (false, r) ∧ Alike r := by
  have d0 := Int.emod_nonneg (m / 28) (show k ≠ 0 by omega)
  have d1 := Int.emod_lt_of_pos (m / 28) k0
  have s0 := Int.emod_nonneg (m / 28 / 8) (show k ≠ 0 by omega)
  have s1 := Int.emod_lt_of_pos (m / 28 / 8) k0
  have hO := words_F
  obtain ⟨n, hn, e⟩ := p2 (a := m / 28 / 64 % 256) (b := m / 28 / 64 % 4) (i := m / 28 / 32 % 2) (by omega) (by omega)
  refine ⟨.tup [.str "load", .int (m / 28 % k), .int (m / 28 / 8 % k), .int n], ?_, al_load d0 (by omega) s0 (by omega)⟩
  rw [go_law_row_by]
  unfold b_law_row_by
  generalize wordsD = O at hw hO
  simp only [shx, Nat.reduceAdd, Nat.reduceSub, Int.reduceLT, Int.reduceLE, Int.reducePow, Int.reduceToNat, Int.reduceAdd, Int.reduceSub, Int.reduceMul, Int.reduceNeg, hO, hw, decide_eq_true k0, fr_load, e]
theorem rw_store {m k : Int} (k0 : 0 < k) (k1 : k ≤ 8) (hw : fIx wordsD (.int (m % 28)) = some (.str "store")) : ∃ r, F_law_row_by [.int m, abcD, .int k] = some (false, r) ∧ Alike r := by
  have d0 := Int.emod_nonneg (m / 28) (show k ≠ 0 by omega)
  have d1 := Int.emod_lt_of_pos (m / 28) k0
  have s0 := Int.emod_nonneg (m / 28 / 8) (show k ≠ 0 by omega)
  have s1 := Int.emod_lt_of_pos (m / 28 / 8) k0
  have hO := words_F
  obtain ⟨n, hn, e⟩ := p2 (a := m / 28 / 64 % 256) (b := m / 28 / 64 % 4) (i := m / 28 / 32 % 2) (by omega) (by omega)
  refine ⟨.tup [.str "store", .int (m / 28 % k), .int (m / 28 / 8 % k), .int n], ?_, al_store d0 (by omega) s0 (by omega)⟩
  rw [go_law_row_by]
  unfold b_law_row_by
  generalize wordsD = O at hw hO
  simp only [shx, Nat.reduceAdd, Nat.reduceSub, Int.reduceLT, Int.reduceLE, Int.reducePow, Int.reduceToNat, Int.reduceAdd, Int.reduceSub, Int.reduceMul, Int.reduceNeg, hO, hw, decide_eq_true k0, fr_store, e]
theorem rw_loadw {m k : Int} (k0 : 0 < k) (k1 : k ≤ 8) (hw : fIx wordsD (.int (m % 28)) = some (.str "loadw")) : ∃ r, F_law_row_by [.int m, abcD, .int k] = some (false, r) ∧ Alike r := by
  have d0 := Int.emod_nonneg (m / 28) (show k ≠ 0 by omega)
  have d1 := Int.emod_lt_of_pos (m / 28) k0
  have s0 := Int.emod_nonneg (m / 28 / 8) (show k ≠ 0 by omega)
  have s1 := Int.emod_lt_of_pos (m / 28 / 8) k0
  have hO := words_F
  obtain ⟨n, hn, e⟩ := p2 (a := m / 28 / 64 % 256) (b := m / 28 / 64 % 4) (i := m / 28 / 32 % 2) (by omega) (by omega)
  refine ⟨.tup [.str "loadw", .int (m / 28 % k), .int (m / 28 / 8 % k), .int n], ?_, al_loadw d0 (by omega) s0 (by omega)⟩
  rw [go_law_row_by]
  unfold b_law_row_by
  generalize wordsD = O at hw hO
  simp only [shx, Nat.reduceAdd, Nat.reduceSub, Int.reduceLT, Int.reduceLE, Int.reducePow, Int.reduceToNat, Int.reduceAdd, Int.reduceSub, Int.reduceMul, Int.reduceNeg, hO, hw, decide_eq_true k0, fr_loadw, e]
theorem rw_storew {m k : Int} (k0 : 0 < k) (k1 : k ≤ 8) (hw : fIx wordsD (.int (m % 28)) = some (.str "storew")) : ∃ r, F_law_row_by [.int m, abcD, .int k] = some (false, r) ∧ Alike r := by
  have d0 := Int.emod_nonneg (m / 28) (show k ≠ 0 by omega)
  have d1 := Int.emod_lt_of_pos (m / 28) k0
  have s0 := Int.emod_nonneg (m / 28 / 8) (show k ≠ 0 by omega)
  have s1 := Int.emod_lt_of_pos (m / 28 / 8) k0
  have hO := words_F
  obtain ⟨n, hn, e⟩ := p2 (a := m / 28 / 64 % 256) (b := m / 28 / 64 % 4) (i := m / 28 / 32 % 2) (by omega) (by omega)
  refine ⟨.tup [.str "storew", .int (m / 28 % k), .int (m / 28 / 8 % k), .int n], ?_, al_storew d0 (by omega) s0 (by omega)⟩
  rw [go_law_row_by]
  unfold b_law_row_by
  generalize wordsD = O at hw hO
  simp only [shx, Nat.reduceAdd, Nat.reduceSub, Int.reduceLT, Int.reduceLE, Int.reducePow, Int.reduceToNat, Int.reduceAdd, Int.reduceSub, Int.reduceMul, Int.reduceNeg, hO, hw, decide_eq_true k0, fr_storew, e]
theorem rw_jump {m k : Int} (k0 : 0 < k) (k1 : k ≤ 8) (hw : fIx wordsD (.int (m % 28)) = some (.str "jump")) : ∃ r, F_law_row_by [.int m, abcD, .int k] = some (false, r) ∧ Alike r := by
  have d0 := Int.emod_nonneg (m / 28) (show k ≠ 0 by omega)
  have d1 := Int.emod_lt_of_pos (m / 28) k0
  have s0 := Int.emod_nonneg (m / 28 / 8) (show k ≠ 0 by omega)
  have s1 := Int.emod_lt_of_pos (m / 28 / 8) k0
  have hO := words_F
  obtain ⟨x, e⟩ := abc3 (i := m / 28 / 64 % ((3 : Nat) : Int)) (by omega) (by omega)
  refine ⟨.tup [.str "jump", x], ?_, al_jump⟩
  rw [go_law_row_by]
  unfold b_law_row_by
  generalize wordsD = O at hw hO
  simp only [shx, Nat.reduceAdd, Nat.reduceSub, Int.reduceLT, Int.reduceLE, Int.reducePow, Int.reduceToNat, Int.reduceAdd, Int.reduceSub, Int.reduceMul, Int.reduceNeg, hO, hw, decide_eq_true k0, fr_jump, e, g3]
theorem rw_when {m k : Int} (k0 : 0 < k) (k1 : k ≤ 8) (hw : fIx wordsD (.int (m % 28)) = some (.str "when")) : ∃ r, F_law_row_by [.int m, abcD, .int k] = some (false, r) ∧ Alike r := by
  have d0 := Int.emod_nonneg (m / 28) (show k ≠ 0 by omega)
  have d1 := Int.emod_lt_of_pos (m / 28) k0
  have s0 := Int.emod_nonneg (m / 28 / 8) (show k ≠ 0 by omega)
  have s1 := Int.emod_lt_of_pos (m / 28 / 8) k0
  have hO := words_F
  obtain ⟨x, e⟩ := abc3 (i := m / 28 / 64 % ((3 : Nat) : Int)) (by omega) (by omega)
  obtain ⟨y, hy, e2⟩ := mks3 (i := m / 28 / 8 % k % 3) (by omega) (by omega)
  have al : Alike (.tup [.str "when", .str y, x]) := by
    rcases hy with rfl | rfl | rfl
    · exact al_when_carry
    · exact al_when_nought
    · exact al_when_sign
  refine ⟨_, ?_, al⟩
  rw [go_law_row_by]
  unfold b_law_row_by
  generalize wordsD = O at hw hO
  simp only [shx, Nat.reduceAdd, Nat.reduceSub, Int.reduceLT, Int.reduceLE, Int.reducePow, Int.reduceToNat, Int.reduceAdd, Int.reduceSub, Int.reduceMul, Int.reduceNeg, hO, hw, decide_eq_true k0, fr_when, e, e2, g3]
theorem rw_unless {m k : Int} (k0 : 0 < k) (k1 : k ≤ 8) (hw : fIx wordsD (.int (m % 28)) = some (.str "unless")) : ∃ r, F_law_row_by [.int m, abcD, .int k] = some (false, r) ∧ Alike r := by
  have d0 := Int.emod_nonneg (m / 28) (show k ≠ 0 by omega)
  have d1 := Int.emod_lt_of_pos (m / 28) k0
  have s0 := Int.emod_nonneg (m / 28 / 8) (show k ≠ 0 by omega)
  have s1 := Int.emod_lt_of_pos (m / 28 / 8) k0
  have hO := words_F
  obtain ⟨x, e⟩ := abc3 (i := m / 28 / 64 % ((3 : Nat) : Int)) (by omega) (by omega)
  obtain ⟨y, hy, e2⟩ := mks3 (i := m / 28 / 8 % k % 3) (by omega) (by omega)
  have al : Alike (.tup [.str "unless", .str y, x]) := by
    rcases hy with rfl | rfl | rfl
    · exact al_unless_carry
    · exact al_unless_nought
    · exact al_unless_sign
  refine ⟨_, ?_, al⟩
  rw [go_law_row_by]
  unfold b_law_row_by
  generalize wordsD = O at hw hO
  simp only [shx, Nat.reduceAdd, Nat.reduceSub, Int.reduceLT, Int.reduceLE, Int.reducePow, Int.reduceToNat, Int.reduceAdd, Int.reduceSub, Int.reduceMul, Int.reduceNeg, hO, hw, decide_eq_true k0, fr_unless, e, e2, g3]
theorem rw_stop {m k : Int} (k0 : 0 < k) (k1 : k ≤ 8) (hw : fIx wordsD (.int (m % 28)) = some (.str "stop")) : ∃ r, F_law_row_by [.int m, abcD, .int k] = some (false, r) ∧ Alike r := by
  have d0 := Int.emod_nonneg (m / 28) (show k ≠ 0 by omega)
  have d1 := Int.emod_lt_of_pos (m / 28) k0
  have s0 := Int.emod_nonneg (m / 28 / 8) (show k ≠ 0 by omega)
  have s1 := Int.emod_lt_of_pos (m / 28 / 8) k0
  have hO := words_F
  refine ⟨.tup [.str "stop"], ?_, al_stop⟩
  rw [go_law_row_by]
  unfold b_law_row_by
  generalize wordsD = O at hw hO
  simp only [shx, Nat.reduceAdd, Nat.reduceSub, Int.reduceLT, Int.reduceLE, Int.reducePow, Int.reduceToNat, Int.reduceAdd, Int.reduceSub, Int.reduceMul, Int.reduceNeg, hO, hw, decide_eq_true k0, fr_stop]
theorem row_F (m k : Int) (k0 : 0 < k) (k1 : k ≤ 8) : ∃ r, F_law_row_by [.int m, abcD, .int k] = some (false, r) ∧ Alike r := by
  rcases (show m % 28 = 0 ∨ m % 28 = 1 ∨ m % 28 = 2 ∨ m % 28 = 3 ∨ m % 28 = 4 ∨ m % 28 = 5 ∨ m % 28 = 6 ∨ m % 28 = 7 ∨ m % 28 = 8 ∨ m % 28 = 9 ∨ m % 28 = 10 ∨ m % 28 = 11 ∨ m % 28 = 12 ∨ m % 28 = 13 ∨ m % 28 = 14 ∨ m % 28 = 15 ∨ m % 28 = 16 ∨ m % 28 = 17 ∨ m % 28 = 18 ∨ m % 28 = 19 ∨ m % 28 = 20 ∨ m % 28 = 21 ∨ m % 28 = 22 ∨ m % 28 = 23 ∨ m % 28 = 24 ∨ m % 28 = 25 ∨ m % 28 = 26 ∨ m % 28 = 27 by omega) with h | h | h | h | h | h | h | h | h | h | h | h | h | h | h | h | h | h | h | h | h | h | h | h | h | h | h | h
  · exact rw_set k0 k1 (by rw [h]; rfl)
  · exact rw_high k0 k1 (by rw [h]; rfl)
  · exact rw_copy k0 k1 (by rw [h]; rfl)
  · exact rw_add k0 k1 (by rw [h]; rfl)
  · exact rw_addc k0 k1 (by rw [h]; rfl)
  · exact rw_sub k0 k1 (by rw [h]; rfl)
  · exact rw_subc k0 k1 (by rw [h]; rfl)
  · exact rw_and k0 k1 (by rw [h]; rfl)
  · exact rw_or k0 k1 (by rw [h]; rfl)
  · exact rw_xor k0 k1 (by rw [h]; rfl)
  · exact rw_test k0 k1 (by rw [h]; rfl)
  · exact rw_left k0 k1 (by rw [h]; rfl)
  · exact rw_right k0 k1 (by rw [h]; rfl)
  · exact rw_load k0 k1 (by rw [h]; rfl)
  · exact rw_store k0 k1 (by rw [h]; rfl)
  · exact rw_loadw k0 k1 (by rw [h]; rfl)
  · exact rw_storew k0 k1 (by rw [h]; rfl)
  · exact rw_jump k0 k1 (by rw [h]; rfl)
  · exact rw_when k0 k1 (by rw [h]; rfl)
  · exact rw_unless k0 k1 (by rw [h]; rfl)
  · exact rw_stop k0 k1 (by rw [h]; rfl)
  · exact rw_set k0 k1 (by rw [h]; rfl)
  · exact rw_copy k0 k1 (by rw [h]; rfl)
  · exact rw_add k0 k1 (by rw [h]; rfl)
  · exact rw_when k0 k1 (by rw [h]; rfl)
  · exact rw_unless k0 k1 (by rw [h]; rfl)
  · exact rw_test k0 k1 (by rw [h]; rfl)
  · exact rw_sub k0 k1 (by rw [h]; rfl)
theorem right_F (u : Int) : F_law_right [.int u, .int u] = some (false, .bl true) := by
  rw [go_law_right]
  unfold b_law_right
  simp only [shx, Nat.reduceAdd, Nat.reduceSub, Int.reduceLT, Int.reduceLE, Int.reducePow, Int.reduceToNat, Int.reduceAdd, Int.reduceSub, Int.reduceMul, Int.reduceNeg, int_eq]
def l_law_1 : FS := (sSeq (sSet 3 (eCall F_law_row_by (aCons (eCall F_law_mark (aCons (eVar 0) (aCons (e2 fAdd (eC (.int 1)) (eVar 2)) aNil))) (aCons (eLst (aCons (eC (.str "a")) (aCons (eC (.str "b")) (aCons (eC (.str "c")) aNil)))) (aCons (eVar 1) aNil)))))
        (sIf (tOrF (tNotF (tE (eCall F_law_right (aCons (eCall F_used (aCons (eVar 3) aNil)) (aCons (eCall F_law_used (aCons (eVar 3) aNil)) aNil))))) (tNotF (tE (eCall F_law_right (aCons (eCall F_put (aCons (eVar 3) aNil)) (aCons (eCall F_law_put (aCons (eVar 3) aNil)) aNil))))))
          (sRet (eC (.bl false)))
          sNext))
def b_law : FS :=
  (sSeq (sSet 1 (e2 fIx (eLst (aCons (eC (.int 3)) (aCons (eC (.int 8)) aNil))) (e2 fMod (eCall F_law_mark (aCons (eVar 0) (aCons (eC (.int 0)) aNil))) (eC (.int 2)))))
    (sSeq (sFor (iRange (eC (.int 0)) (eC (.int 4))) (gVar 2)
      l_law_1)
    (sRet (eC (.bl true)))))
theorem run_law : ∀ ns : List Int, ns.length ≤ 63 → (∀ m ∈ ns, bitsI m ≤ 1048576) → ∃ o, runF 4 b_law [.lst (ns.map D.int)] = some (o, .bl true) := fun ns hl hb => by
  refine ⟨false, ?_⟩
  obtain ⟨m0, a0, _, e0⟩ := mark_F hl hb (k := 0) (by decide) (by decide)
  have marks : ∀ k : Int, 0 ≤ k → k < 4 → ∃ m : Int, F_law_mark [.lst (ns.map D.int), .int (1 + k)] = some (false, .int m) := fun k k0 k1 => by
    obtain ⟨m, _, _, e⟩ := mark_F hl hb (k := 1 + k) (by omega) (by omega)
    exact ⟨m, e⟩
  generalize D.lst (ns.map D.int) = d at e0 marks ⊢
  obtain ⟨k, hk, ek⟩ := p2 (a := 3) (b := 8) (i := m0 % 2) (by omega) (by omega)
  have hi : iRange (eC (.int 0)) (eC (.int 4)) [some (false, d), some (false, .int k), none, none] = some (upTo 4) := range_of (n := 4) rfl (by decide)
  have ai : ∀ {i j : Int}, fAdd (.int i) (.int j) = some (.int (i + j)) := rfl
  obtain ⟨σ', e, τ1, τ2, rfl⟩ := loop_by (g := gVar 2) (b := l_law_1) (fun _ σ => ∃ x y, σ = [some (false, d), some (false, .int k), x, y]) (ds := upTo 4) (σ := [some (false, d), some (false, .int k), none, none]) 0 ⟨none, none, rfl⟩ (by
    rintro i v σ hv ⟨x, y, rfl⟩
    have hi : i < 4 := by
      have := (List.getElem?_eq_some_iff.mp hv).1
      simpa using this
    simp [hi] at hv
    subst hv
    obtain ⟨m, em⟩ := marks (i : Int) (by omega) (by omega)
    obtain ⟨r, er, u, p, f1, f2, f3, f4⟩ := row_F m k (by omega) (by omega)
    refine ⟨_, [some (false, d), some (false, .int k), some (false, .int (i : Int)), some (false, r)], rfl, .inl ?_, _, _, rfl⟩
    unfold l_law_1
    simp only [shx, Nat.reduceAdd, Nat.reduceSub, Int.reduceLT, Int.reduceLE, Int.reducePow, Int.reduceToNat, Int.reduceAdd, Int.reduceSub, Int.reduceMul, Int.reduceNeg, ai, em, er, f1, f2, f3, f4, right_F])
  unfold b_law
  simp only [shx, Nat.reduceAdd, Nat.reduceSub, Int.reduceLT, Int.reduceLE, Int.reducePow, Int.reduceToNat, Int.reduceAdd, Int.reduceSub, Int.reduceMul, Int.reduceNeg, e0, ek, hi, e]
end L3

namespace My
open PySem L2 L3
set_option maxHeartbeats 4000000
def top (i : Nat) : Stmt := PySem.Challenge.pw_markrun_k46_used_and_put.main.body.getD i (.Pass ⟨0, 0, 0, 0⟩)

section
variable {P : Program} {w : World} {K : PySem.W.Frag} {mg : Str → Option Value} {base : Heap} {A_MARKS : Addr} {A_LOOK_AT_D : Addr} {A_LOOK_AT_S : Addr} {A_LOOK_AT_CARRY : Addr} {A_PUT_D : Addr} {A_PUT_NOUGHT_AND_SIGN : Addr} {A_PUT_CARRY : Addr}

abbrev s_mark_bit : Stmt := top 12
theorem sc_mark_bit : FnScope ["mark"] ["mark"] (defScope s_mark_bit) := ⟨rfl, rfl, rfl, by decide +kernel, rfl, by decide +kernel, by decide +kernel⟩
theorem ok_mark_bit (d : Def K mg "mark_bit" s_mark_bit ["mark"]) (g_MARK_LOW : Glb mg "MARK_LOW" (.int 8)) (q_MARK_LOW : ∀ H, Rep K H (.int 8) (.int 8)) (g_MARKS : Glb mg "MARKS" (.ref A_MARKS)) (q_MARKS : ∀ H, Rep K H gt_MARKS (.ref A_MARKS)) (k_MARKS : TupK K A_MARKS) : Has P w K mg base "mark_bit" ["mark"] 1 (spF K F_mark_bit) :=
  Def.okS d sc_mark_bit (by decide) run_mark_bit fun f cdv A outer s H E hr => (sss_one (ss_ret (se_bin op_shl ok_shl se_int (se_bin op_addA ok_add (se_gl g_MARK_LOW q_MARK_LOW rfl) (se_gtindex g_MARKS q_MARKS k_MARKS rfl (se_var 0))))))
abbrev s_moves_by_nought : Stmt := top 13
theorem sc_moves_by_nought : FnScope ["row"] ["row"] (defScope s_moves_by_nought) := ⟨rfl, rfl, rfl, by decide +kernel, rfl, by decide +kernel, by decide +kernel⟩
theorem ok_moves_by_nought (d : Def K mg "moves_by_nought" s_moves_by_nought ["row"]) : Has P w K mg base "moves_by_nought" ["row"] 1 (spF K F_moves_by_nought) :=
  Def.okS d sc_moves_by_nought (by decide) run_moves_by_nought fun f cdv A outer s H E hr => (sss_one (ss_ret (se_and (se_or (se_cmp (op_eqS (hu7 hr)) ok_eq (sb_of (se_ix (ix_S (hu_of hr)) ok_ix (se_var 0) se_int)) (sb_of se_str) (nomark _)) (se_one (se_cmp (op_eqS (hu7 hr)) ok_eq (sb_of (se_ix (ix_S (hu_of hr)) ok_ix (se_var 0) se_int)) (sb_of se_str) (nomark _)))) (se_one (se_cmp (op_eqS (hu7 hr)) ok_eq (sb_of (se_ix (ix_S (hu_of hr)) ok_ix (se_var 0) se_int)) (sb_of se_int) (nomark _))))))
abbrev s_used : Stmt := top 10
theorem sc_used : FnScope ["row", "need"] ["row"] (defScope s_used) := ⟨rfl, rfl, rfl, by decide +kernel, rfl, by decide +kernel, by decide +kernel⟩
theorem ok_used (d : Def K mg "used" s_used ["row"]) (g_ALL_NEEDED : Glb mg "ALL_NEEDED" (.int 2047)) (q_ALL_NEEDED : ∀ H, Rep K H (.int 2047) (.int 2047)) (g_LOOK_AT_D : Glb mg "LOOK_AT_D" (.ref A_LOOK_AT_D)) (q_LOOK_AT_D : ∀ H, Rep K H gt_LOOK_AT_D (.ref A_LOOK_AT_D)) (g_LOOK_AT_S : Glb mg "LOOK_AT_S" (.ref A_LOOK_AT_S)) (q_LOOK_AT_S : ∀ H, Rep K H gt_LOOK_AT_S (.ref A_LOOK_AT_S)) (g_LOOK_AT_CARRY : Glb mg "LOOK_AT_CARRY" (.ref A_LOOK_AT_CARRY)) (q_LOOK_AT_CARRY : ∀ H, Rep K H gt_LOOK_AT_CARRY (.ref A_LOOK_AT_CARRY)) (h_mark_bit : Has P w K mg base "mark_bit" ["mark"] 1 (spF K F_mark_bit)) : Has P w K mg base "used" ["row"] 2 (spF K F_used) :=
  Def.okS d sc_used (by decide) run_used fun f cdv A outer s H E hr => (sss_cons (ss_if (st_cmp (op_eqS (hu7 hr)) ok_eq (sb_of (se_ix (ix_S (hu_of hr)) ok_ix (se_var 0) se_int)) (sb_of se_str) (nomark _))
      (sss_one (ss_ret (se_gl g_ALL_NEEDED q_ALL_NEEDED rfl)))
      sss_nil)
    (sss_cons (ss_if (sw_t (sw_or (st_cmp (op_eqS (hu7 hr)) ok_eq (sb_of (se_ix (ix_S (hu_of hr)) ok_ix (se_var 0) se_int)) (sb_of se_str) (nomark _)) (sw_or1 (st_cmp (op_eqS (hu7 hr)) ok_eq (sb_of (se_ix (ix_S (hu_of hr)) ok_ix (se_var 0) se_int)) (sb_of se_str) (nomark _)))))
      (sss_one (ss_ret (se_call h_mark_bit hr rfl (sa_cons (se_ix (ix_S (hu_of hr)) ok_ix (se_var 0) se_int) sa_nil))))
      sss_nil)
    (sss_cons (ss_set (i := 1) sc_used.nd rfl (Or.inl rfl) se_int)
    (sss_cons (ss_if (st_cmp (op_inS (hu_of hr)) ok_in (sb_of (se_ix (ix_S (hu_of hr)) ok_ix (se_var 0) se_int)) (sb_of (se_gl g_LOOK_AT_D q_LOOK_AT_D rfl)) (by with_unfolding_all rfl))
      (sss_one (ss_set (i := 1) sc_used.nd rfl (Or.inl rfl) (se_bin op_or ok_bit (se_var 1) (se_bin op_shl ok_shl se_int (se_ix (ix_S (hu_of hr)) ok_ix (se_var 0) se_int)))))
      sss_nil)
    (sss_cons (ss_if (st_cmp (op_inS (hu_of hr)) ok_in (sb_of (se_ix (ix_S (hu_of hr)) ok_ix (se_var 0) se_int)) (sb_of (se_gl g_LOOK_AT_S q_LOOK_AT_S rfl)) (by with_unfolding_all rfl))
      (sss_one (ss_set (i := 1) sc_used.nd rfl (Or.inl rfl) (se_bin op_or ok_bit (se_var 1) (se_bin op_shl ok_shl se_int (se_ix (ix_S (hu_of hr)) ok_ix (se_var 0) se_int)))))
      sss_nil)
    (sss_cons (ss_if (st_cmp (op_inS (hu_of hr)) ok_in (sb_of (se_ix (ix_S (hu_of hr)) ok_ix (se_var 0) se_int)) (sb_of (se_gl g_LOOK_AT_CARRY q_LOOK_AT_CARRY rfl)) (by with_unfolding_all rfl))
      (sss_one (ss_set (i := 1) sc_used.nd rfl (Or.inl rfl) (se_bin op_or ok_bit (se_var 1) (se_call h_mark_bit hr rfl (sa_cons se_str sa_nil)))))
      sss_nil)
    (sss_one (ss_ret (se_var 1)))))))))
abbrev s_put : Stmt := top 11
theorem sc_put : FnScope ["row", "need"] ["row"] (defScope s_put) := ⟨rfl, rfl, rfl, by decide +kernel, rfl, by decide +kernel, by decide +kernel⟩
theorem ok_put (d : Def K mg "put" s_put ["row"]) (g_PUT_D : Glb mg "PUT_D" (.ref A_PUT_D)) (q_PUT_D : ∀ H, Rep K H gt_PUT_D (.ref A_PUT_D)) (g_PUT_NOUGHT_AND_SIGN : Glb mg "PUT_NOUGHT_AND_SIGN" (.ref A_PUT_NOUGHT_AND_SIGN)) (q_PUT_NOUGHT_AND_SIGN : ∀ H, Rep K H gt_PUT_NOUGHT_AND_SIGN (.ref A_PUT_NOUGHT_AND_SIGN)) (g_PUT_CARRY : Glb mg "PUT_CARRY" (.ref A_PUT_CARRY)) (q_PUT_CARRY : ∀ H, Rep K H gt_PUT_CARRY (.ref A_PUT_CARRY)) (h_mark_bit : Has P w K mg base "mark_bit" ["mark"] 1 (spF K F_mark_bit)) (h_moves_by_nought : Has P w K mg base "moves_by_nought" ["row"] 1 (spF K F_moves_by_nought)) : Has P w K mg base "put" ["row"] 2 (spF K F_put) :=
  Def.okS d sc_put (by decide) run_put fun f cdv A outer s H E hr => (sss_cons (ss_set (i := 1) sc_put.nd rfl (Or.inl rfl) se_int)
    (sss_cons (ss_if (st_cmp (op_inS (hu_of hr)) ok_in (sb_of (se_ix (ix_S (hu_of hr)) ok_ix (se_var 0) se_int)) (sb_of (se_gl g_PUT_D q_PUT_D rfl)) (by with_unfolding_all rfl))
      (sss_one (ss_set (i := 1) sc_put.nd rfl (Or.inl rfl) (se_bin op_or ok_bit (se_var 1) (se_bin op_shl ok_shl se_int (se_ix (ix_S (hu_of hr)) ok_ix (se_var 0) se_int)))))
      sss_nil)
    (sss_cons (ss_if (st_cmp (op_inS (hu_of hr)) ok_in (sb_of (se_ix (ix_S (hu_of hr)) ok_ix (se_var 0) se_int)) (sb_of (se_gl g_PUT_NOUGHT_AND_SIGN q_PUT_NOUGHT_AND_SIGN rfl)) (by with_unfolding_all rfl))
      (sss_one (ss_set (i := 1) sc_put.nd rfl (Or.inl rfl) (se_bin op_or ok_bit (se_bin op_or ok_bit (se_var 1) (se_call h_mark_bit hr rfl (sa_cons se_str sa_nil))) (se_call h_mark_bit hr rfl (sa_cons se_str sa_nil)))))
      sss_nil)
    (sss_cons (ss_if (sw_t (sw_and (st_cmp (op_inS (hu_of hr)) ok_in (sb_of (se_ix (ix_S (hu_of hr)) ok_ix (se_var 0) se_int)) (sb_of (se_gl g_PUT_CARRY q_PUT_CARRY rfl)) (by with_unfolding_all rfl)) (sw_and1 (st_not (st_val (se_call h_moves_by_nought hr rfl (sa_cons (se_var 0) sa_nil)))))))
      (sss_one (ss_set (i := 1) sc_put.nd rfl (Or.inl rfl) (se_bin op_or ok_bit (se_var 1) (se_call h_mark_bit hr rfl (sa_cons se_str sa_nil)))))
      sss_nil)
    (sss_one (ss_ret (se_var 1)))))))
abbrev s_law_cell_at : Stmt := top 15
theorem sc_law_cell_at : FnScope ["_law_script", "_law_k"] ["_law_script", "_law_k"] (defScope s_law_cell_at) := ⟨rfl, rfl, rfl, by decide +kernel, rfl, by decide +kernel, by decide +kernel⟩
theorem ok_law_cell_at (d : Def K mg "_law_cell_at" s_law_cell_at ["_law_script", "_law_k"]) (z_len : mg "len" = none) : Has P w K mg base "_law_cell_at" ["_law_script", "_law_k"] 1 (spF K F_law_cell_at) :=
  Def.okS d sc_law_cell_at (by decide) run_law_cell_at fun f cdv A outer s H E hr => (sss_cons (ss_if (st_cmp op_lt ok_cmp (sb_of (se_var 1)) (sb_of (se_cb call_lenS ok_len rfl z_len bt_len (sab_cons (sb_of (se_var 0)) sab_nil))) (nomark _))
      (sss_one (ss_ret (se_ix (ix_S (hu_of hr)) ok_ix (se_var 0) (se_var 1))))
      sss_nil)
    (sss_one (ss_ret se_int)))
abbrev s_law_mark : Stmt := top 16
theorem sc_law_mark : FnScope ["_law_script", "_law_k", "_law_mark_here"] ["_law_script", "_law_k"] (defScope s_law_mark) := ⟨rfl, rfl, rfl, by decide +kernel, rfl, by decide +kernel, by decide +kernel⟩
theorem ok_law_mark (d : Def K mg "_law_mark" s_law_mark ["_law_script", "_law_k"]) (z_len : mg "len" = none) (h_law_cell_at : Has P w K mg base "_law_cell_at" ["_law_script", "_law_k"] 1 (spF K F_law_cell_at)) : Has P w K mg base "_law_mark" ["_law_script", "_law_k"] 2 (spF K F_law_mark) :=
  Def.okS d sc_law_mark (by decide) run_law_mark fun f cdv A outer s H E hr => (sss_cons (ss_set (i := 2) sc_law_mark.nd rfl (Or.inl rfl) (se_bin op_addA ok_add (se_bin op_addA ok_add (se_bin op_addA ok_add (se_bin op_mul ok_mulR (se_call h_law_cell_at hr rfl (sa_cons (se_var 0) (sa_cons (se_var 1) sa_nil))) se_int) (se_bin op_mul ok_mulL se_int (se_var 1))) (se_bin op_mul ok_mulL se_int (se_cb call_lenS ok_len rfl z_len bt_len (sab_cons (sb_of (se_var 0)) sab_nil)))) se_int))
    (sss_one (ss_ret (se_bin op_mod ok_mod (se_bin op_mul ok_mulR (se_bin op_mod ok_mod (se_bin op_mulB ok_mulB (se_var 2) (se_var 2)) se_int) se_int) se_int))))
abbrev s_law_words : Stmt := top 17
theorem sc_law_words : FnScope ["_law_found"] [] (defScope s_law_words) := ⟨rfl, rfl, rfl, by decide +kernel, rfl, by decide +kernel, by decide +kernel⟩
theorem ok_law_words (d : Def K mg "_law_words" s_law_words []) : Has P w K mg base "_law_words" [] 1 (spF K F_law_words) :=
  Def.okS d sc_law_words (by decide) run_law_words fun f cdv A outer s H E hr => (sss_cons (ss_set (i := 0) sc_law_words.nd rfl (Or.inl rfl) (se_of (sf_lst (sa_cons se_str (sa_cons se_str (sa_cons se_str (sa_cons se_str (sa_cons se_str (sa_cons se_str (sa_cons se_str (sa_cons se_str (sa_cons se_str (sa_cons se_str (sa_cons se_str (sa_cons se_str (sa_cons se_str sa_nil))))))))))))) (al_le (al_cons (al_cons (al_cons (al_cons (al_cons (al_cons (al_cons (al_cons (al_cons (al_cons (al_cons (al_cons (al_cons al_nil))))))))))))) (by decide)))))
    (sss_cons (ss_set (i := 0) sc_law_words.nd rfl (Or.inl rfl) (se_bin op_addA ok_add (se_var 0) (se_of (sf_lst (sa_cons se_str (sa_cons se_str (sa_cons se_str (sa_cons se_str (sa_cons se_str (sa_cons se_str (sa_cons se_str (sa_cons se_str sa_nil)))))))) (al_le (al_cons (al_cons (al_cons (al_cons (al_cons (al_cons (al_cons (al_cons al_nil)))))))) (by decide))))))
    (sss_one (ss_ret (se_bin op_addA ok_add (se_var 0) (se_of (sf_lst (sa_cons se_str (sa_cons se_str (sa_cons se_str (sa_cons se_str (sa_cons se_str (sa_cons se_str (sa_cons se_str sa_nil))))))) (al_le (al_cons (al_cons (al_cons (al_cons (al_cons (al_cons (al_cons al_nil))))))) (by decide)))))))))
abbrev s_law_row_by : Stmt := top 18
theorem sc_law_row_by : FnScope ["_law_mark_here", "_law_names", "_law_many", "_law_word", "_law_one", "_law_two", "_law_rest"] ["_law_mark_here", "_law_names", "_law_many"] (defScope s_law_row_by) := ⟨rfl, rfl, rfl, by decide +kernel, rfl, by decide +kernel, by decide +kernel⟩
theorem ok_law_row_by (d : Def K mg "_law_row_by" s_law_row_by ["_law_mark_here", "_law_names", "_law_many"]) (z_len : mg "len" = none) (h_law_words : Has P w K mg base "_law_words" [] 1 (spF K F_law_words)) : Has P w K mg base "_law_row_by" ["_law_mark_here", "_law_names", "_law_many"] 2 (spF K F_law_row_by) :=
  Def.okS d sc_law_row_by (by decide) run_law_row_by fun f cdv A outer s H E hr => (sss_cons (ss_set (i := 3) sc_law_row_by.nd rfl (Or.inl rfl) (se_ix (ix_S (hu_of hr)) ok_ix (se_call0 h_law_words hr rfl) (se_bin op_mod ok_mod (se_var 0) se_int)))
    (sss_cons (ss_set (i := 0) sc_law_row_by.nd rfl (Or.inl rfl) (se_bin op_fdivP ok_div (se_var 0) se_int))
    (sss_cons (ss_set (i := 4) sc_law_row_by.nd rfl (Or.inl rfl) (se_bin op_mod ok_mod (se_var 0) (se_var 2)))
    (sss_cons (ss_set (i := 5) sc_law_row_by.nd rfl (Or.inl rfl) (se_bin op_mod ok_mod (se_bin op_fdivP ok_div (se_var 0) se_int) (se_var 2)))
    (sss_cons (ss_set (i := 6) sc_law_row_by.nd rfl (Or.inl rfl) (se_bin op_fdivP ok_div (se_var 0) se_int))
    (sss_cons (ss_if (st_cmp (op_inS (hu_of hr)) ok_in (sb_of (se_var 3)) (sb_of (se_tup (sa_cons se_str (sa_cons se_str sa_nil)) (al_le (al_cons (al_cons al_nil)) (by decide)))) (by with_unfolding_all rfl))
      (sss_one (ss_ret (se_tup (sa_cons (se_var 3) (sa_cons (se_var 4) (sa_cons (se_ix (ix_S (hu_of hr)) ok_ix (se_of (sf_lst (sa_cons (se_bin op_mod ok_mod (se_var 6) se_int) (sa_cons (se_bin op_mod ok_mod (se_var 6) se_int) sa_nil)) (al_le (al_cons (al_cons al_nil)) (by decide)))) (se_bin op_mod ok_mod (se_bin op_fdivP ok_div (se_var 0) se_int) se_int)) sa_nil))) (al_le (al_cons (al_cons (al_cons al_nil))) (by decide)))))
      sss_nil)
    (sss_cons (ss_if (st_cmp (op_inS (hu_of hr)) ok_in (sb_of (se_var 3)) (sb_of (se_tup (sa_cons se_str (sa_cons se_str sa_nil)) (al_le (al_cons (al_cons al_nil)) (by decide)))) (by with_unfolding_all rfl))
      (sss_one (ss_ret (se_tup (sa_cons (se_var 3) (sa_cons (se_var 4) (sa_cons (se_ix (ix_S (hu_of hr)) ok_ix (se_of (sf_lst (sa_cons (se_bin op_mod ok_mod (se_var 6) se_int) (sa_cons (se_bin op_mod ok_mod (se_var 6) se_int) sa_nil)) (al_le (al_cons (al_cons al_nil)) (by decide)))) (se_bin op_mod ok_mod (se_bin op_fdivP ok_div (se_var 0) se_int) se_int)) sa_nil))) (al_le (al_cons (al_cons (al_cons al_nil))) (by decide)))))
      sss_nil)
    (sss_cons (ss_if (st_cmp (op_inS (hu_of hr)) ok_in (sb_of (se_var 3)) (sb_of (se_tup (sa_cons se_str (sa_cons se_str (sa_cons se_str (sa_cons se_str sa_nil)))) (al_le (al_cons (al_cons (al_cons (al_cons al_nil)))) (by decide)))) (by with_unfolding_all rfl))
      (sss_one (ss_ret (se_tup (sa_cons (se_var 3) (sa_cons (se_var 4) (sa_cons (se_var 5) (sa_cons (se_ix (ix_S (hu_of hr)) ok_ix (se_of (sf_lst (sa_cons (se_bin op_mod ok_mod (se_var 6) se_int) (sa_cons (se_bin op_mod ok_mod (se_var 6) se_int) sa_nil)) (al_le (al_cons (al_cons al_nil)) (by decide)))) (se_bin op_mod ok_mod (se_bin op_fdivP ok_div (se_var 0) se_int) se_int)) sa_nil)))) (al_le (al_cons (al_cons (al_cons (al_cons al_nil)))) (by decide)))))
      sss_nil)
    (sss_cons (ss_if (st_cmp (op_eqS (hu7 hr)) ok_eq (sb_of (se_var 3)) (sb_of se_str) (nomark _))
      (sss_one (ss_ret (se_tup (sa_cons (se_var 3) (sa_cons (se_ix (ix_S (hu_of hr)) ok_ix (se_var 1) (se_bin op_mod ok_mod (se_var 6) (se_cb call_lenS ok_len rfl z_len bt_len (sab_cons (sb_of (se_var 1)) sab_nil)))) sa_nil)) (al_le (al_cons (al_cons al_nil)) (by decide)))))
      sss_nil)
    (sss_cons (ss_if (st_cmp (op_inS (hu_of hr)) ok_in (sb_of (se_var 3)) (sb_of (se_tup (sa_cons se_str (sa_cons se_str sa_nil)) (al_le (al_cons (al_cons al_nil)) (by decide)))) (by with_unfolding_all rfl))
      (sss_one (ss_ret (se_tup (sa_cons (se_var 3) (sa_cons (se_ix (ix_S (hu_of hr)) ok_ix (se_of (sf_lst (sa_cons se_str (sa_cons se_str (sa_cons se_str sa_nil))) (al_le (al_cons (al_cons (al_cons al_nil))) (by decide)))) (se_bin op_mod ok_mod (se_var 5) se_int)) (sa_cons (se_ix (ix_S (hu_of hr)) ok_ix (se_var 1) (se_bin op_mod ok_mod (se_var 6) (se_cb call_lenS ok_len rfl z_len bt_len (sab_cons (sb_of (se_var 1)) sab_nil)))) sa_nil))) (al_le (al_cons (al_cons (al_cons al_nil))) (by decide)))))
      sss_nil)
    (sss_cons (ss_if (st_cmp (op_eqS (hu7 hr)) ok_eq (sb_of (se_var 3)) (sb_of se_str) (nomark _))
      (sss_one (ss_ret (se_tup (sa_cons (se_var 3) sa_nil) (al_le (al_cons al_nil) (by decide)))))
      sss_nil)
    (sss_one (ss_ret (se_tup (sa_cons (se_var 3) (sa_cons (se_var 4) (sa_cons (se_var 5) sa_nil))) (al_le (al_cons (al_cons (al_cons al_nil))) (by decide))))))))))))))))
abbrev s_law_bits : Stmt := top 19
theorem sc_law_bits : FnScope ["_law_row", "_law_places", "_law_marks", "_law_found", "_law_place", "_law_mark_here"] ["_law_row", "_law_places", "_law_marks"] (defScope s_law_bits) := ⟨rfl, rfl, rfl, by decide +kernel, rfl, by decide +kernel, by decide +kernel⟩
theorem ok_law_bits (d : Def K mg "_law_bits" s_law_bits ["_law_row", "_law_places", "_law_marks"]) : Has P w K mg base "_law_bits" ["_law_row", "_law_places", "_law_marks"] 1 (spF K F_law_bits) :=
  Def.okS d sc_law_bits (by decide) run_law_bits fun f cdv A outer s H E hr => (sss_cons (ss_set (i := 3) sc_law_bits.nd rfl (Or.inl rfl) se_int)
    (sss_cons (ss_for PassesOwn.never rfl (si_seq (se_var 1)) (sg_var (qg_name (i := 4) sc_law_bits.nd rfl (Or.inl rfl)) rfl)
      (sss_one (ss_set (i := 3) sc_law_bits.nd rfl (Or.inl rfl) (se_bin op_or ok_bit (se_var 3) (se_bin op_shl ok_shl se_int (se_ix (ix_S (hu_of hr)) ok_ix (se_var 0) (se_var 4)))))))
    (sss_cons (ss_for PassesOwn.never rfl (si_seq (se_var 2)) (sg_var (qg_name (i := 5) sc_law_bits.nd rfl (Or.inl rfl)) rfl)
      (sss_one (ss_set (i := 3) sc_law_bits.nd rfl (Or.inl rfl) (se_bin op_or ok_bit (se_var 3) (se_ix (ix_S (hu_of hr)) ok_ix (se_of (sf_disp (sd_cons se_int (sd_cons se_int (sd_cons se_int sd_nil))) (by decide +kernel) (by decide))) (se_var 5))))))
    (sss_one (ss_ret (se_var 3))))))
abbrev s_law_used : Stmt := top 20
theorem sc_law_used : FnScope ["_law_row", "_law_places", "_law_marks"] ["_law_row"] (defScope s_law_used) := ⟨rfl, rfl, rfl, by decide +kernel, rfl, by decide +kernel, by decide +kernel⟩
theorem ok_law_used (d : Def K mg "_law_used" s_law_used ["_law_row"]) (h_law_bits : Has P w K mg base "_law_bits" ["_law_row", "_law_places", "_law_marks"] 1 (spF K F_law_bits)) : Has P w K mg base "_law_used" ["_law_row"] 2 (spF K F_law_used) :=
  Def.okS d sc_law_used (by decide) run_law_used fun f cdv A outer s H E hr => (sss_cons (ss_if (st_cmp (op_eqS (hu7 hr)) ok_eq (sb_of (se_ix (ix_S (hu_of hr)) ok_ix (se_var 0) se_int)) (sb_of se_str) (nomark _))
      (sss_one (ss_ret se_int))
      sss_nil)
    (sss_cons (ss_if (st_cmp (op_inS (hu_of hr)) ok_in (sb_of (se_ix (ix_S (hu_of hr)) ok_ix (se_var 0) se_int)) (sb_of (se_tup (sa_cons se_str (sa_cons se_str sa_nil)) (al_le (al_cons (al_cons al_nil)) (by decide)))) (by with_unfolding_all rfl))
      (sss_one (ss_ret (se_call h_law_bits hr rfl (sa_cons (se_var 0) (sa_cons (se_of (sf_lst sa_nil (al_le al_nil (by decide)))) (sa_cons (se_of (sf_lst (sa_cons (se_ix (ix_S (hu_of hr)) ok_ix (se_var 0) se_int) sa_nil) (al_le (al_cons al_nil) (by decide)))) sa_nil))))))
      sss_nil)
    (sss_cons (ss_set (i := 1) sc_law_used.nd rfl (Or.inl rfl) (se_of (sf_disp (sd_cons (se_of (sf_lst sa_nil (al_le al_nil (by decide)))) (sd_cons (se_of (sf_lst sa_nil (al_le al_nil (by decide)))) (sd_cons (se_of (sf_lst (sa_cons se_int sa_nil) (al_le (al_cons al_nil) (by decide)))) (sd_cons (se_of (sf_lst (sa_cons se_int sa_nil) (al_le (al_cons al_nil) (by decide)))) (sd_cons (se_of (sf_lst (sa_cons se_int sa_nil) (al_le (al_cons al_nil) (by decide)))) (sd_cons (se_of (sf_lst (sa_cons se_int sa_nil) (al_le (al_cons al_nil) (by decide)))) (sd_cons (se_of (sf_lst (sa_cons se_int sa_nil) (al_le (al_cons al_nil) (by decide)))) (sd_cons (se_of (sf_lst (sa_cons se_int sa_nil) (al_le (al_cons al_nil) (by decide)))) sd_nil)))))))) (by decide +kernel) (by decide))))
    (sss_cons (ss_set (i := 2) sc_law_used.nd rfl (Or.inl rfl) (se_of (sf_disp (sd_cons (se_of (sf_lst (sa_cons se_str sa_nil) (al_le (al_cons al_nil) (by decide)))) (sd_cons (se_of (sf_lst (sa_cons se_str sa_nil) (al_le (al_cons al_nil) (by decide)))) sd_nil)) (by decide +kernel) (by decide))))
    (sss_one (ss_ret (se_call h_law_bits hr rfl (sa_cons (se_var 0) (sa_cons (se_get2 (hu_of hr) (se_var 1) (se_ix (ix_S (hu_of hr)) ok_ix (se_var 0) se_int) (se_of (sf_lst (sa_cons se_int (sa_cons se_int sa_nil)) (al_le (al_cons (al_cons al_nil)) (by decide)))) ⟨rfl, rfl, rfl, rfl⟩) (sa_cons (se_get2 (hu_of hr) (se_var 2) (se_ix (ix_S (hu_of hr)) ok_ix (se_var 0) se_int) (se_of (sf_lst sa_nil (al_le al_nil (by decide)))) ⟨rfl, rfl, rfl, rfl⟩) sa_nil))))))))))
abbrev s_law_put : Stmt := top 21
theorem sc_law_put : FnScope ["_law_row", "_law_marks"] ["_law_row"] (defScope s_law_put) := ⟨rfl, rfl, rfl, by decide +kernel, rfl, by decide +kernel, by decide +kernel⟩
theorem ok_law_put (d : Def K mg "_law_put" s_law_put ["_law_row"]) (z_int : mg "int" = none) (h_law_bits : Has P w K mg base "_law_bits" ["_law_row", "_law_places", "_law_marks"] 1 (spF K F_law_bits)) : Has P w K mg base "_law_put" ["_law_row"] 2 (spF K F_law_put) :=
  Def.okS d sc_law_put (by decide) run_law_put fun f cdv A outer s H E hr => (sss_cons (ss_if (st_cmp (op_inS (hu_of hr)) ok_in (sb_of (se_ix (ix_S (hu_of hr)) ok_ix (se_var 0) se_int)) (sb_of (se_tup (sa_cons se_str (sa_cons se_str (sa_cons se_str (sa_cons se_str (sa_cons se_str (sa_cons se_str sa_nil)))))) (al_le (al_cons (al_cons (al_cons (al_cons (al_cons (al_cons al_nil)))))) (by decide)))) (by with_unfolding_all rfl))
      (sss_one (ss_ret se_int))
      sss_nil)
    (sss_cons (ss_set (i := 1) sc_law_put.nd rfl (Or.inl rfl) (se_of (sf_lst sa_nil (al_le al_nil (by decide)))))
    (sss_cons (ss_if (st_cmp (op_inS (hu_of hr)) ok_in (sb_of (se_ix (ix_S (hu_of hr)) ok_ix (se_var 0) se_int)) (sb_of (se_tup (sa_cons se_str (sa_cons se_str (sa_cons se_str (sa_cons se_str (sa_cons se_str sa_nil))))) (al_le (al_cons (al_cons (al_cons (al_cons (al_cons al_nil))))) (by decide)))) (by with_unfolding_all rfl))
      (sss_one (ss_set (i := 1) sc_law_put.nd rfl (Or.inl rfl) (se_of (sf_lst (sa_cons se_str (sa_cons se_str sa_nil)) (al_le (al_cons (al_cons al_nil)) (by decide))))))
      sss_nil)
    (sss_cons (ss_if (sw_t (sw_or (st_cmp (op_inS (hu_of hr)) ok_in (sb_of (se_ix (ix_S (hu_of hr)) ok_ix (se_var 0) se_int)) (sb_of (se_tup (sa_cons se_str (sa_cons se_str (sa_cons se_str (sa_cons se_str (sa_cons se_str sa_nil))))) (al_le (al_cons (al_cons (al_cons (al_cons (al_cons al_nil))))) (by decide)))) (by with_unfolding_all rfl)) (sw_or1 (sw_t (sw_and (st_cmp (op_inS (hu_of hr)) ok_in (sb_of (se_ix (ix_S (hu_of hr)) ok_ix (se_var 0) se_int)) (sb_of (se_tup (sa_cons se_str (sa_cons se_str sa_nil)) (al_le (al_cons (al_cons al_nil)) (by decide)))) (by with_unfolding_all rfl)) (sw_and1 (st_cmp op_gt ok_cmp (sb_of (se_ix (ix_S (hu_of hr)) ok_ix (se_var 0) se_int)) (sb_of se_int) (nomark _))))))))
      (sss_one (ss_set (i := 1) sc_law_put.nd rfl (Or.inl rfl) (se_of (sf_lst (sa_cons se_str (sa_cons se_str (sa_cons se_str sa_nil))) (al_le (al_cons (al_cons (al_cons al_nil))) (by decide))))))
      sss_nil)
    (sss_one (ss_ret (se_call h_law_bits hr rfl (sa_cons (se_var 0) (sa_cons (se_ix (ix_S (hu_of hr)) ok_ix (se_of (sf_lst (sa_cons (se_of (sf_lst (sa_cons se_int sa_nil) (al_le (al_cons al_nil) (by decide)))) (sa_cons (se_of (sf_lst sa_nil (al_le al_nil (by decide)))) sa_nil)) (al_le (al_cons (al_cons al_nil)) (by decide)))) (se_cty call_int1 ok_int rfl z_int boot_ty_int (sab_cons (sb_of (se_cmp (op_eqS (hu7 hr)) ok_eq (sb_of (se_ix (ix_S (hu_of hr)) ok_ix (se_var 0) se_int)) (sb_of se_str) (nomark _))) sab_nil))) (sa_cons (se_var 1) sa_nil))))))))))
abbrev s_law_right : Stmt := top 22
theorem sc_law_right : FnScope ["_law_found", "_law_due"] ["_law_found", "_law_due"] (defScope s_law_right) := ⟨rfl, rfl, rfl, by decide +kernel, rfl, by decide +kernel, by decide +kernel⟩
theorem ok_law_right (d : Def K mg "_law_right" s_law_right ["_law_found", "_law_due"]) (z_isinstance : mg "isinstance" = none) (z_bool : mg "bool" = none) (z_int : mg "int" = none) : Has P w K mg base "_law_right" ["_law_found", "_law_due"] 1 (spF K F_law_right) :=
  Def.okS d sc_law_right (by decide) run_law_right fun f cdv A outer s H E hr => (sss_one (ss_ret (se_and (se_isi .int rfl rfl z_isinstance z_int boot_ty_int (sb_of (se_var 0))) (se_and (se_not (se_isi .bool rfl rfl z_isinstance z_bool boot_ty_bool (sb_of (se_var 0)))) (se_one (se_cmp (op_eqS (hu7 hr)) ok_eq (sb_of (se_var 0)) (sb_of (se_var 1)) (nomark _)))))))
abbrev s_law : Stmt := top 23
theorem sc_law : FnScope ["_law_script", "_law_many", "_law_k", "_law_row"] ["_law_script"] (defScope s_law) := ⟨rfl, rfl, rfl, by decide +kernel, rfl, by decide +kernel, by decide +kernel⟩
theorem ok_law {f : Addr} {fd : FuncData} (d : Fun K "law" "law" s_law f fd) (z_range : mg "range" = none) (h_law_mark : Has P w K mg base "_law_mark" ["_law_script", "_law_k"] 2 (spF K F_law_mark)) (h_law_row_by : Has P w K mg base "_law_row_by" ["_law_mark_here", "_law_names", "_law_many"] 2 (spF K F_law_row_by)) (h_law_right : Has P w K mg base "_law_right" ["_law_found", "_law_due"] 1 (spF K F_law_right)) (h_law_put : Has P w K mg base "_law_put" ["_law_row"] 2 (spF K F_law_put)) (h_put : Has P w K mg base "put" ["row"] 2 (spF K F_put)) (h_law_used : Has P w K mg base "_law_used" ["_law_row"] 2 (spF K F_law_used)) (h_used : Has P w K mg base "used" ["row"] 2 (spF K F_used)) : FnOk P w K mg base CX0 3 f fd ["_law_script"] (spLawB K) :=
  law_okB d sc_law (by decide) run_law fun cdv A outer s H E hr => (sss_cons (ss_set (i := 1) sc_law.nd rfl (Or.inl rfl) (se_ix (ix_S (hu_of hr)) ok_ix (se_of (sf_lst (sa_cons se_int (sa_cons se_int sa_nil)) (al_le (al_cons (al_cons al_nil)) (by decide)))) (se_bin op_mod ok_mod (se_call h_law_mark hr rfl (sa_cons (se_var 0) (sa_cons se_int sa_nil))) se_int)))
    (sss_cons (ss_for PassesOwn.never rfl (si_range1 rfl z_range se_int) (sg_var (qg_name (i := 2) sc_law.nd rfl (Or.inl rfl)) rfl)
      (sss_cons (ss_set (i := 3) sc_law.nd rfl (Or.inl rfl) (se_call h_law_row_by hr rfl (sa_cons (se_call h_law_mark hr rfl (sa_cons (se_var 0) (sa_cons (se_bin op_addA ok_add se_int (se_var 2)) sa_nil))) (sa_cons (se_of (sf_lst (sa_cons se_str (sa_cons se_str (sa_cons se_str sa_nil))) (al_le (al_cons (al_cons (al_cons al_nil))) (by decide)))) (sa_cons (se_var 1) sa_nil)))))
        (sss_one (ss_if (sw_t (sw_or (st_not (st_val (se_call h_law_right hr rfl (sa_cons (se_call h_used hr rfl (sa_cons (se_var 3) sa_nil)) (sa_cons (se_call h_law_used hr rfl (sa_cons (se_var 3) sa_nil)) sa_nil))))) (sw_or1 (st_not (st_val (se_call h_law_right hr rfl (sa_cons (se_call h_put hr rfl (sa_cons (se_var 3) sa_nil)) (sa_cons (se_call h_law_put hr rfl (sa_cons (se_var 3) sa_nil)) sa_nil))))))))
          (sss_one (ss_ret se_bl))
          sss_nil))))
    (sss_one (ss_ret se_bl))))
end
theorem all_mk {l : PySem.W.OpenLaw} {w : World} {K : PySem.W.Frag} {h : Heap} {mg : Str → Option Value} {fa : Addr} (X : K.In h) (G : h.Ns mainGlobals mg) (hfa : mg "law" = some (.ref fa))
    {f0 : Addr} {od0 an0 : Option Addr} {sl0 : Array (Option Value)} {oc0 kV0 dc0 pm0 cd0 ct0 : Value}
    {f1 : Addr} {od1 an1 : Option Addr} {sl1 : Array (Option Value)} {oc1 kV1 dc1 pm1 cd1 ct1 : Value}
    {f2 : Addr} {od2 an2 : Option Addr} {sl2 : Array (Option Value)} {oc2 kV2 dc2 pm2 cd2 ct2 : Value}
    {f3 : Addr} {od3 an3 : Option Addr} {sl3 : Array (Option Value)} {oc3 kV3 dc3 pm3 cd3 ct3 : Value}
    {f4 : Addr} {od4 an4 : Option Addr} {sl4 : Array (Option Value)} {oc4 kV4 dc4 pm4 cd4 ct4 : Value}
    {f5 : Addr} {od5 an5 : Option Addr} {sl5 : Array (Option Value)} {oc5 kV5 dc5 pm5 cd5 ct5 : Value}
    {f6 : Addr} {od6 an6 : Option Addr} {sl6 : Array (Option Value)} {oc6 kV6 dc6 pm6 cd6 ct6 : Value}
    {f7 : Addr} {od7 an7 : Option Addr} {sl7 : Array (Option Value)} {oc7 kV7 dc7 pm7 cd7 ct7 : Value}
    {f8 : Addr} {od8 an8 : Option Addr} {sl8 : Array (Option Value)} {oc8 kV8 dc8 pm8 cd8 ct8 : Value}
    {f9 : Addr} {od9 an9 : Option Addr} {sl9 : Array (Option Value)} {oc9 kV9 dc9 pm9 cd9 ct9 : Value}
    {f10 : Addr} {od10 an10 : Option Addr} {sl10 : Array (Option Value)} {oc10 kV10 dc10 pm10 cd10 ct10 : Value}
    {f11 : Addr} {od11 an11 : Option Addr} {sl11 : Array (Option Value)} {oc11 kV11 dc11 pm11 cd11 ct11 : Value}
    {f12 : Addr} {od12 an12 : Option Addr} {sl12 : Array (Option Value)} {oc12 kV12 dc12 pm12 cd12 ct12 : Value}
    (a0 : PySem.W.nsIn K mainGlobals "mark_bit" = some (some (.ref f0)))
    (l0 : K.lookup f0 = some ⟨oc0, od0, .func (PySem.W.fnOf "mark_bit" "mark_bit" (defArgs s_mark_bit) (defBody s_mark_bit) (defScope s_mark_bit) .none kV0 dc0 pm0 an0 cd0 ct0), sl0⟩)
    (c0 : PySem.W.codeIn K cd0 "mark_bit" = true) (k0 : PySem.W.keepIn K (.ref f0) = true)
    (a1 : PySem.W.nsIn K mainGlobals "moves_by_nought" = some (some (.ref f1)))
    (l1 : K.lookup f1 = some ⟨oc1, od1, .func (PySem.W.fnOf "moves_by_nought" "moves_by_nought" (defArgs s_moves_by_nought) (defBody s_moves_by_nought) (defScope s_moves_by_nought) .none kV1 dc1 pm1 an1 cd1 ct1), sl1⟩)
    (c1 : PySem.W.codeIn K cd1 "moves_by_nought" = true) (k1 : PySem.W.keepIn K (.ref f1) = true)
    (a2 : PySem.W.nsIn K mainGlobals "used" = some (some (.ref f2)))
    (l2 : K.lookup f2 = some ⟨oc2, od2, .func (PySem.W.fnOf "used" "used" (defArgs s_used) (defBody s_used) (defScope s_used) .none kV2 dc2 pm2 an2 cd2 ct2), sl2⟩)
    (c2 : PySem.W.codeIn K cd2 "used" = true) (k2 : PySem.W.keepIn K (.ref f2) = true)
    (a3 : PySem.W.nsIn K mainGlobals "put" = some (some (.ref f3)))
    (l3 : K.lookup f3 = some ⟨oc3, od3, .func (PySem.W.fnOf "put" "put" (defArgs s_put) (defBody s_put) (defScope s_put) .none kV3 dc3 pm3 an3 cd3 ct3), sl3⟩)
    (c3 : PySem.W.codeIn K cd3 "put" = true) (k3 : PySem.W.keepIn K (.ref f3) = true)
    (a4 : PySem.W.nsIn K mainGlobals "_law_cell_at" = some (some (.ref f4)))
    (l4 : K.lookup f4 = some ⟨oc4, od4, .func (PySem.W.fnOf "_law_cell_at" "_law_cell_at" (defArgs s_law_cell_at) (defBody s_law_cell_at) (defScope s_law_cell_at) .none kV4 dc4 pm4 an4 cd4 ct4), sl4⟩)
    (c4 : PySem.W.codeIn K cd4 "_law_cell_at" = true) (k4 : PySem.W.keepIn K (.ref f4) = true)
    (a5 : PySem.W.nsIn K mainGlobals "_law_mark" = some (some (.ref f5)))
    (l5 : K.lookup f5 = some ⟨oc5, od5, .func (PySem.W.fnOf "_law_mark" "_law_mark" (defArgs s_law_mark) (defBody s_law_mark) (defScope s_law_mark) .none kV5 dc5 pm5 an5 cd5 ct5), sl5⟩)
    (c5 : PySem.W.codeIn K cd5 "_law_mark" = true) (k5 : PySem.W.keepIn K (.ref f5) = true)
    (a6 : PySem.W.nsIn K mainGlobals "_law_words" = some (some (.ref f6)))
    (l6 : K.lookup f6 = some ⟨oc6, od6, .func (PySem.W.fnOf "_law_words" "_law_words" (defArgs s_law_words) (defBody s_law_words) (defScope s_law_words) .none kV6 dc6 pm6 an6 cd6 ct6), sl6⟩)
    (c6 : PySem.W.codeIn K cd6 "_law_words" = true) (k6 : PySem.W.keepIn K (.ref f6) = true)
    (a7 : PySem.W.nsIn K mainGlobals "_law_row_by" = some (some (.ref f7)))
    (l7 : K.lookup f7 = some ⟨oc7, od7, .func (PySem.W.fnOf "_law_row_by" "_law_row_by" (defArgs s_law_row_by) (defBody s_law_row_by) (defScope s_law_row_by) .none kV7 dc7 pm7 an7 cd7 ct7), sl7⟩)
    (c7 : PySem.W.codeIn K cd7 "_law_row_by" = true) (k7 : PySem.W.keepIn K (.ref f7) = true)
    (a8 : PySem.W.nsIn K mainGlobals "_law_bits" = some (some (.ref f8)))
    (l8 : K.lookup f8 = some ⟨oc8, od8, .func (PySem.W.fnOf "_law_bits" "_law_bits" (defArgs s_law_bits) (defBody s_law_bits) (defScope s_law_bits) .none kV8 dc8 pm8 an8 cd8 ct8), sl8⟩)
    (c8 : PySem.W.codeIn K cd8 "_law_bits" = true) (k8 : PySem.W.keepIn K (.ref f8) = true)
    (a9 : PySem.W.nsIn K mainGlobals "_law_used" = some (some (.ref f9)))
    (l9 : K.lookup f9 = some ⟨oc9, od9, .func (PySem.W.fnOf "_law_used" "_law_used" (defArgs s_law_used) (defBody s_law_used) (defScope s_law_used) .none kV9 dc9 pm9 an9 cd9 ct9), sl9⟩)
    (c9 : PySem.W.codeIn K cd9 "_law_used" = true) (k9 : PySem.W.keepIn K (.ref f9) = true)
    (a10 : PySem.W.nsIn K mainGlobals "_law_put" = some (some (.ref f10)))
    (l10 : K.lookup f10 = some ⟨oc10, od10, .func (PySem.W.fnOf "_law_put" "_law_put" (defArgs s_law_put) (defBody s_law_put) (defScope s_law_put) .none kV10 dc10 pm10 an10 cd10 ct10), sl10⟩)
    (c10 : PySem.W.codeIn K cd10 "_law_put" = true) (k10 : PySem.W.keepIn K (.ref f10) = true)
    (a11 : PySem.W.nsIn K mainGlobals "_law_right" = some (some (.ref f11)))
    (l11 : K.lookup f11 = some ⟨oc11, od11, .func (PySem.W.fnOf "_law_right" "_law_right" (defArgs s_law_right) (defBody s_law_right) (defScope s_law_right) .none kV11 dc11 pm11 an11 cd11 ct11), sl11⟩)
    (c11 : PySem.W.codeIn K cd11 "_law_right" = true) (k11 : PySem.W.keepIn K (.ref f11) = true)
    (a12 : PySem.W.nsIn K mainGlobals "law" = some (some (.ref f12)))
    (l12 : K.lookup f12 = some ⟨oc12, od12, .func (PySem.W.fnOf "law" "law" (defArgs s_law) (defBody s_law) (defScope s_law) .none kV12 dc12 pm12 an12 cd12 ct12), sl12⟩)
    (c12 : PySem.W.codeIn K cd12 "law" = true) (k12 : PySem.W.keepIn K (.ref f12) = true)
    (nz_len : PySem.W.nsIn K mainGlobals "len" = some none)
    (nz_int : PySem.W.nsIn K mainGlobals "int" = some none)
    (nz_isinstance : PySem.W.nsIn K mainGlobals "isinstance" = some none)
    (nz_bool : PySem.W.nsIn K mainGlobals "bool" = some none)
    (nz_range : PySem.W.nsIn K mainGlobals "range" = some none)
    {tg_MARK_LOW : Tok} (ng_MARK_LOW : PySem.W.nsIn K mainGlobals "MARK_LOW" = some (some (.int 8 tg_MARK_LOW)))
    {A_MARKS : Addr} {n_MARKS : Nat} {sl_MARKS : Array (Option Value)} {u0_MARKS u1_MARKS u2_MARKS : Tok} (ng_MARKS : PySem.W.nsIn K mainGlobals "MARKS" = some (some (.ref A_MARKS)))
    (nq_MARKS : K.lookup A_MARKS = some ⟨.type "tuple", none, .seq #[.str "carry" u0_MARKS, .str "nought" u1_MARKS, .str "sign" u2_MARKS] n_MARKS, sl_MARKS⟩)
    {tg_ALL_NEEDED : Tok} (ng_ALL_NEEDED : PySem.W.nsIn K mainGlobals "ALL_NEEDED" = some (some (.int 2047 tg_ALL_NEEDED)))
    {A_LOOK_AT_D : Addr} {n_LOOK_AT_D : Nat} {sl_LOOK_AT_D : Array (Option Value)} {u0_LOOK_AT_D u1_LOOK_AT_D u2_LOOK_AT_D u3_LOOK_AT_D u4_LOOK_AT_D u5_LOOK_AT_D u6_LOOK_AT_D u7_LOOK_AT_D u8_LOOK_AT_D u9_LOOK_AT_D u10_LOOK_AT_D u11_LOOK_AT_D u12_LOOK_AT_D : Tok} (ng_LOOK_AT_D : PySem.W.nsIn K mainGlobals "LOOK_AT_D" = some (some (.ref A_LOOK_AT_D)))
    (nq_LOOK_AT_D : K.lookup A_LOOK_AT_D = some ⟨.type "tuple", none, .seq #[.str "high" u0_LOOK_AT_D, .str "left" u1_LOOK_AT_D, .str "right" u2_LOOK_AT_D, .str "add" u3_LOOK_AT_D, .str "addc" u4_LOOK_AT_D, .str "sub" u5_LOOK_AT_D, .str "subc" u6_LOOK_AT_D, .str "and" u7_LOOK_AT_D, .str "or" u8_LOOK_AT_D, .str "xor" u9_LOOK_AT_D, .str "test" u10_LOOK_AT_D, .str "store" u11_LOOK_AT_D, .str "storew" u12_LOOK_AT_D] n_LOOK_AT_D, sl_LOOK_AT_D⟩)
    {A_LOOK_AT_S : Addr} {n_LOOK_AT_S : Nat} {sl_LOOK_AT_S : Array (Option Value)} {u0_LOOK_AT_S u1_LOOK_AT_S u2_LOOK_AT_S u3_LOOK_AT_S u4_LOOK_AT_S u5_LOOK_AT_S u6_LOOK_AT_S u7_LOOK_AT_S u8_LOOK_AT_S u9_LOOK_AT_S u10_LOOK_AT_S u11_LOOK_AT_S u12_LOOK_AT_S : Tok} (ng_LOOK_AT_S : PySem.W.nsIn K mainGlobals "LOOK_AT_S" = some (some (.ref A_LOOK_AT_S)))
    (nq_LOOK_AT_S : K.lookup A_LOOK_AT_S = some ⟨.type "tuple", none, .seq #[.str "copy" u0_LOOK_AT_S, .str "load" u1_LOOK_AT_S, .str "loadw" u2_LOOK_AT_S, .str "add" u3_LOOK_AT_S, .str "addc" u4_LOOK_AT_S, .str "sub" u5_LOOK_AT_S, .str "subc" u6_LOOK_AT_S, .str "and" u7_LOOK_AT_S, .str "or" u8_LOOK_AT_S, .str "xor" u9_LOOK_AT_S, .str "test" u10_LOOK_AT_S, .str "store" u11_LOOK_AT_S, .str "storew" u12_LOOK_AT_S] n_LOOK_AT_S, sl_LOOK_AT_S⟩)
    {A_LOOK_AT_CARRY : Addr} {n_LOOK_AT_CARRY : Nat} {sl_LOOK_AT_CARRY : Array (Option Value)} {u0_LOOK_AT_CARRY u1_LOOK_AT_CARRY : Tok} (ng_LOOK_AT_CARRY : PySem.W.nsIn K mainGlobals "LOOK_AT_CARRY" = some (some (.ref A_LOOK_AT_CARRY)))
    (nq_LOOK_AT_CARRY : K.lookup A_LOOK_AT_CARRY = some ⟨.type "tuple", none, .seq #[.str "addc" u0_LOOK_AT_CARRY, .str "subc" u1_LOOK_AT_CARRY] n_LOOK_AT_CARRY, sl_LOOK_AT_CARRY⟩)
    {A_PUT_D : Addr} {n_PUT_D : Nat} {sl_PUT_D : Array (Option Value)} {u0_PUT_D u1_PUT_D u2_PUT_D u3_PUT_D u4_PUT_D u5_PUT_D u6_PUT_D u7_PUT_D u8_PUT_D u9_PUT_D u10_PUT_D u11_PUT_D u12_PUT_D u13_PUT_D : Tok} (ng_PUT_D : PySem.W.nsIn K mainGlobals "PUT_D" = some (some (.ref A_PUT_D)))
    (nq_PUT_D : K.lookup A_PUT_D = some ⟨.type "tuple", none, .seq #[.str "set" u0_PUT_D, .str "high" u1_PUT_D, .str "copy" u2_PUT_D, .str "load" u3_PUT_D, .str "loadw" u4_PUT_D, .str "add" u5_PUT_D, .str "addc" u6_PUT_D, .str "sub" u7_PUT_D, .str "subc" u8_PUT_D, .str "and" u9_PUT_D, .str "or" u10_PUT_D, .str "xor" u11_PUT_D, .str "left" u12_PUT_D, .str "right" u13_PUT_D] n_PUT_D, sl_PUT_D⟩)
    {A_PUT_NOUGHT_AND_SIGN : Addr} {n_PUT_NOUGHT_AND_SIGN : Nat} {sl_PUT_NOUGHT_AND_SIGN : Array (Option Value)} {u0_PUT_NOUGHT_AND_SIGN u1_PUT_NOUGHT_AND_SIGN u2_PUT_NOUGHT_AND_SIGN u3_PUT_NOUGHT_AND_SIGN u4_PUT_NOUGHT_AND_SIGN u5_PUT_NOUGHT_AND_SIGN u6_PUT_NOUGHT_AND_SIGN u7_PUT_NOUGHT_AND_SIGN u8_PUT_NOUGHT_AND_SIGN u9_PUT_NOUGHT_AND_SIGN : Tok} (ng_PUT_NOUGHT_AND_SIGN : PySem.W.nsIn K mainGlobals "PUT_NOUGHT_AND_SIGN" = some (some (.ref A_PUT_NOUGHT_AND_SIGN)))
    (nq_PUT_NOUGHT_AND_SIGN : K.lookup A_PUT_NOUGHT_AND_SIGN = some ⟨.type "tuple", none, .seq #[.str "add" u0_PUT_NOUGHT_AND_SIGN, .str "addc" u1_PUT_NOUGHT_AND_SIGN, .str "sub" u2_PUT_NOUGHT_AND_SIGN, .str "subc" u3_PUT_NOUGHT_AND_SIGN, .str "test" u4_PUT_NOUGHT_AND_SIGN, .str "and" u5_PUT_NOUGHT_AND_SIGN, .str "or" u6_PUT_NOUGHT_AND_SIGN, .str "xor" u7_PUT_NOUGHT_AND_SIGN, .str "left" u8_PUT_NOUGHT_AND_SIGN, .str "right" u9_PUT_NOUGHT_AND_SIGN] n_PUT_NOUGHT_AND_SIGN, sl_PUT_NOUGHT_AND_SIGN⟩)
    {A_PUT_CARRY : Addr} {n_PUT_CARRY : Nat} {sl_PUT_CARRY : Array (Option Value)} {u0_PUT_CARRY u1_PUT_CARRY u2_PUT_CARRY u3_PUT_CARRY u4_PUT_CARRY u5_PUT_CARRY u6_PUT_CARRY : Tok} (ng_PUT_CARRY : PySem.W.nsIn K mainGlobals "PUT_CARRY" = some (some (.ref A_PUT_CARRY)))
    (nq_PUT_CARRY : K.lookup A_PUT_CARRY = some ⟨.type "tuple", none, .seq #[.str "add" u0_PUT_CARRY, .str "addc" u1_PUT_CARRY, .str "sub" u2_PUT_CARRY, .str "subc" u3_PUT_CARRY, .str "test" u4_PUT_CARRY, .str "left" u5_PUT_CARRY, .str "right" u6_PUT_CARRY] n_PUT_CARRY, sl_PUT_CARRY⟩)
    : ∃ fd : FuncData, (∀ (s : Shared) (v : Value), BindsTo s fd ⟨[v], []⟩ [("_law_script", v)]) ∧ ∀ base : Heap, K.In base → base.Ns mainGlobals mg → FnOk l.prog w K mg base CX0 3 fa fd ["_law_script"] (spLawB K) := by
  have e := hfa.symm.trans (PySem.W.mg_of X G a12)
  cases e
  have z_len : mg "len" = none := PySem.W.mg_none_of X G nz_len
  have z_int : mg "int" = none := PySem.W.mg_none_of X G nz_int
  have z_isinstance : mg "isinstance" = none := PySem.W.mg_none_of X G nz_isinstance
  have z_bool : mg "bool" = none := PySem.W.mg_none_of X G nz_bool
  have z_range : mg "range" = none := PySem.W.mg_none_of X G nz_range
  have g_MARK_LOW : Glb mg "MARK_LOW" (.int 8) := ⟨_, PySem.W.mg_of X G ng_MARK_LOW, ⟨_, rfl⟩⟩
  have q_MARK_LOW : ∀ H, Rep K H (.int 8) (.int 8) := fun _ => rfl
  have k_MARKS : TupK K A_MARKS := ⟨_, nq_MARKS, rfl, rfl⟩
  have g_MARKS : Glb mg "MARKS" (.ref A_MARKS) := ⟨_, PySem.W.mg_of X G ng_MARKS, rfl⟩
  have q_MARKS : ∀ H, Rep K H gt_MARKS (.ref A_MARKS) := fun H => ⟨A_MARKS, _, rfl, cstT (xs := [.str "carry", .str "nought", .str "sign"]) nq_MARKS (by show (3 : Nat) ≤ sizeLine; decide) (.cons ⟨_, rfl⟩ (.cons ⟨_, rfl⟩ (.cons ⟨_, rfl⟩ .nil))) H, ⟨_, _, rfl, ⟨rfl, small (by decide)⟩, ⟨_, _, rfl, ⟨rfl, small (by decide)⟩, ⟨_, _, rfl, ⟨rfl, small (by decide)⟩, rfl⟩⟩⟩, small (by decide)⟩
  have g_ALL_NEEDED : Glb mg "ALL_NEEDED" (.int 2047) := ⟨_, PySem.W.mg_of X G ng_ALL_NEEDED, ⟨_, rfl⟩⟩
  have q_ALL_NEEDED : ∀ H, Rep K H (.int 2047) (.int 2047) := fun _ => rfl
  have k_LOOK_AT_D : TupK K A_LOOK_AT_D := ⟨_, nq_LOOK_AT_D, rfl, rfl⟩
  have g_LOOK_AT_D : Glb mg "LOOK_AT_D" (.ref A_LOOK_AT_D) := ⟨_, PySem.W.mg_of X G ng_LOOK_AT_D, rfl⟩
  have q_LOOK_AT_D : ∀ H, Rep K H gt_LOOK_AT_D (.ref A_LOOK_AT_D) := fun H => ⟨A_LOOK_AT_D, _, rfl, cstT (xs := [.str "high", .str "left", .str "right", .str "add", .str "addc", .str "sub", .str "subc", .str "and", .str "or", .str "xor", .str "test", .str "store", .str "storew"]) nq_LOOK_AT_D (by show (13 : Nat) ≤ sizeLine; decide) (.cons ⟨_, rfl⟩ (.cons ⟨_, rfl⟩ (.cons ⟨_, rfl⟩ (.cons ⟨_, rfl⟩ (.cons ⟨_, rfl⟩ (.cons ⟨_, rfl⟩ (.cons ⟨_, rfl⟩ (.cons ⟨_, rfl⟩ (.cons ⟨_, rfl⟩ (.cons ⟨_, rfl⟩ (.cons ⟨_, rfl⟩ (.cons ⟨_, rfl⟩ (.cons ⟨_, rfl⟩ .nil))))))))))))) H, ⟨_, _, rfl, ⟨rfl, small (by decide)⟩, ⟨_, _, rfl, ⟨rfl, small (by decide)⟩, ⟨_, _, rfl, ⟨rfl, small (by decide)⟩, ⟨_, _, rfl, ⟨rfl, small (by decide)⟩, ⟨_, _, rfl, ⟨rfl, small (by decide)⟩, ⟨_, _, rfl, ⟨rfl, small (by decide)⟩, ⟨_, _, rfl, ⟨rfl, small (by decide)⟩, ⟨_, _, rfl, ⟨rfl, small (by decide)⟩, ⟨_, _, rfl, ⟨rfl, small (by decide)⟩, ⟨_, _, rfl, ⟨rfl, small (by decide)⟩, ⟨_, _, rfl, ⟨rfl, small (by decide)⟩, ⟨_, _, rfl, ⟨rfl, small (by decide)⟩, ⟨_, _, rfl, ⟨rfl, small (by decide)⟩, rfl⟩⟩⟩⟩⟩⟩⟩⟩⟩⟩⟩⟩⟩, small (by decide)⟩
  have k_LOOK_AT_S : TupK K A_LOOK_AT_S := ⟨_, nq_LOOK_AT_S, rfl, rfl⟩
  have g_LOOK_AT_S : Glb mg "LOOK_AT_S" (.ref A_LOOK_AT_S) := ⟨_, PySem.W.mg_of X G ng_LOOK_AT_S, rfl⟩
  have q_LOOK_AT_S : ∀ H, Rep K H gt_LOOK_AT_S (.ref A_LOOK_AT_S) := fun H => ⟨A_LOOK_AT_S, _, rfl, cstT (xs := [.str "copy", .str "load", .str "loadw", .str "add", .str "addc", .str "sub", .str "subc", .str "and", .str "or", .str "xor", .str "test", .str "store", .str "storew"]) nq_LOOK_AT_S (by show (13 : Nat) ≤ sizeLine; decide) (.cons ⟨_, rfl⟩ (.cons ⟨_, rfl⟩ (.cons ⟨_, rfl⟩ (.cons ⟨_, rfl⟩ (.cons ⟨_, rfl⟩ (.cons ⟨_, rfl⟩ (.cons ⟨_, rfl⟩ (.cons ⟨_, rfl⟩ (.cons ⟨_, rfl⟩ (.cons ⟨_, rfl⟩ (.cons ⟨_, rfl⟩ (.cons ⟨_, rfl⟩ (.cons ⟨_, rfl⟩ .nil))))))))))))) H, ⟨_, _, rfl, ⟨rfl, small (by decide)⟩, ⟨_, _, rfl, ⟨rfl, small (by decide)⟩, ⟨_, _, rfl, ⟨rfl, small (by decide)⟩, ⟨_, _, rfl, ⟨rfl, small (by decide)⟩, ⟨_, _, rfl, ⟨rfl, small (by decide)⟩, ⟨_, _, rfl, ⟨rfl, small (by decide)⟩, ⟨_, _, rfl, ⟨rfl, small (by decide)⟩, ⟨_, _, rfl, ⟨rfl, small (by decide)⟩, ⟨_, _, rfl, ⟨rfl, small (by decide)⟩, ⟨_, _, rfl, ⟨rfl, small (by decide)⟩, ⟨_, _, rfl, ⟨rfl, small (by decide)⟩, ⟨_, _, rfl, ⟨rfl, small (by decide)⟩, ⟨_, _, rfl, ⟨rfl, small (by decide)⟩, rfl⟩⟩⟩⟩⟩⟩⟩⟩⟩⟩⟩⟩⟩, small (by decide)⟩
  have k_LOOK_AT_CARRY : TupK K A_LOOK_AT_CARRY := ⟨_, nq_LOOK_AT_CARRY, rfl, rfl⟩
  have g_LOOK_AT_CARRY : Glb mg "LOOK_AT_CARRY" (.ref A_LOOK_AT_CARRY) := ⟨_, PySem.W.mg_of X G ng_LOOK_AT_CARRY, rfl⟩
  have q_LOOK_AT_CARRY : ∀ H, Rep K H gt_LOOK_AT_CARRY (.ref A_LOOK_AT_CARRY) := fun H => ⟨A_LOOK_AT_CARRY, _, rfl, cstT (xs := [.str "addc", .str "subc"]) nq_LOOK_AT_CARRY (by show (2 : Nat) ≤ sizeLine; decide) (.cons ⟨_, rfl⟩ (.cons ⟨_, rfl⟩ .nil)) H, ⟨_, _, rfl, ⟨rfl, small (by decide)⟩, ⟨_, _, rfl, ⟨rfl, small (by decide)⟩, rfl⟩⟩, small (by decide)⟩
  have k_PUT_D : TupK K A_PUT_D := ⟨_, nq_PUT_D, rfl, rfl⟩
  have g_PUT_D : Glb mg "PUT_D" (.ref A_PUT_D) := ⟨_, PySem.W.mg_of X G ng_PUT_D, rfl⟩
  have q_PUT_D : ∀ H, Rep K H gt_PUT_D (.ref A_PUT_D) := fun H => ⟨A_PUT_D, _, rfl, cstT (xs := [.str "set", .str "high", .str "copy", .str "load", .str "loadw", .str "add", .str "addc", .str "sub", .str "subc", .str "and", .str "or", .str "xor", .str "left", .str "right"]) nq_PUT_D (by show (14 : Nat) ≤ sizeLine; decide) (.cons ⟨_, rfl⟩ (.cons ⟨_, rfl⟩ (.cons ⟨_, rfl⟩ (.cons ⟨_, rfl⟩ (.cons ⟨_, rfl⟩ (.cons ⟨_, rfl⟩ (.cons ⟨_, rfl⟩ (.cons ⟨_, rfl⟩ (.cons ⟨_, rfl⟩ (.cons ⟨_, rfl⟩ (.cons ⟨_, rfl⟩ (.cons ⟨_, rfl⟩ (.cons ⟨_, rfl⟩ (.cons ⟨_, rfl⟩ .nil)))))))))))))) H, ⟨_, _, rfl, ⟨rfl, small (by decide)⟩, ⟨_, _, rfl, ⟨rfl, small (by decide)⟩, ⟨_, _, rfl, ⟨rfl, small (by decide)⟩, ⟨_, _, rfl, ⟨rfl, small (by decide)⟩, ⟨_, _, rfl, ⟨rfl, small (by decide)⟩, ⟨_, _, rfl, ⟨rfl, small (by decide)⟩, ⟨_, _, rfl, ⟨rfl, small (by decide)⟩, ⟨_, _, rfl, ⟨rfl, small (by decide)⟩, ⟨_, _, rfl, ⟨rfl, small (by decide)⟩, ⟨_, _, rfl, ⟨rfl, small (by decide)⟩, ⟨_, _, rfl, ⟨rfl, small (by decide)⟩, ⟨_, _, rfl, ⟨rfl, small (by decide)⟩, ⟨_, _, rfl, ⟨rfl, small (by decide)⟩, ⟨_, _, rfl, ⟨rfl, small (by decide)⟩, rfl⟩⟩⟩⟩⟩⟩⟩⟩⟩⟩⟩⟩⟩⟩, small (by decide)⟩
  have k_PUT_NOUGHT_AND_SIGN : TupK K A_PUT_NOUGHT_AND_SIGN := ⟨_, nq_PUT_NOUGHT_AND_SIGN, rfl, rfl⟩
  have g_PUT_NOUGHT_AND_SIGN : Glb mg "PUT_NOUGHT_AND_SIGN" (.ref A_PUT_NOUGHT_AND_SIGN) := ⟨_, PySem.W.mg_of X G ng_PUT_NOUGHT_AND_SIGN, rfl⟩
  have q_PUT_NOUGHT_AND_SIGN : ∀ H, Rep K H gt_PUT_NOUGHT_AND_SIGN (.ref A_PUT_NOUGHT_AND_SIGN) := fun H => ⟨A_PUT_NOUGHT_AND_SIGN, _, rfl, cstT (xs := [.str "add", .str "addc", .str "sub", .str "subc", .str "test", .str "and", .str "or", .str "xor", .str "left", .str "right"]) nq_PUT_NOUGHT_AND_SIGN (by show (10 : Nat) ≤ sizeLine; decide) (.cons ⟨_, rfl⟩ (.cons ⟨_, rfl⟩ (.cons ⟨_, rfl⟩ (.cons ⟨_, rfl⟩ (.cons ⟨_, rfl⟩ (.cons ⟨_, rfl⟩ (.cons ⟨_, rfl⟩ (.cons ⟨_, rfl⟩ (.cons ⟨_, rfl⟩ (.cons ⟨_, rfl⟩ .nil)))))))))) H, ⟨_, _, rfl, ⟨rfl, small (by decide)⟩, ⟨_, _, rfl, ⟨rfl, small (by decide)⟩, ⟨_, _, rfl, ⟨rfl, small (by decide)⟩, ⟨_, _, rfl, ⟨rfl, small (by decide)⟩, ⟨_, _, rfl, ⟨rfl, small (by decide)⟩, ⟨_, _, rfl, ⟨rfl, small (by decide)⟩, ⟨_, _, rfl, ⟨rfl, small (by decide)⟩, ⟨_, _, rfl, ⟨rfl, small (by decide)⟩, ⟨_, _, rfl, ⟨rfl, small (by decide)⟩, ⟨_, _, rfl, ⟨rfl, small (by decide)⟩, rfl⟩⟩⟩⟩⟩⟩⟩⟩⟩⟩, small (by decide)⟩
  have k_PUT_CARRY : TupK K A_PUT_CARRY := ⟨_, nq_PUT_CARRY, rfl, rfl⟩
  have g_PUT_CARRY : Glb mg "PUT_CARRY" (.ref A_PUT_CARRY) := ⟨_, PySem.W.mg_of X G ng_PUT_CARRY, rfl⟩
  have q_PUT_CARRY : ∀ H, Rep K H gt_PUT_CARRY (.ref A_PUT_CARRY) := fun H => ⟨A_PUT_CARRY, _, rfl, cstT (xs := [.str "add", .str "addc", .str "sub", .str "subc", .str "test", .str "left", .str "right"]) nq_PUT_CARRY (by show (7 : Nat) ≤ sizeLine; decide) (.cons ⟨_, rfl⟩ (.cons ⟨_, rfl⟩ (.cons ⟨_, rfl⟩ (.cons ⟨_, rfl⟩ (.cons ⟨_, rfl⟩ (.cons ⟨_, rfl⟩ (.cons ⟨_, rfl⟩ .nil))))))) H, ⟨_, _, rfl, ⟨rfl, small (by decide)⟩, ⟨_, _, rfl, ⟨rfl, small (by decide)⟩, ⟨_, _, rfl, ⟨rfl, small (by decide)⟩, ⟨_, _, rfl, ⟨rfl, small (by decide)⟩, ⟨_, _, rfl, ⟨rfl, small (by decide)⟩, ⟨_, _, rfl, ⟨rfl, small (by decide)⟩, ⟨_, _, rfl, ⟨rfl, small (by decide)⟩, rfl⟩⟩⟩⟩⟩⟩⟩, small (by decide)⟩
  have F0 := fun_mk (st := s_mark_bit) l0 c0 k0
  have D0 : Def K mg "mark_bit" s_mark_bit ["mark"] := ⟨_, _, F0, PySem.W.mg_of X G a0, F0.binds fun _ _ _ _ _ _ us hl => match us, hl with | [_], _ => rfl⟩
  have F1 := fun_mk (st := s_moves_by_nought) l1 c1 k1
  have D1 : Def K mg "moves_by_nought" s_moves_by_nought ["row"] := ⟨_, _, F1, PySem.W.mg_of X G a1, F1.binds fun _ _ _ _ _ _ us hl => match us, hl with | [_], _ => rfl⟩
  have F2 := fun_mk (st := s_used) l2 c2 k2
  have D2 : Def K mg "used" s_used ["row"] := ⟨_, _, F2, PySem.W.mg_of X G a2, F2.binds fun _ _ _ _ _ _ us hl => match us, hl with | [_], _ => rfl⟩
  have F3 := fun_mk (st := s_put) l3 c3 k3
  have D3 : Def K mg "put" s_put ["row"] := ⟨_, _, F3, PySem.W.mg_of X G a3, F3.binds fun _ _ _ _ _ _ us hl => match us, hl with | [_], _ => rfl⟩
  have F4 := fun_mk (st := s_law_cell_at) l4 c4 k4
  have D4 : Def K mg "_law_cell_at" s_law_cell_at ["_law_script", "_law_k"] := ⟨_, _, F4, PySem.W.mg_of X G a4, F4.binds fun _ _ _ _ _ _ us hl => match us, hl with | [_, _], _ => rfl⟩
  have F5 := fun_mk (st := s_law_mark) l5 c5 k5
  have D5 : Def K mg "_law_mark" s_law_mark ["_law_script", "_law_k"] := ⟨_, _, F5, PySem.W.mg_of X G a5, F5.binds fun _ _ _ _ _ _ us hl => match us, hl with | [_, _], _ => rfl⟩
  have F6 := fun_mk (st := s_law_words) l6 c6 k6
  have D6 : Def K mg "_law_words" s_law_words [] := ⟨_, _, F6, PySem.W.mg_of X G a6, F6.binds fun _ _ _ _ _ _ us hl => match us, hl with | [], _ => rfl⟩
  have F7 := fun_mk (st := s_law_row_by) l7 c7 k7
  have D7 : Def K mg "_law_row_by" s_law_row_by ["_law_mark_here", "_law_names", "_law_many"] := ⟨_, _, F7, PySem.W.mg_of X G a7, F7.binds fun _ _ _ _ _ _ us hl => match us, hl with | [_, _, _], _ => rfl⟩
  have F8 := fun_mk (st := s_law_bits) l8 c8 k8
  have D8 : Def K mg "_law_bits" s_law_bits ["_law_row", "_law_places", "_law_marks"] := ⟨_, _, F8, PySem.W.mg_of X G a8, F8.binds fun _ _ _ _ _ _ us hl => match us, hl with | [_, _, _], _ => rfl⟩
  have F9 := fun_mk (st := s_law_used) l9 c9 k9
  have D9 : Def K mg "_law_used" s_law_used ["_law_row"] := ⟨_, _, F9, PySem.W.mg_of X G a9, F9.binds fun _ _ _ _ _ _ us hl => match us, hl with | [_], _ => rfl⟩
  have F10 := fun_mk (st := s_law_put) l10 c10 k10
  have D10 : Def K mg "_law_put" s_law_put ["_law_row"] := ⟨_, _, F10, PySem.W.mg_of X G a10, F10.binds fun _ _ _ _ _ _ us hl => match us, hl with | [_], _ => rfl⟩
  have F11 := fun_mk (st := s_law_right) l11 c11 k11
  have D11 : Def K mg "_law_right" s_law_right ["_law_found", "_law_due"] := ⟨_, _, F11, PySem.W.mg_of X G a11, F11.binds fun _ _ _ _ _ _ us hl => match us, hl with | [_, _], _ => rfl⟩
  have F12 := fun_mk (st := s_law) l12 c12 k12
  refine ⟨PySem.W.fnOf "law" "law" (defArgs s_law) (defBody s_law) (defScope s_law) .none kV12 dc12 pm12 an12 cd12 ct12, fun s v => .of_eq rfl, fun base _ _ => ?_⟩
  have h_mark_bit := ok_mark_bit (P := l.prog) (w := w) (base := base) D0 g_MARK_LOW q_MARK_LOW g_MARKS q_MARKS k_MARKS
  have h_moves_by_nought := ok_moves_by_nought (P := l.prog) (w := w) (base := base) D1 
  have h_used := ok_used (P := l.prog) (w := w) (base := base) D2 g_ALL_NEEDED q_ALL_NEEDED g_LOOK_AT_D q_LOOK_AT_D g_LOOK_AT_S q_LOOK_AT_S g_LOOK_AT_CARRY q_LOOK_AT_CARRY h_mark_bit
  have h_put := ok_put (P := l.prog) (w := w) (base := base) D3 g_PUT_D q_PUT_D g_PUT_NOUGHT_AND_SIGN q_PUT_NOUGHT_AND_SIGN g_PUT_CARRY q_PUT_CARRY h_mark_bit h_moves_by_nought
  have h_law_cell_at := ok_law_cell_at (P := l.prog) (w := w) (base := base) D4 z_len
  have h_law_mark := ok_law_mark (P := l.prog) (w := w) (base := base) D5 z_len h_law_cell_at
  have h_law_words := ok_law_words (P := l.prog) (w := w) (base := base) D6 
  have h_law_row_by := ok_law_row_by (P := l.prog) (w := w) (base := base) D7 z_len h_law_words
  have h_law_bits := ok_law_bits (P := l.prog) (w := w) (base := base) D8 
  have h_law_used := ok_law_used (P := l.prog) (w := w) (base := base) D9 h_law_bits
  have h_law_put := ok_law_put (P := l.prog) (w := w) (base := base) D10 z_int h_law_bits
  have h_law_right := ok_law_right (P := l.prog) (w := w) (base := base) D11 z_isinstance z_bool z_int
  exact ok_law F12 z_range h_law_mark h_law_row_by h_law_right h_law_put h_put h_law_used h_used
theorem walk {l : PySem.W.OpenLaw} {q : Program} {loose : List Str} {XP : (Str → Option Value) → Heap → Prop} {YP : World → Heap → Prop} {d : DefRec} {K : Params → PySem.W.Frag} (hn : l.most = some 63) (hdf : d.params.defaults = [])
    (hY : ∀ (w : World) (h : Heap), YP w h → (K w.params).In h)
    (F : ∀ (w : World) (mg : Str → Option Value) (fa : Addr) (h : Heap), (K w.params).In h → h.Ns mainGlobals mg → mg d.name = some (.ref fa) →
      ∃ fd : FuncData, (∀ (s : Shared) (u : Value), BindsTo s fd ⟨[u], []⟩ [("_law_script", u)]) ∧ ∀ base : Heap, (K w.params).In base → base.Ns mainGlobals mg → FnOk l.prog w (K w.params) mg base CX0 3 fa fd ["_law_script"] (spLawB (K w.params))) :
    PySem.W.WalkO q loose XP YP l.row.toRowW d [] (fun f vs => PySem.call f vs) :=
  L3.walkB (n := 63) (k := 3) (x := "_law_script") (sp := spLawB) hn (by decide) hdf ⟨rfl, by decide, by decide⟩ hY F fun _ _ a ns hl hb hS => ⟨a, ns, rfl, hS, hl, hb, fun _ => rfl⟩
end My
open PySem PySem.W PyProof.Rows
set_option maxRecDepth 100000 in
set_option maxHeartbeats 0 in
theorem PySem.Challenge.cw_markrun_k46_used_and_put_holds : PySem.Challenge.rw_markrun_k46_used_and_put.Holds := by
  w_on; o_law; k_head; (case hw => w_witness2)
  k_fill
  refine My.walk (l := PySem.Challenge.rw_markrun_k46_used_and_put) rfl rfl (fun w h Y => PySem.W.kIn_of Y) ?F
  case F =>
    intro w mg fa h KX G hmg
    refine' My.all_mk KX G hmg ?a0 ?l0 ?c0 ?k0 ?a1 ?l1 ?c1 ?k1 ?a2 ?l2 ?c2 ?k2 ?a3 ?l3 ?c3 ?k3 ?a4 ?l4 ?c4 ?k4 ?a5 ?l5 ?c5 ?k5 ?a6 ?l6 ?c6 ?k6 ?a7 ?l7 ?c7 ?k7 ?a8 ?l8 ?c8 ?k8 ?a9 ?l9 ?c9 ?k9 ?a10 ?l10 ?c10 ?k10 ?a11 ?l11 ?c11 ?k11 ?a12 ?l12 ?c12 ?k12 ?nz_len ?nz_int ?nz_isinstance ?nz_bool ?nz_range ?ng_MARK_LOW ?ng_MARKS ?nq_MARKS ?ng_ALL_NEEDED ?ng_LOOK_AT_D ?nq_LOOK_AT_D ?ng_LOOK_AT_S ?nq_LOOK_AT_S ?ng_LOOK_AT_CARRY ?nq_LOOK_AT_CARRY ?ng_PUT_D ?nq_PUT_D ?ng_PUT_NOUGHT_AND_SIGN ?nq_PUT_NOUGHT_AND_SIGN ?ng_PUT_CARRY ?nq_PUT_CARRY
    (case a0 => first | k_is | k_exc | kit_is | kts_exm | decide)
    (case l0 => first | k_is | k_exc | kit_is | kts_exm | decide)
    (case c0 => first | k_is | k_exc | kit_is | kts_exm | decide)
    (case k0 => first | k_is | k_exc | kit_is | kts_exm | decide)
    (case a1 => first | k_is | k_exc | kit_is | kts_exm | decide)
    (case l1 => first | k_is | k_exc | kit_is | kts_exm | decide)
    (case c1 => first | k_is | k_exc | kit_is | kts_exm | decide)
    (case k1 => first | k_is | k_exc | kit_is | kts_exm | decide)
    (case a2 => first | k_is | k_exc | kit_is | kts_exm | decide)
    (case l2 => first | k_is | k_exc | kit_is | kts_exm | decide)
    (case c2 => first | k_is | k_exc | kit_is | kts_exm | decide)
    (case k2 => first | k_is | k_exc | kit_is | kts_exm | decide)
    (case a3 => first | k_is | k_exc | kit_is | kts_exm | decide)
    (case l3 => first | k_is | k_exc | kit_is | kts_exm | decide)
    (case c3 => first | k_is | k_exc | kit_is | kts_exm | decide)
    (case k3 => first | k_is | k_exc | kit_is | kts_exm | decide)
    (case a4 => first | k_is | k_exc | kit_is | kts_exm | decide)
    (case l4 => first | k_is | k_exc | kit_is | kts_exm | decide)
    (case c4 => first | k_is | k_exc | kit_is | kts_exm | decide)
    (case k4 => first | k_is | k_exc | kit_is | kts_exm | decide)
    (case a5 => first | k_is | k_exc | kit_is | kts_exm | decide)
    (case l5 => first | k_is | k_exc | kit_is | kts_exm | decide)
    (case c5 => first | k_is | k_exc | kit_is | kts_exm | decide)
    (case k5 => first | k_is | k_exc | kit_is | kts_exm | decide)
    (case a6 => first | k_is | k_exc | kit_is | kts_exm | decide)
    (case l6 => first | k_is | k_exc | kit_is | kts_exm | decide)
    (case c6 => first | k_is | k_exc | kit_is | kts_exm | decide)
    (case k6 => first | k_is | k_exc | kit_is | kts_exm | decide)
    (case a7 => first | k_is | k_exc | kit_is | kts_exm | decide)
    (case l7 => first | k_is | k_exc | kit_is | kts_exm | decide)
    (case c7 => first | k_is | k_exc | kit_is | kts_exm | decide)
    (case k7 => first | k_is | k_exc | kit_is | kts_exm | decide)
    (case a8 => first | k_is | k_exc | kit_is | kts_exm | decide)
    (case l8 => first | k_is | k_exc | kit_is | kts_exm | decide)
    (case c8 => first | k_is | k_exc | kit_is | kts_exm | decide)
    (case k8 => first | k_is | k_exc | kit_is | kts_exm | decide)
    (case a9 => first | k_is | k_exc | kit_is | kts_exm | decide)
    (case l9 => first | k_is | k_exc | kit_is | kts_exm | decide)
    (case c9 => first | k_is | k_exc | kit_is | kts_exm | decide)
    (case k9 => first | k_is | k_exc | kit_is | kts_exm | decide)
    (case a10 => first | k_is | k_exc | kit_is | kts_exm | decide)
    (case l10 => first | k_is | k_exc | kit_is | kts_exm | decide)
    (case c10 => first | k_is | k_exc | kit_is | kts_exm | decide)
    (case k10 => first | k_is | k_exc | kit_is | kts_exm | decide)
    (case a11 => first | k_is | k_exc | kit_is | kts_exm | decide)
    (case l11 => first | k_is | k_exc | kit_is | kts_exm | decide)
    (case c11 => first | k_is | k_exc | kit_is | kts_exm | decide)
    (case k11 => first | k_is | k_exc | kit_is | kts_exm | decide)
    (case a12 => first | k_is | k_exc | kit_is | kts_exm | decide)
    (case l12 => first | k_is | k_exc | kit_is | kts_exm | decide)
    (case c12 => first | k_is | k_exc | kit_is | kts_exm | decide)
    (case k12 => first | k_is | k_exc | kit_is | kts_exm | decide)
    (case nz_len => first | k_is | k_exc | kit_is | kts_exm | decide)
    (case nz_int => first | k_is | k_exc | kit_is | kts_exm | decide)
    (case nz_isinstance => first | k_is | k_exc | kit_is | kts_exm | decide)
    (case nz_bool => first | k_is | k_exc | kit_is | kts_exm | decide)
    (case nz_range => first | k_is | k_exc | kit_is | kts_exm | decide)
    (case ng_MARK_LOW => first | k_is | k_exc | kit_is | kts_exm | decide)
    (case ng_MARKS => first | k_is | k_exc | kit_is | kts_exm | decide)
    (case nq_MARKS => first | k_is | k_exc | kit_is | kts_exm | decide)
    (case ng_ALL_NEEDED => first | k_is | k_exc | kit_is | kts_exm | decide)
    (case ng_LOOK_AT_D => first | k_is | k_exc | kit_is | kts_exm | decide)
    (case nq_LOOK_AT_D => first | k_is | k_exc | kit_is | kts_exm | decide)
    (case ng_LOOK_AT_S => first | k_is | k_exc | kit_is | kts_exm | decide)
    (case nq_LOOK_AT_S => first | k_is | k_exc | kit_is | kts_exm | decide)
    (case ng_LOOK_AT_CARRY => first | k_is | k_exc | kit_is | kts_exm | decide)
    (case nq_LOOK_AT_CARRY => first | k_is | k_exc | kit_is | kts_exm | decide)
    (case ng_PUT_D => first | k_is | k_exc | kit_is | kts_exm | decide)
    (case nq_PUT_D => first | k_is | k_exc | kit_is | kts_exm | decide)
    (case ng_PUT_NOUGHT_AND_SIGN => first | k_is | k_exc | kit_is | kts_exm | decide)
    (case nq_PUT_NOUGHT_AND_SIGN => first | k_is | k_exc | kit_is | kts_exm | decide)
    (case ng_PUT_CARRY => first | k_is | k_exc | kit_is | kts_exm | decide)
    (case nq_PUT_CARRY => first | k_is | k_exc | kit_is | kts_exm | decide)
