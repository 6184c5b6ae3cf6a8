import PyProof.Rows.All
import Wide.All
import OpenK.AllK
import Wide.FinOn
import Lean
import PyProof.EqAt
import PyProof.EqKinds
import PyProof.TupleCall
import PySem.Challenge.RW_beamload_k09_whole_no_place_has_more
set_option Elab.async false
set_option linter.all false
set_option maxRecDepth 100000
set_option maxHeartbeats 4000000
/-! THE HAND LAYER, for ints, bools, texts, own classes, LISTS and tuples (index, slices, in, append, pop ..), calls, loops. Paste it whole ahead of your own text; what your proof does not reach may be deleted. -/
namespace L2
open PySem PySem.Spec PyProof.Rows
abbrev Key := Sum Int Str
def keyIs : Key → Value → Bool
  | .inl k, v => Value.isInt k v
  | .inr x, v => Value.isStrOf x v
def keyH (w : World) : Key → Int
  | .inl k => hashInt k
  | .inr x => hashStr w x
theorem keyIs_shape : ∀ {k : Key} {v : Value}, keyIs k v = true → (∃ i t, k = Sum.inl i ∧ v = Value.int i t) ∨ (∃ x t, k = Sum.inr x ∧ v = Value.str x t)
  | .inl i, v, h => by
    obtain ⟨t, e⟩ := Value.isInt_shape (k := i) (v := v) h
    exact .inl ⟨i, t, rfl, e⟩
  | .inr x, v, h => by
    obtain ⟨t, e⟩ := Value.isStrOf_shape (x := x) (v := v) h
    exact .inr ⟨x, t, rfl, e⟩
theorem key_ll (a b : Int) : decide ((Sum.inl a : Key) = Sum.inl b) = (a == b) := by
  by_cases e : a = b
  · subst e; simp
  · have h : ¬ (Sum.inl a : Key) = Sum.inl b := fun q => e (Sum.inl.inj q)
    rw [decide_eq_false h]
    exact (beq_eq_false_iff_ne.mpr e).symm
theorem key_rr (a b : Str) : decide ((Sum.inr a : Key) = Sum.inr b) = decide (a = b) := by
  by_cases e : a = b
  · subst e; simp
  · have h : ¬ (Sum.inr a : Key) = Sum.inr b := fun q => e (Sum.inr.inj q)
    rw [decide_eq_false h, decide_eq_false e]
theorem key_lr (a : Int) (b : Str) : decide ((Sum.inl a : Key) = Sum.inr b) = false := decide_eq_false (fun q => nomatch q)
theorem key_rl (a : Str) (b : Int) : decide ((Sum.inr a : Key) = Sum.inl b) = false := decide_eq_false (fun q => nomatch q)
def mixKind (prog : Program) (w : World) : PySem.KeyKind prog w Key where
  is := keyIs
  hash := keyH w
  inj := fun v a b ha hb => by
    rcases keyIs_shape ha with ⟨i, t, rfl, rfl⟩ | ⟨x, t, rfl, rfl⟩
    · rcases keyIs_shape hb with ⟨j, u, rfl, e⟩ | ⟨y, u, rfl, e⟩
      · injection e with e1 _; rw [e1]
      · exact nomatch e
    · rcases keyIs_shape hb with ⟨j, u, rfl, e⟩ | ⟨y, u, rfl, e⟩
      · exact nomatch e
      · injection e with e1 _; rw [e1]
  byValue := fun k v h => by
    rcases keyIs_shape h with ⟨i, t, rfl, rfl⟩ | ⟨x, t, rfl, rfl⟩ <;> rfl
  pyHash := fun hv h => by
    rcases keyIs_shape hv with ⟨i, t, rfl, rfl⟩ | ⟨x, t, rfl, rfl⟩
    · exact wpAny_pyHash_int h
    · exact wpAny_pyHash_str h
  eqBool := fun hu hv h => by
    rcases keyIs_shape hu with ⟨i, t, rfl, rfl⟩ | ⟨x, t, rfl, rfl⟩
    · rcases keyIs_shape hv with ⟨j, u, rfl, rfl⟩ | ⟨y, u, rfl, rfl⟩
      · rw [key_ll] at h; exact wpAny_eqBool_int h
      · rw [key_lr] at h; exact SeqAt.EqAt.int_str i t y u _ _ _ _ h
    · rcases keyIs_shape hv with ⟨j, u, rfl, rfl⟩ | ⟨y, u, rfl, rfl⟩
      · rw [key_rl] at h; exact SeqAt.EqAt.str_int x t j u _ _ _ _ h
      · rw [key_rr] at h; exact wpAny_eqBool_str h
  «strs» := fun k x t v h => by
    rcases keyIs_shape h with ⟨i, u, rfl, e⟩ | ⟨y, u, rfl, e⟩
    · exact nomatch e
    · injection e with e1 _
      subst e1
      cases v <;> rfl
end L2
namespace L2
open PySem PySem.Spec PyProof.Rows
inductive V where
  | non | bl (b : Bool) | int (i : Int) | str (x : Str) | byt (b : Array UInt8) | flt (b : UInt64) | ref (a : Addr) | ty (n : String)
  deriving DecidableEq
def RelV : V → Value → Prop
  | .non, u => u = Value.none
  | .bl b, u => u = Value.bool b
  | .int i, u => ∃ t, u = Value.int i t
  | .str x, u => ∃ t, u = Value.str x t
  | .byt b, u => ∃ t, u = Value.bytes b t
  | .flt b, u => ∃ t, u = Value.float b t
  | .ref a, u => u = Value.ref a
  | .ty n, u => u = Value.type n
abbrev Vals : List V → List Value → Prop := Paired RelV
theorem Vals.length {xs : List V} {us : List Value} (r : Vals xs us) : xs.length = us.length := Paired.length r
theorem Vals.get : ∀ {xs : List V} {us : List Value} {i : Nat} {x : V}, Vals xs us → xs[i]? = some x → ∃ u, us[i]? = some u ∧ RelV x u
  | _, _, _, _, .nil, e => by simp at e
  | _, _, 0, _, .cons r _, e => by simp at e; subst e; exact ⟨_, rfl, r⟩
  | _, _, i + 1, x, .cons _ t, e => by
    obtain ⟨u, h1, h2⟩ := Vals.get (i := i) (x := x) t (by simpa using e)
    exact ⟨u, by simpa using h1, h2⟩
theorem Vals.set {x : V} {u : Value} (r : RelV x u) : ∀ {xs : List V} {us : List Value} (i : Nat), Vals xs us → Vals (xs.set i x) (us.set i u)
  | _, _, _, .nil => .nil
  | _, _, 0, .cons _ t => .cons r t
  | _, _, i + 1, .cons q t => .cons q (Vals.set r i t)
theorem Vals.append : ∀ {xs ys : List V} {us ws : List Value}, Vals xs us → Vals ys ws → Vals (xs ++ ys) (us ++ ws)
  | _, _, _, _, .nil, s => s
  | _, _, _, _, .cons r t, s => .cons r (Vals.append t s)
theorem Vals.take : ∀ {xs : List V} {us : List Value} (n : Nat), Vals xs us → Vals (xs.take n) (us.take n)
  | _, _, 0, _ => .nil
  | _, _, _ + 1, .nil => .nil
  | _, _, n + 1, .cons r t => .cons r (Vals.take n t)
theorem Vals.drop : ∀ {xs : List V} {us : List Value} (n : Nat), Vals xs us → Vals (xs.drop n) (us.drop n)
  | _, _, 0, r => r
  | _, _, _ + 1, .nil => .nil
  | _, _, n + 1, .cons _ t => Vals.drop n t
def RelO : Option V → Option Value → Prop
  | some v, some u => RelV v u
  | none, none => True
  | _, _ => False
def KV {κ : Type} : List (κ × V) → List (κ × Value) → Prop := Paired fun (p : κ × V) (q : κ × Value) => p.1 = q.1 ∧ RelV p.2 q.2
def kV : Key → V
  | .inl i => .int i
  | .inr x => .str x
inductive HO where
  /-- a list -/
  | lst (xs : List V)
  /-- a tuple (never changes) -/
  | tup (xs : List V)
  /-- a dict whose keys are ints and texts; one whose keys are tuples of ints and texts (the empty one is both) -/
  | dK (kvs : List (Key × V)) | dT (kvs : List (List Key × V))
  /-- a set of ints: its members, its size -/
  | set (S : Int → Bool) (n : Nat)
  /-- an instance of the class at C, its dict at dx, its attributes -/
  | ins (C dx : Addr) (fs : List (Str × V))
  /-- the dict of the instance at x -/
  | own (x : Addr)
  /-- the dict of an exception -/
  | xd (fs : List (Str × V))
  /-- a bound method, f of x -/
  | met (f x : Addr)
  /-- a range object lo, lo + 1, .. below hi -/
  | rng (lo hi : Int)
  /-- a thing that is known to the object (the script; a dict while a loop walks it): read, never written while it is so -/
  | frz (o : Obj) (u : HO)
  /-- a code object's table -/
  | tbl (ps : Array Value)
  /-- any other thing, by what is true of its one object (a def of one's own: SetO a S n := HO.ext fun h => ..) -/
  | ext (φ : Heap → Prop)
abbrev Hp := Addr → Option HO
def upd (H : Hp) (a : Addr) (o : HO) : Hp := fun b => if b = a then some o else H b
theorem upd_same {H : Hp} {a : Addr} {o : HO} : upd H a o a = some o := by unfold upd; rw [if_pos rfl]
theorem upd_ne {H : Hp} {a b : Addr} {o : HO} (h : b ≠ a) : upd H a o b = H b := by unfold upd; rw [if_neg h]
theorem ne_of {H : Hp} {a b : Addr} {o u : HO} (h : H a = some o) (h' : H b = some u) (d : o ≠ u) : a ≠ b := by
  intro e; subst e; rw [h] at h'; exact d (Option.some.inj h')
theorem ne_of_none {H : Hp} {a b : Addr} {o : HO} (h : H a = some o) (h' : H b = none) : a ≠ b := by
  intro e; subst e; rw [h] at h'; cases h'
section
variable (P : Program) (w : World)
def ObjOk (H : Hp) (h : Heap) (a : Addr) : HO → Prop
  | .lst xs => xs.length ≤ sizeLine ∧ ∃ (its : List Value) (n : Nat), Vals xs its ∧ h.get? a = some { cls := .type "list", data := .seq its.toArray n }
  | .tup xs => xs.length ≤ sizeLine ∧ ∃ its : List Value, Vals xs its ∧ IsTup h a its.toArray
  | .dK kvs => kvs.length ≤ sizeLine ∧ (a == sysModules) = false ∧ ∃ vs, KV kvs vs ∧ h.DictOf (mixKind P w) a vs
  | .dT kvs => kvs.length ≤ sizeLine ∧ (a == sysModules) = false ∧ ∃ xs : List (List Key × Addr × Value),
      Paired (fun (p : List Key × V) (q : List Key × Addr × Value) => p.1 = q.1 ∧ H q.2.1 = some (.tup (p.1.map kV)) ∧ RelV p.2 q.2.2) kvs xs ∧
      ∃ o es ep, h.get? a = some o ∧ o.ExactDict ∧ o.data = .dict es ep ∧ es.toList = xs.map (entryOfKey (tupleKind (mixKind P w))) ∧ (xs.map (·.1)).Nodup
  | .set S n => h.SetOf (intKind P w) a S n
  | .ins C dx fs => H dx = some (.own a) ∧ fs.length ≤ 1000 ∧ dx ≠ a ∧ h.get? a = some (PySem.W.instObj C dx) ∧
      ∃ mA, h.Ns1 dx mA ∧ (∀ f, RelO (fs.lookup f) (mA f)) ∧ PySem.Within mA (fs.map (·.1))
  | .own _ => ∃ o, h.get? a = some o
  | .xd fs => ∃ mA, h.Ns1 a mA ∧ ∀ f, RelO (fs.lookup f) (mA f)
  | .rng lo hi => ∃ t u v, h.get? a = some { cls := .type "range", data := .fields #[.int lo t, .int hi u, .int 1 v] }
  | .frz o u => h.get? a = some o ∧ ObjOk H h a u
  | .tbl ps => h.get? a = some { cls := .none, data := .fields ps }
  | .met f x => h.get? a = some (PySem.W.methodObj (.ref f) (.ref x))
  | .ext φ => φ h ∧ (∃ o, h.get? a = some o) ∧ ∀ h1 h2 : Heap, φ h1 → (∀ o, h1.get? a = some o → h2.get? a = some o) → φ h2
def HOk (H : Hp) (h : Heap) : Prop := ∀ a o, H a = some o → ObjOk P w H h a o
end
section
variable {P : Program} {w : World} {H H' : Hp} {h h' : Heap} {a : Addr} {o : HO}
theorem ObjOk.lt (x : ObjOk P w H h a o) : a < h.objs.size := by
  cases o with
  | lst xs => obtain ⟨_, _, _, _, e⟩ := x; exact Heap.lt_size e
  | tup xs => obtain ⟨_, _, _, p⟩ := x; exact p.lt
  | dK kvs => obtain ⟨_, _, _, _, o, _, _, e, _⟩ := x; exact Heap.lt_size e
  | dT kvs => obtain ⟨_, _, _, _, o, _, _, e, _⟩ := x; exact Heap.lt_size e
  | set S n => obtain ⟨o, _, _, _, e, _⟩ := x; exact Heap.lt_size e
  | ins C dx fs => obtain ⟨_, _, _, e, _⟩ := x; exact Heap.lt_size e
  | own y => obtain ⟨_, e⟩ := x; exact Heap.lt_size e
  | xd fs => obtain ⟨_, ⟨_, _, _, e, _⟩, _⟩ := x; exact Heap.lt_size e
  | rng lo hi => obtain ⟨_, _, _, e⟩ := x; exact Heap.lt_size e
  | frz ob u => obtain ⟨e, _⟩ := x; exact Heap.lt_size e
  | tbl ps => exact Heap.lt_size (show h.get? a = some _ from x)
  | met f y => exact Heap.lt_size (show h.get? a = some _ from x)
  | ext φ => obtain ⟨_, ⟨_, e⟩, _⟩ := x; exact Heap.lt_size e
theorem Paired.mapP {α β : Type} {F G : α → β → Prop} : ∀ {l₁ : List α} {l₂ : List β}, Paired F l₁ l₂ → (∀ a b, F a b → G a b) → Paired G l₁ l₂
  | _, _, .nil, _ => .nil
  | _, _, .cons r t, f => .cons (f _ _ r) (Paired.mapP t f)
theorem Paired.imp' {α β : Type} {F G : α → β → Prop} (f : ∀ a b, F a b → G a b) {l₁ : List α} {l₂ : List β} (r : Paired F l₁ l₂) : Paired G l₁ l₂ := Paired.mapP r f
theorem ObjOk.stay (x : ObjOk P w H h a o) (k : ∀ b u, (b = a ∨ H b = some (.own a)) → h.get? b = some u → h'.get? b = some u)
    (ho : ∀ b, H b = some (.own a) → H' b = some (.own a)) (ht : ∀ b xs, H b = some (.tup xs) → H' b = some (.tup xs)) : ObjOk P w H' h' a o := by
  induction o with
  | lst xs => obtain ⟨z, its, n, r, e⟩ := x; exact ⟨z, its, n, r, k _ _ (.inl rfl) e⟩
  | tup xs => obtain ⟨z, its, r, ob, e, c⟩ := x; exact ⟨z, its, r, ob, k _ _ (.inl rfl) e, c⟩
  | dK kvs => obtain ⟨z, y, vs, r, ob, es, ep, e, c⟩ := x; exact ⟨z, y, vs, r, ob, es, ep, k _ _ (.inl rfl) e, c⟩
  | dT kvs =>
    obtain ⟨z, y, xs, r, ob, es, ep, e, c⟩ := x
    exact ⟨z, y, xs, Paired.mapP r fun p q z => ⟨z.1, ht _ _ z.2.1, z.2.2⟩, ob, es, ep, k _ _ (.inl rfl) e, c⟩
  | set S n => obtain ⟨ob, es, ep, t, e, c⟩ := x; exact ⟨ob, es, ep, t, k _ _ (.inl rfl) e, c⟩
  | ins C dx fs =>
    obtain ⟨d, z, ne, e, mA, ⟨od, es, ep, e2, c⟩, r⟩ := x
    exact ⟨ho _ d, z, ne, k _ _ (.inl rfl) e, mA, ⟨od, es, ep, k _ _ (.inr d) e2, c⟩, r⟩
  | own y => obtain ⟨ob, e⟩ := x; exact ⟨ob, k _ _ (.inl rfl) e⟩
  | xd fs => obtain ⟨mA, ⟨od, es, ep, e, c⟩, r⟩ := x; exact ⟨mA, ⟨od, es, ep, k _ _ (.inl rfl) e, c⟩, r⟩
  | rng lo hi => obtain ⟨t, u, v, e⟩ := x; exact ⟨t, u, v, k _ _ (.inl rfl) e⟩
  | frz ob u ih => obtain ⟨e, q⟩ := x; exact ⟨k _ _ (.inl rfl) e, ih q⟩
  | tbl ps =>
    have e : h.get? a = some { cls := .none, data := .fields ps } := x
    show h'.get? a = some { cls := .none, data := .fields ps }
    exact k a _ (.inl rfl) e
  | met f y =>
    have e : h.get? a = some (PySem.W.methodObj (.ref f) (.ref y)) := x
    show h'.get? a = some (PySem.W.methodObj (.ref f) (.ref y))
    exact k a _ (.inl rfl) e
  | ext φ => obtain ⟨p, ⟨o, e⟩, st⟩ := x; exact ⟨st _ _ p fun o q => k _ _ (.inl rfl) q, ⟨o, k _ _ (.inl rfl) e⟩, st⟩
theorem HOk.lt (x : HOk P w H h) (e : H a = some o) : a < h.objs.size := (x a o e).lt
theorem HOk.fresh (x : HOk P w H h) (e : h.objs.size ≤ a) : H a = none := by
  cases q : H a with
  | none => rfl
  | some u => exact absurd (Nat.lt_of_lt_of_le (x.lt q) e) (Nat.lt_irrefl _)
theorem HOk.kept (x : HOk P w H h) (k : ∀ b u, h.get? b = some u → h'.get? b = some u) : HOk P w H h' := fun a o e =>
  (x a o e).stay (fun b u _ q => k b u q) (fun _ q => q) fun _ _ q => q
theorem HOk.laid (x : HOk P w H h) (k : ∀ b u, h.get? b = some u → h'.get? b = some u) (hp : h.objs.size ≤ a) (new : ObjOk P w (upd H a o) h' a o) : HOk P w (upd H a o) h' := fun b u e => by
  have hn := x.fresh hp
  by_cases hb : b = a
  · subst hb; rw [upd_same] at e; cases e; exact new
  · rw [upd_ne hb] at e
    exact (x b u e).stay (fun c v _ q => k c v q) (fun c q => by rw [upd_ne (ne_of_none q hn)]; exact q) fun c xs q => by rw [upd_ne (ne_of_none q hn)]; exact q
end
def Rd (H : Hp) (a : Addr) (u : HO) : Prop := H a = some u ∨ ∃ o, H a = some (.frz o u)
theorem Rd.ok {P : Program} {w : World} {H : Hp} {h : Heap} {a : Addr} {u : HO} (r : Rd H a u) (x : HOk P w H h) : ObjOk P w H h a u := by
  rcases r with r | ⟨o, r⟩
  · exact x a u r
  · obtain ⟨_, q⟩ := x a _ r
    exact q
def Mut : Option HO → Prop
  | some (.lst _) => True
  | some (.dK _) => True
  | some (.dT _) => True
  | some (.set _ _) => True
  | some (.ins _ _ _) => True
  | some (.ext _) => True
  | _ => False
section
variable {P : Program} {w : World} {H : Hp} {h h' : Heap} {x e : Addr} {o' : HO}
theorem HOk.write (ok : HOk P w H h) (mu : Mut (H x)) (he : e = x ∨ H e = some (.own x)) (k : ∀ b u, b ≠ e → h.get? b = some u → h'.get? b = some u) (heo : ∃ u, h'.get? e = some u)
    (new : ObjOk P w (upd H x o') h' x o') : HOk P w (upd H x o') h' := fun b u q => by
  have nown : ∀ c y, H c = some (.own y) → c ≠ x := fun c y r z => by subst z; rw [r] at mu; exact mu
  have ntup : ∀ c xs, H c = some (.tup xs) → c ≠ x := fun c xs r z => by subst z; rw [r] at mu; exact mu
  by_cases hb : b = x
  · subst hb; rw [upd_same] at q; cases q; exact new
  · rw [upd_ne hb] at q
    by_cases hbe : b = e
    · have q' : H b = some (.own x) := by
        rcases he with z | z
        · exact absurd (hbe.trans z) hb
        · rw [hbe]; exact z
      rw [q] at q'; cases q'
      obtain ⟨v, hv⟩ := heo
      exact ⟨v, by rw [hbe]; exact hv⟩
    · refine (ok b u q).stay (fun c v hc r => k c v ?_ r) (fun c r => by rw [upd_ne (nown c b r)]; exact r) fun c xs r => by rw [upd_ne (ntup c xs r)]; exact r
      rcases hc with rfl | hc
      · exact hbe
      · rintro rfl
        rcases he with z | z
        · exact nown c b hc z
        · rw [hc] at z; cases z; exact hb rfl
end
/-! ### kept unless tracked; of the frames at fs (the callers') the slots may change (an exception that passes writes there); of the records at ex (iterators) nothing is said -/
structure Un (fs ex : List Addr) (H H' : Hp) (h h' : Heap) : Prop where
  keep : ∀ b o, h.get? b = some o → H b = none → b ∉ fs → b ∉ ex → h'.get? b = some o
  slot : ∀ b o, h.get? b = some o → H b = none → b ∈ fs → b ∉ ex → ∃ sl, h'.get? b = some { o with slots := sl }
  free : ∀ b o, h.get? b = some o → H b = none → b ∉ ex → H' b = none
  there : ∀ b o, h.get? b = some o → b ∉ ex → ∃ o', h'.get? b = some o'
  tups : ∀ b xs, H b = some (.tup xs) → H' b = some (.tup xs)
  frzs : ∀ b o u, H b = some (.frz o u) → H' b = some (.frz o u)
  tbls : ∀ b ps, H b = some (.tbl ps) → ∃ more, H' b = some (.tbl (ps ++ more))
section
variable {fs fs' ex ex' : List Addr} {H H1 H2 : Hp} {h h1 h2 h' : Heap} {a x e : Addr} {o : HO}
theorem Un.any (u : Un fs ex H H1 h h1) {b : Addr} {ob : Obj} (q : h.get? b = some ob) (n : H b = none) (hx : b ∉ ex) : ∃ sl, h1.get? b = some { ob with slots := sl } := by
  by_cases hb : b ∈ fs
  · exact u.slot b ob q n hb hx
  · exact ⟨ob.slots, u.keep b ob q n hb hx⟩
theorem Un.kept (k : ∀ b u, h.get? b = some u → h'.get? b = some u) : Un fs ex H H h h' :=
  ⟨fun b ob q _ _ _ => k b ob q, fun b ob q _ _ _ => ⟨ob.slots, k b ob q⟩, fun _ _ _ n _ => n, fun b ob q _ => ⟨ob, k b ob q⟩, fun _ _ q => q, fun _ _ _ q => q, fun _ ps q => ⟨#[], by rw [q]; simp⟩⟩
theorem Un.refl : Un fs ex H H h h := Un.kept fun _ _ q => q
theorem Un.laid (k : ∀ b u, h.get? b = some u → h'.get? b = some u) (hp : h.objs.size ≤ a) (hn : H a = none) : Un fs ex H (upd H a o) h h' where
  keep := fun b u q _ _ _ => k b u q
  slot := fun b u q _ _ _ => ⟨u.slots, k b u q⟩
  free := fun b u q n _ => by rw [upd_ne (Nat.ne_of_lt (Nat.lt_of_lt_of_le (Heap.lt_size q) hp))]; exact n
  there := fun b u q _ => ⟨u, k b u q⟩
  tups := fun b xs q => by rw [upd_ne (ne_of_none q hn)]; exact q
  frzs := fun b u xs q => by rw [upd_ne (ne_of_none q hn)]; exact q
  tbls := fun b ps q => ⟨#[], by rw [upd_ne (ne_of_none q hn), q]; simp⟩
theorem Un.write (mu : Mut (H x)) (he : e = x ∨ H e = some (.own x)) (k : ∀ b u, b ≠ e → h.get? b = some u → h'.get? b = some u) (heo : ∃ u, h'.get? e = some u) : Un fs ex H (upd H x o) h h' := by
  have hx : ∀ b, H b = none → b ≠ x := fun b n z => by subst z; rw [n] at mu; exact mu
  have hb : ∀ b, H b = none → b ≠ e := fun b n z => by
    subst z
    rcases he with r | r
    · exact hx b n r
    · rw [n] at r; cases r
  have hm : ∀ b u, H b = some u → ¬ Mut (some u) → b ≠ x := fun b u q nm z => by subst z; rw [q] at mu; exact nm mu
  refine ⟨fun b u q n _ _ => k b u (hb b n) q, fun b u q n _ _ => ⟨u.slots, k b u (hb b n) q⟩, fun b u q n _ => by rw [upd_ne (hx b n)]; exact n, fun b u q _ => ?_,
    fun b xs q => by rw [upd_ne (hm b _ q fun z => z)]; exact q, fun b u xs q => by rw [upd_ne (hm b _ q fun z => z)]; exact q, fun b ps q => ⟨#[], by rw [upd_ne (hm b _ q fun z => z), q]; simp⟩⟩
  by_cases hbe : b = e
  · subst hbe; exact heo
  · exact ⟨u, k b u hbe q⟩
end
/-! ### the heap without what is tracked -/
def trk (h : Heap) (H : Hp) : List Addr := (List.range h.objs.size).filter fun a => (H a).isSome
def hidT (h : Heap) (H : Hp) : Heap := PySem.W.hideAll h (trk h H)
theorem hidT_size (h : Heap) (H : Hp) : (hidT h H).objs.size = h.objs.size := PySem.W.hideAll_size _ _
theorem hidT_get {h : Heap} {H : Hp} {b : Addr} {o : Obj} (e : h.get? b = some o) (n : H b = none) : (hidT h H).get? b = some o :=
  PySem.W.hideAll_get _ e fun hm => by
    have q : (H b).isSome = true := (List.mem_filter.mp hm).2
    rw [n] at q; simp at q
theorem of_hidT {h : Heap} {H : Hp} {b : Addr} {o : Obj} (e : (hidT h H).get? b = some o) : h.get? b = some o ∧ H b = none := by
  have e' : h.get? b = some o := PySem.W.of_hideAll (trk h H) e
  refine ⟨e', ?_⟩
  cases q : H b with
  | none => rfl
  | some x =>
    have hm : b ∈ trk h H := List.mem_filter.mpr ⟨List.mem_range.mpr (Heap.lt_size e'), by simp [q]⟩
    have z : (hidT h H).get? b = none := PySem.W.hideAll_none (trk h H) hm
    rw [z] at e; cases e
/-! ### OpenK's ledger, filled with every new object but one -/
end L2
namespace L2
open PySem PySem.Spec PyProof.Rows
structure Mod (K : PySem.W.Frag) (mg : Str → Option Value) (base : Heap) : Prop where
  kin : K.In base
  glob : base.Ns mainGlobals mg
  blt : ∃ mb, base.Ns builtinsNs mb ∧ ∀ x : Str, x ≠ "__name__" → mb x = bootBuiltins x
  nolimit : base.NoLimit
structure Cx where
  prog : Program
  w : World
  K : PySem.W.Frag
  mg : Str → Option Value
  base : Heap
  A : Around
  N : List Str
  s₀ : Shared
  H₀ : Hp
  env : Env
  outer : List Env
  stack : List Env
  ex : List Addr
  fn : Str → Bool
  calm : Bool
  pn : List (Addr × Obj)
  xe : Value → Shared → Prop
def frs (l : List Env) : List Addr := l.filterMap (·.frame)
abbrev Cx.fs (X : Cx) : List Addr := frs X.outer
def Vis (sc : Scope) (x : Str) : Prop := sc.names.lookup x = some .local ∨ sc.names.lookup x = some .cell ∨ sc.names.lookup x = some .free
def Loc (sc : Scope) (x : Str) : Prop := sc.names.lookup x = some .local ∨ sc.names.lookup x = some .cell
def Look (env : Env) (h : Heap) (m : Str → Option Value) (x : Str) (u : Value) : Prop :=
  (env.kindOf x = some .local ∧ m x = some u) ∨ ((env.kindOf x = some .cell ∨ env.kindOf x = some .free) ∧ ∃ c, env.cells.lookup x = some c ∧ h.IsCell c (some u))
structure Cx.Ok (X : Cx) : Prop where
  mod : Mod X.K X.mg X.base
  kind : X.env.scope.kind = .function
  glob : X.env.globals = mainGlobals
  blt : X.env.builtins = builtinsNs
  above : X.s₀.heap.objs.size ≤ X.env.locals
  inj : ∀ x y c, X.env.cells.lookup x = some c → X.env.cells.lookup y = some c → x = y
  has : ∀ x, (X.env.kindOf x = some .cell ∨ X.env.kindOf x = some .free) → ∃ c, X.env.cells.lookup x = some c
  cab : ∀ x c, X.fn x = true → X.env.cells.lookup x = some c → X.s₀.heap.objs.size ≤ c
  hd : X.calm = true → X.A.handled = none
  frames : X.A.frames = some X.stack
  stk : X.stack = X.outer ∨ (X.stack = X.env :: X.outer ∧ X.env.frame = some X.env.locals)
  exf : ∀ b ∈ X.ex, b ≠ X.env.locals ∧ ∀ x c, X.env.cells.lookup x = some c → c ≠ b
  bs : ∀ b o, X.base.get? b = some o → X.s₀.heap.get? b = some o ∧ X.H₀ b = none
  bsz : X.base.objs.size ≤ X.s₀.heap.objs.size
  noex : ∀ b o, X.base.get? b = some o → b ∉ X.ex
  exfs : ∀ b ∈ X.ex, b ∉ X.fs
  funs : X.s₀.heap.FunFrames X.base X.outer
  frf : ∀ b ∈ X.fs, X.H₀ b = none
structure Inv (X : Cx) (pins : List (Addr × Obj)) (σ : List (Option V)) (H : Hp) (s : Shared) : Prop where
  ok : X.Ok
  os : s.os = X.s₀.os
  bare : AllBare s.gens
  base : Un X.fs X.ex X.H₀ H X.s₀.heap s.heap
  loc : ∃ m, s.heap.Ns X.env.locals m ∧ ∀ (i : Nat) (x : Str) (v : V), X.N[i]? = some x → σ[i]? = some (some v) → Vis X.env.scope x → ∃ u, RelV v u ∧ Look X.env s.heap m x u
  cell : ∀ x c, X.env.cells.lookup x = some c → ∃ v, s.heap.IsCell c v
  free : H X.env.locals = none
  freeC : ∀ x c, X.env.cells.lookup x = some c → H c = none
  pin : ∀ p ∈ X.pn ++ pins, s.heap.get? p.1 = some p.2 ∧ H p.1 = none ∧ p.1 ≠ X.env.locals ∧ p.1 ∉ X.fs ∧ ∀ v, p.2.data ≠ .cell v
  hok : HOk X.prog X.w H s.heap
  len : σ.length = X.N.length
section
variable {X : Cx} {pins : List (Addr × Obj)} {σ : List (Option V)} {H H' : Hp} {s : Shared} {h' : Heap}
theorem Cx.Ok.nofr (ok : X.Ok) {b : Addr} {o : Obj} (e : X.base.get? b = some o) : b ∉ X.fs := fun hb => by
  have := (ok.funs.mem hb).1
  rw [e] at this; cases this
theorem Inv.bs (I : Inv X pins σ H s) : ∀ b o, X.base.get? b = some o → s.heap.get? b = some o ∧ H b = none := fun b o e =>
  ⟨I.base.keep b o (I.ok.bs b o e).1 (I.ok.bs b o e).2 (I.ok.nofr e) (I.ok.noex b o e), I.base.free b o (I.ok.bs b o e).1 (I.ok.bs b o e).2 (I.ok.noex b o e)⟩
theorem Inv.bk (I : Inv X pins σ H s) : ∀ b o, X.base.get? b = some o → s.heap.get? b = some o := fun b o e => (I.bs b o e).1
theorem Inv.mod (I : Inv X pins σ H s) : Mod X.K X.mg X.base := I.ok.mod
theorem Inv.kIn (I : Inv X pins σ H s) : X.K.In s.heap := I.ok.mod.kin.keeps I.bk
theorem Inv.nolimit (I : Inv X pins σ H s) : s.heap.NoLimit := I.ok.mod.nolimit.keeps I.bk
theorem Inv.lt (I : Inv X pins σ H s) : X.env.locals < s.heap.objs.size := let ⟨_, hn, _⟩ := I.loc; hn.lt
theorem Inv.sz (I : Inv X pins σ H s) : X.s₀.heap.objs.size ≤ s.heap.objs.size := Nat.le_trans I.ok.above (Nat.le_of_lt I.lt)
theorem Inv.nofs (I : Inv X pins σ H s) {a : Addr} (h : s.heap.objs.size ≤ a) : a ∉ X.fs := fun hb => by
  obtain ⟨_, o, ho, _⟩ := I.ok.funs.mem hb
  exact absurd (Nat.lt_of_lt_of_le (Heap.lt_size ho) (Nat.le_trans I.sz h)) (Nat.lt_irrefl _)
theorem Inv.cne (I : Inv X pins σ H s) : ∀ x c, X.env.cells.lookup x = some c → c ≠ X.env.locals := fun x c e z => by
  obtain ⟨v, o, ho, hd⟩ := I.cell x c e
  obtain ⟨m, ⟨o', es, ep, ho', hd', _⟩, _⟩ := I.loc
  rw [z, ho'] at ho; cases ho; rw [hd'] at hd; cases hd
theorem Inv.funs (I : Inv X pins σ H s) : s.heap.FunFrames X.base X.outer := by
  have all : ∀ (l : List Env), (∀ b ∈ frs l, b ∈ X.fs) → X.s₀.heap.FunFrames X.base l → s.heap.FunFrames X.base l := by
    intro l
    induction l with
    | nil => intro _ _; trivial
    | cons env r ih =>
      intro hs hl
      obtain ⟨hk, ⟨L, o, hf, hn, ho, hd⟩, hr⟩ := hl
      have hL : L ∈ X.fs := hs L (by unfold frs; rw [List.filterMap_cons, hf]; exact List.mem_cons_self)
      obtain ⟨sl, e⟩ := I.base.slot L o ho (I.ok.frf L hL) hL fun z => I.ok.exfs L z hL
      exact ⟨hk, ⟨L, _, hf, hn, e, hd⟩, ih (fun b hb => hs b (by unfold frs; rw [List.filterMap_cons, hf]; exact List.mem_cons_of_mem _ hb)) hr⟩
  exact all X.outer (fun _ hb => hb) I.ok.funs
theorem Inv.stack (I : Inv X pins σ H s) : s.heap.FunFrames X.base X.stack := by
  rcases I.ok.stk with e | ⟨e, hf⟩
  · rw [e]; exact I.funs
  · rw [e]
    obtain ⟨m, hn, _⟩ := I.loc
    refine .cons (by rw [I.ok.kind]; decide) hf hn ?_ I.funs
    exact Heap.get?_none_of_le (Nat.le_trans I.ok.bsz I.ok.above)
theorem Inv.stkSub (I : Inv X pins σ H s) : ∀ b ∈ frs X.stack, b ∈ X.env.locals :: X.fs := fun b hb => by
  rcases I.ok.stk with e | ⟨e, hf⟩
  · rw [e] at hb; exact List.mem_cons_of_mem _ hb
  · rw [e] at hb
    unfold frs at hb
    rw [List.filterMap_cons, hf] at hb
    exact hb
theorem Inv.stkFree (I : Inv X pins σ H s) : ∀ b ∈ frs X.stack, H b = none := fun b hb => by
  rcases List.mem_cons.mp (I.stkSub b hb) with e | hb
  · rw [e]; exact I.free
  · obtain ⟨_, o, ho, _⟩ := I.ok.funs.mem hb
    exact I.base.free b o ho (I.ok.frf b hb) fun z => I.ok.exfs b z hb
theorem Inv.step {g' : Array GenState} {t' : Nat} {d' : Drawn} {ch : List Addr} (I : Inv X pins σ H s)
    (hch : ∀ b ∈ ch, (b ∈ X.ex ∨ X.s₀.heap.objs.size ≤ b) ∧ b ≠ X.env.locals ∧ (∀ x c, X.env.cells.lookup x = some c → c ≠ b) ∧ ∀ p ∈ X.pn ++ pins, p.1 ≠ b)
    (keep : ∀ b o, b ≠ X.env.locals → b ∉ X.fs → b ∉ ch → s.heap.get? b = some o → H b = none → h'.get? b = some o)
    (slot : ∀ b o, b ≠ X.env.locals → b ∈ X.fs → b ∉ ch → s.heap.get? b = some o → H b = none → ∃ sl, h'.get? b = some { o with slots := sl }) (free : ∀ b o, b ∉ ch → s.heap.get? b = some o → H b = none → H' b = none)
    (there : ∀ b o, b ∉ ch → s.heap.get? b = some o → ∃ o', h'.get? b = some o')
    (tups : ∀ b xs, H b = some (.tup xs) → H' b = some (.tup xs)) (frzs : ∀ b o u, H b = some (.frz o u) → H' b = some (.frz o u)) (tbls : ∀ b ps, H b = some (.tbl ps) → ∃ more, H' b = some (.tbl (ps ++ more)))
    (ns : ∀ m, s.heap.Ns X.env.locals m → h'.Ns X.env.locals m) (hok : HOk X.prog X.w H' h') (hg : AllBare g') :
    Inv X pins σ H' { s with heap := h', gens := g', drawn := d', toks := t' } := by
  have neL : ∀ b o, X.s₀.heap.get? b = some o → b ≠ X.env.locals := fun b o e => Nat.ne_of_lt (Nat.lt_of_lt_of_le (Heap.lt_size e) I.ok.above)
  have neC : ∀ b o, X.s₀.heap.get? b = some o → b ∉ X.ex → b ∉ ch := fun b o e hx hb => by
    rcases (hch b hb).1 with z | z
    · exact hx z
    · exact absurd (Nat.lt_of_lt_of_le (Heap.lt_size e) z) (Nat.lt_irrefl _)
  have cellK : ∀ x c, X.env.cells.lookup x = some c → ∀ v, s.heap.IsCell c v → h'.IsCell c v := fun x c e v ⟨o, ho, hd⟩ => by
    have nch : c ∉ ch := fun z => (hch c z).2.2.1 x c e rfl
    by_cases hc : c ∈ X.fs
    · obtain ⟨sl, q⟩ := slot c o (I.cne x c e) hc nch ho (I.freeC x c e)
      exact ⟨_, q, hd⟩
    · exact ⟨o, keep c o (I.cne x c e) hc nch ho (I.freeC x c e), hd⟩
  refine ⟨I.ok, I.os, hg, ⟨fun b o e n hb hx => ?_, fun b o e n hb hx => ?_, fun b o e n hx => ?_, fun b o e hx => ?_, fun b xs e => tups b xs (I.base.tups b xs e), fun b o xs e => frzs b o xs (I.base.frzs b o xs e), fun b ps e => ?_⟩, ?_, fun x c e => ?_, ?_, fun x c e => ?_, fun p hp => ?_, hok, I.len⟩
  · exact keep b o (neL b o e) hb (neC b o e hx) (I.base.keep b o e n hb hx) (I.base.free b o e n hx)
  · obtain ⟨sl, e1⟩ := I.base.slot b o e n hb hx
    obtain ⟨sl', e2⟩ := slot b _ (neL b o e) hb (neC b o e hx) e1 (I.base.free b o e n hx)
    exact ⟨sl', e2⟩
  · obtain ⟨o', e1⟩ := I.base.there b o e hx
    exact free b o' (neC b o e hx) e1 (I.base.free b o e n hx)
  · obtain ⟨o', e1⟩ := I.base.there b o e hx
    exact there b o' (neC b o e hx) e1
  · obtain ⟨m1, e1⟩ := I.base.tbls b ps e
    obtain ⟨m2, e2⟩ := tbls b _ e1
    exact ⟨m1 ++ m2, by rw [e2, Array.append_assoc]⟩
  · obtain ⟨m, hn, hl⟩ := I.loc
    refine ⟨m, ns m hn, fun i x v e1 e2 e3 => ?_⟩
    obtain ⟨u, r, l⟩ := hl i x v e1 e2 e3
    refine ⟨u, r, ?_⟩
    rcases l with l | ⟨k, c, e, z⟩
    · exact .inl l
    · exact .inr ⟨k, c, e, cellK x c e _ z⟩
  · obtain ⟨v, z⟩ := I.cell x c e
    exact ⟨v, cellK x c e v z⟩
  · obtain ⟨m, ⟨o, _, _, ho, _⟩, _⟩ := I.loc
    exact free _ o (fun z => (hch _ z).2.1 rfl) ho I.free
  · obtain ⟨v, o, ho, hd⟩ := I.cell x c e
    exact free c o (fun z => (hch c z).2.2.1 x c e rfl) ho (I.freeC x c e)
  · obtain ⟨e, n, ne, nf, d⟩ := I.pin p hp
    have nch : p.1 ∉ ch := fun z => (hch p.1 z).2.2.2 p hp rfl
    exact ⟨keep p.1 p.2 ne nf nch e n, free p.1 p.2 nch e n, ne, nf, d⟩
theorem Inv.un {t' : Nat} (I : Inv X pins σ H s) (u : Un X.fs [] H H' s.heap h') (hok : HOk X.prog X.w H' h') : Inv X pins σ H' { s with heap := h', toks := t' } := by
  obtain ⟨m, ⟨o, es, ep, ho, r⟩, _⟩ := id I.loc
  obtain ⟨sl, hL⟩ := u.any ho I.free (by simp)
  exact I.step (g' := s.gens) (d' := s.drawn) (ch := []) (fun _ z => nomatch z) (fun b o _ hb _ e n => u.keep b o e n hb (by simp)) (fun b o _ hb _ e n => u.slot b o e n hb (by simp)) (fun b o _ e n => u.free b o e n (by simp)) (fun b o _ e => u.there b o e (by simp)) u.tups u.frzs u.tbls (fun m' hm => by
    obtain ⟨o', es', ep', ho', r'⟩ := hm
    rw [ho] at ho'; cases ho'
    exact ⟨_, es', ep', hL, r'⟩) hok I.bare
theorem Inv.call {g' : Array GenState} {t' : Nat} {d' : Drawn} {ch : List Addr} (I : Inv X pins σ H s) (u : Un (frs X.stack) ch H H' s.heap h') (hok : HOk X.prog X.w H' h') (hg : AllBare g')
    (hch : ∀ b ∈ ch, (b ∈ X.ex ∨ X.s₀.heap.objs.size ≤ b) ∧ b ≠ X.env.locals ∧ (∀ x c, X.env.cells.lookup x = some c → c ≠ b) ∧ ∀ p ∈ X.pn ++ pins, p.1 ≠ b) :
    Inv X pins σ H' { s with heap := h', gens := g', drawn := d', toks := t' } := by
  obtain ⟨m, ⟨o, es, ep, ho, r⟩, _⟩ := id I.loc
  obtain ⟨sl, hL⟩ := u.any ho I.free fun z => (hch _ z).2.1 rfl
  exact I.step (ch := ch) hch (fun b o hL hb hc e n => u.keep b o e n (fun z => (List.mem_cons.mp (I.stkSub b z)).elim hL hb) hc) (fun b o _ _ hc e n => u.any e n hc) (fun b o hc e n => u.free b o e n hc) (fun b o hc e => u.there b o e hc) u.tups u.frzs u.tbls (fun m' hm => by
    obtain ⟨o', es', ep', ho', r'⟩ := hm
    rw [ho] at ho'; cases ho'
    exact ⟨_, es', ep', hL, r'⟩) hok hg
theorem Inv.turned {t' : Nat} {it : Addr} (I : Inv X pins σ H s) (k : ∀ b o, b ≠ it → s.heap.get? b = some o → h'.get? b = some o) (hn : H it = none) (hL : it ≠ X.env.locals)
    (h1 : it ∈ X.ex ∨ X.s₀.heap.objs.size ≤ it) (h2 : ∀ x c, X.env.cells.lookup x = some c → c ≠ it) (h3 : ∀ p ∈ X.pn ++ pins, p.1 ≠ it) : Inv X pins σ H { s with heap := h', toks := t' } := by
  have nit : ∀ b u, H b = some u → b ≠ it := fun b u e z => by rw [z, hn] at e; cases e
  refine I.step (g' := s.gens) (d' := s.drawn) (ch := [it]) (fun b hb => ?_) (fun b o _ _ hc e _ => k b o (fun z => hc (by simp [z])) e) (fun b o _ _ hc e _ => ⟨o.slots, k b o (fun z => hc (by simp [z])) e⟩) (fun _ _ _ _ n => n)
    (fun b o hc e => ⟨o, k b o (fun z => hc (by simp [z])) e⟩) (fun _ _ e => e) (fun _ _ _ e => e) (fun b ps e => ⟨#[], by rw [e]; simp⟩) (fun m hm => ?_) (fun b u e => ?_) I.bare
  · have e : b = it := by simpa using hb
    subst e
    exact ⟨h1, hL, h2, h3⟩
  · obtain ⟨o, es, ep, ho, r⟩ := hm
    exact ⟨o, es, ep, k _ o (Ne.symm hL) ho, r⟩
  · refine (I.hok b u e).stay (fun c v hc q => k c v ?_ q) (fun _ q => q) fun _ _ q => q
    rcases hc with z | z
    · rw [z]; exact nit b u e
    · exact nit c _ z
theorem Inv.tok (I : Inv X pins σ H s) (t : Nat) : Inv X pins σ H { s with toks := t } := I.un (h' := s.heap) (t' := t) Un.refl I.hok
theorem Inv.kept {t' : Nat} (I : Inv X pins σ H s) (k : ∀ b u, s.heap.get? b = some u → h'.get? b = some u) : Inv X pins σ H { s with heap := h', toks := t' } := I.un (Un.kept k) (I.hok.kept k)
theorem Inv.laid {a : Addr} {o : HO} {t' : Nat} (I : Inv X pins σ H s) (k : ∀ b u, s.heap.get? b = some u → h'.get? b = some u) (hp : s.heap.objs.size ≤ a) (new : ObjOk X.prog X.w (upd H a o) h' a o) :
    Inv X pins σ (upd H a o) { s with heap := h', toks := t' } := I.un (Un.laid k hp (I.hok.fresh hp)) (I.hok.laid k hp new)
theorem Inv.write {x e : Addr} {o : HO} {t' : Nat} (I : Inv X pins σ H s) (mu : Mut (H x)) (he : e = x ∨ H e = some (.own x)) (k : ∀ b u, b ≠ e → s.heap.get? b = some u → h'.get? b = some u) (heo : ∃ u, h'.get? e = some u)
    (new : ObjOk X.prog X.w (upd H x o) h' x o) : Inv X pins σ (upd H x o) { s with heap := h', toks := t' } := I.un (Un.write mu he k heo) (I.hok.write mu he k heo new)
theorem Inv.pins_of {pins' : List (Addr × Obj)} (I : Inv X pins σ H s) (h : ∀ p ∈ pins', s.heap.get? p.1 = some p.2 ∧ H p.1 = none ∧ p.1 ≠ X.env.locals ∧ p.1 ∉ X.fs ∧ ∀ v, p.2.data ≠ .cell v) : Inv X pins' σ H s :=
  ⟨I.ok, I.os, I.bare, I.base, I.loc, I.cell, I.free, I.freeC, fun p hp => (List.mem_append.mp hp).elim (fun z => I.pin p (List.mem_append_left _ z)) (h p), I.hok, I.len⟩
theorem nodup_ix {N : List Str} (hN : N.Nodup) {i j : Nat} {x : Str} (a : N[i]? = some x) (b : N[j]? = some x) : i = j := by
  obtain ⟨h1, e1⟩ := List.getElem?_eq_some_iff.mp a
  obtain ⟨h2, e2⟩ := List.getElem?_eq_some_iff.mp b
  exact (List.getElem_inj hN).mp (e1.trans e2.symm)
theorem store_ok2 {M : Model} {A : Around} {E : Value → Shared → Prop} {i : Nat} {x : Str} {v : V} {u : Value} {Q : Unit → Shared → Prop} (I : Inv X pins σ H s) (hN : X.N.Nodup) (hi : X.N[i]? = some x) (hx : Loc X.env.scope x) (r : RelV v u)
    (h : ∀ s', Inv X pins (σ.set i (some v)) H s' → (∃ a, Heap.SameBut a s.heap s'.heap ∧ (a = X.env.locals ∨ X.env.cells.lookup x = some a)) → Q () s') (hf : X.fn x = true ∨ X.env.scope.names.lookup x = some .local := by first | exact .inl rfl | exact .inr rfl | assumption) : wpAny M A (storeName X.env x u) Q E s := by
  obtain ⟨m, hn, hl⟩ := id I.loc
  have hcls : (X.env.scope.kind == .class || (X.env.scope.kind == .module && X.env.locals != X.env.globals)) = false := by rw [I.ok.kind]; rfl
  have hiσ : i < σ.length := by rw [I.len]; exact (List.getElem?_eq_some_iff.mp hi).1
  have cne := I.cne
  have tracked : ∀ {a : Addr} {h' : Heap}, (∃ o, s.heap.get? a = some o ∧ H a = none) → Heap.SameBut a s.heap h' → HOk X.prog X.w H h' := fun {a h'} ha hs b ob e => by
    obtain ⟨_, _, hfree⟩ := ha
    refine (I.hok b ob e).stay (fun c w' hc q => (hs.2 c ?_).trans q) (fun _ q => q) fun _ _ q => q
    rintro rfl
    rcases hc with rfl | hc
    · rw [hfree] at e; cases e
    · rw [hfree] at hc; cases hc
  rcases hx with hk | hk
  · refine wpAny_storeName_local hk hn (fun h' hn' hs => ?_) hcls
    obtain ⟨oL, _, _, hoL, _⟩ := id hn
    refine h _ ⟨I.ok, I.os, I.bare, ⟨fun b o e n hb hx => ?_, fun b o e n hb hx => ?_, I.base.free, fun b o e hx => ?_, I.base.tups, I.base.frzs, I.base.tbls⟩, ⟨_, hn', fun j y v' e1 e2 e3 => ?_⟩, fun y c e => ?_, I.free, I.freeC, fun p hp => ?_, tracked ⟨oL, hoL, I.free⟩ hs, by simpa using I.len⟩ ⟨_, hs, .inl rfl⟩
    · exact (hs.2 b (Nat.ne_of_lt (Nat.lt_of_lt_of_le (Heap.lt_size e) I.ok.above))).trans (I.base.keep b o e n hb hx)
    · obtain ⟨sl, e1⟩ := I.base.slot b o e n hb hx
      exact ⟨sl, (hs.2 b (Nat.ne_of_lt (Nat.lt_of_lt_of_le (Heap.lt_size e) I.ok.above))).trans e1⟩
    · obtain ⟨o', e1⟩ := I.base.there b o e hx
      exact ⟨o', (hs.2 b (Nat.ne_of_lt (Nat.lt_of_lt_of_le (Heap.lt_size e) I.ok.above))).trans e1⟩
    · by_cases hj : j = i
      · subst hj
        rw [hi] at e1; cases e1
        rw [List.getElem?_set_self hiσ] at e2
        cases e2
        exact ⟨u, r, .inl ⟨hk, by simp⟩⟩
      · rw [List.getElem?_set_ne (Ne.symm hj)] at e2
        obtain ⟨u', r', q⟩ := hl j y v' e1 e2 e3
        refine ⟨u', r', ?_⟩
        rcases q with ⟨k, e⟩ | ⟨k, c, e, z⟩
        · refine .inl ⟨k, ?_⟩
          have : y ≠ x := fun e => hj (nodup_ix hN e1 (e ▸ hi))
          simp [this, e]
        · exact .inr ⟨k, c, e, z.sameBut hs (cne y c e)⟩
    · obtain ⟨w', z⟩ := I.cell y c e
      exact ⟨w', z.sameBut hs (cne y c e)⟩
    · obtain ⟨e, n, ne, nf, d⟩ := I.pin p hp
      exact ⟨(hs.2 p.1 ne).trans e, n, ne, nf, d⟩
  · have hfn : X.fn x = true := by
      rcases hf with z | z
      · exact z
      · rw [z] at hk; cases hk
    obtain ⟨c, hc⟩ := I.ok.has x (.inl hk)
    obtain ⟨w', z⟩ := I.cell x c hc
    refine wpAny_storeName_cell I.ok.kind hk hc z (fun h' hc' hs => ?_)
    obtain ⟨oc, hoc, hocd⟩ := id z
    refine h { s with heap := h' } ⟨I.ok, I.os, I.bare, ⟨fun b o e n hb hx => ?_, fun b o e n hb hx => ?_, I.base.free, fun b o e hx => ?_, I.base.tups, I.base.frzs, I.base.tbls⟩, ⟨m, hn.sameBut hs (Ne.symm (cne x c hc)), fun j y v' e1 e2 e3 => ?_⟩, fun y c' e => ?_, I.free, I.freeC, fun p hp => ?_, tracked ⟨oc, hoc, I.freeC x c hc⟩ hs, by simpa using I.len⟩ ⟨c, hs, .inr hc⟩
    · exact (hs.2 b (Nat.ne_of_lt (Nat.lt_of_lt_of_le (Heap.lt_size e) (I.ok.cab x c hfn hc)))).trans (I.base.keep b o e n hb hx)
    · obtain ⟨sl, e1⟩ := I.base.slot b o e n hb hx
      exact ⟨sl, (hs.2 b (Nat.ne_of_lt (Nat.lt_of_lt_of_le (Heap.lt_size e) (I.ok.cab x c hfn hc)))).trans e1⟩
    · obtain ⟨o', e1⟩ := I.base.there b o e hx
      exact ⟨o', (hs.2 b (Nat.ne_of_lt (Nat.lt_of_lt_of_le (Heap.lt_size e) (I.ok.cab x c hfn hc)))).trans e1⟩
    · by_cases hj : j = i
      · subst hj
        rw [hi] at e1; cases e1
        rw [List.getElem?_set_self hiσ] at e2
        cases e2
        exact ⟨u, r, .inr ⟨.inl hk, c, hc, hc'⟩⟩
      · rw [List.getElem?_set_ne (Ne.symm hj)] at e2
        obtain ⟨u', r', q⟩ := hl j y v' e1 e2 e3
        refine ⟨u', r', ?_⟩
        rcases q with q | ⟨k, c', e, z'⟩
        · exact .inl q
        · refine .inr ⟨k, c', e, z'.sameBut hs ?_⟩
          rintro rfl
          exact hj (nodup_ix hN e1 (I.ok.inj _ _ _ e hc ▸ hi))
    · by_cases hcc : c' = c
      · subst hcc; exact ⟨_, hc'⟩
      · obtain ⟨w2, z2⟩ := I.cell y c' e
        exact ⟨w2, z2.sameBut hs hcc⟩
    · obtain ⟨e, n, ne, nf, d⟩ := I.pin p hp
      refine ⟨(hs.2 p.1 ?_).trans e, n, ne, nf, d⟩
      intro q
      rw [q, hoc] at e
      have q' : oc = p.2 := Option.some.inj e
      exact d w' (by rw [← q']; exact hocd)
theorem store_ok {M : Model} {A : Around} {E : Value → Shared → Prop} {i : Nat} {x : Str} {v : V} {u : Value} {Q : Unit → Shared → Prop} (I : Inv X pins σ H s) (hN : X.N.Nodup) (hi : X.N[i]? = some x) (hx : Loc X.env.scope x) (r : RelV v u)
    (h : ∀ s', Inv X pins (σ.set i (some v)) H s' → Q () s') (hf : X.fn x = true ∨ X.env.scope.names.lookup x = some .local := by first | exact .inl rfl | exact .inr rfl | assumption) : wpAny M A (storeName X.env x u) Q E s :=
  store_ok2 I hN hi hx r (fun s' I' _ => h s' I') hf
theorem Inv.call' {s' : Shared} {ch : List Addr} (I : Inv X pins σ H s) (ho : s'.os = s.os) (u : Un (frs X.stack) ch H H' s.heap s'.heap) (hok : HOk X.prog X.w H' s'.heap) (hg : AllBare s'.gens)
    (hch : ∀ b ∈ ch, (b ∈ X.ex ∨ X.s₀.heap.objs.size ≤ b) ∧ b ≠ X.env.locals ∧ (∀ x c, X.env.cells.lookup x = some c → c ≠ b) ∧ ∀ p ∈ X.pn ++ pins, p.1 ≠ b) : Inv X pins σ H' s' := by
  obtain ⟨h', g', d', t', o'⟩ := s'
  have e : o' = s.os := ho
  subst e
  exact I.call (g' := g') (t' := t') (d' := d') u hok hg hch
end
/-! ### the judgements -/
abbrev XK := Value → Option Addr → Hp → Prop
abbrev St := List (Option V)
abbrev VK := V → Hp → Prop
abbrev TE := St → Hp → VK → Prop
abbrev TT := St → Hp → (Bool → Hp → Prop) → Prop
abbrev TA := St → Hp → (List V → Hp → Prop) → Prop
structure Ends where
  nx : St → Hp → Prop
  rt : VK
  bk : St → Hp → Prop := fun _ _ => False
  ct : St → Hp → Prop := fun _ _ => False
abbrev TS := Ends → St → Hp → Prop
def EP (X : Cx) (pins : List (Addr × Obj)) (σ : St) (Q : VK) (u : Value) (s' : Shared) : Prop := ∃ v H', Inv X pins σ H' s' ∧ RelV v u ∧ Q v H'
def TP (X : Cx) (pins : List (Addr × Obj)) (σ : St) (Q : Bool → Hp → Prop) (b : Bool) (s' : Shared) : Prop := ∃ H', Inv X pins σ H' s' ∧ Q b H'
def AP (X : Cx) (pins : List (Addr × Obj)) (σ : St) (Q : List V → Hp → Prop) (us : List Value) (s' : Shared) : Prop := ∃ vs H', Inv X pins σ H' s' ∧ Vals vs us ∧ Q vs H'
def SP (X : Cx) (pins : List (Addr × Obj)) (D : Ends) (f : Flow) (s' : Shared) : Prop :=
  match f with
  | .next => ∃ σ' H', Inv X pins σ' H' s' ∧ D.nx σ' H'
  | .brk => ∃ σ' H', Inv X pins σ' H' s' ∧ D.bk σ' H'
  | .cont => ∃ σ' H', Inv X pins σ' H' s' ∧ D.ct σ' H'
  | .ret u => ∃ v σ' H', Inv X pins σ' H' s' ∧ RelV v u ∧ D.rt v H'
def PE (X : Cx) (e : Expr) (t : TE) : Prop :=
  ∀ (pins : List (Addr × Obj)) (s : Shared) (σ : St) (H : Hp) (Q : VK), Inv X pins σ H s → t σ H Q → wpAny (model X.prog X.w) X.A (eval e X.env) (EP X pins σ Q) X.xe s
def PT (X : Cx) (e : Expr) (t : TT) : Prop :=
  ∀ (pins : List (Addr × Obj)) (s : Shared) (σ : St) (H : Hp) (Q : Bool → Hp → Prop), Inv X pins σ H s → t σ H Q → wpAny (model X.prog X.w) X.A (isTrue e X.env (eval e X.env)) (TP X pins σ Q) X.xe s
def PW (X : Cx) (e : Expr) (t : TT) : Prop :=
  ∀ (whole : Sem Value) (pins : List (Addr × Obj)) (s : Shared) (σ : St) (H : Hp) (Q : Bool → Hp → Prop), Inv X pins σ H s → t σ H Q → wpAny (model X.prog X.w) X.A (isTrue e X.env whole) (TP X pins σ Q) X.xe s
theorem PW.pt {X : Cx} {e : Expr} {t : TT} (h : PW X e t) : PT X e t := h _
def PA (X : Cx) (es : List Expr) (t : TA) : Prop :=
  ∀ (pos : Pos) (pins : List (Addr × Obj)) (s : Shared) (σ : St) (H : Hp) (Q : List V → Hp → Prop), Inv X pins σ H s → t σ H Q → wpAny (model X.prog X.w) X.A (spliced (backTo pos (starEach es X.env))) (AP X pins σ Q) X.xe s
def PS (X : Cx) (st : Stmt) (t : TS) : Prop :=
  ∀ (pins : List (Addr × Obj)) (s : Shared) (σ : St) (H : Hp) (D : Ends), Inv X pins σ H s → t D σ H → wpAny (model X.prog X.w) X.A (exec st X.env) (SP X pins D) X.xe s
def PSs (X : Cx) (st : List Stmt) (t : TS) : Prop :=
  ∀ (pins : List (Addr × Obj)) (s : Shared) (σ : St) (H : Hp) (D : Ends), Inv X pins σ H s → t D σ H → wpAny (model X.prog X.w) X.A (execs st X.env) (SP X pins D) X.xe s
theorem thn {α : Type} {t : Sem α} {Q Q' : α → Shared → Prop} {M : Model} {A : Around} {E : Value → Shared → Prop} {s : Shared} (h : wpAny M A t Q E s) (hQ : ∀ a s, Q a s → Q' a s) : wpAny M A t Q' E s := wpAny_mono h hQ fun _ _ x => x
end L2
namespace L2
open PySem PySem.Spec PyProof.Rows
section
variable {X : Cx}
/-! ### names and constants -/
def tVar (i : Nat) : TE := fun σ H Q => ∃ v, σ[i]? = some (some v) ∧ Q v H
def tC (v : V) : TE := fun _ H Q => Q v H
theorem pe_var {i : Nat} {x : Str} {pos : Pos} (hN : X.N[i]? = some x) (hv : Vis X.env.scope x) (hd : (x == ("__debug__" : Str)) = false := by decide) (hcd : (x == ("__classdict__" : Str)) = false := by decide) : PE X (.Name x pos) (tVar i) := by
  intro pins s σ H Q I h
  obtain ⟨v, e, h⟩ := h
  obtain ⟨m, hn, hl⟩ := I.loc
  obtain ⟨u, r, l⟩ := hl i x v hN e hv
  have fin : EP X pins σ Q u s := ⟨v, H, I, r, h⟩
  rcases l with ⟨hk, hm⟩ | ⟨hk, c, hc, hcell⟩
  · exact wpAny_Name (wpAny_loadName_local I.ok.kind hk hn hm fin) hd
  · rcases hk with hk | hk
    · exact wpAny_Name (wpAny_loadName_cell I.ok.kind hk hc hcell fin) hd
    · exact wpAny_Name (wpAny_loadName_free I.ok.kind hk hc hcell fin hcd) hd
theorem pe_int {i j pos} : PE X (.Constant (.int i) j pos) (tC (.int i)) := fun _ _ _ H _ I h => wpAny_Constant_int ⟨.int i, H, I.tok _, ⟨_, rfl⟩, h⟩
theorem pe_bl {b j pos} : PE X (.Constant (.bool b) j pos) (tC (.bl b)) := fun _ _ _ H _ I h => Constant_bool ⟨.bl b, H, I, rfl, h⟩
theorem pe_non {j pos} : PE X (.Constant .none j pos) (tC .non) := fun _ _ _ H _ I h => Constant_none ⟨.non, H, I, rfl, h⟩
theorem pe_str {x j pos} : PE X (.Constant (.str x) j pos) (tC (.str x)) := fun _ _ _ H _ I h => Calls.Constant_str ⟨.str x, H, I.tok _, ⟨_, rfl⟩, h⟩
def Gl (X : Cx) (x : Str) : Prop := X.env.kindOf x = some .globalImplicit
theorem ld_glob {E : Value → Shared → Prop} {pins : List (Addr × Obj)} {s : Shared} {σ : St} {H : Hp} {x : Str} {u : Value} {pos : Pos} {Q : Value → Shared → Prop} (I : Inv X pins σ H s) (hg : Gl X x) (hm : X.mg x = some u) (h : Q u s)
    (hd : (x == ("__debug__" : Str)) = false := by decide) : wpAny (model X.prog X.w) X.A (eval (.Name x pos) X.env) Q E s :=
  Calls.Name_function_global I.ok.kind hg (Calls.loadGlobal_global (by rw [I.ok.glob]; exact I.mod.glob.keeps I.bk) hm h) hd
theorem ld_blt {E : Value → Shared → Prop} {pins : List (Addr × Obj)} {s : Shared} {σ : St} {H : Hp} {x : Str} {u : Value} {pos : Pos} {Q : Value → Shared → Prop} (I : Inv X pins σ H s) (hg : Gl X x) (hm : X.mg x = none) (hv : bootBuiltins x = some u) (h : Q u s)
    (hn : x ≠ "__name__" := by decide) (hd : (x == ("__debug__" : Str)) = false := by decide) : wpAny (model X.prog X.w) X.A (eval (.Name x pos) X.env) Q E s := by
  obtain ⟨mb, h1, h2⟩ := I.mod.blt
  exact Calls.Name_function_global I.ok.kind hg (Calls.loadGlobal_builtin (by rw [I.ok.glob]; exact I.mod.glob.keeps I.bk) hm (by rw [I.ok.blt]; exact h1.keeps I.bk) ((h2 x hn).trans hv) h) hd
theorem pe_glob {x : Str} {v : V} {u : Value} {pos : Pos} (hg : Gl X x) (hm : X.mg x = some u) (r : RelV v u) (hd : (x == ("__debug__" : Str)) = false := by decide) : PE X (.Name x pos) (tC v) :=
  fun _ _ _ H _ I h => ld_glob I hg hm ⟨v, H, I, r, h⟩ hd
theorem pe_bltn {x : Str} {v : V} {u : Value} {pos : Pos} (hg : Gl X x) (hm : X.mg x = none) (hv : bootBuiltins x = some u) (r : RelV v u) (hn : x ≠ "__name__" := by decide) (hd : (x == ("__debug__" : Str)) = false := by decide) : PE X (.Name x pos) (tC v) :=
  fun _ _ _ H _ I h => ld_blt I hg hm hv ⟨v, H, I, r, h⟩ hn hd
/-! ### arithmetic -/
variable {a b : Expr} {ta tb : TE} {pos : Pos}
/-! ### comparisons -/
def tB (t : TE) : TT := fun σ H Q => t σ H fun x H1 => ∃ c, x = .bl c ∧ Q c H1
theorem pt_val {e : Expr} {t : TE} (h : PE X e t) (he : ∀ whole, isTrue e X.env whole = (do let v ← whole; standAt e.pos; holding [v] (truthy v)) := by intro _; rfl) : PT X e (tB t) := by
  intro pins s σ H Q I hw
  refine isTrue_plain (thn (h pins s σ H _ I hw) fun v s1 ⟨x, H1, I1, r1, q1⟩ => ?_) (he _)
  obtain ⟨d, rfl, q⟩ := q1
  cases r1
  exact wpAny_truthy_bool ⟨H1, I1, q⟩
/-! ### and, or, not -/
variable {tA tB' : TT} {rest : List Expr}
def tAnd (t u : TT) : TT := fun σ H Q => t σ H fun c H1 => if c = true then u σ H1 Q else Q false H1
def tOr (t u : TT) : TT := fun σ H Q => t σ H fun c H1 => if c = true then Q true H1 else u σ H1 Q
def tNot (t : TT) : TT := fun σ H Q => t σ H fun c H1 => Q (!c) H1
theorem pw_and1 (ha : PT X a tA) : PW X (.BoolOp .And [a] pos) tA := by
  intro wh pins s σ H Q I h
  refine isTrue_and (thn (ha pins s σ H Q I h) fun c s1 e => ?_)
  cases c with
  | true => exact isTrue_and_nil e
  | false => exact e
theorem pw_or1 (ha : PT X a tA) : PW X (.BoolOp .Or [a] pos) tA := by
  intro wh pins s σ H Q I h
  refine isTrue_or (thn (ha pins s σ H Q I h) fun c s1 e => ?_)
  cases c with
  | false => exact isTrue_or_nil e
  | true => exact e
theorem pw_and (ha : PT X a tA) (hb : PW X (.BoolOp .And (b :: rest) pos) tB') : PW X (.BoolOp .And (a :: b :: rest) pos) (tAnd tA tB') := by
  intro wh pins s σ H Q I h
  refine isTrue_and (thn (ha pins s σ H _ I h) fun c s1 ⟨H1, I1, q1⟩ => ?_)
  cases c with
  | true => exact hb wh pins s1 σ H1 Q I1 q1
  | false => exact ⟨H1, I1, q1⟩
theorem pw_or (ha : PT X a tA) (hb : PW X (.BoolOp .Or (b :: rest) pos) tB') : PW X (.BoolOp .Or (a :: b :: rest) pos) (tOr tA tB') := by
  intro wh pins s σ H Q I h
  refine isTrue_or (thn (ha pins s σ H _ I h) fun c s1 ⟨H1, I1, q1⟩ => ?_)
  cases c with
  | true => exact ⟨H1, I1, q1⟩
  | false => exact hb wh pins s1 σ H1 Q I1 q1
theorem pt_not (ha : PT X a tA) : PT X (.UnaryOp .Not a pos) (tNot tA) := by
  intro pins s σ H Q I h
  exact isTrue_not (ha pins s σ H (fun c H1 => Q (!c) H1) I h)
def tAndV (ta tb : TE) : TE := fun σ H Q => ta σ H fun x H1 => ∃ c, x = .bl c ∧ if c = true then tb σ H1 Q else Q (.bl false) H1
def tOrV (ta tb : TE) : TE := fun σ H Q => ta σ H fun x H1 => ∃ c, x = .bl c ∧ if c = true then Q (.bl true) H1 else tb σ H1 Q
def tNotV (ta : TE) : TE := fun σ H Q => ta σ H fun x H1 => ∃ c, x = .bl c ∧ Q (.bl (!c)) H1
theorem pe_one {op} {t : TE} (h : PE X a t) : PE X (.BoolOp op [a] pos) t := fun pins s σ H Q I hw => BoolOp_one (h pins s σ H Q I hw)
theorem pe_and (ha : PE X a ta) (hb : PE X (.BoolOp .And (b :: rest) pos) tb) : PE X (.BoolOp .And (a :: b :: rest) pos) (tAndV ta tb) := by
  intro pins s σ H Q I h
  refine BoolOp_and (thn (ha pins s σ H _ I h) fun v s1 ⟨x, H1, I1, r1, q1⟩ => ?_)
  obtain ⟨c, rfl, q1⟩ := q1
  cases r1
  refine wpAny_truthy_bool ?_
  cases c with
  | true => exact hb pins s1 σ H1 Q I1 q1
  | false => exact ⟨.bl false, H1, I1, rfl, q1⟩
theorem pe_or (ha : PE X a ta) (hb : PE X (.BoolOp .Or (b :: rest) pos) tb) : PE X (.BoolOp .Or (a :: b :: rest) pos) (tOrV ta tb) := by
  intro pins s σ H Q I h
  refine BoolOp_or (thn (ha pins s σ H _ I h) fun v s1 ⟨x, H1, I1, r1, q1⟩ => ?_)
  obtain ⟨c, rfl, q1⟩ := q1
  cases r1
  refine wpAny_truthy_bool ?_
  cases c with
  | false => exact hb pins s1 σ H1 Q I1 q1
  | true => exact ⟨.bl true, H1, I1, rfl, q1⟩
theorem pe_not (ha : PE X a ta) : PE X (.UnaryOp .Not a pos) (tNotV ta) := by
  intro pins s σ H Q I h
  refine UnaryOp_ (thn (ha pins s σ H _ I h) fun v s1 ⟨x, H1, I1, r1, q1⟩ => ?_)
  obtain ⟨c, rfl, q1⟩ := q1
  cases r1
  exact not_of (wpAny_truthy_bool ⟨.bl (!c), H1, I1, rfl, q1⟩)
end
end L2
namespace L2
open PySem PySem.Spec PyProof.Rows
/-! ### a list, a tuple that is read: tracked, frozen, or an object of the module -/
def SqL (K : PySem.W.Frag) (H : Hp) (a : Addr) (xs : List V) : Prop :=
  Rd H a (.lst xs) ∨
    ∃ (o : Obj) (its : Array Value) (n : Nat), K.lookup a = some o ∧ o.cls = .type "list" ∧ o.dict = none ∧ o.data = .seq its n ∧ its.size ≤ sizeLine ∧ Vals xs its.toList
def SqT (K : PySem.W.Frag) (H : Hp) (a : Addr) (xs : List V) : Prop :=
  Rd H a (.tup xs) ∨
    ∃ (o : Obj) (its : Array Value) (n : Nat), K.lookup a = some o ∧ o.cls = .type "tuple" ∧ o.data = .seq its n ∧ its.size ≤ sizeLine ∧ Vals xs its.toList
def absV : Value → Option V
  | .none => some .non
  | .bool b => some (.bl b)
  | .int i _ => some (.int i)
  | .str x _ => some (.str x)
  | .bytes b _ => some (.byt b)
  | .float b _ => some (.flt b)
  | .ref a => some (.ref a)
  | .type n => some (.ty n)
  | _ => none
theorem RelV.abs {x : V} {u : Value} (r : RelV x u) : absV u = some x := by
  cases x with
  | non => cases r; rfl
  | bl _ => cases r; rfl
  | int _ => obtain ⟨t, rfl⟩ := r; rfl
  | str _ => obtain ⟨t, rfl⟩ := r; rfl
  | byt _ => obtain ⟨t, rfl⟩ := r; rfl
  | flt _ => obtain ⟨t, rfl⟩ := r; rfl
  | ref _ => cases r; rfl
  | ty _ => cases r; rfl
theorem RelV.inj {x y : V} {u : Value} (r : RelV x u) (q : RelV y u) : x = y := Option.some.inj (r.abs.symm.trans q.abs)
theorem Vals.inj : ∀ {xs ys : List V} {us : List Value}, Vals xs us → Vals ys us → xs = ys
  | _, _, _, .nil, .nil => rfl
  | _, _, _, .cons r t, .cons r' t' => by rw [r.inj r', Vals.inj t t']
section
variable {X : Cx} {pins : List (Addr × Obj)} {σ : St} {H : Hp} {s : Shared} {a : Addr} {xs ys : List V}
theorem SqL.of {K : PySem.W.Frag} (h : H a = some (.lst xs)) : SqL K H a xs := .inl (.inl h)
theorem SqT.of {K : PySem.W.Frag} (h : H a = some (.tup xs)) : SqT K H a xs := .inl (.inl h)
theorem Inv.list (I : Inv X pins σ H s) (h : SqL X.K H a xs) : ∃ its : List Value, Vals xs its ∧ PlainL s.heap a its.toArray ∧ xs.length ≤ sizeLine := by
  rcases h with h | ⟨o, its, n, hk, hc, hd, hs, hz, r⟩
  · obtain ⟨z, its, n, r, e⟩ := h.ok I.hok
    exact ⟨its, r, ⟨_, n, e, rfl, rfl, rfl⟩, z⟩
  · refine ⟨its.toList, r, ⟨o, n, I.kIn a o hk, hc, hd, by simpa using hs⟩, ?_⟩
    have e := r.length
    simp only [Array.length_toList] at e
    omega
theorem Inv.tuple (I : Inv X pins σ H s) (h : SqT X.K H a xs) : ∃ its : List Value, Vals xs its ∧ IsTup s.heap a its.toArray ∧ xs.length ≤ sizeLine := by
  rcases h with h | ⟨o, its, n, hk, hc, hs, hz, r⟩
  · obtain ⟨z, its, r, p⟩ := h.ok I.hok
    exact ⟨its, r, p, z⟩
  · refine ⟨its.toList, r, ⟨o, I.kIn a o hk, hc, n, by simpa using hs⟩, ?_⟩
    have e := r.length
    simp only [Array.length_toList] at e
    omega
theorem Inv.list_inj (I : Inv X pins σ H s) (h : SqL X.K H a xs) (h' : SqL X.K H a ys) : xs = ys := by
  obtain ⟨its, r, ⟨o, n, e, _, _, d⟩, _⟩ := I.list h
  obtain ⟨its', r', ⟨o', n', e', _, _, d'⟩, _⟩ := I.list h'
  rw [e] at e'; cases e'
  rw [d] at d'
  injection d' with d1 _
  have : its = its' := by simpa using congrArg Array.toList d1
  subst this
  exact r.inj r'
theorem Inv.tuple_inj (I : Inv X pins σ H s) (h : SqT X.K H a xs) (h' : SqT X.K H a ys) : xs = ys := by
  obtain ⟨its, r, ⟨o, e, _, n, d⟩, _⟩ := I.tuple h
  obtain ⟨its', r', ⟨o', e', _, n', d'⟩, _⟩ := I.tuple h'
  rw [e] at e'; cases e'
  rw [d] at d'
  injection d' with d1 _
  have : its = its' := by simpa using congrArg Array.toList d1
  subst this
  exact r.inj r'
end
/-! ### another wish about exceptions -/
abbrev Cx.wish (X : Cx) (E : Value → Shared → Prop) : Cx := { X with xe := E }
abbrev Cx.nox (X : Cx) : Cx := X.wish fun _ _ => False
theorem Cx.Ok.wish {X : Cx} (ok : X.Ok) (E : Value → Shared → Prop) : (X.wish E).Ok :=
  ⟨ok.mod, ok.kind, ok.glob, ok.blt, ok.above, ok.inj, ok.has, ok.cab, ok.hd, ok.frames, ok.stk, ok.exf, ok.bs, ok.bsz, ok.noex, ok.exfs, ok.funs, ok.frf⟩
theorem Cx.Ok.unwish {X : Cx} {E : Value → Shared → Prop} (ok : (X.wish E).Ok) : X.Ok :=
  ⟨ok.mod, ok.kind, ok.glob, ok.blt, ok.above, ok.inj, ok.has, ok.cab, ok.hd, ok.frames, ok.stk, ok.exf, ok.bs, ok.bsz, ok.noex, ok.exfs, ok.funs, ok.frf⟩
section
variable {X : Cx} {pins : List (Addr × Obj)} {σ : St} {H : Hp} {s : Shared} {E : Value → Shared → Prop}
theorem Inv.wish (I : Inv X pins σ H s) (E : Value → Shared → Prop) : Inv (X.wish E) pins σ H s := ⟨I.ok.wish E, I.os, I.bare, I.base, I.loc, I.cell, I.free, I.freeC, I.pin, I.hok, I.len⟩
theorem Inv.unwish (I : Inv (X.wish E) pins σ H s) : Inv X pins σ H s := ⟨I.ok.unwish, I.os, I.bare, I.base, I.loc, I.cell, I.free, I.freeC, I.pin, I.hok, I.len⟩
theorem SP.unwish {D : Ends} {f : Flow} {s' : Shared} (h : SP (X.wish E) pins D f s') : SP X pins D f s' := by
  cases f with
  | next => obtain ⟨σ', H', I, q⟩ := h; exact ⟨σ', H', I.unwish, q⟩
  | brk => obtain ⟨σ', H', I, q⟩ := h; exact ⟨σ', H', I.unwish, q⟩
  | cont => obtain ⟨σ', H', I, q⟩ := h; exact ⟨σ', H', I.unwish, q⟩
  | ret u => obtain ⟨v, σ', H', I, r, q⟩ := h; exact ⟨v, σ', H', I.unwish, r, q⟩
theorem PSs.nox {st : List Stmt} {t : TS} (h : PSs X.nox st t) : PSs X st t := fun pins s σ H D I hw =>
  wpAny_mono (h pins s σ H D (I.wish _) hw) (fun _ _ q => q.unwish) fun _ _ z => False.elim z
end
/-! ### blocks and small statements -/
section
variable {X : Cx} {st : Stmt} {rest : List Stmt} {t u : TS} {e : Expr} {te : TE} {pos : Pos}
def tNext : TS := fun D σ H => D.nx σ H
def tSeq (t u : TS) : TS := fun D σ H => t { D with nx := u D } σ H
theorem pss_nil : PSs X [] tNext := fun _ _ σ H _ I h => wpAny_execs_nil ⟨σ, H, I, h⟩
theorem pss_cons (h1 : PS X st t) (h2 : PSs X rest u) : PSs X (st :: rest) (tSeq t u) := by
  intro pins s σ H D I h
  refine wpAny_execs_cons (thn (h1 pins s σ H { D with nx := u D } I h) fun f s1 q => ?_)
  cases f with
  | next =>
    obtain ⟨σ', H', I', q⟩ := q
    exact h2 pins s1 σ' H' D I' q
  | ret v => exact q
  | brk => exact q
  | cont => exact q
theorem pss_one (h1 : PS X st t) : PSs X [st] t := by
  intro pins s σ H D I h
  refine wpAny_execs_cons (thn (h1 pins s σ H D I h) fun f s1 q => ?_)
  cases f with
  | next => exact wpAny_execs_nil q
  | ret v => exact q
  | brk => exact q
  | cont => exact q
theorem Inv.quiet {pins : List (Addr × Obj)} {σ : St} {H : Hp} {s : Shared} (I : Inv X pins σ H s) : interactive X.env = false := by simp [interactive, I.ok.kind]
def tDrop (te : TE) : TS := fun D σ H => te σ H fun _ H1 => D.nx σ H1
theorem ps_expr (he : PE X e te) (hs : swapsWith e none pos.line X.env = pure false := by rfl) : PS X (.Expr e pos) (tDrop te) := by
  intro pins s σ H D I h
  exact wpAny_Expr_any (thn (he pins s σ H _ I h) fun v s1 ⟨x, H1, I1, r1, q1⟩ => ⟨σ, H1, I1, q1⟩) I.quiet hs
def tRet (te : TE) : TS := fun D σ H => te σ H D.rt
theorem ps_ret (he : PE X e te) : PS X (.Return (some e) pos) (tRet te) := by
  intro pins s σ H D I h
  exact wpAny_Return_some (thn (he pins s σ H _ I h) fun v s1 ⟨x, H1, I1, r1, q1⟩ => ⟨x, σ, H1, I1, r1, q1⟩)
def tIfS (c : TT) (t u : TS) : TS := fun D σ H => c σ H fun b H1 => if b = true then t D σ H1 else u D σ H1
theorem ps_if {c : Expr} {a b : List Stmt} {tc : TT} (hc : PT X c tc) (ha : PSs X a t) (hb : PSs X b u) : PS X (.If c a b pos) (tIfS tc t u) := by
  intro pins s σ H D I h
  refine wpAny_If (thn (hc pins s σ H _ I h) fun d s1 ⟨H1, I1, q1⟩ => ?_)
  cases d with
  | true => exact ha pins s1 σ H1 D I1 q1
  | false => exact hb pins s1 σ H1 D I1 q1
end
/-! ### targets -/
abbrev TG := V → St → Hp → (St → Hp → Prop) → Prop
abbrev TGs := List V → St → Hp → (St → Hp → Prop) → Prop
def PG (X : Cx) (target : Expr) (t : TG) : Prop :=
  ∀ (pins : List (Addr × Obj)) (s : Shared) (σ : St) (H : Hp) (v : V) (u : Value) (Q : St → Hp → Prop), Inv X pins σ H s → RelV v u → t v σ H Q →
    wpAny (model X.prog X.w) X.A (assign target X.env u) (fun _ s' => ∃ σ' H', Inv X pins σ' H' s' ∧ Q σ' H') X.xe s
def PGs (X : Cx) (ts : List Expr) (t : TGs) : Prop :=
  ∀ (pins : List (Addr × Obj)) (s : Shared) (σ : St) (H : Hp) (vs : List V) (us : List Value) (Q : St → Hp → Prop), Inv X pins σ H s → Vals vs us → t vs σ H Q →
    wpAny (model X.prog X.w) X.A (assignInOrder ((assignEach ts X.env).map (·.2)) us) (fun _ s' => ∃ σ' H', Inv X pins σ' H' s' ∧ Q σ' H') X.xe s
abbrev TSet := V → V → V → Hp → (Hp → Prop) → Prop
def PSet (X : Cx) (t : TSet) : Prop :=
  ∀ (pins : List (Addr × Obj)) (s : Shared) (σ : St) (H : Hp) (o i v : V) (ov iv u : Value) (Q : Hp → Prop), Inv X pins σ H s → RelV o ov → RelV i iv → RelV v u → t o i v H Q →
    wpAny (model X.prog X.w) X.A (setItem ov iv u) (fun _ s' => ∃ H', Inv X pins σ H' s' ∧ Q H') X.xe s
abbrev TIp := V → V → Hp → VK → Prop
def PIp (X : Cx) (op : Operator) (t : TIp) : Prop :=
  ∀ (pins : List (Addr × Obj)) (s : Shared) (σ : St) (H : Hp) (x y : V) (v u : Value) (Q : VK), Inv X pins σ H s → RelV x v → RelV y u → t x y H Q →
    wpAny (model X.prog X.w) X.A (inplaceOp op v u) (EP X pins σ Q) X.xe s
section
variable {X : Cx} {pos : Pos}
def gName (i : Nat) : TG := fun v σ H Q => Q (σ.set i (some v)) H
theorem pg_name {i : Nat} {x : Str} (hN : X.N.Nodup) (hi : X.N[i]? = some x) (hx : Loc X.env.scope x) (hf : X.fn x = true ∨ X.env.scope.names.lookup x = some .local := by first | exact .inl rfl | exact .inr rfl | assumption) : PG X (.Name x pos) (gName i) := by
  intro pins s σ H v u Q I r h
  exact wpAny_assign_Name (store_ok I hN hi hx r (fun s' I' => ⟨_, H, I', h⟩) hf)
def gNil : TGs := fun vs σ H Q => vs = [] ∧ Q σ H
def gCons (t : TG) (u : TGs) : TGs := fun vs σ H Q => ∃ v r, vs = v :: r ∧ t v σ H fun σ' H' => u r σ' H' Q
theorem pgs_nil : PGs X [] gNil := by
  intro pins s σ H vs us Q I r h
  obtain ⟨e, h⟩ := h
  subst e
  cases r
  exact assignInOrder_nil ⟨σ, H, I, h⟩
theorem pgs_cons {e : Expr} {es : List Expr} {t : TG} {u : TGs} (h1 : PG X e t) (h2 : PGs X es u)
    (hs : (assignEach (e :: es) X.env).map (·.2) = assign e X.env :: (assignEach es X.env).map (·.2) := by rfl) : PGs X (e :: es) (gCons t u) := by
  intro pins s σ H vs us Q I r h
  obtain ⟨v, vr, e1, h⟩ := h
  subst e1
  cases r with
  | cons r rr =>
    rw [hs]
    refine assignInOrder_cons (thn (h1 pins s σ H _ _ _ I r h) fun _ s1 ⟨σ1, H1, I1, q1⟩ => ?_)
    exact h2 pins s1 σ1 H1 _ _ Q I1 rr q1
def gTup (K : PySem.W.Frag) (n : Nat) (t : TGs) : TG := fun v σ H Q => ∃ a xs, v = .ref a ∧ SqT K H a xs ∧ xs.length = n ∧ t xs σ H Q
theorem pg_tup {es : List Expr} {k : Nat} {t : TGs} {n : Nat} (hc : X.calm = true) (h : PGs X es t)
    (hn : (assignEach es X.env).length = n := by rfl) (hst : (assignEach es X.env).findIdx? (·.1) = none := by rfl) : PG X (.Tuple es k pos) (gTup X.K n t) := by
  intro pins s σ H v u Q I r hw
  obtain ⟨a, xs, e1, hq, hl, hw⟩ := hw
  subst e1
  cases r
  obtain ⟨its, rv, ht, hz⟩ := I.tuple hq
  refine assign_Tuple_tuple (I.ok.hd hc) ht (by simp [hn, ← hl, rv.length]) hst fun h' hx => ?_
  have I1 : Inv X pins σ H { s with heap := h' } := I.kept (t' := s.toks) fun b o e => hx b o (Nat.ne_of_lt (Heap.lt_size e)) e
  exact h pins _ σ H xs _ Q I1 (by simpa using rv) hw
def gSub (to ti : TE) (t : TSet) : TG := fun v σ H Q => to σ H fun o H1 => ti σ H1 fun i H2 => t o i v H2 fun H3 => Q σ H3
theorem pg_sub {o i : Expr} {to ti : TE} {t : TSet} (ho : PE X o to) (hi : PE X i ti) (hs : PSet X t)
    (ha : ∀ v, assign (.Subscript o i pos) X.env v = (do
      let ov ← holding [v] (eval o X.env)
      let iv ← holding [v, ov] (eval i X.env)
      standAt pos
      holding [v, ov, iv] (setItem ov iv v)
      release [v, ov, iv] []) := by intro _; rfl) : PG X (.Subscript o i pos) (gSub to ti t) := by
  intro pins s σ H v u Q I r h
  rw [ha]
  refine wpAny_bind (wpAny_holding (thn (ho pins s σ H _ I h) fun ov s1 ⟨x, H1, I1, r1, q1⟩ => ?_))
  refine wpAny_bind (wpAny_holding (thn (hi pins s1 σ H1 _ I1 q1) fun iv s2 ⟨y, H2, I2, r2, q2⟩ => ?_))
  refine wpAny_bind (wpAny_standAt (wpAny_bind (wpAny_holding (thn (hs pins s2 σ H2 x y v ov iv u _ I2 r1 r2 r q2) fun _ s3 ⟨H3, I3, q3⟩ => ?_))))
  exact wpAny_release ⟨σ, H3, I3, q3⟩
def tAsg (te : TE) (g : TG) : TS := fun D σ H => te σ H fun x H1 => g x σ H1 D.nx
theorem ps_asg {tg e : Expr} {te : TE} {g : TG} (he : PE X e te) (hg : PG X tg g) (hs : swapsWithSole [tg] e pos.line X.env = pure false := by rfl) (hw : swappedStores [tg] e X.env = pure none := by rfl)
    (h1 : (assignEach [tg] X.env).map (·.2) = [assign tg X.env] := by rfl) : PS X (.Assign [tg] e pos) (tAsg te g) := by
  intro pins s σ H D I h
  refine wpAny_Assign_stores (thn (he pins s σ H _ I h) fun v s1 ⟨x, H1, I1, r1, q1⟩ => ?_) hs hw
  rw [h1]
  exact thn (hg pins s1 σ H1 x v _ I1 r1 q1) fun _ s2 q => q
theorem ps_set {i : Nat} {x : Str} {e : Expr} {te : TE} {pos' : Pos} (hN : X.N.Nodup) (hi : X.N[i]? = some x) (hx : Loc X.env.scope x) (he : PE X e te) (hs : swapsWith e (some (.Name x pos')) pos.line X.env = pure false := by rfl) (hf : X.fn x = true ∨ X.env.scope.names.lookup x = some .local := by first | exact .inl rfl | exact .inr rfl | assumption) :
    PS X (.Assign [.Name x pos'] e pos) (tAsg te (gName i)) := by
  intro pins s σ H D I h
  refine wpAny_Assign_Name (thn (he pins s σ H _ I h) fun v s1 ⟨y, H1, I1, r1, q1⟩ => ?_) hs
  exact store_ok I1 hN hi hx r1 (fun s2 I2 => ⟨_, H1, I2, q1⟩) hf
def tPar (i j : Nat) (ta : TA) : TS := fun D σ H => ta σ H fun vs H1 => ∃ v w, vs = [v, w] ∧ D.nx ((σ.set i (some v)).set j (some w)) H1
theorem ps_par {i j : Nat} {x y : Str} {a b : Expr} {ta : TA} {px py pt : Pos} {kt k2 pt2} (hc : X.calm = true) (hN : X.N.Nodup) (hi : X.N[i]? = some x) (hj : X.N[j]? = some y) (hij : i ≠ j)
    (hx : X.env.scope.names.lookup x = some .local) (hy : X.env.scope.names.lookup y = some .local) (ha : PA X [a, b] ta)
    (hw : swappedStores [.Tuple [.Name x px, .Name y py] kt pt] (.Tuple [a, b] k2 pt2) X.env = pure (some [x, y]))
    (hs : swapsWithSole [.Tuple [.Name x px, .Name y py] kt pt] (.Tuple [a, b] k2 pt2) pos.line X.env = pure false := by rfl) :
    PS X (.Assign [.Tuple [.Name x px, .Name y py] kt pt] (.Tuple [a, b] k2 pt2) pos) (tPar i j ta) := by
  intro pins s σ H D I h
  rw [exec_Assign_arm]
  refine wpAny_bind (wpAny_standAt ?_)
  rw [hs]
  refine wpAny_bind (wpAny_pure ?_)
  rw [if_neg (by decide)]
  refine wpAny_bind (Tuple_ (thn (ha _ pins s σ H _ I h) fun us s1 ⟨vs, H1, I1, r1, q1⟩ => ?_))
  obtain ⟨v, w, e1, q1⟩ := q1
  subst e1
  obtain ⟨u1, u2, rfl, rv, rw'⟩ : ∃ u1 u2, us = [u1, u2] ∧ RelV v u1 ∧ RelV w u2 := by
    cases r1 with
    | cons p q =>
      cases q with
      | cons p' q' =>
        cases q'
        exact ⟨_, _, rfl, p, p'⟩
  refine wpAny_newObj_type ?_ (by show 2 ≤ sizeLine; decide)
  have I2 : Inv X pins σ H1 { s1 with heap := s1.heap.push { cls := .type "tuple", data := .seq [u1, u2].toArray } } := I1.kept (t' := s1.toks) fun b o e => Heap.get?_push_of_some _ e
  rw [hw]
  refine wpAny_bind (wpAny_pure ?_)
  show wpAny (model X.prog X.w) X.A (do rule "assign.swapped-stores"; let items ← unpackItems (.ref s1.heap.objs.size) 2 none; assignInOrder [fun v => bindName X.env y v, fun v => bindName X.env x v] items.reverse; pure Flow.next) _ _ _
  refine wpAny_bind (wpAny_rule (wpAny_bind (unpackItems_tuple (items := #[u1, u2]) (I.ok.hd hc) (IsTup.new s1.heap _) fun h' hx' => ?_)))
  have I3 := I2.kept (h' := h') (t' := s1.toks) fun b o e => hx' b o (Nat.ne_of_lt (Heap.lt_size e)) e
  show wpAny _ _ (assignInOrder [fun v => bindName X.env y v, fun v => bindName X.env x v] [u2, u1] >>= fun _ => pure Flow.next) _ _ _
  refine wpAny_bind (assignInOrder_cons (wpAny_bindName (store_ok I3 hN hj (.inl hy) rw' (fun s2 I4 => ?_) (.inr hy))))
  refine assignInOrder_cons (wpAny_bindName (store_ok I4 hN hi (.inl hx) rv (fun s3 I5 => assignInOrder_nil (wpAny_pure ?_)) (.inr hx)))
  rw [List.set_comm _ _ (Ne.symm hij)] at I5
  exact ⟨_, H1, I5, q1⟩
def tAug (i : Nat) (te : TE) (ti : TIp) : TS := fun D σ H => ∃ x, σ[i]? = some (some x) ∧ te σ H fun y H1 => ti x y H1 fun z H2 => D.nx (σ.set i (some z)) H2
theorem ps_aug {i : Nat} {x : Str} {e : Expr} {te : TE} {op : Operator} {ti : TIp} {pos' : Pos} (hN : X.N.Nodup) (hi : X.N[i]? = some x) (hx : Loc X.env.scope x) (he : PE X e te) (ho : PIp X op ti) (hf : X.fn x = true ∨ X.env.scope.names.lookup x = some .local := by first | exact .inl rfl | exact .inr rfl | assumption) :
    PS X (.AugAssign (.Name x pos') op e pos) (tAug i te ti) := by
  intro pins s σ H D I h
  obtain ⟨v, e1, h⟩ := h
  obtain ⟨m, hn, hl⟩ := I.loc
  have vis : Vis X.env.scope x := by rcases hx with k | k; exact .inl k; exact .inr (.inl k)
  obtain ⟨u, r, l⟩ := hl i x v hi e1 vis
  refine wpAny_AugAssign_Name ?_
  have go : wpAny (model X.prog X.w) X.A (eval e X.env) (fun w s₂ => wpAny (model X.prog X.w) X.A (inplaceOp op u w) (fun r s₃ => wpAny (model X.prog X.w) X.A (storeName X.env x r) (fun _ => SP X pins D .next) X.xe s₃) X.xe s₂) X.xe s := by
    refine thn (he pins s σ H _ I h) fun w s1 ⟨y, H1, I1, r1, q1⟩ => ?_
    refine thn (ho pins s1 σ H1 v y u w _ I1 r r1 q1) fun z s2 ⟨zv, H2, I2, r2, q2⟩ => ?_
    exact store_ok I2 hN hi hx r2 (fun s3 I3 => ⟨_, H2, I3, q2⟩) hf
  rcases l with ⟨hk, hm⟩ | ⟨hk, c, hc, hcell⟩
  · exact wpAny_loadName_local I.ok.kind hk hn hm go
  · rcases hk with hk | hk
    · exact wpAny_loadName_cell I.ok.kind hk hc hcell go
    · rcases hx with k | k
      · have : X.env.scope.names.lookup x = some .free := hk
        rw [k] at this; cases this
      · have : X.env.scope.names.lookup x = some .free := hk
        rw [k] at this; cases this
def ipI (f : Int → Int → Int) : TIp := fun x y H Q => ∃ i j, x = .int i ∧ y = .int j ∧ Q (.int (f i j)) H
theorem ip_add : PIp X .Add (ipI fun i j => i + j) := by
  intro pins s σ H x y v u Q I r1 r2 h
  obtain ⟨i, j, e1, e2, q⟩ := h
  subst e1; subst e2
  obtain ⟨t, rfl⟩ := r1
  obtain ⟨t', rfl⟩ := r2
  exact iadd_int ⟨.int _, H, I.tok _, ⟨_, rfl⟩, q⟩
end
/-! ### while -/
section
variable {X : Cx} {pos : Pos}
def tWhile (c : TT) (tb : TS) : TS := fun D σ H => ∃ W : Nat → St → Hp → Prop, (∃ m, W m σ H) ∧ ∀ m σ H, W m σ H →
  c σ H fun b H1 => if b = true then ∃ N : St → Hp → Prop, (∀ σ' H', N σ' H' → ∃ m', m' < m ∧ W m' σ' H') ∧ tb { D with nx := N, ct := N, bk := D.nx } σ H1 else D.nx σ H1
theorem ps_while {c : Expr} {body : List Stmt} {tc : TT} {tb : TS} (hp : PassesOwn (model X.prog X.w) X.A X.env X.xe) (hc : PT X c tc) (hb : PSs X body tb) : PS X (.While c body [] pos) (tWhile tc tb) := by
  intro pins s σ H D I h
  obtain ⟨W, ⟨m0, w0⟩, turn⟩ := h
  refine wpAny_While (codeAny_whileLoop (fun n s' => ∃ σ' H', Inv X pins σ' H' s' ∧ W n σ' H') ?_ m0 ⟨σ, H, I, w0⟩)
  rintro n s1 ⟨σ1, H1, I1, w1⟩
  refine wpAny_passesOwn hp (thn (hc pins s1 σ1 H1 _ I1 (turn n σ1 H1 w1)) fun b s2 ⟨H2, I2, q2⟩ => ?_)
  cases b with
  | true =>
    obtain ⟨N, hN, q2⟩ := q2
    rw [if_pos rfl]
    refine wpAny_passesOwn hp (thn (hb pins s2 σ1 H2 _ I2 q2) fun f s3 q3 => ?_)
    cases f with
    | next =>
      obtain ⟨σ3, H3, I3, n3⟩ := q3
      obtain ⟨m', hm, w3⟩ := hN σ3 H3 n3
      exact ⟨m', hm, σ3, H3, I3, w3⟩
    | cont =>
      obtain ⟨σ3, H3, I3, n3⟩ := q3
      obtain ⟨m', hm, w3⟩ := hN σ3 H3 n3
      exact ⟨m', hm, σ3, H3, I3, w3⟩
    | brk => exact q3
    | ret v => exact q3
  | false =>
    rw [if_neg Bool.false_ne_true]
    exact wpAny_execs_nil ⟨σ1, H2, I2, q2⟩
end
/-! ### what a loop or a comprehension walks -/
structure It where
  go : Nat → Hp → Prop
  yld : Nat → Hp → V → Hp → Prop
  stop : Nat → Hp → Prop
def FpOk (X : Cx) (pins : List (Addr × Obj)) (H : Hp) (b : Addr) : Prop :=
  H b = none ∧ b ≠ X.env.locals ∧ b ∉ X.fs ∧ (b ∈ X.ex ∨ X.s₀.heap.objs.size ≤ b) ∧ (∀ x c, X.env.cells.lookup x = some c → c ≠ b) ∧ ∀ p ∈ X.pn ++ pins, p.1 ≠ b
theorem Inv.fpOk {X : Cx} {pins : List (Addr × Obj)} {σ : St} {H H' : Hp} {s : Shared} {b : Addr} (I : Inv X pins σ H s) (hb : s.heap.objs.size ≤ b) (hn : H' b = none) : FpOk X pins H' b := by
  refine ⟨hn, Nat.ne_of_gt (Nat.lt_of_lt_of_le I.lt hb), I.nofs hb, .inr (Nat.le_trans I.sz hb), fun x c e z => ?_, fun p hp z => ?_⟩
  · obtain ⟨v, q⟩ := I.cell x c e
    exact absurd (Nat.lt_of_lt_of_le q.lt (by rw [z]; exact hb)) (Nat.lt_irrefl _)
  · exact absurd (Nat.lt_of_lt_of_le (Heap.lt_size (I.pin p hp).1) (by rw [z]; exact hb)) (Nat.lt_irrefl _)
structure Turn (P : Program) (w : World) (K : PySem.W.Frag) (tg : Expr) (J : It) (fp : List Addr) (it : Addr) (tn : Nat → Heap → Prop) : Prop where
  mem : it ∈ fp
  obj : ∀ i h, tn i h → ∀ b ∈ fp, ∃ o, h.get? b = some o ∧ ∀ v, o.data ≠ .cell v
  keep : ∀ i h h', tn i h → (∀ b ∈ fp, ∀ o, h.get? b = some o → h'.get? b = some o) → tn i h'
  item : ∀ (X : Cx), X.prog = P → X.w = w → X.K = K → X.calm = true → ∀ (i : Nat) (pins : List (Addr × Obj)) (s : Shared) (σ : St) (H : Hp) (E : Value → Shared → Prop), Inv X pins σ H s → (∀ b ∈ fp, FpOk X pins H b) → tn i s.heap → J.go i H →
    wpAny (model P w) X.A (pyNext (.ref it)) (fun r s1 => ∃ u, r = some u ∧
      wpAny (model P w) X.A (letOwnedTupleGo tg (.ref it) u) (fun _ s2 => ∃ x H', Inv X pins σ H' s2 ∧ RelV x u ∧ J.yld i H x H' ∧ tn (i + 1) s2.heap ∧ ∀ b ∈ fp, H' b = none) E s1) E s
  done : ∀ (X : Cx), X.prog = P → X.w = w → X.K = K → X.calm = true → ∀ (i : Nat) (pins : List (Addr × Obj)) (s : Shared) (σ : St) (H : Hp) (E : Value → Shared → Prop), Inv X pins σ H s → (∀ b ∈ fp, FpOk X pins H b) → tn i s.heap → J.stop i H →
    wpAny (model P w) X.A (pyNext (.ref it)) (fun r s1 => r = none ∧ Inv X pins σ H s1) E s
  self : ∀ (A : Around) (i : Nat) (s : Shared) (Q : Value → Shared → Prop) (E : Value → Shared → Prop), tn i s.heap → Q (.ref it) s → wpAny (model P w) A (pyIter (.ref it)) Q E s
abbrev TI := St → Hp → (It → Hp → Prop) → Prop
def PIE (X : Cx) (pins : List (Addr × Obj)) (σ : St) (tg : Expr) (R : It → Hp → Prop) (itv : Value) (s2 : Shared) : Prop :=
  ∃ (it : Addr) (fp : List Addr) (tn : Nat → Heap → Prop) (J : It) (H' : Hp), itv = .ref it ∧ Inv X pins σ H' s2 ∧ Turn X.prog X.w X.K tg J fp it tn ∧ tn 0 s2.heap ∧ (∀ b ∈ fp, FpOk X pins H' b) ∧ R J H'
def PI (X : Cx) (tg iter : Expr) (wi : TI) : Prop :=
  ∀ (pins : List (Addr × Obj)) (s : Shared) (σ : St) (H : Hp) (R : It → Hp → Prop), Inv X pins σ H s → wi σ H R →
    wpAny (model X.prog X.w) X.A (eval iter X.env) (fun v s1 => wpAny (model X.prog X.w) X.A (pyIter v) (PIE X pins σ tg R) X.xe s1) X.xe s
theorem go_of {M : Model} {A : Around} {E : Value → Shared → Prop} {s : Shared} {tg : Expr} {it : Addr} {u : Value} {o : Obj} {n : String} {vs : Array Value} {Q : Unit → Shared → Prop} (ho : s.heap.get? it = some o) (hc : o.cls = .type n) (hd : o.data = .fields vs)
    (hn : ["enumerate", "zip", "dict_itemiterator", "dict_reverseitemiterator", "odict_iterator", "itertools.zip_longest", "itertools.pairwise"].contains n = false) (hQ : Q () s) : wpAny M A (letOwnedTupleGo tg (.ref it) u) Q E s := by
  unfold letOwnedTupleGo
  cases tg <;> first
    | exact wpAny_pure hQ
    | (cases u <;> first
        | exact wpAny_pure hQ
        | (refine wpAny_bind (wpAny_load ho ?_)
           rw [hc, hd]
           show wpAny M A (if (["enumerate", "zip", "dict_itemiterator", "dict_reverseitemiterator", "odict_iterator", "itertools.zip_longest", "itertools.pairwise"].contains n && vs[0]? == some (rawInt _)) = true then _ else _) Q E s
           rw [if_neg (by intro h; rw [hn, Bool.false_and] at h; cases h)]
           exact wpAny_pure hQ))
def Itl (K : PySem.W.Frag) (a : Addr) : It :=
  ⟨fun i H => ∃ xs x, SqL K H a xs ∧ xs[i]? = some x, fun i H x H' => H' = H ∧ ∀ xs, SqL K H a xs → xs[i]? = some x, fun i H => ∃ xs, SqL K H a xs ∧ xs.length ≤ i⟩
def Itt (K : PySem.W.Frag) (a : Addr) : It :=
  ⟨fun i H => ∃ xs x, SqT K H a xs ∧ xs[i]? = some x, fun i H x H' => H' = H ∧ ∀ xs, SqT K H a xs → xs[i]? = some x, fun i H => ∃ xs, SqT K H a xs ∧ xs.length ≤ i⟩
def Itr (lo : Int) (n : Nat) : It := ⟨fun i _ => i < n, fun i H x H' => H' = H ∧ x = .int (lo + i), fun i _ => n ≤ i⟩
theorem turn_list {P : Program} {w : World} {K : PySem.W.Frag} {tg : Expr} (a it : Addr) : Turn P w K tg (Itl K a) [it] it (fun i h => h.IsListIter it a i) where
  mem := by simp
  obj := fun i h st b hb => by
    have e : b = it := by simpa using hb
    subst e
    obtain ⟨o, e, c, d⟩ := st
    exact ⟨o, e, fun v z => by rw [d] at z; cases z⟩
  keep := fun i h h' st k => st.at fun o e => k it (by simp) o e
  item := by
    intro X hP hw hK hc i pins s σ H E I hf st hg
    subst hP hw hK
    obtain ⟨xs, x, hq, hx⟩ := hg
    obtain ⟨its, rv, p, hz⟩ := I.list hq
    obtain ⟨u, hu, ru⟩ := rv.get hx
    obtain ⟨f0, f1, f2, f3, f4, f5⟩ := hf it (by simp)
    refine wpAny_pyNext_list_item st p.isList (x := u) (by simpa using hu) fun h' st' sb => ?_
    have I1 : Inv X pins σ H { s with heap := h' } := I.turned (t' := s.toks) (fun b o hb e => (sb.2 b hb).trans e) f0 f1 f3 f4 f5
    obtain ⟨o, e, c, d⟩ := id st'
    exact ⟨u, rfl, go_of (s := { s with heap := h' }) e c d (by decide) ⟨x, H, I1, ru, ⟨rfl, fun ys hy => by rw [I.list_inj hy hq]; exact hx⟩, st', fun b hb => (hf b hb).1⟩⟩
  done := by
    intro X hP hw hK hc i pins s σ H E I hf st hg
    subst hP hw hK
    obtain ⟨xs, hq, hx⟩ := hg
    obtain ⟨its, rv, p, hz⟩ := I.list hq
    obtain ⟨f0, f1, f2, f3, f4, f5⟩ := hf it (by simp)
    have hl := rv.length
    exact wpAny_pyNext_list_end (I.ok.hd hc) st p.isList (by simp; omega) fun h' eb => ⟨rfl, I.turned (t' := s.toks) (fun b o hb e => eb b o hb e) f0 f1 f3 f4 f5⟩
  self := fun _ _ _ _ _ st h => wpAny_pyIter_listiter st h
theorem turn_tuple {P : Program} {w : World} {K : PySem.W.Frag} {tg : Expr} (a it : Addr) : Turn P w K tg (Itt K a) [it] it (fun i h => h.IsTupleIter it a i) where
  mem := by simp
  obj := fun i h st b hb => by
    have e : b = it := by simpa using hb
    subst e
    obtain ⟨o, e, c, d⟩ := st
    exact ⟨o, e, fun v z => by rw [d] at z; cases z⟩
  keep := fun i h h' st k => st.at fun o e => k it (by simp) o e
  item := by
    intro X hP hw hK hc i pins s σ H E I hf st hg
    subst hP hw hK
    obtain ⟨xs, x, hq, hx⟩ := hg
    obtain ⟨its, rv, p, hz⟩ := I.tuple hq
    obtain ⟨u, hu, ru⟩ := rv.get hx
    obtain ⟨f0, f1, f2, f3, f4, f5⟩ := hf it (by simp)
    refine wpAny_pyNext_tuple_item st (show s.heap.IsTuple a its.toArray from p) (x := u) (by simpa using hu) fun h' st' sb => ?_
    have I1 : Inv X pins σ H { s with heap := h' } := I.turned (t' := s.toks) (fun b o hb e => (sb.2 b hb).trans e) f0 f1 f3 f4 f5
    obtain ⟨o, e, c, d⟩ := id st'
    exact ⟨u, rfl, go_of (s := { s with heap := h' }) e c d (by decide) ⟨x, H, I1, ru, ⟨rfl, fun ys hy => by rw [I.tuple_inj hy hq]; exact hx⟩, st', fun b hb => (hf b hb).1⟩⟩
  done := by
    intro X hP hw hK hc i pins s σ H E I hf st hg
    subst hP hw hK
    obtain ⟨xs, hq, hx⟩ := hg
    obtain ⟨its, rv, p, hz⟩ := I.tuple hq
    obtain ⟨f0, f1, f2, f3, f4, f5⟩ := hf it (by simp)
    have hl := rv.length
    exact wpAny_pyNext_tuple_end (I.ok.hd hc) st (show s.heap.IsTuple a its.toArray from p) (by simp; omega) fun h' eb => ⟨rfl, I.turned (t' := s.toks) (fun b o hb e => eb b o hb e) f0 f1 f3 f4 f5⟩
  self := fun _ _ _ _ _ st h => wpAny_pyIter_tupleiter st h
theorem turn_range {P : Program} {w : World} {K : PySem.W.Frag} {tg : Expr} (it : Addr) (lo : Int) (n : Nat) : Turn P w K tg (Itr lo n) [it] it (fun i h => IsRangeIter h it (lo + (i : Nat) * 1) ((n : Int) - (i : Nat)) 1) where
  mem := by simp
  obj := fun i h st b hb => by
    have e : b = it := by simpa using hb
    subst e
    exact ⟨_, st, fun v z => by
      have z' : Data.fields _ = Data.cell v := z
      cases z'⟩
  keep := fun i h h' st k => k it (by simp) _ st
  item := by
    intro X hP hw hK hc i pins s σ H E I hf st hg
    subst hP hw hK
    obtain ⟨f0, f1, f2, f3, f4, f5⟩ := hf it (by simp)
    have W := Walks.range (prog := X.prog) (w := X.w) (I.ok.hd hc) it lo 1 n
    refine W.item i s _ _ hg st fun v h' tk hv st' kk => ?_
    obtain ⟨t, rfl⟩ := hv
    have I1 : Inv X pins σ H { s with heap := h', toks := tk } := I.turned (fun b o hb e => kk b o (by simpa using hb) e) f0 f1 f3 f4 f5
    refine ⟨_, rfl, go_of (s := { s with heap := h', toks := tk }) (n := "range_iterator") st' rfl rfl (by decide) ⟨.int (lo + i), H, I1, ⟨t, ?_⟩, ⟨rfl, rfl⟩, st', fun b hb => (hf b hb).1⟩⟩
    rw [Int.mul_one]
  done := by
    intro X hP hw hK hc i pins s σ H E I hf st hg
    subst hP hw hK
    obtain ⟨f0, f1, f2, f3, f4, f5⟩ := hf it (by simp)
    exact wpAny_pyNext_range_end (I.ok.hd hc) st (by have : n ≤ i := hg; omega) fun h' eb => ⟨rfl, I.turned (t' := s.toks) (fun b o hb e => eb b o hb e) f0 f1 f3 f4 f5⟩
  self := fun _ _ _ _ _ st h => wpAny_pyIter_rangeiter st h
end L2
namespace L2
open PySem PySem.Spec PyProof.Rows
section
variable {X : Cx} {tg : Expr}
def iList (K : PySem.W.Frag) (tl : TE) : TI := fun σ H R => tl σ H fun x H1 => ∃ a, x = .ref a ∧ (∃ xs, SqL K H1 a xs) ∧ R (Itl K a) H1
def iTup (K : PySem.W.Frag) (tl : TE) : TI := fun σ H R => tl σ H fun x H1 => ∃ a, x = .ref a ∧ (∃ xs, SqT K H1 a xs) ∧ R (Itt K a) H1
theorem pi_list {l : Expr} {tl : TE} (hl : PE X l tl) : PI X tg l (iList X.K tl) := by
  intro pins s σ H R I h
  refine thn (hl pins s σ H _ I h) fun v s1 ⟨x, H1, I1, r1, q1⟩ => ?_
  obtain ⟨a, e, ⟨xs, hq⟩, q⟩ := q1
  subst e
  cases r1
  obtain ⟨its, rv, p, hz⟩ := I1.list hq
  refine wpAny_pyIter_list p.isList ?_
  refine ⟨s1.heap.objs.size, [s1.heap.objs.size], _, _, H1, rfl, I1.kept (t' := s1.toks) fun b o e => Heap.get?_push_of_some _ e, turn_list a _, ⟨_, Heap.get?_push_size _ rfl, rfl, rfl⟩, fun b hb => ?_, q⟩
  have e : b = s1.heap.objs.size := by simpa using hb
  subst e
  exact I1.fpOk (Nat.le_refl _) (I1.hok.fresh (Nat.le_refl _))
theorem pi_tup {l : Expr} {tl : TE} (hl : PE X l tl) : PI X tg l (iTup X.K tl) := by
  intro pins s σ H R I h
  refine thn (hl pins s σ H _ I h) fun v s1 ⟨x, H1, I1, r1, q1⟩ => ?_
  obtain ⟨a, e, ⟨xs, hq⟩, q⟩ := q1
  subst e
  cases r1
  obtain ⟨its, rv, p, hz⟩ := I1.tuple hq
  refine wpAny_pyIter_tuple (show s1.heap.IsTuple a its.toArray from p) ?_
  refine ⟨s1.heap.objs.size, [s1.heap.objs.size], _, _, H1, rfl, I1.kept (t' := s1.toks) fun b o e => Heap.get?_push_of_some _ e, turn_tuple a _, ⟨_, Heap.get?_push_size _ rfl, rfl, rfl⟩, fun b hb => ?_, q⟩
  have e : b = s1.heap.objs.size := by simpa using hb
  subst e
  exact I1.fpOk (Nat.le_refl _) (I1.hok.fresh (Nat.le_refl _))
theorem range_it {pins : List (Addr × Obj)} {σ : St} {H : Hp} {s : Shared} {R : It → Hp → Prop} {E : Value → Shared → Prop} {lo hi : Int} {t u v : Tok} {tk : Nat} (I : Inv X pins σ H s) (h1 : -(2 ^ 62) ≤ lo) (h2 : lo < 2 ^ 62) (h3 : -(2 ^ 62) ≤ hi) (h4 : hi < 2 ^ 62)
    (q : R (Itr lo (hi - lo).toNat) H) : wpAny (model X.prog X.w) X.A (pyIter (.ref s.heap.objs.size)) (PIE X pins σ tg R) E { s with heap := s.heap.push { cls := .type "range", data := .fields #[.int lo t, .int hi u, .int 1 v] }, toks := tk } := by
  refine wpAny_pyIter_range (IsRange.new ..) (small_one h1 h2 h3 h4) ?_
  have I1 : Inv X pins σ H { s with heap := s.heap.push { cls := .type "range", data := .fields #[.int lo t, .int hi u, .int 1 v] }, toks := tk } := I.kept fun b o e => Heap.get?_push_of_some _ e
  refine ⟨(s.heap.push { cls := .type "range", data := .fields #[.int lo t, .int hi u, .int 1 v] }).objs.size, [(s.heap.push { cls := .type "range", data := .fields #[.int lo t, .int hi u, .int 1 v] }).objs.size], _, _, H, rfl,
    I1.kept (t' := tk) fun b o e => Heap.get?_push_of_some _ e, turn_range _ lo (hi - lo).toNat, ?_, fun b hb => ?_, q⟩
  · have e1 : lo + ((0 : Nat) : Int) * 1 = lo := by simp
    have e2 : (((hi - lo).toNat : Nat) : Int) - ((0 : Nat) : Int) = Builtin.Range.rangeSize lo hi 1 := by rw [rangeSize_one]; split <;> omega
    show IsRangeIter _ _ (lo + ((0 : Nat) : Int) * 1) ((((hi - lo).toNat : Nat) : Int) - ((0 : Nat) : Int)) 1
    rw [e1, e2]
    exact Heap.get?_push_size _ rfl
  · have e : b = (s.heap.push { cls := .type "range", data := .fields #[.int lo t, .int hi u, .int 1 v] }).objs.size := by simpa using hb
    subst e
    exact I1.fpOk (Nat.le_refl _) (I1.hok.fresh (Nat.le_refl _))
def iRng1 (ta : TA) : TI := fun σ H R => ta σ H fun vs H1 => ∃ j : Int, vs = [.int j] ∧ -(2 ^ 62) ≤ j ∧ j < 2 ^ 62 ∧ R (Itr 0 j.toNat) H1
def iRng2 (ta : TA) : TI := fun σ H R => ta σ H fun vs H1 => ∃ i j : Int, vs = [.int i, .int j] ∧ (-(2 ^ 62) ≤ i ∧ i < 2 ^ 62 ∧ -(2 ^ 62) ≤ j ∧ j < 2 ^ 62) ∧ R (Itr i (j - i).toNat) H1
theorem pi_range1 {a : Expr} {ta : TA} {p pos : Pos} (hg : Gl X "range") (hm : X.mg "range" = none) (ha : PA X [a] ta) (hs : starEach [a] X.env = [(false, eval a X.env)] := by rfl) : PI X tg (.Call (.Name "range" p) [a] [] pos) (iRng1 ta) := by
  intro pins s σ H R I h
  refine Call_ (ld_blt I hg hm boot_range (PyProof.Rows.callWith_type1 (thn (ha pos pins s σ H _ I h) fun us s1 ⟨vs, H1, I1, r1, q1⟩ => ?_) hs rfl))
  obtain ⟨j, e, q1, q2, q⟩ := q1
  subst e
  cases r1 with
  | cons r rr =>
    cases rr
    obtain ⟨t, rfl⟩ := r
    exact call_range_1 (range_it I1 (by omega) (by omega) q1 q2 (by simpa using q))
theorem pi_range2 {a b : Expr} {ta : TA} {p pos : Pos} (hg : Gl X "range") (hm : X.mg "range" = none) (ha : PA X [a, b] ta) (hs : starEach [a, b] X.env = [(false, eval a X.env), (false, eval b X.env)] := by rfl) (hs2 : starEach [b] X.env = [(false, eval b X.env)] := by rfl) :
    PI X tg (.Call (.Name "range" p) [a, b] [] pos) (iRng2 ta) := by
  intro pins s σ H R I h
  refine Call_ (ld_blt I hg hm boot_range (PyProof.Rows.callWith_type1 (thn (ha pos pins s σ H _ I h) fun us s1 ⟨vs, H1, I1, r1, q1⟩ => ?_) (by rw [hs, hs2]) (by rw [hs2]; rfl)))
  obtain ⟨i, j, e, ⟨q1, q2, q3, q4⟩, q⟩ := q1
  subst e
  cases r1 with
  | cons r rr =>
    cases rr with
    | cons r' rr =>
      cases rr
      obtain ⟨t, rfl⟩ := r
      obtain ⟨t', rfl⟩ := r'
      exact call_range_2 (range_it I1 q1 q2 q3 q4 q)
/-! ### for -/
def tFor (wi : TI) (g : TG) (tb : TS) : TS := fun D σ H => wi σ H fun J H1 => ∃ W : Nat → Nat → St → Hp → Prop, (∃ m, W 0 m σ H1) ∧ ∀ i m σ H, W i m σ H →
  (J.stop i H ∧ D.nx σ H) ∨ (J.go i H ∧ ∃ N : St → Hp → Prop, (∀ σ' H', N σ' H' → ∃ m', m' < m ∧ W (i + 1) m' σ' H') ∧ ∀ x H', J.yld i H x H' → g x σ H' fun σ2 H2 => tb { D with nx := N, ct := N, bk := D.nx } σ2 H2)
def pinsAt (fp : List Addr) (h : Heap) : List (Addr × Obj) := fp.filterMap fun b => (h.get? b).map fun o => (b, o)
theorem mem_pinsAt {fp : List Addr} {h : Heap} {b : Addr} {o : Obj} (hb : b ∈ fp) (e : h.get? b = some o) : (b, o) ∈ pinsAt fp h := List.mem_filterMap.mpr ⟨b, hb, by rw [e]; rfl⟩
theorem of_pinsAt {fp : List Addr} {h : Heap} {p : Addr × Obj} (hp : p ∈ pinsAt fp h) : p.1 ∈ fp ∧ h.get? p.1 = some p.2 := by
  obtain ⟨b, hb, e⟩ := List.mem_filterMap.mp hp
  cases q : h.get? b with
  | none => rw [q] at e; cases e
  | some o =>
    rw [q] at e
    have e' : (b, o) = p := Option.some.inj e
    subst e'
    exact ⟨hb, q⟩
theorem Inv.pinned {pins : List (Addr × Obj)} {σ : St} {H : Hp} {s : Shared} {fp : List Addr} (I : Inv X pins σ H s) (hf : ∀ b ∈ fp, FpOk X pins H b) (ho : ∀ b ∈ fp, ∃ o, s.heap.get? b = some o ∧ ∀ v, o.data ≠ .cell v) : Inv X (pins ++ pinsAt fp s.heap) σ H s :=
  I.pins_of fun p hp => (List.mem_append.mp hp).elim (fun z => I.pin p (List.mem_append_right _ z)) fun z => by
    obtain ⟨hb, e⟩ := of_pinsAt z
    obtain ⟨f0, f1, f2, _⟩ := hf p.1 hb
    obtain ⟨o, e', d⟩ := ho p.1 hb
    rw [e] at e'; cases e'
    exact ⟨e, f0, f1, f2, d⟩
theorem Inv.unpinned {pins pl : List (Addr × Obj)} {σ : St} {H : Hp} {s : Shared} (I : Inv X (pins ++ pl) σ H s) : Inv X pins σ H s := I.pins_of fun p hp => I.pin p (List.mem_append_right _ (List.mem_append_left _ hp))
theorem ps_for {iter : Expr} {body : List Stmt} {wi : TI} {g : TG} {tb : TS} {pos : Pos} (hp : PassesOwn (model X.prog X.w) X.A X.env X.xe) (hc : X.calm = true) (hi : PI X tg iter wi) (hg : PG X tg g) (hb : PSs X body tb)
    (hs : ∀ x, foldedSetIterable iter X.env x = pure x := by intro _; rfl) : PS X (.For tg iter body [] pos) (tFor wi g tb) := by
  intro pins s σ H D I h
  refine wpAny_For (thn (hi pins s σ H _ I h) fun v s1 h1 => thn h1 fun itv s2 h2 => ?_) hs
  obtain ⟨it, fp, tn, J, H2, e, I2, T, st2, f2, W, ⟨m0, w0⟩, turn⟩ := h2
  subst e
  -- what stays true of the iterator's objects through the loop
  have stat : ∀ {H' : Hp}, (∀ b ∈ fp, H' b = none) → ∀ b ∈ fp, FpOk X pins H' b := fun hn b hb => ⟨hn b hb, (f2 b hb).2⟩
  refine codeAny_forLoop_any (fun n s' => ∃ i σ' H', Inv X pins σ' H' s' ∧ tn i s'.heap ∧ (∀ b ∈ fp, H' b = none) ∧ W i n σ' H') ?_ m0 ⟨0, σ, H2, I2, st2, fun b hb => (f2 b hb).1, w0⟩
  rintro n s3 ⟨i, σ3, H3, I3, st3, fr3, w3⟩
  rcases turn i n σ3 H3 w3 with ⟨stop, qn⟩ | ⟨go, N, hN, step⟩
  · refine wpAny_passesOwn hp (thn (T.done X rfl rfl rfl hc i pins s3 σ3 H3 X.xe I3 (stat fr3) st3 stop) fun r s4 ⟨hr, I4⟩ => ?_)
    subst hr
    exact wpAny_execs_nil ⟨σ3, H3, I4, qn⟩
  · refine wpAny_passesOwn hp (thn (T.item X rfl rfl rfl hc i pins s3 σ3 H3 X.xe I3 (stat fr3) st3 go) fun r s4 ⟨u, hr, h4⟩ => ?_)
    subst hr
    refine wpAny_passesOwn hp (thn h4 fun _ s5 ⟨x, H5, I5, r5, y5, st5, fr5⟩ => ?_)
    have I5' := I5.pinned (stat fr5) (T.obj _ _ st5)
    refine wpAny_passesOwn hp (thn (hg _ s5 σ3 H5 x u _ I5' r5 (step x H5 y5)) fun _ s6 ⟨σ6, H6, I6, q6⟩ => ?_)
    refine wpAny_passesOwn hp (thn (hb _ s6 σ6 H6 _ I6 q6) fun f s7 q7 => ?_)
    have again : ∀ {σ7 : St} {H7 : Hp}, Inv X (pins ++ pinsAt fp s5.heap) σ7 H7 s7 → N σ7 H7 → ∃ m, m < n ∧ ∃ i σ' H', Inv X pins σ' H' s7 ∧ tn i s7.heap ∧ (∀ b ∈ fp, H' b = none) ∧ W i m σ' H' := fun {σ7 H7} I7 n7 => by
      obtain ⟨m', hm, w7⟩ := hN σ7 H7 n7
      refine ⟨m', hm, i + 1, σ7, H7, I7.unpinned, T.keep _ _ _ st5 fun b hb o e => (I7.pin (b, o) (List.mem_append_right _ (List.mem_append_right _ (mem_pinsAt hb e)))).1, fun b hb => ?_, w7⟩
      obtain ⟨o, e, d⟩ := T.obj _ _ st5 b hb
      exact (I7.pin (b, o) (List.mem_append_right _ (List.mem_append_right _ (mem_pinsAt hb e)))).2.1
    cases f with
    | next => obtain ⟨σ7, H7, I7, n7⟩ := q7; exact again I7 n7
    | cont => obtain ⟨σ7, H7, I7, n7⟩ := q7; exact again I7 n7
    | brk => obtain ⟨σ7, H7, I7, q7⟩ := q7; exact ⟨σ7, H7, I7.unpinned, q7⟩
    | ret v => obtain ⟨x7, σ7, H7, I7, r7, q7⟩ := q7; exact ⟨x7, σ7, H7, I7.unpinned, r7, q7⟩
end
/-! ### the forms one uses -/
theorem for_range {lo : Int} {n : Nat} {g : TG} {tb : TS} {D : Ends} {σ : St} {H : Hp} (Pv : Nat → St → Hp → Prop) (h0 : Pv 0 σ H)
    (hs : ∀ i σ H, i < n → Pv i σ H → g (.int (lo + i)) σ H fun σ2 H2 => tb { D with nx := Pv (i + 1), ct := Pv (i + 1), bk := D.nx } σ2 H2) (hd : ∀ σ H, Pv n σ H → D.nx σ H) :
    ∃ W : Nat → Nat → St → Hp → Prop, (∃ m, W 0 m σ H) ∧ ∀ i m σ H, W i m σ H →
      ((Itr lo n).stop i H ∧ D.nx σ H) ∨ ((Itr lo n).go i H ∧ ∃ N : St → Hp → Prop, (∀ σ' H', N σ' H' → ∃ m', m' < m ∧ W (i + 1) m' σ' H') ∧ ∀ x H', (Itr lo n).yld i H x H' → g x σ H' fun σ2 H2 => tb { D with nx := N, ct := N, bk := D.nx } σ2 H2) := by
  refine ⟨fun i m σ H => m = n - i ∧ i ≤ n ∧ Pv i σ H, ⟨n, by simp, Nat.zero_le _, h0⟩, ?_⟩
  rintro i m σ H ⟨rfl, hi, p⟩
  by_cases hlt : i < n
  · refine .inr ⟨hlt, Pv (i + 1), fun σ' H' p' => ⟨n - (i + 1), by omega, rfl, hlt, p'⟩, fun x H' y => ?_⟩
    obtain ⟨e, y⟩ := y
    subst e y
    exact hs i σ _ hlt p
  · have e : i = n := by omega
    subst e
    exact .inl ⟨Nat.le_refl _, hd σ H p⟩
theorem while_by {c : TT} {tb : TS} {D : Ends} {σ : St} {H : Hp} (Pv : St → Hp → Prop) (μ : St → Hp → Nat) (h0 : Pv σ H)
    (hs : ∀ σ H, Pv σ H → c σ H fun b H1 => if b = true then tb { D with nx := fun σ' H' => Pv σ' H' ∧ μ σ' H' < μ σ H, ct := fun σ' H' => Pv σ' H' ∧ μ σ' H' < μ σ H, bk := D.nx } σ H1 else D.nx σ H1)
    (mono : ∀ σ H Q Q', (∀ b H1, Q b H1 → Q' b H1) → c σ H Q → c σ H Q') : tWhile c tb D σ H := by
  refine ⟨fun m σ H => m = μ σ H ∧ Pv σ H, ⟨_, rfl, h0⟩, ?_⟩
  rintro m σ H ⟨rfl, p⟩
  refine mono σ H _ _ (fun b H1 q => ?_) (hs σ H p)
  cases b with
  | true => exact ⟨_, fun σ' H' ⟨p', l⟩ => ⟨_, l, rfl, p'⟩, q⟩
  | false => exact q
end L2
namespace L2
open PySem PySem.Spec PyProof.Rows
abbrev R2 := V → V → Hp → VK → Prop
def OpR (X : Cx) (f : Value → Value → Sem Value) (r : R2) : Prop :=
  ∀ (pins : List (Addr × Obj)) (s : Shared) (σ : St) (H : Hp) (x y : V) (v u : Value) (Q : VK), Inv X pins σ H s → RelV x v → RelV y u → r x y H Q →
    wpAny (model X.prog X.w) X.A (f v u) (EP X pins σ Q) X.xe s
def UnR (X : Cx) (f : Value → Sem Value) (r : V → Hp → VK → Prop) : Prop :=
  ∀ (pins : List (Addr × Obj)) (s : Shared) (σ : St) (H : Hp) (x : V) (v : Value) (Q : VK), Inv X pins σ H s → RelV x v → r x H Q →
    wpAny (model X.prog X.w) X.A (f v) (EP X pins σ Q) X.xe s
def CallR (X : Cx) (f : Value) (r : List V → Hp → VK → Prop) : Prop :=
  ∀ (pins : List (Addr × Obj)) (s : Shared) (σ : St) (H : Hp) (xs : List V) (us : List Value) (Q : VK), Inv X pins σ H s → Vals xs us → r xs H Q →
    wpAny (model X.prog X.w) X.A (call f us) (EP X pins σ Q) X.xe s
def tOp (r : R2) (ta tb : TE) : TE := fun σ H Q => ta σ H fun x H1 => tb σ H1 fun y H2 => r x y H2 Q
def tUn (r : V → Hp → VK → Prop) (ta : TE) : TE := fun σ H Q => ta σ H fun x H1 => r x H1 Q
def rI (C : Int → Int → Prop) (g : Int → Int → V) : R2 := fun x y H Q => ∃ i j, x = .int i ∧ y = .int j ∧ C i j ∧ Q (g i j) H
def rI0 (g : Int → Int → V) : R2 := fun x y H Q => ∃ i j, x = .int i ∧ y = .int j ∧ Q (g i j) H
def rU (g : Int → V) : V → Hp → VK → Prop := fun x H Q => ∃ i, x = .int i ∧ Q (g i) H
section
variable {X : Cx} {a b c : Expr} {ta tb tc : TE} {pos : Pos}
theorem binT (ha : PE X a ta) (hb : PE X b tb) {pins : List (Addr × Obj)} {s : Shared} {σ : St} {H : Hp} {R : V → V → Hp → Prop} (I : Inv X pins σ H s)
    (h : ta σ H fun x H1 => tb σ H1 fun y H2 => R x y H2) {Q : Value → Shared → Prop} {f : Value → Value → Sem Value}
    (hf : ∀ v u s2 x y H2, Inv X pins σ H2 s2 → RelV x v → RelV y u → R x y H2 → wpAny (model X.prog X.w) X.A (f v u) Q X.xe s2) :
    wpAny (model X.prog X.w) X.A (eval a X.env) (fun v s₁ => wpAny (model X.prog X.w) X.A (eval b X.env) (fun u s₂ => wpAny (model X.prog X.w) X.A (f v u) Q X.xe s₂) X.xe s₁) X.xe s := by
  refine thn (ha pins s σ H _ I h) fun v s1 ⟨x, H1, I1, r1, q1⟩ => ?_
  refine thn (hb pins s1 σ H1 _ I1 q1) fun u s2 ⟨y, H2, I2, r2, q2⟩ => ?_
  exact hf v u s2 x y H2 I2 r1 r2 q2
theorem pe_op {op : Operator} {r : R2} (ho : OpR X (binaryOp op) r) (ha : PE X a ta) (hb : PE X b tb) : PE X (.BinOp a op b pos) (tOp r ta tb) := by
  intro pins s σ H Q I h
  exact wpAny_BinOp (binT ha hb I h fun v u s2 x y H2 I2 rx ry q => ho pins s2 σ H2 x y v u Q I2 rx ry q)
theorem pe_un {op : UnaryOp} {r : V → Hp → VK → Prop} (ho : UnR X (unaryOp op) r) (ha : PE X a ta) : PE X (.UnaryOp op a pos) (tUn r ta) := by
  intro pins s σ H Q I h
  exact UnaryOp_ (thn (ha pins s σ H _ I h) fun v s1 ⟨x, H1, I1, r1, q1⟩ => ho pins s1 σ H1 x v Q I1 r1 q1)
/-! ### ints -/
theorem opI {f : Value → Value → Sem Value} {C : Int → Int → Prop} {g : Int → Int → Int}
    (rule : ∀ (i j : Int) (t u : Tok) (s : Shared) (Q : Value → Shared → Prop) (E : Value → Shared → Prop), C i j → Q (.int (g i j) s.toks) { s with toks := s.toks + 1 } → wpAny (model X.prog X.w) X.A (f (.int i t) (.int j u)) Q E s) :
    OpR X f (rI C fun i j => .int (g i j)) := by
  intro pins s σ H x y v u Q I rx ry h
  obtain ⟨i, j, rfl, rfl, hc, q⟩ := h
  obtain ⟨t, rfl⟩ := rx
  obtain ⟨t', rfl⟩ := ry
  exact rule i j t t' s _ _ hc ⟨.int (g i j), H, I.tok _, ⟨_, rfl⟩, q⟩
theorem opI0 {f : Value → Value → Sem Value} {g : Int → Int → Int}
    (rule : ∀ (i j : Int) (t u : Tok) (s : Shared) (Q : Value → Shared → Prop) (E : Value → Shared → Prop), Q (.int (g i j) s.toks) { s with toks := s.toks + 1 } → wpAny (model X.prog X.w) X.A (f (.int i t) (.int j u)) Q E s) :
    OpR X f (rI0 fun i j => .int (g i j)) := by
  intro pins s σ H x y v u Q I rx ry h
  obtain ⟨i, j, rfl, rfl, q⟩ := h
  obtain ⟨t, rfl⟩ := rx
  obtain ⟨t', rfl⟩ := ry
  exact rule i j t t' s _ _ ⟨.int (g i j), H, I.tok _, ⟨_, rfl⟩, q⟩
theorem opB0 {f : Value → Value → Sem Value} {g : Int → Int → Bool}
    (rule : ∀ (i j : Int) (t u : Tok) (s : Shared) (Q : Value → Shared → Prop) (E : Value → Shared → Prop), Q (.bool (g i j)) s → wpAny (model X.prog X.w) X.A (f (.int i t) (.int j u)) Q E s) :
    OpR X f (rI0 fun i j => .bl (g i j)) := by
  intro pins s σ H x y v u Q I rx ry h
  obtain ⟨i, j, rfl, rfl, q⟩ := h
  obtain ⟨t, rfl⟩ := rx
  obtain ⟨t', rfl⟩ := ry
  exact rule i j t t' s _ _ ⟨.bl (g i j), H, I, rfl, q⟩
def CPow (i j : Int) : Prop := 0 ≤ j ∧ j ≤ 1000000 ∧ i.natAbs < 2 ^ 64
theorem op_add : OpR X (binaryOp .Add) (rI0 fun i j => .int (i + j)) := opI0 fun _ _ _ _ _ _ _ q => add_int q
theorem op_sub : OpR X (binaryOp .Sub) (rI0 fun i j => .int (i - j)) := opI0 fun _ _ _ _ _ _ _ q => sub_int q
theorem op_mod : OpR X (binaryOp .Mod) (rI (fun _ j => 0 < j) fun i j => .int (i % j)) := opI fun i j _ _ _ _ _ hc q => by
  have h1 : (0 : Int) < j := hc
  exact mod_int' (by omega) (by rw [Int.fmod_eq_emod_of_nonneg i (by omega)]; exact q)
theorem op_pow : OpR X (binaryOp .Pow) (rI CPow fun i j => .int (i ^ j.toNat)) := opI fun _ _ _ _ _ _ _ hc q => pow_int_small hc.1 hc.2.1 hc.2.2 q
theorem unI {f : Value → Sem Value} {g : Int → Int}
    (rule : ∀ (i : Int) (t : Tok) (s : Shared) (Q : Value → Shared → Prop) (E : Value → Shared → Prop), Q (.int (g i) s.toks) { s with toks := s.toks + 1 } → wpAny (model X.prog X.w) X.A (f (.int i t)) Q E s) :
    UnR X f (rU fun i => .int (g i)) := by
  intro pins s σ H x v Q I rx h
  obtain ⟨i, rfl, q⟩ := h
  obtain ⟨t, rfl⟩ := rx
  exact rule i t s _ _ ⟨.int (g i), H, I.tok _, ⟨_, rfl⟩, q⟩
theorem un_neg : UnR X (unaryOp .USub) (rU fun i => .int (-i)) := unI fun _ _ _ _ _ q => neg_int q
/-! ### bools among ints: n += (a < b) -/
end
/-! ### comparisons -/
def scal : V → V → Bool
  | .non, .non => true | .non, .int _ => true | .int _, .non => true | .non, .bl _ => true | .bl _, .non => true | .non, .str _ => true | .str _, .non => true
  | .int _, .int _ => true | .bl _, .bl _ => true | .str _, .str _ => true | .byt _, .byt _ => true
  | .int _, .str _ => true | .str _, .int _ => true | .bl _, .str _ => true | .str _, .bl _ => true
  | _, _ => false
def rEq : R2 := fun x y H Q => scal x y = true ∧ Q (.bl (decide (x = y))) H
def rNe : R2 := fun x y H Q => scal x y = true ∧ Q (.bl (!decide (x = y))) H
theorem dec_int {i j : Int} : decide (V.int i = V.int j) = (i == j) := by
  rw [Bool.eq_iff_iff]
  simp
theorem dec_bl {i j : Bool} : decide (V.bl i = V.bl j) = (i == j) := by
  rw [Bool.eq_iff_iff]
  simp
theorem dec_str {i j : Str} : decide (V.str i = V.str j) = (i == j) := by
  rw [Bool.eq_iff_iff]
  simp
theorem dec_byt {i j : Array UInt8} : decide (V.byt i = V.byt j) = (i.toList == j.toList) := by
  rw [Bool.eq_iff_iff]
  cases i
  cases j
  simp
section
variable {X : Cx} {a b c : Expr} {ta tb tc : TE} {pos : Pos}
theorem fin_bl {pins : List (Addr × Obj)} {σ : St} {H : Hp} {s : Shared} {Q : VK} {k k' : Bool} (I : Inv X pins σ H s) (q : Q (.bl k) H) (e : k = k') : EP X pins σ Q (.bool k') s := by
  subst e
  exact ⟨.bl k, H, I, rfl, q⟩
theorem op_eq : OpR X (compareOp .Eq) rEq := by
  intro pins s σ H x y v u Q I rx ry h
  obtain ⟨hs, q⟩ := h
  cases x with
  | non =>
    cases rx
    cases y with
    | non => cases ry; exact PySem.EqNone.eq_none_none (fin_bl I q (by simp))
    | bl j => cases ry; exact PySem.EqNone.eq_none_bool (fin_bl I q (by simp))
    | int j => obtain ⟨t', rfl⟩ := ry; exact PySem.EqNone.eq_none_int (fin_bl I q (by simp))
    | str j => obtain ⟨t', rfl⟩ := ry; exact PySem.EqNone.eq_none_str (fin_bl I q (by simp))
    | _ => exact absurd (show false = true from hs) Bool.false_ne_true
  | bl i =>
    cases rx
    cases y with
    | non => cases ry; exact PySem.EqNone.eq_bool_none (fin_bl I q (by simp))
    | bl j => cases ry; exact eq_bool (fin_bl I q dec_bl)
    | str j => obtain ⟨t', rfl⟩ := ry; exact PySem.EqMixed.eq_bool_str (fin_bl I q (by simp))
    | _ => exact absurd (show false = true from hs) Bool.false_ne_true
  | int i =>
    obtain ⟨t, rfl⟩ := rx
    cases y with
    | non => cases ry; exact PySem.EqNone.eq_int_none (fin_bl I q (by simp))
    | int j => obtain ⟨t', rfl⟩ := ry; exact eq_int (fin_bl I q dec_int)
    | str j => obtain ⟨t', rfl⟩ := ry; exact PySem.EqMixed.eq_int_str (fin_bl I q (by simp))
    | _ => exact absurd (show false = true from hs) Bool.false_ne_true
  | str i =>
    obtain ⟨t, rfl⟩ := rx
    cases y with
    | non => cases ry; exact PySem.EqNone.eq_str_none (fin_bl I q (by simp))
    | bl j => cases ry; exact PySem.EqMixed.eq_str_bool (fin_bl I q (by simp))
    | int j => obtain ⟨t', rfl⟩ := ry; exact PySem.EqMixed.eq_str_int (fin_bl I q (by simp))
    | str j => obtain ⟨t', rfl⟩ := ry; exact eq_str (fin_bl I q dec_str)
    | _ => exact absurd (show false = true from hs) Bool.false_ne_true
  | byt i =>
    obtain ⟨t, rfl⟩ := rx
    cases y with
    | byt j => obtain ⟨t', rfl⟩ := ry; exact PySem.W.eq_bytes (fin_bl I q dec_byt)
    | _ => exact absurd (show false = true from hs) Bool.false_ne_true
  | _ => cases y <;> exact absurd (show false = true from hs) Bool.false_ne_true
theorem op_ne : OpR X (compareOp .NotEq) rNe := by
  intro pins s σ H x y v u Q I rx ry h
  obtain ⟨hs, q⟩ := h
  cases x with
  | non =>
    cases rx
    cases y with
    | non => cases ry; exact PySem.EqNone.ne_none_none (fin_bl I q (by simp))
    | bl j => cases ry; exact PySem.EqNone.ne_none_bool (fin_bl I q (by simp))
    | int j => obtain ⟨t', rfl⟩ := ry; exact PySem.EqNone.ne_none_int (fin_bl I q (by simp))
    | str j => obtain ⟨t', rfl⟩ := ry; exact PySem.EqNone.ne_none_str (fin_bl I q (by simp))
    | _ => exact absurd (show false = true from hs) Bool.false_ne_true
  | bl i =>
    cases rx
    cases y with
    | non => cases ry; exact PySem.EqNone.ne_bool_none (fin_bl I q (by simp))
    | bl j => cases ry; exact ne_bool (fin_bl I q (congrArg not dec_bl))
    | str j => obtain ⟨t', rfl⟩ := ry; exact PySem.EqMixed.ne_bool_str (fin_bl I q (by simp))
    | _ => exact absurd (show false = true from hs) Bool.false_ne_true
  | int i =>
    obtain ⟨t, rfl⟩ := rx
    cases y with
    | non => cases ry; exact PySem.EqNone.ne_int_none (fin_bl I q (by simp))
    | int j => obtain ⟨t', rfl⟩ := ry; exact ne_int (fin_bl I q (congrArg not dec_int))
    | str j => obtain ⟨t', rfl⟩ := ry; exact PySem.EqMixed.ne_int_str (fin_bl I q (by simp))
    | _ => exact absurd (show false = true from hs) Bool.false_ne_true
  | str i =>
    obtain ⟨t, rfl⟩ := rx
    cases y with
    | non => cases ry; exact PySem.EqNone.ne_str_none (fin_bl I q (by simp))
    | bl j => cases ry; exact PySem.EqMixed.ne_str_bool (fin_bl I q (by simp))
    | int j => obtain ⟨t', rfl⟩ := ry; exact PySem.EqMixed.ne_str_int (fin_bl I q (by simp))
    | str j => obtain ⟨t', rfl⟩ := ry; exact ne_str (fin_bl I q (congrArg not dec_str))
    | _ => exact absurd (show false = true from hs) Bool.false_ne_true
  | byt i =>
    obtain ⟨t, rfl⟩ := rx
    cases y with
    | byt j => obtain ⟨t', rfl⟩ := ry; exact PySem.W.ne_bytes (fin_bl I q (congrArg not dec_byt))
    | _ => exact absurd (show false = true from hs) Bool.false_ne_true
  | _ => cases y <;> exact absurd (show false = true from hs) Bool.false_ne_true
theorem op_lt : OpR X (compareOp .Lt) (rI0 fun i j => .bl (decide (i < j))) := opB0 fun _ _ _ _ _ _ _ q => lt_int q
theorem op_le : OpR X (compareOp .LtE) (rI0 fun i j => .bl (decide (i ≤ j))) := opB0 fun _ _ _ _ _ _ _ q => le_int q
theorem op_gt : OpR X (compareOp .Gt) (rI0 fun i j => .bl (decide (j < i))) := opB0 fun _ _ _ _ _ _ _ q => gt_int q
theorem op_ge : OpR X (compareOp .GtE) (rI0 fun i j => .bl (decide (j ≤ i))) := opB0 fun _ _ _ _ _ _ _ q => ge_int q
theorem op_notN : OpR X (compareOp .IsNot) (fun x y H Q => y = .non ∧ Q (.bl (!decide (x = .non))) H) := by
  intro pins s σ H x y v u Q I rx ry h
  obtain ⟨rfl, q⟩ := h
  cases ry
  refine isnot_none_gen (fin_bl I q ?_)
  cases x <;> first
    | (cases rx; rfl)
    | (obtain ⟨t, rfl⟩ := rx; rfl)
theorem nomark (b : Expr) {op : CmpOp} (h : op ≠ .In := by decide) (h2 : op ≠ .NotIn := by decide) : behindInMarks op b = false := by
  have e1 : (op == CmpOp.In) = false := by cases op <;> first | rfl | exact absurd rfl h
  have e2 : (op == CmpOp.NotIn) = false := by cases op <;> first | rfl | exact absurd rfl h2
  cases b <;> simp [behindInMarks, e1, e2]
theorem pe_cmpR {op : CmpOp} {r : R2} (ho : OpR X (compareOp op) r) (ha : PE X a ta) (hb : PE X b tb) (hm : behindInMarks op b = false) : PE X (.Compare a [op] [b] pos) (tOp r ta tb) := by
  intro pins s σ H Q I h
  exact wpAny_Compare1 (binT ha hb I h fun v u s2 x y H2 I2 rx ry q => ho pins s2 σ H2 x y v u Q I2 rx ry q) hm
def tTest (t : TE) : TT := fun σ H Q => t σ H fun x H' => ∃ k, x = .bl k ∧ Q k H'
theorem pt_cmpR {op : CmpOp} {r : R2} (ho : OpR X (compareOp op) r) (ha : PE X a ta) (hb : PE X b tb) (hm : behindInMarks op b = false) : PT X (.Compare a [op] [b] pos) (tTest (tOp r ta tb)) := by
  intro pins s σ H Q I h
  refine wpAny_isTrue_Compare1 (thn (ha pins s σ H _ I h) fun v s1 ⟨x, H1, I1, r1, q1⟩ => thn (hb pins s1 σ H1 _ I1 q1) fun u s2 ⟨y, H2, I2, r2, q2⟩ =>
    thn (ho pins s2 σ H2 x y v u _ I2 r1 r2 q2) fun c s3 ⟨z, H3, I3, r3, k, e, q3⟩ => ?_) hm
  subst e
  cases r3
  exact wpAny_truthy_bool ⟨H3, I3, q3⟩
/-! ### truth -/
theorem line63 : (sizeLine : Nat) < 2 ^ 63 := by rw [sizeLine_eq]; decide
/-! ### strs and bytes -/
/-! ### scalar builtins, by CallR -/
theorem vals1 {x : V} {us : List Value} (r : Vals [x] us) : ∃ u, us = [u] ∧ RelV x u := by
  cases r with
  | cons r1 r2 => cases r2; exact ⟨_, rfl, r1⟩
theorem vals2 {x y : V} {us : List Value} (r : Vals [x, y] us) : ∃ u w', us = [u, w'] ∧ RelV x u ∧ RelV y w' := by
  cases r with
  | cons r1 r2 =>
    cases r2 with
    | cons r3 r4 => cases r4; exact ⟨_, _, rfl, r1, r3⟩
theorem call_abs : CallR X (.builtin "abs") (fun xs H Q => ∃ i, xs = [.int i] ∧ Q (.int (if i < 0 then -i else i)) H) := by
  intro pins s σ H xs us Q I r h
  obtain ⟨i, rfl, q⟩ := h
  obtain ⟨u, rfl, t, rfl⟩ := vals1 r
  exact call_abs_int fun u tk => ⟨.int (if i < 0 then -i else i), H, I.tok _, ⟨_, rfl⟩, q⟩
theorem call_max2 (hc : X.calm = true) : CallR X (.builtin "max") (fun xs H Q => ∃ i j, xs = [.int i, .int j] ∧ Q (.int (if j > i then j else i)) H) := by
  intro pins s σ H xs us Q I r h
  obtain ⟨i, j, rfl, q⟩ := h
  obtain ⟨u, w', rfl, ⟨t, rfl⟩, ⟨t', rfl⟩⟩ := vals2 r
  refine max_two_ints (I.ok.hd hc) fun h' tk k => ⟨_, H, I.kept k, ?_, q⟩
  by_cases hj : j > i
  · rw [if_pos hj, if_pos hj]; exact ⟨_, rfl⟩
  · rw [if_neg hj, if_neg hj]; exact ⟨_, rfl⟩
theorem call_min2 (hc : X.calm = true) : CallR X (.builtin "min") (fun xs H Q => ∃ i j, xs = [.int i, .int j] ∧ Q (.int (if j < i then j else i)) H) := by
  intro pins s σ H xs us Q I r h
  obtain ⟨i, j, rfl, q⟩ := h
  obtain ⟨u, w', rfl, ⟨t, rfl⟩, ⟨t', rfl⟩⟩ := vals2 r
  refine min_two_ints (I.ok.hd hc) fun h' tk k => ⟨_, H, I.kept k, ?_, q⟩
  by_cases hj : j < i
  · rw [if_pos hj, if_pos hj]; exact ⟨_, rfl⟩
  · rw [if_neg hj, if_neg hj]; exact ⟨_, rfl⟩
end
end L2
namespace L2
open PySem PySem.Spec PyProof.Rows
/-! ### an instance, its attributes a map -/
structure ObjM (h : Heap) (x dx C : Addr) (mA : Str → Option Value) : Prop where
  obj : h.get? x = some (PySem.W.instObj C dx)
  ns : h.Ns1 dx mA
  ne : dx ≠ x
theorem lookIn_ns {h : Heap} {dx : Addr} {mA : Str → Option Value} (n : h.Ns1 dx mA) : ∃ od, h.get? dx = some od ∧ ∀ name, PySem.W.lookIn name od = some (mA name) := by
  obtain ⟨o, es, ep, ho, hd, hk, _, hm⟩ := n
  refine ⟨o, ho, fun name => ?_⟩
  have e := hm name
  unfold nsFind findBy at e
  rw [← Array.find?_toList] at e
  unfold PySem.W.lookIn
  rw [hd]
  dsimp only
  split
  · rename_i y q
    rw [q] at e
    exact congrArg some e
  · rename_i q
    rw [q] at e
    have a : es.toList.any (·.refKey) = false := by
      rw [List.any_eq_false]
      intro y hy
      obtain ⟨z, t, hkey⟩ := hk y (Array.mem_toList_iff.mp hy)
      simp [DictEntry.refKey, hkey]
    have a' : ¬ es.toList.any (·.refKey) = true := by rw [a]; exact Bool.false_ne_true
    rw [if_neg a']
    exact congrArg some e
theorem ObjM.look {h : Heap} {x dx C : Addr} {mA : Str → Option Value} (I : ObjM h x dx C mA) : ∃ od, PySem.W.InstAt h x (PySem.W.instObj C dx) C (some od) ∧ ∀ name, PySem.W.lookIn name od = some (mA name) :=
  let ⟨od, ho, hl⟩ := lookIn_ns I.ns
  ⟨od, ⟨I.obj, rfl, rfl, ho⟩, hl⟩
section
variable {prog : Program} {w : World} {A : Around} {E : Value → Shared → Prop} {s : Shared} {K : PySem.W.Frag} {x dx C f : Addr} {mA : Str → Option Value} {name : Str} {v : Value}
theorem get_map {expr : Bool} {Q : Value → Shared → Prop} (X : K.In s.heap) (I : ObjM s.heap x dx C mA) (hg : PySem.W.plainGet K C name = true) (hh : PySem.W.hasDictIn K C = true)
    (ha : PySem.W.findIn K (.ref C) name = some none) (hv : mA name = some v) (hv' : PySem.W.handedIn v = true) (h : Q v { s with toks := s.toks + 1 }) :
    wpAny (model prog w) A (getAttr (.ref x) name expr) Q E s := by
  obtain ⟨od, J, hl⟩ := I.look
  exact PySem.W.get_value X J (PySem.W.plainGet_of hg).1 (PySem.W.findObj_own hh ha rfl (by rw [hl, hv])) hv' h
theorem get_meth {pl : Sem Bool} {Q : Value × List Value → Shared → Prop} (X : K.In s.heap) (I : ObjM s.heap x dx C mA) (hg : PySem.W.plainGet K C name = true)
    (hf : PySem.W.findIn K (.ref C) name = some (some (.ref f))) (ht : PySem.W.isFn K (.ref f) = true) (hv : mA name = none) (h : Q (.ref f, [.ref x]) s) :
    wpAny (model prog w) A (getMethod (.ref x) name pl) Q E s := by
  obtain ⟨od, J, hl⟩ := I.look
  exact PySem.W.method_fn X J (PySem.W.plainGet_of hg).1 (PySem.W.plainGet_of hg).2 hf (beq_iff_eq.mp ht) (by show (PySem.W.lookIn name od).map (·.isSome) = some false; rw [hl, hv]; rfl) h
theorem set_map {ns : List Str} {Q : Unit → Shared → Prop} (X : K.In s.heap) (I : ObjM s.heap x dx C mA)
    (hs : PySem.W.findIn K (.ref C) "__setattr__" = some (some (.builtin "object.__setattr__"))) (hp : PySem.W.plainOver K C = true) (ht : PySem.W.takerIn K C name = some none) (hh : PySem.W.hasDictIn K C = true)
    (hw : PySem.Within mA ns) (hsz : ns.length ≤ sizeLine)
    (h : ∀ h', ObjM h' x dx C (fun y => if y = name then some v else mA y) → Heap.SameBut dx s.heap h' → Q () { s with heap := h', toks := s.toks + 2 }) :
    wpAny (model prog w) A (setAttr (.ref x) name v) Q E s := by
  obtain ⟨od, J, hl⟩ := I.look
  refine PySem.W.set_plain X J hs (PySem.W.osa_open (s := { s with toks := s.toks + 1 }) (r := none) X J hp ht fun b => ?_)
  obtain ⟨cd, hc, hd'⟩ := PySem.W.any_some hh
  have hx : s.heap.get? x = some ⟨.ref C, some dx, .plain, #[]⟩ := I.obj
  refine wpAny_bind (wpAny_pure (wpAny_bind (wpAny_bind (wpAny_loadPart hx (wpAny_bind (PySem.W.Looks.here (s := { s with toks := s.toks + 1 }) (PySem.W.looks_clsIn X hc) ?_))))))
  rw [hd']
  refine wpAny_pure (a := some dx) (wpAny_bind (wpAny_pure (wpAny_bind ?_)))
  refine wpAny_nsSet1 (s := { s with toks := s.toks + 1 }) I.ns fun h' hn2 hs2 => ?_
  obtain ⟨oD, esD, epD, hoD, hdD, hcD⟩ := hn2.count (PySem.Within.cons name v hw)
  refine wpAny_bind (wpAny_lookBehind hoD (by rw [hdD]; exact pastItsLine_dict (Nat.le_trans hcD (by rw [List.length_cons]; omega))) ?_)
  exact wpAny_pure (h _ ⟨(hs2.2 _ (Ne.symm I.ne)).trans I.obj, hn2, I.ne⟩ hs2)
theorem make_map {R : Result → Shared → Prop} {vs : List Value} {kw : List (Str × Value)} (X : K.In s.heap) (hm : PySem.W.makesIn K C = true)
    (hi : PySem.W.findIn K (.ref C) "__init__" = some (some (.ref f))) (hf : PySem.W.typeIn K (.ref f) = some (.type "function"))
    (h : codeAny (model prog w) (A.under (.builtin "type.__call__" ⟨.ref C :: vs, kw⟩)) (.call (.ref f) ⟨.ref (s.heap.objs.size + 1) :: vs, kw⟩) (PySem.W.InitBack (s.heap.objs.size + 1) R)
      { s with heap := (s.heap.push PySem.W.emptyDict).push (PySem.W.instObj C s.heap.objs.size) }) :
    codeAny (model prog w) A (.call (.ref C) ⟨vs, kw⟩) R s := by
  obtain ⟨hh, g, d, t, os⟩ := s
  exact PySem.W.make_core (PySem.W.makes_of X hm) (PySem.W.looks_findIn X hi) (fun self => PySem.W.bind_fn X self hf) (.inl rfl) h
end
/-! ### the attributes as a list of pairs -/
def putF (f : Str) (v : V) : List (Str × V) → List (Str × V)
  | [] => [(f, v)]
  | (g, x) :: r => if g = f then (g, v) :: r else (g, x) :: putF f v r
theorem lookup_putF (f g : Str) (v : V) : ∀ fs : List (Str × V), (putF f v fs).lookup g = if g = f then some v else fs.lookup g
  | [] => by
    show List.lookup g [(f, v)] = _
    by_cases h : g = f
    · have hb : (g == f) = true := beq_iff_eq.mpr h
      simp only [List.lookup, hb, if_pos h]
    · have hb : (g == f) = false := beq_eq_false_iff_ne.mpr h
      simp only [List.lookup, hb, if_neg h]
  | (k, x) :: r => by
    have ih := lookup_putF f g v r
    rw [show putF f v ((k, x) :: r) = (if k = f then (k, v) :: r else (k, x) :: putF f v r) from rfl]
    by_cases hk : k = f
    · rw [if_pos hk]
      by_cases h : g = k
      · have hb : (g == k) = true := beq_iff_eq.mpr h
        simp only [List.lookup, hb, if_pos (h.trans hk)]
      · have hb : (g == k) = false := beq_eq_false_iff_ne.mpr h
        simp only [List.lookup, hb, if_neg (fun e : g = f => h (e.trans hk.symm))]
    · rw [if_neg hk]
      by_cases h : g = k
      · have hb : (g == k) = true := beq_iff_eq.mpr h
        simp only [List.lookup, hb, if_neg (fun e : g = f => hk (h.symm.trans e))]
      · have hb : (g == k) = false := beq_eq_false_iff_ne.mpr h
        simp only [List.lookup, hb]
        exact ih
theorem keys_putF (f : Str) (v : V) : ∀ fs : List (Str × V), f ∈ (putF f v fs).map (·.1) ∧ ∀ g, g ∈ fs.map (·.1) → g ∈ (putF f v fs).map (·.1)
  | [] => ⟨by simp [putF], fun g h => by simp at h⟩
  | (k, x) :: r => by
    obtain ⟨i1, i2⟩ := keys_putF f v r
    rw [show putF f v ((k, x) :: r) = (if k = f then (k, v) :: r else (k, x) :: putF f v r) from rfl]
    by_cases hk : k = f
    · rw [if_pos hk]
      subst hk
      exact ⟨by simp, fun g h => by simpa using h⟩
    · rw [if_neg hk]
      refine ⟨?_, fun g h => ?_⟩
      · rw [List.map_cons]
        exact List.mem_cons_of_mem _ i1
      · rw [List.map_cons] at h ⊢
        rcases List.mem_cons.mp h with e | e
        · exact List.mem_cons.mpr (.inl e)
        · exact List.mem_cons_of_mem _ (i2 g e)
theorem length_putF (f : Str) (v : V) : ∀ fs : List (Str × V), (putF f v fs).length ≤ fs.length + 1
  | [] => by simp [putF]
  | (k, x) :: r => by
    have ih := length_putF f v r
    rw [show putF f v ((k, x) :: r) = (if k = f then (k, v) :: r else (k, x) :: putF f v r) from rfl]
    by_cases hk : k = f
    · rw [if_pos hk, List.length_cons, List.length_cons]; omega
    · rw [if_neg hk, List.length_cons, List.length_cons]; omega
theorem RelO.some_of {v : V} {o : Option Value} (r : RelO (some v) o) : ∃ u, o = some u ∧ RelV v u := by
  cases o with
  | none => exact (show False from r).elim
  | some u => exact ⟨u, rfl, r⟩
theorem RelO.none_of {o : Option Value} (r : RelO none o) : o = none := by
  cases o with
  | none => rfl
  | some u => exact (show False from r).elim
theorem handed_of {v : V} {u : Value} (r : RelV v u) : PySem.W.handedIn u = true := by
  cases v with
  | non => cases (show u = Value.none from r); rfl
  | bl b => cases (show u = Value.bool b from r); rfl
  | int i => obtain ⟨t, e⟩ := (show ∃ t, u = Value.int i t from r); cases e; rfl
  | str x => obtain ⟨t, e⟩ := (show ∃ t, u = Value.str x t from r); cases e; rfl
  | byt b => obtain ⟨t, e⟩ := (show ∃ t, u = Value.bytes b t from r); cases e; rfl
  | flt b => obtain ⟨t, e⟩ := (show ∃ t, u = Value.float b t from r); cases e; rfl
  | ref a => cases (show u = Value.ref a from r); rfl
  | ty n => cases (show u = Value.type n from r); rfl
section
variable {P : Program} {w : World} {H H' : Hp} {h h' : Heap} {a C dx : Addr} {fs fs' : List (Str × V)}
theorem ins_get (hok : HOk P w H h) (e : H a = some (.ins C dx fs)) : ∃ mA, ObjM h a dx C mA ∧ (∀ f, RelO (fs.lookup f) (mA f)) ∧ PySem.Within mA (fs.map (·.1)) ∧ fs.length ≤ 1000 ∧ H dx = some (.own a) := by
  obtain ⟨d, z, ne, ob, mA, n, r, q⟩ := (show ObjOk P w H h a (.ins C dx fs) from hok a _ e)
  exact ⟨mA, ⟨ob, n, ne⟩, r, q, z, d⟩
end
/-! ### what of the text a class must have -/
structure Cls (K : PySem.W.Frag) (C : Addr) : Prop where
  pg : PySem.W.plainGet K C Str.empty = true
  hd : PySem.W.hasDictIn K C = true
  po : PySem.W.plainOver K C = true
  sa : PySem.W.findIn K (.ref C) "__setattr__" = some (some (.builtin "object.__setattr__"))
theorem Cls.get {K : PySem.W.Frag} {C : Addr} (c : Cls K C) (f : Str) : PySem.W.plainGet K C f = true := c.pg
def NoAttr (K : PySem.W.Frag) (C : Addr) (f : Str) : Prop := PySem.W.findIn K (.ref C) f = some none
theorem NoAttr.taker {K : PySem.W.Frag} {C : Addr} {f : Str} (n : NoAttr K C f) : PySem.W.takerIn K C f = some none := by
  unfold PySem.W.takerIn
  rw [show PySem.W.findIn K (.ref C) f = some none from n]
  rfl
structure Meth (K : PySem.W.Frag) (C : Addr) (m : Str) (f : Addr) : Prop where
  at_ : PySem.W.findIn K (.ref C) m = some (some (.ref f))
  fn : PySem.W.isFn K (.ref f) = true
  kp : PySem.W.keepIn K (.ref f) = true
section
variable {X : Cx} {pins : List (Addr × Obj)} {σ : St} {H : Hp} {s : Shared} {a C dx : Addr} {fs : List (Str × V)} {f : Str} {v : V} {A : Around} {E : Value → Shared → Prop}
theorem getattr_ok {b : Bool} {Q : Value → Shared → Prop} (I : Inv X pins σ H s) (e : H a = some (.ins C dx fs)) (c : Cls X.K C) (n : NoAttr X.K C f) (l : fs.lookup f = some v)
    (h : ∀ u s', Inv X pins σ H s' → RelV v u → Q u s') : wpAny (model X.prog X.w) A (getAttr (.ref a) f b) Q E s := by
  obtain ⟨mA, O, r, _, _, _⟩ := ins_get I.hok e
  obtain ⟨u, hu, ru⟩ := RelO.some_of (v := v) (o := mA f) (by rw [← l]; exact r f)
  exact get_map I.kIn O (c.get f) c.hd n hu (handed_of ru) (h u _ (I.tok _) ru)
theorem getmeth_ok {m : Str} {g : Addr} {pl : Sem Bool} {Q : Value × List Value → Shared → Prop} (I : Inv X pins σ H s) (e : H a = some (.ins C dx fs)) (c : Cls X.K C) (k : Meth X.K C m g) (l : fs.lookup m = none)
    (h : Q (.ref g, [.ref a]) s) : wpAny (model X.prog X.w) A (getMethod (.ref a) m pl) Q E s := by
  obtain ⟨mA, O, r, _, _, _⟩ := ins_get I.hok e
  have hn : mA m = none := RelO.none_of (by rw [← l]; exact r m)
  exact get_meth I.kIn O (c.get m) k.at_ k.fn hn h
theorem setattr_ok {y : V} {u : Value} {Q : Unit → Shared → Prop} (I : Inv X pins σ H s) (e : H a = some (.ins C dx fs)) (c : Cls X.K C) (n : NoAttr X.K C f) (hl : fs.length < 1000) (ry : RelV y u)
    (h : ∀ s', Inv X pins σ (upd H a (.ins C dx (putF f y fs))) s' → Q () s') : wpAny (model X.prog X.w) A (setAttr (.ref a) f u) Q E s := by
  obtain ⟨mA, O, r, wi, _, ho⟩ := ins_get I.hok e
  have hz : (fs.map (·.1)).length ≤ sizeLine := by rw [List.length_map, sizeLine_eq]; omega
  refine set_map I.kIn O c.sa c.po n.taker c.hd wi hz fun h' O' sb => h _ ?_
  have hd : ∃ o, h'.get? dx = some o := let ⟨o, _, _, e', _⟩ := O'.ns; ⟨o, e'⟩
  refine I.write (x := a) (e := dx) (by rw [e]; exact True.intro) (.inr ho) (fun b q hb z => (sb.2 b hb).trans z) hd ?_
  refine ⟨by rw [upd_ne O.ne]; exact ho, ?_, O.ne, O'.obj, _, O'.ns, fun g => ?_, fun g hg => ?_⟩
  · have := length_putF f y fs; omega
  · show RelO ((putF f y fs).lookup g) (if g = f then some u else mA g)
    rw [lookup_putF]
    by_cases q : g = f
    · rw [if_pos q, if_pos q]; exact ry
    · rw [if_neg q, if_neg q]; exact r g
  · by_cases q : g = f
    · rw [q]; exact (keys_putF f y fs).1
    · refine (keys_putF f y fs).2 g (wi g fun z => hg ?_)
      show (if g = f then some u else mA g) = none
      rw [if_neg q]; exact z
theorem Inv.made (I : Inv X pins σ H s) : Inv X pins σ (upd (upd H s.heap.objs.size (.own (s.heap.objs.size + 1))) (s.heap.objs.size + 1) (.ins C s.heap.objs.size []))
    { s with heap := (s.heap.push PySem.W.emptyDict).push (PySem.W.instObj C s.heap.objs.size) } := by
  have e1 : (s.heap.push PySem.W.emptyDict).get? s.heap.objs.size = some PySem.W.emptyDict := Heap.get?_push_size s.heap rfl
  have e2 : ((s.heap.push PySem.W.emptyDict).push (PySem.W.instObj C s.heap.objs.size)).get? (s.heap.objs.size + 1) = some (PySem.W.instObj C s.heap.objs.size) := by
    have := Heap.get?_push_size (s.heap.push PySem.W.emptyDict) (o := PySem.W.instObj C s.heap.objs.size) rfl
    rwa [Heap.size_push] at this
  have e3 : (s.heap.push PySem.W.emptyDict).Ns s.heap.objs.size (fun _ => none) := ⟨PySem.W.emptyDict, #[], _, e1, rfl, (fun e he => absurd he (by simp)), fun _ => rfl⟩
  have I1 := I.laid (a := s.heap.objs.size) (o := .own (s.heap.objs.size + 1)) (h' := s.heap.push PySem.W.emptyDict) (t' := s.toks) (fun b u q => Heap.get?_push_of_some _ q) (Nat.le_refl _) ⟨_, e1⟩
  refine I1.laid (a := s.heap.objs.size + 1) (o := .ins C s.heap.objs.size []) (t' := s.toks) (fun b u q => Heap.get?_push_of_some _ q) (Nat.le_of_eq (Heap.size_push _ _)) ?_
  have ne : s.heap.objs.size ≠ s.heap.objs.size + 1 := Nat.ne_of_lt (Nat.lt_succ_self _)
  refine ⟨by rw [upd_ne ne, upd_same], Nat.zero_le _, ne, e2, fun _ => none, (Heap.Ns1.of_empty e3).at fun o q => Heap.get?_push_of_some _ q, fun _ => True.intro, fun y hy => absurd rfl hy⟩
theorem attr_of {prog : Program} {w : World} {env : Env} {e : Expr} {f : Str} {pos : Pos} {s : Shared} {Q : Value → Shared → Prop} (hb : attributeBase e f env (eval e env) = eval e env)
    (h : wpAny (model prog w) A (eval e env) (fun o s₁ => wpAny (model prog w) A (getAttr o f true) Q E s₁) E s) : wpAny (model prog w) A (eval (.Attribute e f pos) env) Q E s :=
  Attribute_any_ h (by rw [arm_eval_Attribute, hb])
end
/-! ### readings and rules -/
def tFld (K : PySem.W.Frag) (ta : TE) (f : Str) : TE := fun σ H Q => ta σ H fun x H1 => ∃ a C dx fs v, x = .ref a ∧ H1 a = some (.ins C dx fs) ∧ Cls K C ∧ NoAttr K C f ∧ fs.lookup f = some v ∧ Q v H1
def sFld (K : PySem.W.Frag) (ta tv : TE) (f : Str) : TS := fun D σ H => tv σ H fun y H1 => ta σ H1 fun x H2 => ∃ a C dx fs, x = .ref a ∧ H2 a = some (.ins C dx fs) ∧ Cls K C ∧ NoAttr K C f ∧ fs.length < 1000 ∧
  D.nx σ (upd H2 a (.ins C dx (putF f y fs)))
section
variable {X : Cx} {o e value : Expr} {f : Str} {pos pos' tpos : Pos} {ta tv : TE}
theorem pe_fld (he : PE X e ta) (hb : attributeBase e f X.env (eval e X.env) = eval e X.env) : PE X (.Attribute e f pos) (tFld X.K ta f) := by
  intro pins s σ H Q I h
  refine attr_of hb (thn (he pins s σ H _ I h) fun u s1 ⟨x, H1, I1, rx, a, C, dx, fs, v, ex, ea, c, n, l, q⟩ => ?_)
  subst ex
  obtain rfl : u = Value.ref a := rx
  exact getattr_ok I1 ea c n l fun u' s2 I2 ru => ⟨v, H1, I2, ru, q⟩
theorem ps_fld (ha : PE X o ta) (hv : PE X value tv) (hs : swapsWith value (some (.Attribute o f pos')) pos.line X.env = pure false) : PS X (.Assign [.Attribute o f pos'] value pos) (sFld X.K ta tv f) := by
  intro pins s σ H D I h
  refine plainObj_wpAny_Assign_Attribute (thn (hv pins s σ H _ I h) fun u s1 ⟨y, H1, I1, ry, q⟩ => thn (ha pins s1 σ H1 _ I1 q) fun ov s2 ⟨x, H2, I2, rx, a, C, dx, fs, ex, ea, c, n, l, q2⟩ => ?_) hs
  subst ex
  obtain rfl : ov = Value.ref a := rx
  exact setattr_ok I2 ea c n l ry fun s3 I3 => ⟨σ, _, I3, q2⟩
end
/-! ### isinstance -/
section
variable {X : Cx} {pins : List (Addr × Obj)} {σ : St} {H : Hp} {s : Shared} {A : Around} {E : Value → Shared → Prop} {Q : Value → Shared → Prop} {c : Value} {b : Bool}
inductive TyOf (K : PySem.W.Frag) (H : Hp) : V → Value → Prop where
  | non : TyOf K H .non (.type "NoneType")
  | bl (x : Bool) : TyOf K H (.bl x) (.type "bool")
  | int (i : Int) : TyOf K H (.int i) (.type "int")
  | str (x : Str) : TyOf K H (.str x) (.type "str")
  | flt (x : UInt64) : TyOf K H (.flt x) (.type "float")
  | lst {a : Addr} {xs : List V} (e : H a = some (.lst xs)) : TyOf K H (.ref a) (.type "list")
  | frz {a : Addr} {o : Obj} {xs : List V} (e : H a = some (.frz o (.lst xs))) : TyOf K H (.ref a) (.type "list")
  | tup {a : Addr} {xs : List V} (e : H a = some (.tup xs)) : TyOf K H (.ref a) (.type "tuple")
  | dK {a : Addr} {kvs : List (Key × V)} (e : H a = some (.dK kvs)) : TyOf K H (.ref a) (.type "dict")
  | dT {a : Addr} {kvs : List (List Key × V)} (e : H a = some (.dT kvs)) : TyOf K H (.ref a) (.type "dict")
  | ins {a C dx : Addr} {fs : List (Str × V)} (e : H a = some (.ins C dx fs)) (cl : Cls K C) (ha : PySem.W.findIn K (.ref C) "__class__" = some (some (.builtin "object.__class__")))
      (hn : PySem.W.specialIn K (.builtin "object.__class__") "__get__" = some (some (.builtin "getset_descriptor.__get__"))) (htk : PySem.W.takesIn K (.builtin "object.__class__") = some true)
      (hm : PySem.W.mroIn K C (.type "object") = some true) : TyOf K H (.ref a) (.ref C)
theorem isinst_ok {x : V} {u t : Value} (I : Inv X pins σ H s) (rx : RelV x u) (ty : TyOf X.K H x t) (e : PySem.W.kitOne X.K t c = some b) (h : ∀ tk, Q (.bool b) { s with toks := tk }) :
    wpAny (model X.prog X.w) A (call (.builtin "isinstance") [u, c]) Q E s := by
  cases ty with
  | non => cases (show u = Value.none from rx); exact PySem.W.kia_one PySem.W.kitx_none I.kIn True.intro e (fun z => nomatch z) h
  | bl y => cases (show u = Value.bool y from rx); exact PySem.W.kia_one PySem.W.kitx_bool I.kIn True.intro e (fun z => nomatch z) h
  | int i => obtain ⟨t, q⟩ := (show ∃ t, u = Value.int i t from rx); cases q; exact PySem.W.kia_one PySem.W.kitx_int I.kIn True.intro e (fun z => nomatch z) h
  | str y => obtain ⟨t, q⟩ := (show ∃ t, u = Value.str y t from rx); cases q; exact PySem.W.kia_one PySem.W.kitx_str I.kIn True.intro e (fun z => nomatch z) h
  | flt y => obtain ⟨t, q⟩ := (show ∃ t, u = Value.float y t from rx); cases q; exact PySem.W.kia_one PySem.W.kitx_float I.kIn True.intro e (fun z => nomatch z) h
  | @lst a xs ea =>
    cases (show u = Value.ref a from rx)
    obtain ⟨_, _, n, _, h1⟩ := (show ObjOk X.prog X.w H s.heap a (.lst xs) from I.hok a _ ea)
    exact PySem.W.kia_one PySem.W.kitx_list I.kIn ⟨_, h1, rfl⟩ e (fun z => nomatch z) h
  | @frz a ob xs ea =>
    cases (show u = Value.ref a from rx)
    obtain ⟨_, _, _, n, _, h1⟩ := (show ObjOk X.prog X.w H s.heap a (.frz ob (.lst xs)) from I.hok a _ ea)
    exact PySem.W.kia_one PySem.W.kitx_list I.kIn ⟨_, h1, rfl⟩ e (fun z => nomatch z) h
  | @tup a xs ea =>
    cases (show u = Value.ref a from rx)
    obtain ⟨_, _, _, p⟩ := (show ObjOk X.prog X.w H s.heap a (.tup xs) from I.hok a _ ea)
    obtain ⟨o, h1, h2, _⟩ := p
    exact PySem.W.kia_one PySem.W.kitx_tuple I.kIn ⟨o, h1, h2⟩ e (fun z => nomatch z) h
  | @dK a kvs ea =>
    cases (show u = Value.ref a from rx)
    obtain ⟨_, _, vs, _, p⟩ := (show ObjOk X.prog X.w H s.heap a (.dK kvs) from I.hok a _ ea)
    obtain ⟨o, es, ep, h1, h2, _⟩ := p
    exact PySem.W.kia_one PySem.W.kitx_dict I.kIn ⟨o, h1, h2.1⟩ e (fun z => nomatch z) h
  | @dT a kvs ea =>
    cases (show u = Value.ref a from rx)
    obtain ⟨_, _, xs, _, o, es, ep, h1, h2, _⟩ := (show ObjOk X.prog X.w H s.heap a (.dT kvs) from I.hok a _ ea)
    exact PySem.W.kia_one PySem.W.kitx_dict I.kIn ⟨o, h1, h2.1⟩ e (fun z => nomatch z) h
  | @ins a C dx fs ea cl ha hn htk hm =>
    cases (show u = Value.ref a from rx)
    obtain ⟨mA, O, _⟩ := ins_get I.hok ea
    obtain ⟨od, J, _⟩ := O.look
    exact PySem.W.kia_one (PySem.W.kitx_own (cl.get _) cl.hd ha hn htk hm) I.kIn J e (fun z => nomatch z) h
end
end L2
namespace L2
open PySem PySem.Spec PyProof.Rows
/-! ### room -/
structure Room (k : Nat) (A : Around) : Prop where
  hd : A.handled = none
  dp : A.depth + 3 * k + 5 < recursionLimit
  un : A.units + 16 * k + 200 < cLine
theorem Room.mono {j k : Nat} {A : Around} (r : Room k A) (h : j ≤ k) : Room j A := ⟨r.hd, by have := r.dp; omega, by have := r.un; omega⟩
theorem Room.deeper {k : Nat} {A : Around} (r : Room (k + 1) A) (env : Env) : Room k (A.deeper env) :=
  ⟨r.hd, by have := r.dp; show A.depth + 1 + 3 * k + 5 < _; omega, by have := r.un; show A.units + 3 + 16 * k + 200 < _; omega⟩
theorem make_depth {A : Around} {C : Addr} {us : List Value} {kw : List (Str × Value)} : (A.under (.builtin "type.__call__" ⟨.ref C :: us, kw⟩)).depth = A.depth + 1 := by
  first | rfl | simp [Around.under, Code.weight, Code.isCreation, Code.isGuard, Code.isCaller, Code.frames, Code.isFrame, guardIds]
theorem make_units {A : Around} {C : Addr} {us : List Value} {kw : List (Str × Value)} : (A.under (.builtin "type.__call__" ⟨.ref C :: us, kw⟩)).units = A.units + 1 := by
  first | rfl | simp [Around.under, Code.cUnits, Code.frames, Code.isFrame]
theorem Room.make {k : Nat} {A : Around} (r : Room (k + 1) A) (C : Addr) (us : List Value) (kw : List (Str × Value)) : Room k (A.under (.builtin "type.__call__" ⟨.ref C :: us, kw⟩)) :=
  ⟨r.hd, by have := r.dp; rw [make_depth]; omega, by have := r.un; rw [make_units]; omega⟩
theorem Room.depth {k : Nat} {A : Around} (r : Room k A) : A.depth < recursionLimit := by have := r.dp; omega
/-! ### argument lists and displays -/
def tNil : TA := fun _ H Q => Q [] H
def tCons (ta : TE) (tr : TA) : TA := fun σ H Q => ta σ H fun x H1 => tr σ H1 fun xs H2 => Q (x :: xs) H2
section
variable {X : Cx} {e : Expr} {es : List Expr} {te : TE} {t : TA} {pos : Pos}
theorem pa_nil : PA X [] tNil := fun _ _ _ _ H Q I h => Calls.spliced_nil ⟨[], H, I, .nil, h⟩
theorem pa_cons (ha : PE X e te) (hr : PA X es t) (hs : starEach (e :: es) X.env = (false, eval e X.env) :: starEach es X.env := by rfl) : PA X (e :: es) (tCons te t) := by
  intro pos pins s σ H Q I h
  rw [hs]
  show wpAny _ _ (spliced ((false, eval e X.env) :: backTo pos (starEach es X.env))) _ _ s
  refine Calls.spliced_cons (thn (ha pins s σ H _ I h) fun u s1 ⟨x, H1, I1, r1, q1⟩ => ?_)
  exact thn (hr pos pins s1 σ H1 _ I1 q1) fun us s2 ⟨xs, H2, I2, r2, q2⟩ => ⟨x :: xs, H2, I2, .cons r1 r2, q2⟩
def tTup (t : TA) : TE := fun σ H Q => t σ H fun xs H1 => xs.length ≤ sizeLine ∧ ∀ p, H1 p = none → Q (.ref p) (upd H1 p (.tup xs))
def tLst (t : TA) : TE := fun σ H Q => t σ H fun xs H1 => xs.length ≤ sizeLine ∧ ∀ p, H1 p = none → Q (.ref p) (upd H1 p (.lst xs))
theorem pe_tup {x1} (h : PA X es t) : PE X (.Tuple es x1 pos) (tTup t) := by
  intro pins s σ H Q I hq
  refine wpAny_Tuple_spliced (thn (h pos pins s σ H _ I hq) fun us s1 ⟨xs, H1, I1, r, z, q⟩ => ⟨by rw [← r.length]; exact z, ?_⟩)
  have hf : H1 s1.heap.objs.size = none := I1.hok.fresh (Nat.le_refl _)
  refine ⟨.ref s1.heap.objs.size, upd H1 s1.heap.objs.size (.tup xs), I1.laid (t' := s1.toks) (fun b u e => Heap.get?_push_of_some _ e) (Nat.le_refl _) ?_, rfl, q _ hf⟩
  exact ⟨z, us, r, ⟨_, Heap.get?_push_size _ rfl, rfl, _, rfl⟩⟩
theorem pe_lst (h : PA X es t) : PE X (.List es pos) (tLst t) := by
  intro pins s σ H Q I hq
  refine wpAny_List_spliced (thn (h pos pins s σ H _ I hq) fun us s1 ⟨xs, H1, I1, r, z, q⟩ => ⟨by rw [← r.length]; exact z, ?_⟩)
  have hf : H1 s1.heap.objs.size = none := I1.hok.fresh (Nat.le_refl _)
  refine ⟨.ref s1.heap.objs.size, upd H1 s1.heap.objs.size (.lst xs), I1.laid (t' := s1.toks) (fun b u e => Heap.get?_push_of_some _ e) (Nat.le_refl _) ?_, rfl, q _ hf⟩
  exact ⟨z, us, 0, r, Heap.get?_push_size _ rfl⟩
end
/-! ### what a def promises -/
abbrev Sp := List V → Hp → VK → XK → Prop
abbrev CXT := List Env → Hp → Shared → XK → Value → Shared → Prop
structure Env0 (P : Program) (w : World) (K : PySem.W.Frag) (mg : Str → Option Value) (base : Heap) (A : Around) (outer : List Env) (s : Shared) (H : Hp) : Prop where
  frames : A.frames = some outer
  mod : Mod K mg base
  bs : ∀ b o, base.get? b = some o → s.heap.get? b = some o ∧ H b = none
  bsz : base.objs.size ≤ s.heap.objs.size
  funs : s.heap.FunFrames base outer
  frf : ∀ b ∈ frs outer, H b = none
  hok : HOk P w H s.heap
  bare : AllBare s.gens
def CE (outer : List Env) (P : Program) (w : World) (H : Hp) (s : Shared) (Q : VK) (u : Value) (s' : Shared) : Prop :=
  ∃ v H', s'.os = s.os ∧ AllBare s'.gens ∧ Un (frs outer) [] H H' s.heap s'.heap ∧ HOk P w H' s'.heap ∧ RelV v u ∧ Q v H'
def CR (CX : CXT) (outer : List Env) (P : Program) (w : World) (H : Hp) (s : Shared) (Q : VK) (E : XK) (r : Result) (s' : Shared) : Prop :=
  match r with
  | .ok (.ret u) => CE outer P w H s Q u s'
  | .ok _ => False
  | .error e => CX outer H s E e s'
structure FnOk (P : Program) (w : World) (K : PySem.W.Frag) (mg : Str → Option Value) (base : Heap) (CX : CXT) (k : Nat) (f : Addr) (fd : FuncData) (ps : List Str) (sp : Sp) : Prop where
  len : ∀ vs H Q E, sp vs H Q E → vs.length = ps.length
  run : ∀ (A : Around) (outer : List Env) (s : Shared) (H : Hp) (args : Args) (us : List Value) (vs : List V) (Q : VK) (E : XK), Room k A → Env0 P w K mg base A outer s H → BindsTo s fd args (ps.zip us) → Vals vs us → sp vs H Q E →
    codeAny (model P w) A (.call (.ref f) args) (CR CX outer P w H s Q E) s
theorem Env0.make {P : Program} {w : World} {K : PySem.W.Frag} {mg : Str → Option Value} {base : Heap} {A : Around} {outer : List Env} {s : Shared} {H : Hp} (e : Env0 P w K mg base A outer s H) (C : Addr) (us : List Value) (kw : List (Str × Value)) :
    Env0 P w K mg base (A.under (.builtin "type.__call__" ⟨.ref C :: us, kw⟩)) outer s H := ⟨by first | exact e.frames | (simpa [Around.under, Code.envs, Code.isFrame, pushEnvs] using e.frames), e.mod, e.bs, e.bsz, e.funs, e.frf, e.hok, e.bare⟩
section
variable {X : Cx} {pins : List (Addr × Obj)} {σ : St} {H : Hp} {s s' : Shared}
theorem Inv.env0 (I : Inv X pins σ H s) : Env0 X.prog X.w X.K X.mg X.base X.A X.stack s H :=
  ⟨I.ok.frames, I.ok.mod, I.bs, Nat.le_trans I.ok.bsz I.sz, I.stack, I.stkFree, I.hok, I.bare⟩
theorem Inv.after {Q : VK} {u : Value} (I : Inv X pins σ H s) (h : CE X.stack X.prog X.w H s Q u s') : EP X pins σ Q u s' := by
  obtain ⟨v, H', os, bare, un, hok, r, q⟩ := h
  obtain ⟨hh, g, d, t, os'⟩ := s'
  obtain rfl : os' = s.os := os
  exact ⟨v, H', I.call (h' := hh) (g' := g) (d' := d) (t' := t) (ch := []) un hok bare (fun b z => absurd z (by simp)), r, q⟩
end
/-! ### calls -/
def tCall (sp : Sp) (dvs : List V) (E : XK) (t : TA) : TE := fun σ H Q => t σ H fun vs H1 => sp (vs ++ dvs) H1 Q E
def tMeth (C : Addr) (m : Str) (sp : Sp) (dvs : List V) (E : XK) (ta : TE) (t : TA) : TE := fun σ H Q => ta σ H fun x H1 => ∃ a dx fs, x = .ref a ∧ H1 a = some (.ins C dx fs) ∧ fs.lookup m = none ∧
  t σ H1 fun vs H2 => sp (x :: (vs ++ dvs)) H2 Q E
def tMake (C : Addr) (sp : Sp) (dvs : List V) (E : XK) (t : TA) : TE := fun σ H Q => t σ H fun vs H1 => ∀ x dx, H1 x = none → H1 dx = none → dx ≠ x →
  sp (.ref x :: (vs ++ dvs)) (upd (upd H1 dx (.own x)) x (.ins C dx [])) (fun v H2 => v = .non ∧ Q (.ref x) H2) E
def Binds (K : PySem.W.Frag) (fd : FuncData) (ps : List Str) (ds : List Value) : Prop :=
  ∀ (s : Shared) (us : List Value), K.In s.heap → (us ++ ds).length = ps.length → BindsTo s fd ⟨us, []⟩ (ps.zip (us ++ ds))
theorem Binds.all {K : PySem.W.Frag} {fd : FuncData} {ps : List Str} (h : ∀ us : List Value, us.length = ps.length → bindArgs fd ⟨us, []⟩ = pure (ps.zip us)) : Binds K fd ps [] := fun s us _ hl => by
  rw [List.append_nil] at hl ⊢
  exact .of_eq (h us hl)
def Passes (CX : CXT) (X : Cx) (E : XK) : Prop := ∀ (pins : List (Addr × Obj)) (σ : St) (H : Hp) (s : Shared) (e : Value) (s' : Shared), Inv X pins σ H s → CX X.stack H s E e s' → X.xe e s'
section
variable {X : Cx} {CX : CXT} {k : Nat} {f C : Addr} {fd : FuncData} {ps : List Str} {sp : Sp} {dvs : List V} {ds : List Value} {E : XK} {x m : Str} {p pos apos : Pos} {e o : Expr} {es : List Expr} {ta : TE} {t : TA}
theorem run_fn {pins : List (Addr × Obj)} {σ : St} {H : Hp} {s : Shared} {Q : VK} {us : List Value} {vs : List V} (F : FnOk X.prog X.w X.K X.mg X.base CX k f fd ps sp) (hr : Room k X.A) (hb : Binds X.K fd ps ds) (hd : Vals dvs ds) (hx : Passes CX X E)
    (I : Inv X pins σ H s) (r : Vals vs us) (h : sp (vs ++ dvs) H Q E) : wpAny (model X.prog X.w) X.A (call (.ref f) us) (EP X pins σ Q) X.xe s := by
  have r2 : Vals (vs ++ dvs) (us ++ ds) := r.append hd
  have hl : (us ++ ds).length = ps.length := by rw [← r2.length]; exact F.len _ _ _ _ h
  refine wpAny_call (codeAny_mono (F.run X.A X.stack s H ⟨us, []⟩ (us ++ ds) (vs ++ dvs) Q E hr I.env0 (hb s us I.kIn hl) r2 h) fun r s' hq => ?_)
  cases r with
  | error e => exact hx pins σ H s e s' I hq
  | ok fl =>
    cases fl with
    | ret u => exact I.after hq
    | next => exact False.elim hq
    | brk => exact False.elim hq
    | cont => exact False.elim hq
theorem pe_call (F : FnOk X.prog X.w X.K X.mg X.base CX k f fd ps sp) (hr : Room k X.A) (hg : Gl X x) (hm : X.mg x = some (.ref f)) (hk : PySem.W.keepIn X.K (.ref f) = true) (hb : Binds X.K fd ps ds) (hd : Vals dvs ds) (hx : Passes CX X E)
    (ha : PA X (e :: es) t) (hdb : (x == ("__debug__" : Str)) = false := by decide) (he : starEach (e :: es) X.env = (false, eval e X.env) :: starEach es X.env := by rfl) (hpl : (backTo pos (starEach es X.env)).any (·.1) = false := by rfl) :
    PE X (.Call (.Name x p) (e :: es) [] pos) (tCall sp dvs E t) := by
  intro pins s σ H Q I h
  refine wpAny_Call_Name_kw (ld_glob I hg hm ?_ hdb)
  refine PySem.W.callWith_K (h₀ := X.base) I.ok.mod.kin hk (thn (ha pos pins s σ H _ I h) fun us s1 ⟨vs, H1, I1, r, q⟩ => ⟨I1.kIn, ?_⟩) he hpl
  exact run_fn F hr hb hd hx I1 r q
theorem pe_meth {pl : Sem Bool} (he : PE X o ta) (c : Cls X.K C) (hm : Meth X.K C m f) (F : FnOk X.prog X.w X.K X.mg X.base CX k f fd ps sp) (hr : Room k X.A) (hb : Binds X.K fd ps ds) (hd : Vals dvs ds) (hx : Passes CX X E) (ha : PA X (e :: es) t)
    (hst : starEach (e :: es) X.env = (false, eval e X.env) :: starEach es X.env := by rfl) (hpl : (backTo pos (starEach es X.env)).any (·.1) = false := by rfl)
    (ht : eval (.Call (.Attribute o m apos) (e :: es) [] pos) X.env = (do
      let ov ← eval o X.env
      standAt apos.atName
      let (f, first) ← holding [ov] (getMethod ov m pl)
      callWith pos f first (backTo pos (starEach (e :: es) X.env)) (backToKw pos (keywordEach [] X.env))) := by rfl) :
    PE X (.Call (.Attribute o m apos) (e :: es) [] pos) (tMeth C m sp dvs E ta t) := by
  intro pins s σ H Q I h
  refine PySem.W.methodCall_KW (pl := pl) (thn (he pins s σ H _ I h) fun u s1 ⟨x, H1, I1, rx, a, dx, fs, ex, ea, l, q⟩ => ?_) ht
  subst ex
  obtain rfl : u = Value.ref a := rx
  refine getmeth_ok I1 ea c hm l ?_
  refine PySem.W.callWith_K (first := [.ref a]) (h₀ := X.base) I.ok.mod.kin hm.kp (thn (ha pos pins s1 σ H1 _ I1 q) fun us s2 ⟨vs, H2, I2, r, q2⟩ => ⟨I2.kIn, ?_⟩) hst hpl
  exact run_fn (us := .ref a :: us) (vs := .ref a :: vs) F hr hb hd hx I2 (.cons rfl r) q2
theorem pe_meth0 {pl : Sem Bool} (he : PE X o ta) (c : Cls X.K C) (hm : Meth X.K C m f) (F : FnOk X.prog X.w X.K X.mg X.base CX k f fd ps sp) (hr : Room k X.A) (hb : Binds X.K fd ps ds) (hd : Vals dvs ds) (hx : Passes CX X E)
    (ht : eval (.Call (.Attribute o m apos) [] [] pos) X.env = (do
      let ov ← eval o X.env
      standAt apos.atName
      let (f, first) ← holding [ov] (getMethod ov m pl)
      callWith pos f first (backTo pos (starEach [] X.env)) (backToKw pos (keywordEach [] X.env))) := by rfl) :
    PE X (.Call (.Attribute o m apos) [] [] pos) (tMeth C m sp dvs E ta tNil) := by
  intro pins s σ H Q I h
  refine PySem.W.methodCall_KW (pl := pl) (thn (he pins s σ H _ I h) fun u s1 ⟨x, H1, I1, rx, a, dx, fs, ex, ea, l, q⟩ => ?_) ht
  subst ex
  obtain rfl : u = Value.ref a := rx
  refine getmeth_ok I1 ea c hm l ?_
  exact PySem.W.callWith_K0 (first := [.ref a]) I1.kIn hm.kp (run_fn (us := [.ref a]) (vs := [.ref a]) F hr hb hd hx I1 (.cons rfl .nil) q)
structure Mk (K : PySem.W.Frag) (C f : Addr) : Prop where
  makes : PySem.W.makesIn K C = true
  init : PySem.W.findIn K (.ref C) "__init__" = some (some (.ref f))
  fn : PySem.W.isFn K (.ref f) = true
  kp : PySem.W.keepIn K (.ref C) = true
theorem run_make {pins : List (Addr × Obj)} {σ : St} {H : Hp} {s : Shared} {Q : VK} {us : List Value} {vs : List V} (M : Mk X.K C f) (F : FnOk X.prog X.w X.K X.mg X.base CX k f fd ps sp) (hr : Room (k + 1) X.A) (hb : Binds X.K fd ps ds) (hd : Vals dvs ds)
    (hx : Passes CX X E) (I : Inv X pins σ H s) (r : Vals vs us)
    (h : ∀ x dx, H x = none → H dx = none → dx ≠ x → sp (.ref x :: (vs ++ dvs)) (upd (upd H dx (.own x)) x (.ins C dx [])) (fun v H2 => v = .non ∧ Q (.ref x) H2) E) :
    wpAny (model X.prog X.w) X.A (call (.ref C) us) (EP X pins σ Q) X.xe s := by
  have hq := h (s.heap.objs.size + 1) s.heap.objs.size (I.hok.fresh (Nat.le_succ _)) (I.hok.fresh (Nat.le_refl _)) (Nat.ne_of_lt (Nat.lt_succ_self _))
  have I2 := Inv.made (C := C) I
  have r2 : Vals (V.ref (s.heap.objs.size + 1) :: (vs ++ dvs)) (Value.ref (s.heap.objs.size + 1) :: (us ++ ds)) := .cons rfl (r.append hd)
  have hl : (Value.ref (s.heap.objs.size + 1) :: us ++ ds).length = ps.length := by
    have e := r2.length
    rw [F.len _ _ _ _ hq] at e
    exact e.symm
  refine wpAny_call (make_map (f := f) I.kIn M.makes M.init (beq_iff_eq.mp M.fn) (codeAny_mono (F.run _ X.stack _ _ ⟨Value.ref (s.heap.objs.size + 1) :: us, []⟩ (Value.ref (s.heap.objs.size + 1) :: (us ++ ds)) _ _ E (hr.make C us [])
    (I2.env0.make C us []) (hb _ (Value.ref (s.heap.objs.size + 1) :: us) I2.kIn hl) r2 hq) fun r s' hq' => ?_))
  cases r with
  | error e => exact hx pins σ _ _ e s' I2 hq'
  | ok fl =>
    cases fl with
    | ret u =>
      obtain ⟨v, H', I3, rv, ev, q3⟩ := I2.after hq'
      subst ev
      exact ⟨rv, ⟨V.ref (s.heap.objs.size + 1), H', I3, rfl, q3⟩⟩
    | next => exact False.elim hq'
    | brk => exact False.elim hq'
    | cont => exact False.elim hq'
theorem pe_make (M : Mk X.K C f) (F : FnOk X.prog X.w X.K X.mg X.base CX k f fd ps sp) (hr : Room (k + 1) X.A) (hg : Gl X x) (hm : X.mg x = some (.ref C)) (hb : Binds X.K fd ps ds) (hd : Vals dvs ds) (hx : Passes CX X E)
    (ha : PA X (e :: es) t) (hdb : (x == ("__debug__" : Str)) = false := by decide) (he : starEach (e :: es) X.env = (false, eval e X.env) :: starEach es X.env := by rfl) (hpl : (backTo pos (starEach es X.env)).any (·.1) = false := by rfl) :
    PE X (.Call (.Name x p) (e :: es) [] pos) (tMake C sp dvs E t) := by
  intro pins s σ H Q I h
  refine wpAny_Call_Name_kw (ld_glob I hg hm ?_ hdb)
  refine PySem.W.callWith_K (h₀ := X.base) I.ok.mod.kin M.kp (thn (ha pos pins s σ H _ I h) fun us s1 ⟨vs, H1, I1, r, q⟩ => ⟨I1.kIn, ?_⟩) he hpl
  exact run_make M F hr hb hd hx I1 r q
end
/-! ### keywords -/
section
variable {X : Cx} {CX : CXT} {k : Nat} {f C : Addr} {fd : FuncData} {ps ks : List Str} {sp : Sp} {E : XK} {x m : Str} {p pos apos kpos : Pos} {e o : Expr} {es : List Expr} {kws : List Keyword} {te ta : TE} {t tk : TA} {nm : Option Str}
variable {g : List Value → List Value → List Value} {gV : List V → List V → List V}
end
/-! ### a def's body keeps its promise -/
structure FnScope (N P : List Str) (sc : Scope) : Prop where
  kind : sc.kind = .function
  co : sc.isCoroutine = false
  gen : sc.isGenerator = false
  nd : N.Nodup
  pre : N.take P.length = P
  par : ∀ x ∈ P, sc.names.lookup x = some .local ∨ sc.names.lookup x = some .cell
  nofree : ∀ y ∈ sc.names, y.2 ≠ .free
theorem bindL_out {kindOf : Str → Option NameKind} {x : Str} : ∀ {binds : List (Str × Value)} {m : Str → Option Value}, (∀ v, (x, v) ∉ binds) → bindL kindOf binds m x = m x
  | [], _, _ => rfl
  | (n, v) :: r, m, h => by
    unfold bindL
    rw [bindL_out fun w hw => h w (List.mem_cons_of_mem _ hw)]
    split
    · have : x ≠ n := by rintro rfl; exact h v List.mem_cons_self
      simp [this]
    · rfl
theorem bindC_out {kindOf : Str → Option NameKind} {x : Str} : ∀ {binds : List (Str × Value)} {m : Str → Option Value}, (∀ v, (x, v) ∉ binds) → bindC kindOf binds m x = m x
  | [], _, _ => rfl
  | (n, v) :: r, m, h => by
    unfold bindC
    rw [bindC_out fun w hw => h w (List.mem_cons_of_mem _ hw)]
    split
    · rfl
    · have : x ≠ n := by rintro rfl; exact h v List.mem_cons_self
      simp [this]
theorem bindL_get {kindOf : Str → Option NameKind} {x : Str} {v : Value} : ∀ {P : List Str} {vs : List Value} {i : Nat} {m : Str → Option Value}, P.Nodup → P[i]? = some x → vs[i]? = some v → kindOf x = some .local →
    bindL kindOf (P.zip vs) m x = some v
  | [], _, _, _, _, h, _, _ => by simp at h
  | _ :: _, [], _, _, _, _, h, _ => by simp at h
  | p :: P, w :: vs, 0, m, nd, h1, h2, hk => by
    simp at h1 h2; subst h1; subst h2
    show bindL kindOf ((p, w) :: P.zip vs) m p = _
    unfold bindL
    rw [bindL_out fun v hv => (List.nodup_cons.mp nd).1 (List.of_mem_zip hv).1, if_pos hk]
    simp
  | p :: P, w :: vs, i + 1, m, nd, h1, h2, hk => by
    show bindL kindOf ((p, w) :: P.zip vs) m x = _
    unfold bindL
    exact bindL_get (i := i) (List.nodup_cons.mp nd).2 (by simpa using h1) (by simpa using h2) hk
theorem bindC_get {kindOf : Str → Option NameKind} {x : Str} {v : Value} : ∀ {P : List Str} {vs : List Value} {i : Nat} {m : Str → Option Value}, P.Nodup → P[i]? = some x → vs[i]? = some v → kindOf x ≠ some .local →
    bindC kindOf (P.zip vs) m x = some v
  | [], _, _, _, _, h, _, _ => by simp at h
  | _ :: _, [], _, _, _, _, h, _ => by simp at h
  | p :: P, w :: vs, 0, m, nd, h1, h2, hk => by
    simp at h1 h2; subst h1; subst h2
    show bindC kindOf ((p, w) :: P.zip vs) m p = _
    unfold bindC
    rw [bindC_out fun v hv => (List.nodup_cons.mp nd).1 (List.of_mem_zip hv).1, if_neg hk]
    simp
  | p :: P, w :: vs, i + 1, m, nd, h1, h2, hk => by
    show bindC kindOf ((p, w) :: P.zip vs) m x = _
    unfold bindC
    exact bindC_get (i := i) (List.nodup_cons.mp nd).2 (by simpa using h1) (by simpa using h2) hk
def start (N : List Str) (vs : List V) : St := vs.map some ++ List.replicate (N.length - vs.length) none
def cxOf (CX : CXT) (P : Program) (w : World) (K : PySem.W.Frag) (mg : Str → Option Value) (base : Heap) (N : List Str) (qual : Str) (scope : Scope) (f : Addr) (cd : Value) (A : Around) (outer : List Env) (s : Shared) (H : Hp) (E : XK) : Cx where
  prog := P
  w := w
  K := K
  mg := mg
  base := base
  A := A.deeper (envOfC qual scope s.heap.objs.size f cd)
  N := N
  s₀ := s
  H₀ := H
  env := envOfC qual scope s.heap.objs.size f cd
  outer := outer
  stack := envOfC qual scope s.heap.objs.size f cd :: outer
  ex := []
  calm := true
  fn := fun _ => true
  pn := []
  xe := fun e s' => wpAny (model P w) (A.deeper (envOfC qual scope s.heap.objs.size f cd)) (leaving (envOfC qual scope s.heap.objs.size f cd) e) (fun _ s'' => CX outer H s E e s'') (fun e' s'' => CX outer H s E e' s'') s'
theorem cell_has {sc : Scope} {n : Nat} {x : Str} (h : sc.names.lookup x = some .cell) : ∃ c, (cellsFrom n sc.names []).lookup x = some c := by
  have q := PySem.W.cellsFrom_some sc.names n [] (.inl h)
  exact Option.isSome_iff_exists.mp q
theorem inv_start {CX : CXT} {P : Program} {w : World} {K : PySem.W.Frag} {mg : Str → Option Value} {base : Heap} {N ps : List Str} {qual : Str} {scope : Scope} {f : Addr} {cd : Value} {A : Around} {outer : List Env} {s s1 : Shared} {H : Hp} {E : XK} {us : List Value} {vs : List V}
    (S : FnScope N ps scope) (hd : A.handled = none) (e0 : Env0 P w K mg base A outer s H) (hl : vs.length = ps.length) (r : Vals vs us)
    (x : InCallC s s.heap.objs.size (bindL (envOfC qual scope s.heap.objs.size f cd).kindOf (ps.zip us) fun _ => none) (cellsFrom (s.heap.objs.size + 1) scope.names []) (bindC (envOfC qual scope s.heap.objs.size f cd).kindOf (ps.zip us) fun _ => none) s1) :
    Inv (cxOf CX P w K mg base N qual scope f cd A outer s H E) [] (start N vs) H s1 := by
  have hpl : ps.length ≤ N.length := by have := congrArg List.length S.pre; rw [List.length_take] at this; omega
  obtain ⟨h1, tk, rfl, hk⟩ := x.done
  have noA : ∀ b : Addr, b ∉ (cxOf CX P w K mg base N qual scope f cd A outer s H E).ex := fun b z => absurd (show b ∈ ([] : List Addr) from z) (by simp)
  refine ⟨⟨e0.mod, S.kind, rfl, rfl, Nat.le_refl _, fun y z c h1 h2 => ?_, fun y hy => ?_, fun y c _ h => ?_, fun _ => hd, Around.frames_deeper e0.frames, .inr ⟨rfl, rfl⟩, fun b z => absurd z (noA b), e0.bs, e0.bsz, fun b _ _ => noA b, fun b z => absurd z (noA b), e0.funs, e0.frf⟩,
    rfl, e0.bare, Un.kept hk, ⟨_, x.toInCall.ns, fun i y v h1 h2 h3 => ?_⟩, fun y c h => ⟨_, x.cell y c h⟩, e0.hok.fresh (Nat.le_refl _), fun y c h => ?_, fun p hp => absurd (show p ∈ ([] : List (Addr × Obj)) from hp) (by simp), e0.hok.kept hk, ?_⟩
  · exact name_of_addr x.apart (PySem.mem_of_lookup h1) (PySem.mem_of_lookup h2)
  · have hy : scope.names.lookup y = some .cell ∨ scope.names.lookup y = some .free := hy
    rcases hy with hy | hy
    · exact cell_has hy
    · exact absurd rfl (S.nofree _ (PySem.mem_of_lookup hy))
  · exact Nat.le_of_lt (x.above y c (PySem.mem_of_lookup h))
  · have hi : i < vs.length := by
      unfold start at h2
      by_cases hi : i < vs.length
      · exact hi
      · rw [List.getElem?_append_right (by simpa using hi)] at h2
        rw [List.getElem?_replicate] at h2
        split at h2 <;> cases h2
    have ha : vs[i]? = some v := by
      unfold start at h2
      rw [List.getElem?_append_left (by simpa using hi), List.getElem?_map] at h2
      cases e : vs[i]? with
      | none => rw [e] at h2; cases h2
      | some a => rw [e] at h2; cases h2; rfl
    obtain ⟨u, hu, rv⟩ := r.get ha
    have hp : ps[i]? = some y := by
      rw [← S.pre, List.getElem?_take_of_lt (by omega)]; exact h1
    have ndP : ps.Nodup := by rw [← S.pre]; exact S.nd.sublist (List.take_sublist _ _)
    refine ⟨u, rv, ?_⟩
    rcases S.par y (List.mem_of_getElem? hp) with k | k
    · exact .inl ⟨k, bindL_get ndP hp hu k⟩
    · obtain ⟨c, e⟩ := cell_has (n := s.heap.objs.size + 1) k
      refine .inr ⟨.inl k, c, e, ?_⟩
      have q := x.cell y c e
      rw [bindC_get ndP hp hu (by show scope.names.lookup y ≠ _; rw [k]; decide)] at q
      exact q
  · exact e0.hok.fresh (Nat.le_of_lt (x.above y c (PySem.mem_of_lookup h)))
  · unfold start
    show _ = N.length
    rw [List.length_append, List.length_map, List.length_replicate]
    omega
theorem fn_of {CX : CXT} {P : Program} {w : World} {K : PySem.W.Frag} {mg : Str → Option Value} {base : Heap} {k : Nat} {f : Addr} {name qual : Str} {params : Arguments} {body : List Stmt} {scope : Scope} {dV kV doc pm cdv ct oc : Value} {an od : Option Addr}
    {osl : Array (Option Value)} {N ps : List Str} {sp : Sp} (lk : K.lookup f = some ⟨oc, od, .func (PySem.W.fnOf name qual params body scope dV kV doc pm an cdv ct), osl⟩) (hcd : PySem.W.codeIn K cdv qual = true) (S : FnScope N ps scope)
    (len : ∀ vs H Q E, sp vs H Q E → vs.length = ps.length)
    (hbody : ∀ (A : Around) (outer : List Env) (s : Shared) (H : Hp) (vs : List V) (Q : VK) (E : XK), Room k (A.deeper (envOfC qual scope s.heap.objs.size f cdv)) → sp vs H Q E →
      ∃ t, PSs (cxOf CX P w K mg base N qual scope f cdv A outer s H E) body t ∧ t { nx := fun _ H' => Q .non H', rt := Q } (start N vs) H) :
    FnOk P w K mg base CX (k + 1) f (PySem.W.fnOf name qual params body scope dV kV doc pm an cdv ct) ps sp := by
  refine ⟨len, fun A outer s H args us vs Q E hr e0 hb r hsp => ?_⟩
  have hl := len _ _ _ _ hsp
  have KX : K.In s.heap := e0.mod.kin.keeps fun b o e => (e0.bs b o e).1
  have lim : s.heap.NoLimit := e0.mod.nolimit.keeps fun b o e => (e0.bs b o e).1
  have hkind : ∀ y ∈ ps.zip us, scope.names.lookup y.1 = some .local ∨ (scope.names.lookup y.1 = some .cell ∧ ((cellsFrom (s.heap.objs.size + 1) scope.names []).lookup y.1).isSome = true) := fun ⟨n, v⟩ hy => by
    rcases S.par n (List.of_mem_zip hy).1 with q | q
    · exact .inl q
    · exact .inr ⟨q, PySem.W.cellsFrom_some _ _ _ (.inl q)⟩
  refine codeAny_call_function hr.depth (KX _ _ lk) rfl S.co S.gen rfl (PySem.W.codeRec_of KX hcd) (hb _ _ _ _ ?_)
  refine wpAny_newFunctionEnv_cells S.kind hkind fun env he s1 x => ?_
  subst he
  refine ⟨lim.keeps x.toInCall.keep, codeAny_func ?_⟩
  obtain ⟨t, ht, hq⟩ := hbody A outer s H vs Q E (hr.deeper _) hsp
  have I : Inv (cxOf CX P w K mg base N qual scope f cdv A outer s H E) [] (start N vs) H s1 := inv_start S hr.hd e0 hl r x
  refine wpAny_mono (ht [] s1 (start N vs) H _ I hq) (fun fl s' hs => ?_) fun e s' hs => hs
  have fin : ∀ {σ' : St} {H' : Hp} {v : V} {u : Value}, Inv (cxOf CX P w K mg base N qual scope f cdv A outer s H E) [] σ' H' s' → RelV v u → Q v H' → CE outer P w H s Q u s' :=
    fun {σ' H' v u} J rv q => ⟨v, H', J.os, J.bare, J.base, J.hok, rv, q⟩
  cases fl with
  | ret u =>
    obtain ⟨v, σ', H', J, rv, q⟩ := hs
    exact fin J rv q
  | next =>
    obtain ⟨σ', H', J, q⟩ := hs
    exact fin (v := V.non) (u := Value.none) J rfl q
  | brk =>
    obtain ⟨_, _, _, q⟩ := hs
    exact False.elim q
  | cont =>
    obtain ⟨_, _, _, q⟩ := hs
    exact False.elim q
end L2
namespace L2
open PySem PySem.Spec PyProof.Rows
section
variable {X : Cx} {x : Str} {p pos : Pos} {e : Expr} {es : List Expr} {t : TA} {id T : String} {r : List V → Hp → VK → Prop}
def tCB (r : List V → Hp → VK → Prop) (t : TA) : TE := fun σ H Q => t σ H fun vs H1 => r vs H1 Q
theorem pe_callB (hc : CallR X (.builtin id) r) (hg : Gl X x) (hm : X.mg x = none) (hv : bootBuiltins x = some (.builtin id)) (ha : PA X (e :: es) t) (hn : x ≠ "__name__" := by decide) (hdb : (x == ("__debug__" : Str)) = false := by decide)
    (he : starEach (e :: es) X.env = (false, eval e X.env) :: starEach es X.env := by rfl) (hpl : (backTo pos (starEach es X.env)).any (·.1) = false := by rfl) : PE X (.Call (.Name x p) (e :: es) [] pos) (tCB r t) := by
  intro pins s σ H Q I h
  refine wpAny_Call_Name_kw (ld_blt I hg hm hv ?_ hn hdb)
  exact PyProof.Rows.callWith_builtin1 (thn (ha pos pins s σ H _ I h) fun us s1 ⟨vs, H1, I1, r1, q1⟩ => hc pins s1 σ H1 vs us Q I1 r1 q1) he hpl
theorem pe_callTy (hc : CallR X (.type T) r) (hg : Gl X x) (hm : X.mg x = none) (hv : bootBuiltins x = some (.type T)) (ha : PA X (e :: es) t) (hn : x ≠ "__name__" := by decide) (hdb : (x == ("__debug__" : Str)) = false := by decide)
    (he : starEach (e :: es) X.env = (false, eval e X.env) :: starEach es X.env := by rfl) (hpl : (backTo pos (starEach es X.env)).any (·.1) = false := by rfl) : PE X (.Call (.Name x p) (e :: es) [] pos) (tCB r t) := by
  intro pins s σ H Q I h
  refine wpAny_Call_Name_kw (ld_blt I hg hm hv ?_ hn hdb)
  exact PyProof.Rows.callWith_type1 (thn (ha pos pins s σ H _ I h) fun us s1 ⟨vs, H1, I1, r1, q1⟩ => hc pins s1 σ H1 vs us Q I1 r1 q1) he hpl
end
end L2
namespace HT
open PySem PyProof.Rows
section
open PySem.SeqAt
open PySem.AutoSeq1 (wpAny_loadPart')
open PySem.MeetsSeq PySem.MeetsSeq2 PySem.MeetsSeq3
end
section
variable {prog : Program} {w : World} {A : Around} {E : Value → Shared → Prop} {s : Shared}
/-! ### t[a:b], not the whole -/
def sIx (n d : Nat) : Option Int → Nat
  | none => d
  | some v => if v < 0 then (v + (n : Int)).toNat else min v.toNat n
end
end HT
namespace L2
open PySem PySem.Spec PyProof.Rows
/-! ### the parts of a slice -/
abbrev TO := St → Hp → (Option Int → Hp → Prop) → Prop
def PO (X : Cx) (e : Option Expr) (t : TO) : Prop :=
  ∀ (pins : List (Addr × Obj)) (s : Shared) (σ : St) (H : Hp) (Q : Option Int → Hp → Prop), Inv X pins σ H s → t σ H Q →
    wpAny (model X.prog X.w) X.A (evalPart e X.env) (fun u s' => ∃ o H', Inv X pins σ H' s' ∧ IsPart u o ∧ Q o H') X.xe s
def tNoPart : TO := fun _ H Q => Q none H
def tPart (t : TE) : TO := fun σ H Q => t σ H fun x H1 => ∃ i, x = .int i ∧ Q (some i) H1
theorem intsAre_of {ns : List Int} : ∀ {us : List Value}, Vals (ns.map V.int) us → IntsAre us ns := by
  induction ns with
  | nil => intro us r; rw [List.map_nil] at r; cases r; exact .nil
  | cons n ns ih =>
    intro us r
    rw [List.map_cons] at r
    cases r with
    | cons r1 r2 =>
      obtain ⟨t, e⟩ := r1
      subst e
      exact .cons n t (ih r2)
section
variable {X : Cx} {e : Expr} {te : TE} {lo hi : Option Expr} {tl th : TO} {pos p2 : Pos}
theorem po_none : PO X none tNoPart := by
  intro pins s σ H Q I h
  rw [evalPart_none]
  exact wpAny_pure ⟨none, H, I, .none, h⟩
theorem po_some (h : PE X e te) : PO X (some e) (tPart te) := by
  intro pins s σ H Q I hw
  rw [evalPart_some]
  refine thn (h pins s σ H _ I hw) fun u s1 ⟨x, H1, I1, r1, q1⟩ => ?_
  obtain ⟨i, rfl, q⟩ := q1
  obtain ⟨t, rfl⟩ := r1
  exact ⟨some i, H1, I1, .int i t, q⟩
def SlR (X : Cx) (r : V → Option Int → Option Int → Hp → VK → Prop) : Prop :=
  ∀ (pins : List (Addr × Obj)) (s : Shared) (σ : St) (H : Hp) (x : V) (v vl vu : Value) (lo hi : Option Int) (sl : Addr) (Q : VK), Inv X pins σ H s → RelV x v → s.heap.IsSliceOf sl vl vu .none → IsPart vl lo → IsPart vu hi → r x lo hi H Q →
    ∃ T id, typeLookup (.type T) "__getitem__" = pure (some (.builtin id)) ∧ s.TypeIs v T ∧ wpAny (model X.prog X.w) X.A (getItem v (.ref sl)) (EP X pins σ Q) X.xe s
def tSl (r : V → Option Int → Option Int → Hp → VK → Prop) (te : TE) (tl th : TO) : TE := fun σ H Q => te σ H fun x H1 => tl σ H1 fun l H2 => th σ H2 fun u H3 => r x l u H3 Q
theorem pe_slice {r : V → Option Int → Option Int → Hp → VK → Prop} (hr : SlR X r) (he : PE X e te) (hl : PO X lo tl) (hu : PO X hi th) : PE X (.Subscript e (.Slice lo hi none p2) pos) (tSl r te tl th) := by
  intro pins s σ H Q I h
  refine Subscript_ (thn (he pins s σ H _ I h) fun v s1 ⟨x, H1, I1, r1, q1⟩ => ?_)
  refine wpAny_Slice (thn (hl pins s1 σ H1 _ I1 q1) fun vl s2 ⟨l, H2, I2, pl, q2⟩ => thn (hu pins s2 σ H2 _ I2 q2) fun vu s3 ⟨u, H3, I3, pu, q3⟩ => ?_)
  rw [evalPart_none]
  refine wpAny_pure ?_
  have I4 : Inv X pins σ H3 { s3 with heap := s3.heap.push { cls := .type "slice", data := .fields #[vl, vu, .none] } } := I3.kept (t' := s3.toks) fun b ob q => Heap.get?_push_of_some _ q
  obtain ⟨T, id, hT, ht, hg⟩ := hr pins { s3 with heap := s3.heap.push { cls := .type "slice", data := .fields #[vl, vu, .none] } } σ H3 x v vl vu l u s3.heap.objs.size Q I4 r1 (Heap.IsSliceOf.new ..) pl pu q3
  show wpAny (model X.prog X.w) X.A (subscriptTail e (.Slice lo hi none p2) v (.ref s3.heap.objs.size)) (EP X pins σ Q) X.xe { s3 with heap := s3.heap.push { cls := .type "slice", data := .fields #[vl, vu, .none] } }
  exact tail_any (ops := [.ref s3.heap.objs.size, v]) ht hT hg (by with_unfolding_all rfl)
def cutV (xs : List V) (lo hi : Option Int) : List V := (xs.drop (HT.sIx xs.length 0 lo)).take (HT.sIx xs.length xs.length hi - HT.sIx xs.length 0 lo)
theorem cutV_length (xs : List V) (lo hi : Option Int) : (cutV xs lo hi).length ≤ xs.length := by
  unfold cutV
  rw [List.length_take, List.length_drop]
  omega
/-! ### t < u, t + u -/
end
end L2
namespace L2
open PySem PySem.Spec PyProof.Rows
/-! ### places -/
def ixN (n : Nat) (i : Int) : Option Nat := if 0 ≤ i then (if i < n then some i.toNat else none) else if -(n : Int) ≤ i then some (i + n).toNat else none
def atI {α : Type} (xs : List α) (i : Int) : Option α := (ixN xs.length i).bind fun j => xs[j]?
theorem ixN_seq {n : Nat} {i : Int} {j : Nat} (h : ixN n i = some j) : seqIndex? i n = some j ∧ j < n ∧ -(n : Int) ≤ i ∧ i < n := by
  unfold ixN at h
  by_cases h0 : 0 ≤ i
  · rw [if_pos h0] at h
    by_cases h1 : i < n
    · rw [if_pos h1] at h
      have e : i.toNat = j := Option.some.inj h
      exact ⟨by rw [seqIndex_of h0 h1, e], by omega, by omega, h1⟩
    · rw [if_neg h1] at h; cases h
  · rw [if_neg h0] at h
    by_cases h1 : -(n : Int) ≤ i
    · rw [if_pos h1] at h
      have e : (i + n).toNat = j := Option.some.inj h
      exact ⟨by rw [seqIndex_neg (by omega) h1, e], by omega, h1, by omega⟩
    · rw [if_neg h1] at h; cases h
theorem atI_get {α : Type} {xs : List α} {i : Int} {v : α} (h : atI xs i = some v) : ∃ j, seqIndex? i xs.length = some j ∧ xs[j]? = some v ∧ j < xs.length ∧ -(xs.length : Int) ≤ i ∧ i < xs.length := by
  unfold atI at h
  cases e : ixN xs.length i with
  | none => rw [e] at h; cases h
  | some j =>
    rw [e] at h
    obtain ⟨h1, h2, h3, h4⟩ := ixN_seq e
    exact ⟨j, h1, h, h2, h3, h4⟩
theorem atI_nat {α : Type} {xs : List α} {j : Nat} {v : α} (h : xs[j]? = some v) : atI xs (j : Int) = some v := by
  have hj : j < xs.length := (List.getElem?_eq_some_iff.mp h).1
  have e : ixN xs.length (j : Int) = some j := by
    unfold ixN
    rw [if_pos (by omega), if_pos (by omega)]; simp
  unfold atI; rw [e]; exact h
/-! ### what may be subscripted -/
def PlainIx (b : Expr) : Prop := ∀ o i, subscripted b false o i = operate [o, i] (getItem o i)
def IxR (X : Cx) (r : R2) : Prop :=
  ∀ (value slice : Expr) (pins : List (Addr × Obj)) (s : Shared) (σ : St) (H : Hp) (x y : V) (v u : Value) (Q : VK), Inv X pins σ H s → RelV x v → RelV y u → r x y H Q →
    subscripted slice false v u = operate [v, u] (getItem v u) → wpAny (model X.prog X.w) X.A (subscriptTail value slice v u) (EP X pins σ Q) X.xe s
def MtR (X : Cx) (id : String) (r : V → List V → Hp → VK → Prop) : Prop :=
  ∀ (pins : List (Addr × Obj)) (s : Shared) (σ : St) (H : Hp) (x : V) (xs : List V) (v : Value) (us : List Value) (Q : VK), Inv X pins σ H s → RelV x v → Vals xs us → r x xs H Q →
    wpAny (model X.prog X.w) X.A (call (.builtin id) (v :: us)) (EP X pins σ Q) X.xe s
section
variable {X : Cx} {a b : Expr} {ta tb : TE} {pos : Pos}
theorem pe_ix {r : R2} (hr : IxR X r) (ha : PE X a ta) (hb : PE X b tb) (hs : PlainIx b) : PE X (.Subscript a b pos) (tOp r ta tb) := by
  intro pins s σ H Q I h
  exact Subscript_ (binT ha hb I h fun v u s2 x y H2 I2 rx ry q => hr a b pins s2 σ H2 x y v u Q I2 rx ry q (hs _ _))
def rIxL (K : PySem.W.Frag) : R2 := fun x y H Q => ∃ p xs i v, x = .ref p ∧ y = .int i ∧ SqL K H p xs ∧ atI xs i = some v ∧ Q v H
def rIxT (K : PySem.W.Frag) : R2 := fun x y H Q => ∃ p xs i v, x = .ref p ∧ y = .int i ∧ SqT K H p xs ∧ atI xs i = some v ∧ Q v H
theorem ix_list : IxR X (rIxL X.K) := by
  intro value slice pins s σ H x y v u Q I rx ry h hs
  obtain ⟨p, xs, i, z, rfl, rfl, hq, he, q⟩ := h
  cases rx
  obtain ⟨t, rfl⟩ := ry
  obtain ⟨its, r, pl, hz⟩ := I.list hq
  obtain ⟨j, h1, h2, h3, h4, h5⟩ := atI_get he
  obtain ⟨w, ew, rw'⟩ := r.get h2
  have hl := r.length
  have hn := line63
  have fin : EP X pins σ Q w s := ⟨z, H, I, rw', q⟩
  by_cases h0 : 0 ≤ i
  · have hj : i.toNat = j := by
      rw [seqIndex_of h0 h5] at h1
      exact Option.some.inj h1
    exact item_listR pl.isList h0 (by omega) (by rw [hj]; simpa using ew) fin hs
  · have hj : (i + (its.toArray.size : Int)).toNat = j := by
      rw [seqIndex_neg (by omega) h4] at h1
      rw [List.size_toArray, ← hl]
      exact Option.some.inj h1
    exact subscriptTail_builtinR (x := w) pl.isList.typeIs slot_list_getitem.lookup
      (wpAny_getItem_list_neg (Q := fun r s' => r = w ∧ EP X pins σ Q r s') pl.isList (by omega) (by rw [List.size_toArray] <;> omega) (by omega) (by rw [hj]; simpa using ew) ⟨rfl, fin⟩) hs
theorem ix_tup : IxR X (rIxT X.K) := by
  intro value slice pins s σ H x y v u Q I rx ry h hs
  obtain ⟨p, xs, i, z, rfl, rfl, hq, he, q⟩ := h
  cases rx
  obtain ⟨t, rfl⟩ := ry
  obtain ⟨its, r, pl, hz⟩ := I.tuple hq
  obtain ⟨j, h1, h2, h3, h4, h5⟩ := atI_get he
  obtain ⟨w, ew, rw'⟩ := r.get h2
  have hl := r.length
  have hn := line63
  have fin : EP X pins σ Q w s := ⟨z, H, I, rw', q⟩
  exact subscriptTail_builtinR (x := w) pl.typeIs slot_tuple_getitem.lookup
    (getItem_tuple (j := j) (Q := fun r s' => r = w ∧ EP X pins σ Q r s') pl (by omega) (by omega) (by rw [List.size_toArray, ← hl]; exact h1) (by simpa using ew) ⟨rfl, fin⟩) hs
/-! ### xs[i] = v, any sign -/
theorem mapSeq_set (its : List Value) (n j : Nat) (u : Value) : Obj.mapSeq (·.setIfInBounds j u) { cls := .type "list", data := .seq its.toArray n } = { cls := .type "list", data := .seq (its.set j u).toArray n } := by
  simp [Obj.mapSeq]
theorem Inv.lst {pins : List (Addr × Obj)} {σ : St} {H : Hp} {s : Shared} {p : Addr} {xs : List V} (I : Inv X pins σ H s) (h : H p = some (.lst xs)) :
    ∃ (its : List Value) (n : Nat), Vals xs its ∧ s.heap.get? p = some { cls := .type "list", data := .seq its.toArray n } ∧ xs.length ≤ sizeLine := by
  obtain ⟨z, its, n, r, e⟩ := I.hok p _ h
  exact ⟨its, n, r, e, z⟩
theorem Inv.lstUpd {pins : List (Addr × Obj)} {σ : St} {H : Hp} {s : Shared} {p : Addr} {xs ys : List V} {its its' : List Value} {n n' : Nat} {f : Obj → Obj} (I : Inv X pins σ H s) (h : H p = some (.lst xs))
    (ho : s.heap.get? p = some { cls := .type "list", data := .seq its.toArray n }) (hf : f { cls := .type "list", data := .seq its.toArray n } = { cls := .type "list", data := .seq its'.toArray n' }) (r : Vals ys its') (hz : ys.length ≤ sizeLine) (t : Nat) :
    Inv X pins σ (upd H p (.lst ys)) { s with heap := s.heap.update p f, toks := t } := by
  have e : (s.heap.update p f).get? p = some { cls := .type "list", data := .seq its'.toArray n' } := by
    rw [Heap.get?_update_self f ho (by rw [hf] <;> rfl), hf]
  refine I.write (x := p) (e := p) (by rw [h]; trivial) (.inl rfl) (fun b u hb q => (Heap.get?_update_other _ _ (Ne.symm hb)).trans q) ⟨_, e⟩ ?_
  exact ⟨hz, its', n', r, e⟩
def rSetL : V → V → V → Hp → (Hp → Prop) → Prop := fun o i v H Q => ∃ p xs k j, o = .ref p ∧ i = .int k ∧ H p = some (.lst xs) ∧ ixN xs.length k = some j ∧ Q (upd H p (.lst (xs.set j v)))
theorem set_list : PSet X rSetL := by
  intro pins s σ H o i v ov iv u Q I ro ri rv h
  obtain ⟨p, xs, k, j, rfl, rfl, hp, hj, q⟩ := h
  cases ro
  obtain ⟨t, rfl⟩ := ri
  obtain ⟨its, n, r, ho, hz⟩ := I.lst hp
  obtain ⟨h1, h2, h3, h4⟩ := ixN_seq hj
  have hl := r.length
  have hn := line63
  have I' : Inv X pins σ (upd H p (.lst (xs.set j v))) { s with heap := s.heap.update p (Obj.mapSeq (·.setIfInBounds j u)) } :=
    I.lstUpd hp ho (mapSeq_set its n j u) (r.set rv j) (by rw [List.length_set]; exact hz) s.toks
  by_cases h0 : 0 ≤ k
  · have hk : k.toNat = j := by
      rw [seqIndex_of h0 h4] at h1
      exact Option.some.inj h1
    exact PySem.W.ki_setAt ho h0 (by omega) (by rw [List.size_toArray, ← hl]; exact h4) (by rw [hk]; exact ⟨_, I', q⟩)
  · have hk : (k + (its.toArray.size : Int)).toNat = j := by
      rw [seqIndex_neg (by omega) h3] at h1
      rw [List.size_toArray, ← hl]
      exact Option.some.inj h1
    exact PySem.W.ki_setBack ho (by omega) (by rw [List.size_toArray, ← hl]; exact h3) (by omega) (by rw [hk]; exact ⟨_, I', q⟩)
/-! ### slices -/
theorem slice_bounds (lo hi : Option Int) (n : Nat) : (sliceBounds lo hi none n).1 = ((HT.sIx n 0 lo : Nat) : Int) ∧ (sliceBounds lo hi none n).2.1 = ((HT.sIx n n hi : Nat) : Int) ∧ (sliceBounds lo hi none n).2.2 = 1 := by
  refine ⟨?_, ?_, rfl⟩
  · cases lo with
    | none => simp [sliceBounds, HT.sIx]
    | some i =>
      simp only [sliceBounds, HT.sIx, Option.getD_none, show (1 : Int) > 0 by decide, if_true]
      by_cases h : i < 0
      · simp only [h, if_true] <;> omega
      · simp only [h, if_false] <;> omega
  · cases hi with
    | none => simp [sliceBounds, HT.sIx]
    | some i =>
      simp only [sliceBounds, HT.sIx, Option.getD_none, show (1 : Int) > 0 by decide, if_true]
      by_cases h : i < 0
      · simp only [h, if_true] <;> omega
      · simp only [h, if_false] <;> omega
theorem slicePick_cut (its : List Value) (lo hi : Option Int) : slicePick its.toArray lo hi none = ((its.drop (HT.sIx its.length 0 lo)).take (HT.sIx its.length its.length hi - HT.sIx its.length 0 lo)).toArray := by
  obtain ⟨h1, h2, h3⟩ := slice_bounds lo hi its.toArray.size
  unfold slicePick
  rw [h1, h2, h3]
  simp only [sliceRange_one, pick_run, List.size_toArray] <;> rfl
def rSlL (K : PySem.W.Frag) : V → Option Int → Option Int → Hp → VK → Prop := fun x lo hi H Q => ∃ a xs, x = .ref a ∧ SqL K H a xs ∧ ∀ p, H p = none → Q (.ref p) (upd H p (.lst (cutV xs lo hi)))
theorem sl_list : SlR X (rSlL X.K) := by
  intro pins s σ H x v vl vu lo hi sl Q I rx hs pl pu h
  obtain ⟨a, xs, rfl, hx, q⟩ := h
  cases rx
  obtain ⟨its, r, ht, hz⟩ := I.list hx
  have hlen := r.length
  refine ⟨"list", _, slot_list_getitem.lookup, ht.isList.typeIs, ?_⟩
  refine wpAny_getItem_list_slice ht.isList hs pl pu .none (by simp) ?_ (by rw [List.size_toArray] <;> omega)
  rw [slicePick_cut, ← hlen]
  refine ⟨.ref s.heap.objs.size, _, I.laid (t' := s.toks) (o := .lst (cutV xs lo hi)) (fun b ob q => Heap.get?_push_of_some _ q) (Nat.le_refl _) ?_, rfl, q _ (I.hok.fresh (Nat.le_refl _))⟩
  exact ⟨Nat.le_trans (cutV_length xs lo hi) hz, _, 0, (r.drop (HT.sIx xs.length 0 lo)).take (HT.sIx xs.length xs.length hi - HT.sIx xs.length 0 lo), Heap.get?_push_size _ rfl⟩
/-! ### in, not in: flat items -/
/-! ### len, list(x), tuple(x) of any list or tuple that is read -/
theorem call_len_seq : CallR X (.builtin "len") (fun xs H Q => ∃ p ys, xs = [.ref p] ∧ (SqL X.K H p ys ∨ SqT X.K H p ys) ∧ Q (.int ys.length) H) := by
  intro pins s σ H xs us Q I r h
  obtain ⟨p, ys, rfl, hq, q⟩ := h
  obtain ⟨u, rfl, rx⟩ := vals1 r
  cases rx
  have hn := line63
  rcases hq with hq | hq
  · obtain ⟨its, r', pl, hz⟩ := I.list hq
    have hlen := r'.length
    exact Calls.call_len_list pl.isList (by simp only [List.size_toArray] <;> omega) ⟨.int ys.length, H, I.tok _, ⟨s.toks + 1, by rw [List.size_toArray, hlen]⟩, q⟩
  · obtain ⟨its, r', pl, hz⟩ := I.tuple hq
    have hlen := r'.length
    exact len_tuple pl (by simp only [List.size_toArray] <;> omega) ⟨.int ys.length, H, I.tok _, ⟨s.toks + 1, by rw [List.size_toArray, hlen]⟩, q⟩
theorem call_list_of : CallR X (.type "list") (fun xs H Q => ∃ p ys, xs = [.ref p] ∧ (SqL X.K H p ys ∨ SqT X.K H p ys) ∧ ∀ l, H l = none → Q (.ref l) (upd H l (.lst ys))) := by
  intro pins s σ H xs us Q I r h
  obtain ⟨p, ys, rfl, hq, q⟩ := h
  obtain ⟨u, rfl, rx⟩ := vals1 r
  cases rx
  have fin : ∀ (its : List Value), Vals ys its → ys.length ≤ sizeLine → ∀ (h' : Heap) (c' : Nat), (∀ b o', s.heap.get? b = some o' → h'.get? b = some o') →
      h'.get? s.heap.objs.size = some { cls := .type "list", dict := none, data := .seq its.toArray c', slots := #[] } → EP X pins σ Q (.ref s.heap.objs.size) { s with heap := h' } := fun its r' hz h' c' kp e =>
    ⟨.ref s.heap.objs.size, _, I.laid (t' := s.toks) kp (Nat.le_refl _) (show ObjOk X.prog X.w _ h' _ (.lst ys) from ⟨hz, its, c', r', e⟩), rfl, q _ (I.hok.fresh (Nat.le_refl _))⟩
  rcases hq with hq | hq
  · obtain ⟨its, r', pl, hz⟩ := I.list hq
    have hlen := r'.length
    obtain ⟨o, ho, hc, n, hd⟩ := pl.isList
    exact call_list_seq p (.inl rfl) ho hc hd (fun h' c' kp e => fin its r' hz h' c' kp e) (by simp only [List.size_toArray] <;> omega)
  · obtain ⟨its, r', pl, hz⟩ := I.tuple hq
    have hlen := r'.length
    obtain ⟨o, ho, hc, n, hd⟩ := pl
    exact call_list_seq p (.inr rfl) ho hc hd (fun h' c' kp e => fin its r' hz h' c' kp e) (by simp only [List.size_toArray] <;> omega)
theorem call_tuple_of : CallR X (.type "tuple") (fun xs H Q => ∃ p ys, xs = [.ref p] ∧ ((SqL X.K H p ys ∧ ∀ l, H l = none → Q (.ref l) (upd H l (.tup ys))) ∨ (SqT X.K H p ys ∧ Q (.ref p) H))) := by
  intro pins s σ H xs us Q I r h
  obtain ⟨p, ys, rfl, h⟩ := h
  obtain ⟨u, rfl, rx⟩ := vals1 r
  cases rx
  rcases h with ⟨hq, q⟩ | ⟨hq, q⟩
  · obtain ⟨its, r', pl, hz⟩ := I.list hq
    have hlen := r'.length
    refine call_tuple_list pl.isList (fun h' kp => ?_) (by simp only [List.size_toArray] <;> omega)
    have I1 : Inv X pins σ H { s with heap := h' } := I.kept (t' := s.toks) kp
    have I2 : Inv X pins σ (upd H h'.objs.size (.tup ys)) { s with heap := h'.push { cls := .type "tuple", data := .seq its.toArray } } :=
      I1.laid (t' := s.toks) (fun b o e => Heap.get?_push_of_some _ e) (Nat.le_refl _) (show ObjOk X.prog X.w _ _ _ (.tup ys) from ⟨hz, its, r', IsTup.new _ _⟩)
    exact ⟨.ref h'.objs.size, _, I2, rfl, q _ (I1.hok.fresh (Nat.le_refl _))⟩
  · obtain ⟨its, r', pl, hz⟩ := I.tuple hq
    exact call_tuple_same pl ⟨.ref p, H, I, rfl, q⟩
/-! ### the call of a builtin's method: o.m(..) -/
def tyV (K : PySem.W.Frag) (T : String) (x : V) (H : Hp) : Prop := match x with
  | .str _ => T = "str"
  | .int _ => T = "int"
  | .ref p => (T = "list" ∧ ∃ xs, SqL K H p xs) ∨ (T = "tuple" ∧ ∃ o, K.lookup p = some o ∧ o.cls = .type "tuple" ∧ o.dict = none) ∨
      (T = "dict" ∧ ((∃ kvs, H p = some (.dK kvs)) ∨ ∃ kvs, H p = some (.dT kvs))) ∨ (T = "set" ∧ ∃ S n, H p = some (.set S n))
  | _ => False
theorem tyV_is {pins : List (Addr × Obj)} {σ : St} {H : Hp} {s : Shared} {T : String} {x : V} {v : Value} (I : Inv X pins σ H s) (r : RelV x v) (ty : tyV X.K T x H) :
    s.TypeIs v T ∧ ∀ a, v = .ref a → ∃ ob, s.heap.get? a = some ob ∧ ob.dict = none := by
  cases x with
  | str z =>
    obtain ⟨t, rfl⟩ := r
    cases (show T = "str" from ty)
    exact ⟨typeIs_str s z t, fun _ e => nomatch e⟩
  | int i =>
    obtain ⟨t, rfl⟩ := r
    cases (show T = "int" from ty)
    exact ⟨typeIs_int s i t, fun _ e => nomatch e⟩
  | ref p =>
    cases r
    rcases ty with ⟨rfl, xs, hq⟩ | ⟨rfl, o, hk, hc, hd⟩ | ⟨rfl, hk⟩ | ⟨rfl, S, n, hk⟩
    · obtain ⟨its, _, pl, _⟩ := I.list hq
      refine ⟨pl.isList.typeIs, fun a e => ?_⟩
      cases e
      obtain ⟨o, n, e, c, hd, _⟩ := pl
      exact ⟨o, e, hd⟩
    · refine ⟨⟨o, I.kIn p o hk, hc⟩, fun a e => ?_⟩
      cases e
      exact ⟨o, I.kIn _ o hk, hd⟩
    · have z : ∃ o, s.heap.get? p = some o ∧ o.ExactDict := by
        rcases hk with ⟨kvs, hk⟩ | ⟨kvs, hk⟩
        · obtain ⟨_, _, _, _, o, _, _, e, ex, _⟩ := I.hok p _ hk
          exact ⟨o, e, ex⟩
        · obtain ⟨_, _, _, _, o, _, _, e, ex, _⟩ := I.hok p _ hk
          exact ⟨o, e, ex⟩
      obtain ⟨o, e, ex⟩ := z
      refine ⟨⟨o, e, ex.1⟩, fun a e2 => ?_⟩
      cases e2
      exact ⟨o, e, ex.2.1⟩
    · obtain ⟨o, _, _, _, e, ex, _⟩ := I.hok p _ hk
      refine ⟨⟨o, e, ex.1⟩, fun a e2 => ?_⟩
      cases e2
      exact ⟨o, e, ex.2.1⟩
  | _ => exact False.elim ty
def tBM0 (K : PySem.W.Frag) (T : String) (r : V → List V → Hp → VK → Prop) (to : TE) : TE := fun σ H Q => to σ H fun x H1 => tyV K T x H1 ∧ r x [] H1 Q
def tBM (K : PySem.W.Frag) (T : String) (r : V → List V → Hp → VK → Prop) (to : TE) (t : TA) : TE := fun σ H Q => to σ H fun x H1 => tyV K T x H1 ∧ t σ H1 fun xs H2 => r x xs H2 Q
variable {o e : Expr} {es : List Expr} {to : TE} {t : TA} {name : Str} {apos cpos : Pos} {T id : String} {r : V → List V → Hp → VK → Prop}
theorem pe_bm0 (pa : PlainAttrs T) (slot : Slot T name id) (hty : typeOf (.builtin id) = pure (.type "method_descriptor")) (hm : MtR X id r) (ho : PE X o to)
    (hbase : attributeBase o name X.env (eval o X.env) = eval o X.env := by rfl) (hline : (apos.endLine == cpos.line) = true := by rfl) : PE X (.Call (.Attribute o name apos) [] [] cpos) (tBM0 X.K T r to) := by
  intro pins s σ H Q I h
  refine wpAny_Call_method0_late hbase hline (thn (ho pins s σ H _ I h) fun v s1 ⟨x, H1, I1, r1, ty, q1⟩ => ?_)
  obtain ⟨h1, h2⟩ := tyV_is I1 r1 ty
  exact ⟨T, id, pa, slot, hty, h1, h2, Calls.callWith_builtin rfl (PySem.evalArgs_none (hm pins s1 σ H1 x [] v [] Q I1 r1 .nil q1))⟩
theorem pe_bm (pa : PlainAttrs T) (slot : Slot T name id) (hty : typeOf (.builtin id) = pure (.type "method_descriptor")) (hm : MtR X id r) (ho : PE X o to) (ha : PA X (e :: es) t)
    (hbase : attributeBase o name X.env (eval o X.env) = eval o X.env := by rfl)
    (hfew : ((backTo cpos (starEach (e :: es) X.env)).all (fun x => !x.1) && (backToKw cpos (keywordEach [] X.env)).all (fun x => x.1.isSome)
      && decide ((e :: es).length + ([] : List Keyword).length + (if ([] : List Keyword).isEmpty then 0 else 1) < 30)) = true := by rfl)
    (hline : (apos.endLine == cpos.line) = true := by rfl) (hs : starEach (e :: es) X.env = (false, eval e X.env) :: starEach es X.env := by rfl) (hplain : (backTo cpos (starEach es X.env)).any (·.1) = false := by rfl) :
    PE X (.Call (.Attribute o name apos) (e :: es) [] cpos) (tBM X.K T r to t) := by
  intro pins s σ H Q I h
  refine wpAny_Call_method_late hbase hfew hline rfl (thn (ho pins s σ H _ I h) fun v s1 ⟨x, H1, I1, r1, ty, q1⟩ => ?_)
  obtain ⟨h1, h2⟩ := tyV_is I1 r1 ty
  refine ⟨T, id, pa, slot, hty, h1, h2, ?_⟩
  have hA := ha cpos pins s1 σ H1 _ I1 q1
  rw [hs] at hA ⊢
  refine Calls.callWith_builtin (by show (false || (backTo cpos (starEach es X.env)).any (·.1)) = false; rw [hplain] <;> rfl) (Calls.evalArgs_plain ?_)
  exact thn hA fun us s2 ⟨vs, H2, I2, r2, q2⟩ => hm pins s2 σ H2 x vs v us Q I2 r1 r2 q2
/- xs.append(e), list.index on a module's tuple .. are MtR facts of 06m -/
end
end L2
namespace L2
open PySem PySem.Spec PyProof.Rows
def MtM (X : Cx) (id : String) (r : V → List V → Hp → VK → Prop) : Prop :=
  ∀ (pins : List (Addr × Obj)) (s : Shared) (σ : St) (H : Hp) (x : V) (xs : List V) (v : Value) (us : List Value) (Q : VK), Inv X pins σ H s → RelV x v → Vals xs us → r x xs H Q →
    wpAny (model X.prog X.w) X.A (call (.builtin id) (v :: us)) (EP X pins σ Q) X.xe s
/-! ### lists of values -/
theorem Vals.one : ∀ {x : V} {us : List Value}, Vals [x] us → ∃ u, us = [u] ∧ RelV x u
  | _, _, .cons r .nil => ⟨_, rfl, r⟩
theorem Vals.zero : ∀ {us : List Value}, Vals [] us → us = []
  | _, .nil => rfl
theorem Vals.rep {xs : List V} {us : List Value} (h : Vals xs us) : ∀ k : Nat, Vals (List.replicate k xs).flatten (List.replicate k us).flatten
  | 0 => .nil
  | k + 1 => by
    rw [List.replicate_succ, List.replicate_succ, List.flatten_cons, List.flatten_cons]
    exact Vals.append h (Vals.rep h k)
theorem foldl_rep (its : List Value) : ∀ (k : Nat) (acc : List Value),
    List.foldl (fun x1 x2 => x1 ++ x2) acc.toArray (List.replicate k its.toArray) = (acc ++ (List.replicate k its).flatten).toArray
  | 0, acc => by simp
  | k + 1, acc => by
    have e : acc.toArray ++ its.toArray = (acc ++ its).toArray := by simp
    have e2 : (acc ++ its) ++ (List.replicate k its).flatten = acc ++ (List.replicate (k + 1) its).flatten := by
      rw [List.replicate_succ, List.flatten_cons, List.append_assoc]
    rw [← e2, ← foldl_rep its k (acc ++ its), ← e, List.replicate_succ, List.foldl_cons]
section
variable {X : Cx} {pins : List (Addr × Obj)} {σ : St} {H : Hp} {s : Shared} {l b : Addr} {xs ys zs : List V}
/-! ### the two steps: a tracked list is rewritten, a new list is laid -/
theorem Inv.lset {its its' : List Value} {n : Nat} {f : Array Value → Array Value} {t' : Nat} (I : Inv X pins σ H s) (hH : H l = some (.lst xs))
    (e : s.heap.get? l = some { cls := .type "list", data := .seq its.toArray n }) (hf : f its.toArray = its'.toArray) (hv : Vals ys its') (hz : ys.length ≤ sizeLine) :
    Inv X pins σ (upd H l (.lst ys)) { s with heap := s.heap.update l (Obj.mapSeq f), toks := t' } := by
  have q := PySem.IsL.update e f
  rw [hf] at q
  refine I.write (x := l) (e := l) (by rw [hH]; exact trivial) (.inl rfl) (fun b' u hb hu => (Heap.get?_update_other s.heap (Obj.mapSeq f) (Ne.symm hb)).trans hu) ⟨_, q⟩ ?_
  exact ⟨hz, its', _, hv, q⟩
theorem Inv.lnew {its : List Value} {t' : Nat} (I : Inv X pins σ H s) (hv : Vals ys its) (hz : ys.length ≤ sizeLine) :
    Inv X pins σ (upd H s.heap.objs.size (.lst ys)) { s with heap := s.heap.push { cls := .type "list", data := .seq its.toArray }, toks := t' } :=
  I.laid (fun _ _ q => Heap.get?_push_of_some _ q) (Nat.le_refl _) ⟨hz, its, 0, hv, Heap.get?_push_size _ rfl⟩
theorem Inv.fresh (I : Inv X pins σ H s) : H s.heap.objs.size = none := I.hok.fresh (Nat.le_refl _)
theorem Inv.lstM (I : Inv X pins σ H s) (hH : H l = some (.lst xs)) : xs.length ≤ sizeLine ∧ ∃ (its : List Value) (n : Nat), Vals xs its ∧ xs.length = its.length ∧ s.heap.get? l = some { cls := .type "list", data := .seq its.toArray n } := by
  obtain ⟨z, its, n, r, e⟩ := I.hok l _ hH
  exact ⟨z, its, n, r, r.length, e⟩
theorem notLongL {n : Nat} (h : n ≤ sizeLine) : Builtin.List.listTooLong n = false := by
  unfold Builtin.List.listTooLong
  exact decide_eq_false (by omega)
end
section
variable {X : Cx}
/-! ### methods -/
def rAppend : V → List V → Hp → VK → Prop := fun x vs H Q => ∃ l xs y, x = .ref l ∧ vs = [y] ∧ H l = some (.lst xs) ∧ xs.length < sizeLine ∧ Q .non (upd H l (.lst (xs ++ [y])))
theorem mt_append : MtM X "list.append" rAppend := by
  intro pins s σ H x vs v us Q I rx rv h
  obtain ⟨l, xs, y, rfl, rfl, hH, hz, q⟩ := h
  cases rx
  obtain ⟨u, rfl, ru⟩ := rv.one
  obtain ⟨z, its, n, r, hl, e⟩ := I.lstM hH
  refine call_meets F.slot_list_append ⟨_, e, rfl⟩ F.entry_list_append (F.args_list_append_2 _ _) (PySem.list_append l its.toArray n u (by rw [List.size_toArray]; omega)) ⟨e, ?_⟩
  refine ⟨.non, _, I.lset (its' := its ++ [u]) hH e (by simp) (r.append (.cons ru .nil)) ?_, rfl, q⟩
  rw [List.length_append, List.length_singleton]
  omega
def rExtend : V → List V → Hp → VK → Prop := fun x vs H Q => ∃ l b xs zs, x = .ref l ∧ vs = [.ref b] ∧ H l = some (.lst xs) ∧ H b = some (.lst zs) ∧ xs.length + zs.length ≤ sizeLine ∧ Q .non (upd H l (.lst (xs ++ zs)))
theorem mt_extend : MtM X "list.extend" rExtend := by
  intro pins s σ H x vs v us Q I rx rv h
  obtain ⟨l, b, xs, zs, rfl, rfl, hH, hB, hz, q⟩ := h
  cases rx
  obtain ⟨u, rfl, ru⟩ := rv.one
  cases ru
  obtain ⟨z, its, n, r, hl, e⟩ := I.lstM hH
  obtain ⟨z2, its2, n2, r2, hl2, e2⟩ := I.lstM hB
  have hsz : its.toArray.size + its2.toArray.size ≤ sizeLine := by rw [List.size_toArray, List.size_toArray]; omega
  have hlong : ¬ (!its.toArray.isEmpty && Builtin.List.listTooLong (its.toArray.size + its2.toArray.size)) = true := by
    rw [notLongL hsz, Bool.and_false]
    exact Bool.false_ne_true
  refine call_meets F.slot_list_extend ⟨_, e, rfl⟩ F.entry_list_extend (F.args_list_extend_2 _ _)
    (AutoSeq1.list_extend_list_list_0 l its.toArray n b its2.toArray n2 hlong (by rw [List.size_toArray]; omega) (by omega)) ⟨e, e2, ?_⟩
  refine ⟨.non, _, I.lset (its' := its ++ its2) hH e (by simp) (r.append r2) ?_, rfl, q⟩
  rw [List.length_append]
  omega
def rClear : V → List V → Hp → VK → Prop := fun x vs H Q => ∃ l xs, x = .ref l ∧ vs = [] ∧ H l = some (.lst xs) ∧ Q .non (upd H l (.lst []))
theorem mt_clear : MtM X "list.clear" rClear := by
  intro pins s σ H x vs v us Q I rx rv h
  obtain ⟨l, xs, rfl, rfl, hH, q⟩ := h
  cases rx
  have hus := rv.zero
  subst hus
  obtain ⟨z, its, n, r, hl, e⟩ := I.lstM hH
  refine call_meets F.slot_list_clear ⟨_, e, rfl⟩ F.entry_list_clear (F.args_list_clear_1 _) (AutoSeq1.list_clear_list_0 l its.toArray n (by rw [List.size_toArray]; omega)) ⟨e, ?_⟩
  exact ⟨.non, _, I.lset (its' := []) (ys := []) hH e rfl .nil (Nat.zero_le _), rfl, q⟩
/-! ### list + list, list += list, list * int -/
def rCat : R2 := fun x y H Q => ∃ l b xs zs, x = .ref l ∧ y = .ref b ∧ H l = some (.lst xs) ∧ H b = some (.lst zs) ∧ xs.length + zs.length ≤ sizeLine ∧ ∀ p, H p = none → Q (.ref p) (upd H p (.lst (xs ++ zs)))
theorem op_cat : OpR X (binaryOp .Add) rCat := by
  intro pins s σ H x y v u Q I rx ry h
  obtain ⟨l, b, xs, zs, rfl, rfl, hH, hB, hz, q⟩ := h
  cases rx
  cases ry
  obtain ⟨z, its, n, r, hl, e⟩ := I.lstM hH
  obtain ⟨z2, its2, n2, r2, hl2, e2⟩ := I.lstM hB
  refine PySem.P.add_list e e2 ?_ (by rw [List.size_toArray, List.size_toArray]; omega)
  have ea : its.toArray ++ its2.toArray = (its ++ its2).toArray := by simp
  rw [ea]
  exact ⟨.ref _, _, I.lnew (t' := s.toks) (r.append r2) (by rw [List.length_append]; omega), rfl, q _ I.fresh⟩
def rRep : R2 := fun x y H Q => ∃ l k xs, x = .ref l ∧ y = .int k ∧ H l = some (.lst xs) ∧ -(2 ^ 63) ≤ k ∧ k < 2 ^ 63 ∧ xs.length * k.toNat ≤ sizeLine ∧
  ∀ p, H p = none → Q (.ref p) (upd H p (.lst (List.replicate k.toNat xs).flatten))
theorem len_rep {α : Type} (xs : List α) (k : Nat) : (List.replicate k xs).flatten.length = k * xs.length := by
  induction k with
  | zero => simp
  | succ k ih => rw [List.replicate_succ, List.flatten_cons, List.length_append, ih, Nat.succ_mul, Nat.add_comm]
theorem op_rep : OpR X (binaryOp .Mult) rRep := by
  intro pins s σ H x y v u Q I rx ry h
  obtain ⟨l, k, xs, rfl, rfl, hH, h1, h2, hz, q⟩ := h
  cases rx
  obtain ⟨t, rfl⟩ := ry
  obtain ⟨z, its, n, r, hl, e⟩ := I.lstM hH
  have hlen : its.toArray.size * k.toNat ≤ sizeLine := by rw [List.size_toArray, ← hl]; exact hz
  have hcap : ¬ its.toArray.size * k.toNat > (2 ^ 63 - 1) / 8 := by
    have : (sizeLine : Nat) ≤ (2 ^ 63 - 1) / 8 := by decide
    omega
  have hfit : ¬ (!Builtin.List.listFitsIndex k) = true := by
    rw [fitsIndex_both h1 h2]
    exact Bool.false_ne_true
  have hlong : ¬ Builtin.List.listTooLong (its.toArray.size * k.toNat) = true := by
    rw [notLongL hlen]
    exact Bool.false_ne_true
  have hnew : List.foldl (fun x1 x2 => x1 ++ x2) #[] (List.replicate (if its.toArray.isEmpty = true then 0 else k.toNat) its.toArray) = (List.replicate k.toNat its).flatten.toArray := by
    have f0 : ∀ m : Nat, List.foldl (fun x1 x2 => x1 ++ x2) #[] (List.replicate m its.toArray) = (List.replicate m its).flatten.toArray := fun m => by
      have := foldl_rep its m []
      rw [List.nil_append] at this
      exact this
    rw [f0]
    cases its with
    | nil => simp
    | cons a r' => rw [if_neg (by simp)]
  refine wpAny_binaryOp_repeat_ref (T := "list") (U := "int") (by decide) ⟨_, e, rfl⟩ (fun s' => typeIs_int s' k t) noFill_list_mul F.fills_int_mul F.slot_int_rmul repeat_list F.slot_int_index.lookup
    (call_meets F.slot_int_rmul (typeIs_int s k t) F.entry_int_rmul (F.args_int_rmul_2 _ _) (int___rmul___int_list k t l its.toArray n)
      ⟨e, rfl, ⟨_, e, rfl⟩, call_meets F.slot_list_mul ⟨_, e, rfl⟩ F.entry_list_mul (F.args_list_mul_2 _ _) (AutoListH.list___mul___list_int_3 l its.toArray n k t hfit hcap hlong) ⟨e, ?_⟩⟩)
  rw [hnew]
  exact ⟨.ref _, _, I.lnew (t' := s.toks) (r.rep k.toNat) (by rw [len_rep, Nat.mul_comm]; exact hz), rfl, q _ I.fresh⟩
/-! ### del xs[i] -/
end
/-! ### xs[a:b] = ys -/
section
variable {prog : Program} {w : World} {A : Around} {E : Value → Shared → Prop} {s : Shared}
end
section
variable {X : Cx}
end
end L2
namespace Att
open PySem PySem.W PySem.Calls PyProof.Rows
/-! ### the script -/
theorem ints_of_wellAll {P : Params} {h : Heap} : ∀ (ns : List Int) (vs : List Value), WellAll P h vs (ns.map WData.int) → IntsAre vs ns := by
  intro ns
  induction ns with
  | nil =>
    intro vs w
    rw [List.map_nil] at w
    cases w
    exact .nil
  | cons n ns ih =>
    intro vs w
    rw [List.map_cons] at w
    cases w with
    | cons a b =>
      cases a
      exact .cons _ _ (ih _ b)
theorem script_of {l : OpenLaw} {n : Nat} (hn : l.most = some n) {P : Params} {h : Heap} {args : List WData} {vals : List Value}
    (hpre : l.row.toRowW.claim.pre args = true) (hwl : WellAll P h vals args) :
    ∃ a vs ns, vals = [Value.ref a] ∧ args = [WData.list (ns.map WData.int)] ∧ h.get? a = some { cls := .type "list", data := .seq vs.toArray } ∧ IntsAre vs ns ∧ ns.length ≤ n := by
  have hsh : WShape.hasAll [] args [.list .int] = true := (pre_splitW hpre).1
  have hc : l.pre.holds [] { args := args } = true := (pre_splitW hpre).2
  obtain ⟨d, r, rfl, h1, h2⟩ := hasAllW_cons hsh
  obtain rfl := hasAllW_nil h2
  obtain ⟨xs, rfl, h3⟩ := hasW_list h1
  obtain ⟨ns, rfl⟩ := items_int h3
  have hlen : ns.length ≤ n := by
    unfold OpenLaw.pre at hc
    have h4 : (WTm.not (.lt (.lit (.int (n : Int))) (.len (.arg 0)))).holds [] { args := [.list (ns.map .int)] } = true := by
      have h4 := (holds_andW hc).1
      rw [hn] at h4
      exact h4
    have h5 := condW_of h4 (w_not (w_lt w_lit (w_len_list (w_arg rfl))))
    rw [List.length_map] at h5
    refine Nat.le_of_not_lt fun q => ?_
    have q' : (n : Int) < ((ns.length : Nat) : Int) := by omega
    first
      | (rw [decide_eq_true q'] at h5; exact absurd h5 (by decide))
      | (simp at h5; omega)
  cases hwl with
  | cons w1 w2 =>
    cases w2
    cases w1 with
    | list ho hall => exact ⟨_, _, ns, rfl, rfl, ho, ints_of_wellAll ns _ hall, hlen⟩
theorem post_true (l : OpenLaw) (args : List WData) : l.row.toRowW.claim.post args (.bool true) args = true :=
  postW_of (r := l.row.toRowW) (X := (true == true))
    (show WShape.has [] (.bool true) .bool = true by first | rfl | decide | simp [WShape.has, WShape.arms, WShape.armsAll])
    (show (WTm.eq .res (.lit (.bool true))).value [] { args := args, res := some (.bool true), after := args } = some (.bool (true == true)) from w_eq_bool (w_res rfl) w_lit) rfl
/-! ### the attachment: holds_open's last premise (the goal 'hc' behind k_head) from a wpAny of the law's body -/
theorem attach_call {l : OpenLaw} {n : Nat} {q : Program} {loose : List Str} {XP : (Str → Option Value) → Heap → Prop} {YP : World → Heap → Prop} {d : DefRec}
    (hn : l.most = some n) (hdf : d.params.defaults = [])
    (call : ∀ (w : World) (s₀ s₁ : Shared) (mg mb : Str → Option Value) (fa : Addr) (o : Obj) (pm cd doc : Value) (a : Addr) (vs : List Value) (ns : List Int),
      Ground q loose [] XP w s₀ mg mb s₁.heap → YP w s₁.heap →
      s₁.heap.get? fa = some o → o.data = .func (docDef d.name d.params d.body d.scope pm cd doc) → s₁.heap.CodeRec cd d.name → mg d.name = some (.ref fa) →
      s₁.heap.get? a = some { cls := .type "list", data := .seq vs.toArray } → IntsAre vs ns → ns.length ≤ n → s₁.gens = #[] →
      codeAny (model l.prog w) callerA (.call (.ref fa) ⟨[.ref a], []⟩) (fun r s' => r = .ok (.ret (.bool true)) ∧ OldK s₁.heap s'.heap ∧ s'.os = s₁.os ∧ AllBare s'.gens) s₁) :
    WalkO q loose XP YP l.row.toRowW d [] (fun f vs => PySem.call f vs) := by
  intro w s₀ s₁ mg mb G Y fa o pm cd doc dV kV ho hd hcd hD hmg hg args vals as hpre hlay hrd hwl hlo
  obtain rfl : dV = .none := Dflts.none hD hdf
  obtain rfl : kV = .none := Dflts.noKw hD
  obtain ⟨a, vs, ns, rfl, rfl, hobj, hints, hlen⟩ := script_of hn hpre hwl
  refine enter_call (codeAny_mono (call w s₀ s₁ mg mb fa o pm cd doc a vs ns G Y ho (fd_plain hd) hcd hmg hobj hints hlen hg) fun r s' hq => ?_)
  obtain ⟨rfl, h2, h3, h4⟩ := hq
  exact ⟨.inl ⟨.bool true, .bool true, [], rfl, fun _ => rfl, .bool true, post_true l _, fun _ => ⟨List.Pairwise.nil, fun _ hm => (nomatch hm)⟩⟩, h2, h3, h4⟩
/-! ### rules over ANY heap (no ledger) from facts about the written part K: the library's own take a ledger (News) for what they write -/
section
variable {prog : Program} {w : World} {A : Around} {E : Value → Shared → Prop} {s : Shared} {K : Frag}
/-! the whole heap as the ledger: makes every rule that writes through a ledger a rule over any heap -/
end
end Att
namespace L2
open PySem PySem.Spec PyProof.Rows
theorem vals_ints : ∀ {vs : List Value} {ns : List Int}, IntsAre vs ns → Vals (ns.map V.int) vs
  | _, _, .nil => .nil
  | _, _, .cons n t h => .cons ⟨t, rfl⟩ (vals_ints h)
def Only (H : Hp) : Prop := ∀ b, H b = none ∨ ∃ o xs, H b = some (.frz o (.lst xs))
theorem law_call {P : Program} {w : World} {K : PySem.W.Frag} {mg mb : Str → Option Value} {CX : CXT} {k : Nat} {fa a : Addr} {fd : FuncData} {x : Str} {sp : Sp} {s₁ : Shared} {vs : List Value} {ns : List Int}
    (KX : K.In s₁.heap) (hns : s₁.heap.Ns mainGlobals mg) (hb : s₁.heap.Ns builtinsNs mb) (hbb : ∀ x : Str, x ≠ "__name__" → mb x = bootBuiltins x) (hlim : s₁.heap.NoLimit) (hS0 : s₁.heap.NoSeer) (hg : s₁.gens = #[])
    (ha : s₁.heap.get? a = some { cls := .type "list", data := .seq vs.toArray }) (hi : IntsAre vs ns) (hl : ns.length ≤ sizeLine) (hr : Room k callerA)
    (F : ∀ base : Heap, K.In base → base.Ns mainGlobals mg → base.NoSeer → FnOk P w K mg base CX k fa fd [x] sp) (hbind : ∀ (s : Shared) (u : Value), BindsTo s fd ⟨[u], []⟩ [(x, u)])
    (hsp : ∀ H : Hp, Only H → SqL K H a (ns.map V.int) → sp [.ref a] H (fun v _ => v = .bl true) fun _ _ _ => False)
    (hCX : ∀ H e s', CX [] H s₁ (fun _ _ _ => False) e s' → False) :
    codeAny (model P w) callerA (.call (.ref fa) ⟨[.ref a], []⟩) (fun r s' => r = .ok (.ret (.bool true)) ∧ OldK s₁.heap s'.heap ∧ s'.os = s₁.os ∧ AllBare s'.gens) s₁ := by
  have rv := vals_ints hi
  have lenV := hi.length
  -- from an abstract heap in which nothing but the script may be tracked
  have core : ∀ H : Hp, Only H → SqL K H a (ns.map V.int) → HOk P w H s₁.heap → (∀ b, H b ≠ none → b = a) → (H a ≠ none → K.lookup a = none) →
      codeAny (model P w) callerA (.call (.ref fa) ⟨[.ref a], []⟩) (fun r s' => r = .ok (.ret (.bool true)) ∧ OldK s₁.heap s'.heap ∧ s'.os = s₁.os ∧ AllBare s'.gens) s₁ := by
    intro H hO hS hok hA hK
    have base_of : ∀ {b : Addr} {o : Obj}, s₁.heap.get? b = some o → H b = none → (hidT s₁.heap H).get? b = some o := fun e n => hidT_get e n
    have noA : ∀ {b : Addr} {o : Obj} {es : Array DictEntry} {ep : Nat}, s₁.heap.get? b = some o → o.data = .dict es ep → H b = none := fun {b o es ep} e d => by
      cases q : H b with
      | none => rfl
      | some u =>
        have e' : b = a := hA b (by rw [q]; simp)
        subst e'
        rw [ha] at e; cases e
        have d' : Data.seq vs.toArray _ = Data.dict es ep := d
        cases d'
    have nsK : ∀ {b : Addr} {m : Str → Option Value}, s₁.heap.Ns b m → (hidT s₁.heap H).Ns b m := fun {b m} ⟨o, es, ep, e, d, r⟩ => ⟨o, es, ep, base_of e (noA e d), d, r⟩
    have hKb : K.In (hidT s₁.heap H) := fun b o e => base_of (KX b o e) (by
      cases q : H b with
      | none => rfl
      | some u =>
        have e' : b = a := hA b (by rw [q]; simp)
        subst e'
        rw [hK (by rw [q]; simp)] at e; cases e)
    have hM : Mod K mg (hidT s₁.heap H) := ⟨hKb, nsK hns, ⟨mb, nsK hb, hbb⟩, let ⟨mc, h1, h2⟩ := hlim; ⟨mc, nsK h1, h2⟩⟩
    have hSb : (hidT s₁.heap H).NoSeer := ⟨(let ⟨mc, a, b⟩ := hS0.statics; ⟨mc, nsK a, b⟩), (let ⟨mc, a, b⟩ := hS0.mods; ⟨mc, nsK a, b⟩), (let ⟨mc, a, b⟩ := hS0.imp; ⟨mc, nsK a, b⟩),
      (let ⟨mg', bm, ob, a1, b1, c1, d1, e1⟩ := hS0.main; ⟨mg', bm, ob, nsK a1, b1, base_of c1 (by
        cases q : H bm with
        | none => rfl
        | some u =>
          have e' : bm = a := hA bm (by rw [q]; simp)
          subst e'
          rw [ha] at c1
          cases c1
          have d2 : Value.type "list" = Value.type "module" := d1
          injection d2 with d3
          exact absurd d3 (by decide)), d1, e1⟩)⟩
    have e0 : Env0 P w K mg (hidT s₁.heap H) callerA [] s₁ H := ⟨rfl, hM, fun b o e => of_hidT e, Nat.le_of_eq (hidT_size _ _), trivial, fun b hb => absurd (show b ∈ ([] : List Addr) from hb) (by simp), hok, .of_eq hg⟩
    refine codeAny_mono ((F _ hKb (nsK hns) hSb).run callerA [] s₁ H ⟨[.ref a], []⟩ [.ref a] [.ref a] _ _ hr e0 (hbind s₁ (.ref a)) (.cons rfl .nil) (hsp H hO hS)) fun r s' h => ?_
    cases r with
    | error e => exact (hCX H e s' h).elim
    | ok fl =>
      cases fl with
      | next => exact False.elim h
      | brk => exact False.elim h
      | cont => exact False.elim h
      | ret u =>
        obtain ⟨v, H', os, bare, un, hok', r', q⟩ := h
        have q' : v = .bl true := q
        subst q'
        obtain rfl : u = Value.bool true := r'
        refine ⟨rfl, OldK.of_keep fun b o e => ?_, os, bare⟩
        cases q : H b with
        | none => exact un.keep b o e q (by intro z; exact absurd (show b ∈ ([] : List Addr) from z) (by simp)) (by simp)
        | some u =>
          rcases hO b with z | ⟨ob, xs, z⟩
          · rw [q] at z; cases z
          · have z2 := un.frzs b ob _ z
            obtain ⟨e1, _⟩ := hok b _ z
            obtain ⟨e2, _⟩ := hok' b _ z2
            rw [e] at e1; cases e1
            exact e2
  cases hk : K.lookup a with
  | some o =>
    -- the script is one of the module's own objects
    have e := KX a o hk
    rw [ha] at e
    cases e
    refine core (fun _ => none) (fun _ => .inl rfl) (.inr ⟨_, vs.toArray, _, hk, rfl, rfl, rfl, by rw [List.size_toArray, lenV]; exact hl, by simpa using rv⟩) (fun b u z => by have z' : (none : Option HO) = some u := z; cases z') (fun b z => absurd rfl z) fun z => absurd rfl z
  | none =>
    refine core (fun b => if b = a then some (.frz { cls := .type "list", data := .seq vs.toArray } (.lst (ns.map V.int))) else none) (fun b => ?_) (.inl (.inr ⟨{ cls := .type "list", data := .seq vs.toArray }, if_pos rfl⟩)) (fun b u z => ?_) (fun b z => ?_) fun _ => hk
    · by_cases hb : b = a
      · exact .inr ⟨_, _, if_pos hb⟩
      · exact .inl (if_neg hb)
    · by_cases hb : b = a
      · have z' := (if_pos hb).symm.trans z
        cases z'
        subst hb
        exact ⟨ha, by rw [List.length_map]; exact hl, vs, _, rv, ha⟩
      · have z' := (if_neg hb).symm.trans z
        cases z'
    · by_cases hb : b = a
      · exact hb
      · exact absurd (if_neg hb) z
end L2
namespace L2
open PySem PySem.Spec PyProof.Rows
/-- the goal that k_head leaves (case hc), from the law's promise. F gives the function object fd (K's own) once, then the promise over every base -/
theorem walk_of {l : PySem.W.OpenLaw} {n k : Nat} {q : Program} {loose : List Str} {XP : (Str → Option Value) → Heap → Prop} {YP : World → Heap → Prop} {d : DefRec} {K : Params → PySem.W.Frag} {CX : World → CXT} {sp : World → Sp} {x : Str}
    (hn : l.most = some n) (hn2 : n ≤ sizeLine) (hdf : d.params.defaults = []) (hr : Room k callerA) (hI : importsNone q = true)
    (hY : ∀ (w : World) (h : Heap), YP w h → (K w.params).In h)
    (F : ∀ (w : World) (mg : Str → Option Value) (fa : Addr) (h : Heap), (K w.params).In h → h.Ns mainGlobals mg → mg d.name = some (.ref fa) →
      ∃ fd : FuncData, (∀ (s : Shared) (u : Value), BindsTo s fd ⟨[u], []⟩ [(x, u)]) ∧
        ∀ base : Heap, (K w.params).In base → base.Ns mainGlobals mg → base.NoSeer → FnOk l.prog w (K w.params) mg base (CX w) k fa fd [x] (sp w))
    (hsp : ∀ (w : World) (H : Hp) (a : Addr) (ns : List Int), ns.length ≤ n → Only H → SqL (K w.params) H a (ns.map V.int) → sp w [.ref a] H (fun v _ => v = .bl true) fun _ _ _ => False)
    (hCX : ∀ (w : World) (H : Hp) (s : Shared) (e : Value) (s' : Shared), CX w [] H s (fun _ _ _ => False) e s' → False) :
    PySem.W.WalkO q loose XP YP l.row.toRowW d [] (fun f vs => PySem.call f vs) := by
  refine Att.attach_call hn hdf fun w s₀ s₁ mg mb fa o pm cd doc a vs ns G Y ho hd hcd hmg hobj hints hlen hg => ?_
  have KX := hY w _ Y
  obtain ⟨fd, hb, hF⟩ := F w mg fa _ KX G.T.g hmg
  exact law_call KX G.T.g G.T.b G.T.builtins G.T.nolimit (G.T.seer hI) hg hobj hints (Nat.le_trans hlen hn2) hr hF hb (fun H hO hS => hsp w H a ns hlen hO hS) fun H e s' => hCX w H s₁ e s'
end L2
/-! SHORT WORDS over the layer: a def of the text, its body, what a loop and a test want. -/
namespace L2
open PySem PySem.Spec PyProof.Rows
/-! ### the text by places -/
/-- the j-th statement of a class's body -/
def inClass (s : Stmt) (j : Nat) : Stmt := match s with
  | .ClassDef _ _ _ body _ _ _ _ _ _ _ => body.getD j (.Pass ⟨0, 0, 0, 0⟩)
  | _ => .Pass ⟨0, 0, 0, 0⟩
def defArgs (s : Stmt) : Arguments := match s with
  | .FunctionDef _ a _ _ _ _ _ _ _ _ => a
  | _ => { posonlyargs := [], args := [], vararg := none, kwonlyargs := [], kw_defaults := [], kwarg := none, defaults := [] }
def defBody (s : Stmt) : List Stmt := match s with
  | .FunctionDef _ _ b _ _ _ _ _ _ _ => b
  | _ => []
def defScope (s : Stmt) : Scope := match s with
  | .FunctionDef _ _ _ _ _ _ sc _ _ _ => sc
  | _ => { kind := .function, names := [], isGenerator := false, isCoroutine := false }
/-! ### no exception leaves a def -/
abbrev CX0 : CXT := fun _ _ _ _ _ _ => False
abbrev E0 : XK := fun _ _ _ => False
theorem pass0 {X : Cx} : Passes CX0 X E0 := fun _ _ _ _ _ _ _ h => h.elim
/-! ### a def (or method) of the text as it stands behind the top -/
structure Fun (K : PySem.W.Frag) (x qual : Str) (st : Stmt) (f : Addr) (fd : FuncData) : Prop where
  ex : ∃ (oc : Value) (od : Option Addr) (kV doc pm : Value) (an : Option Addr) (cdv ct : Value) (osl : Array (Option Value)),
    fd = PySem.W.fnOf x qual (defArgs st) (defBody st) (defScope st) .none kV doc pm an cdv ct ∧ K.lookup f = some ⟨oc, od, .func fd, osl⟩ ∧ PySem.W.codeIn K cdv qual = true
  kp : PySem.W.keepIn K (.ref f) = true
section
variable {P : Program} {w : World} {K : PySem.W.Frag} {mg : Str → Option Value} {base : Heap}
/-- THE RULE for a def: its body as a term of rules, and the reading of that term -/
theorem Fun.ok {x qual : Str} {st : Stmt} {f : Addr} {fd : FuncData} {N ps : List Str} {k : Nat} {sp : Sp} (F : Fun K x qual st f fd) (S : FnScope N ps (defScope st)) (len : ∀ vs H Q E, sp vs H Q E → vs.length = ps.length)
    (hbody : ∀ (cdv : Value) (A : Around) (outer : List Env) (s : Shared) (H : Hp) (vs : List V) (Q : VK) (E : XK), Room k (A.deeper (envOfC qual (defScope st) s.heap.objs.size f cdv)) → sp vs H Q E →
      ∃ t, PSs (cxOf CX0 P w K mg base N qual (defScope st) f cdv A outer s H E).nox (defBody st) t ∧ t { nx := fun _ H' => Q .non H', rt := Q } (start N vs) H) : FnOk P w K mg base CX0 (k + 1) f fd ps sp := by
  obtain ⟨oc, od, kV, doc, pm, an, cdv, ct, osl, rfl, lk, hcd⟩ := F.ex
  refine fn_of lk hcd S len fun A outer s H vs Q E hr hsp => ?_
  obtain ⟨t, h, q⟩ := hbody cdv A outer s H vs Q E hr hsp
  exact ⟨t, h.nox, q⟩
/-- how its arguments bind (no defaults): h is «fun _ _ _ _ _ _ us hl => match us, hl with | [_, _], _ => rfl», one _ a parameter -/
theorem Fun.binds {x qual : Str} {st : Stmt} {f : Addr} {fd : FuncData} {ps : List Str} (F : Fun K x qual st f fd)
    (h : ∀ (kV doc pm : Value) (an : Option Addr) (cdv ct : Value) (us : List Value), us.length = ps.length → bindArgs (PySem.W.fnOf x qual (defArgs st) (defBody st) (defScope st) .none kV doc pm an cdv ct) ⟨us, []⟩ = pure (ps.zip us)) : Binds K fd ps [] := by
  obtain ⟨oc, od, kV, doc, pm, an, cdv, ct, osl, rfl, lk, hcd⟩ := F.ex
  exact .all (h kV doc pm an cdv ct)
theorem fun_mk {x qual : Str} {st : Stmt} {f : Addr} {oc : Value} {od an : Option Addr} {osl : Array (Option Value)} {kV doc pm cdv ct : Value} (l : K.lookup f = some ⟨oc, od, .func (PySem.W.fnOf x qual (defArgs st) (defBody st) (defScope st) .none kV doc pm an cdv ct), osl⟩)
    (c : PySem.W.codeIn K cdv qual = true) (k : PySem.W.keepIn K (.ref f) = true) : Fun K x qual st f (PySem.W.fnOf x qual (defArgs st) (defBody st) (defScope st) .none kV doc pm an cdv ct) := ⟨⟨oc, od, kV, doc, pm, an, cdv, ct, osl, rfl, l, c⟩, k⟩
end
theorem small1000 {n : Nat} (h : n ≤ 1000) : n < sizeLine := Nat.lt_of_le_of_lt h (by decide)
/-! ### expressions in short: the name that stands in the i-th slot -/
section
variable {X : Cx}
theorem pv (i : Nat) {x : Str} {pos : Pos} (hN : X.N[i]? = some x := by rfl) (hv : Vis X.env.scope x := by first | exact Or.inl rfl | exact Or.inr (Or.inl rfl) | exact Or.inr (Or.inr rfl)) (hd : (x == ("__debug__" : Str)) = false := by decide)
    (hcd : (x == ("__classdict__" : Str)) = false := by decide) : PE X (.Name x pos) (tVar i) := pe_var hN hv hd hcd
end
/-! ### tests -/
theorem iteF {A B : Prop} (h : B) : if false = true then A else B := by
  rw [if_neg Bool.false_ne_true]
  exact h
theorem iteT {A B : Prop} (h : A) : if true = true then A else B := by
  rw [if_pos rfl]
  exact h
/-! ### heaps -/
/-- all that was tracked is as it was -/
def Same (H H' : Hp) : Prop := ∀ b o, H b = some o → H' b = some o
theorem Same.refl (H : Hp) : Same H H := fun _ _ h => h
theorem Same.trans {H H1 H2 : Hp} (a : Same H H1) (b : Same H1 H2) : Same H H2 := fun c o h => b c o (a c o h)
theorem Same.free {H H' : Hp} (e : Same H H') {l : Addr} (h : H' l = Option.none) : H l = Option.none := by
  cases q : H l with
  | none => rfl
  | some o =>
    rw [e l o q] at h
    cases h
theorem Same.seq {K : PySem.W.Frag} {H H' : Hp} {a : Addr} {xs : List V} (e : Same H H') (h : SqL K H a xs) : SqL K H' a xs := by
  rcases h with (h | ⟨o, h⟩) | h
  · exact .inl (.inl (e _ _ h))
  · exact .inl (.inr ⟨o, e _ _ h⟩)
  · exact .inr h
end L2
/-! ### the mathematics of fractions -/
namespace Fx
def G (a b : Int) : Int := (Int.gcd a b : Int)
theorem abs_natAbs (a : Int) : (if a < 0 then -a else a) = (a.natAbs : Int) := by
  split <;> omega
theorem abs_nn (a : Int) : 0 ≤ (if a < 0 then -a else a) := by
  split <;> omega
theorem G_abs (a b : Int) : G (if a < 0 then -a else a) (if b < 0 then -b else b) = G a b := by
  rw [abs_natAbs, abs_natAbs]
  unfold G
  simp [Int.gcd]
theorem G_step (s m : Int) : G m (s % m) = G s m := by
  unfold G
  have e : Int.gcd (m * (s / m) + s % m) m = Int.gcd (s % m) m := Int.gcd_mul_left_add_left m (s % m) (s / m)
  rw [Int.mul_ediv_add_emod] at e
  rw [Int.gcd_comm m (s % m), e]
theorem G_zero {s : Int} (h : 0 ≤ s) : G s 0 = s := by
  unfold G
  simp [Int.gcd]
  omega
theorem G_pos {a b : Int} (h : b ≠ 0) : 0 < G a b := by
  unfold G
  have : 0 < Int.gcd a b := Int.gcd_pos_of_ne_zero_right _ h
  omega
theorem G_nonneg (a b : Int) : 0 ≤ G a b := Int.natCast_nonneg _
theorem G_dvd_left (a b : Int) : G a b ∣ a := Int.gcd_dvd_left ..
theorem G_dvd_right (a b : Int) : G a b ∣ b := Int.gcd_dvd_right ..
/-- the signed divisor -/
def S (a b : Int) : Int := if b < 0 then -G a b else G a b
theorem S_ne {a b : Int} (h : b ≠ 0) : S a b ≠ 0 := by
  have := G_pos (a := a) h
  unfold S
  split <;> omega
theorem S_dvd_left (a b : Int) : S a b ∣ a := by
  unfold S
  split
  · exact Int.neg_dvd.mpr (G_dvd_left a b)
  · exact G_dvd_left a b
theorem S_dvd_right (a b : Int) : S a b ∣ b := by
  unfold S
  split
  · exact Int.neg_dvd.mpr (G_dvd_right a b)
  · exact G_dvd_right a b
theorem fdiv_mul {a s : Int} (h : s ∣ a) : a.fdiv s * s = a := by
  obtain ⟨k, rfl⟩ := h
  by_cases hs : s = 0
  · subst hs
    simp
  · rw [Int.mul_fdiv_cancel_left k hs, Int.mul_comm]
theorem G_mul (a b k : Int) : G (a * k) (b * k) = G a b * (k.natAbs : Int) := by
  unfold G
  rw [Int.gcd_mul_right]
  simp
theorem S_natAbs (a b : Int) : ((S a b).natAbs : Int) = G a b := by
  have := G_nonneg a b
  unfold S
  split <;> omega
theorem eq_of {n d a b : Int} (hd : 0 < d) (g : G n d = 1) (hb : b ≠ 0) (h : n * b = a * d) : (Rat.divInt a b).num = n ∧ ((Rat.divInt a b).den : Int) = d := by
  have e : Rat.divInt a b = Rat.divInt n d := by
    rw [Rat.divInt_eq_divInt_iff hb (by omega)]
    omega
  obtain ⟨k, rfl⟩ : ∃ k : Nat, d = (k : Int) := ⟨d.toNat, by omega⟩
  have hk : k ≠ 0 := by omega
  have c : n.natAbs.Coprime k := by
    unfold Nat.Coprime
    have g' : ((Int.gcd n k : Nat) : Int) = 1 := g
    have g2 : Int.gcd n k = 1 := by omega
    simpa [Int.gcd] using g2
  have e2 : Rat.divInt n k = ⟨n, k, hk, c⟩ := (Rat.mk_eq_divInt ..).symm
  rw [e, e2]
  exact ⟨rfl, rfl⟩
/-- what the program's division by the signed divisor gives -/
theorem frac_eq {a b : Int} (hb : b ≠ 0) : a.fdiv (S a b) = (Rat.divInt a b).num ∧ b.fdiv (S a b) = ((Rat.divInt a b).den : Int) := by
  have h1 := fdiv_mul (S_dvd_left a b)
  have h2 := fdiv_mul (S_dvd_right a b)
  have g := G_pos (a := a) hb
  have dp : 0 < b.fdiv (S a b) := by
    rcases Int.lt_trichotomy (b.fdiv (S a b)) 0 with c | c | c
    · exfalso
      generalize b.fdiv (S a b) = d at *
      unfold S at h2
      split at h2
      · have : d * -G a b = (-d) * G a b := by grind
        have : 0 < (-d) * G a b := Int.mul_pos (by omega) g
        omega
      · have : d * G a b = -((-d) * G a b) := by grind
        have : 0 < (-d) * G a b := Int.mul_pos (by omega) g
        omega
    · rw [c] at h2
      omega
    · exact c
  have r : G (a.fdiv (S a b)) (b.fdiv (S a b)) = 1 := by
    have e := G_mul (a.fdiv (S a b)) (b.fdiv (S a b)) (S a b)
    rw [h1, h2, S_natAbs] at e
    have : (G (a.fdiv (S a b)) (b.fdiv (S a b)) - 1) * G a b = 0 := by grind
    rcases Int.mul_eq_zero.mp this with z | z <;> omega
  have x : a.fdiv (S a b) * b = a * b.fdiv (S a b) := by
    generalize a.fdiv (S a b) = n at *
    generalize b.fdiv (S a b) = d at *
    grind
  have e := eq_of dp r hb x
  exact ⟨e.1.symm, e.2.symm⟩
/-- the same by the plain divisor, where the bottom is above 0 -/
theorem frac_pos {a b : Int} (hb : 0 < b) : a / G a b = (Rat.divInt a b).num ∧ b / G a b = ((Rat.divInt a b).den : Int) := by
  have e := frac_eq (a := a) (b := b) (by omega)
  have s : S a b = G a b := by
    unfold S
    rw [if_neg (by omega)]
  rw [s, Int.fdiv_eq_ediv_of_nonneg _ (G_nonneg a b), Int.fdiv_eq_ediv_of_nonneg _ (G_nonneg a b)] at e
  exact e
theorem red (q : Rat) : G q.num q.den = 1 := by
  have h := q.reduced
  unfold Nat.Coprime at h
  unfold G
  have : Int.gcd q.num q.den = 1 := by simpa [Int.gcd] using h
  omega
theorem dpos (q : Rat) : 0 < (q.den : Int) := by
  have := q.den_pos
  omega
theorem add_eq (p q : Rat) : Rat.divInt (p.num * q.den + q.num * p.den) (p.den * q.den) = p + q := by
  have hp := dpos p
  have hq := dpos q
  conv => rhs; rw [← Rat.num_divInt_den p, ← Rat.num_divInt_den q]
  rw [Rat.divInt_add_divInt _ _ (by omega) (by omega)]
theorem sub_eq (p q : Rat) : Rat.divInt (p.num * q.den - q.num * p.den) (p.den * q.den) = p - q := by
  have hp := dpos p
  have hq := dpos q
  conv => rhs; rw [← Rat.num_divInt_den p, ← Rat.num_divInt_den q]
  rw [Rat.divInt_sub_divInt _ _ (by omega) (by omega)]
theorem den_mul_ne (p q : Rat) : ((p.den : Int) * (q.den : Int)) ≠ 0 := by
  have := Int.mul_pos (dpos p) (dpos q)
  omega
end Fx
/-! ### sizes -/
namespace Fx
def Bi (n : Nat) (x : Int) : Prop := x.natAbs < 2 ^ n
theorem Bi.mono {m n : Nat} {x : Int} (h : Bi m x) (l : m ≤ n) : Bi n x := Nat.lt_of_lt_of_le h (Nat.pow_le_pow_right (by decide) l)
theorem Bi.mul {m n : Nat} {x y : Int} (hx : Bi m x) (hy : Bi n y) : Bi (m + n) (x * y) := by
  unfold Bi at *
  rw [Int.natAbs_mul, Nat.pow_add]
  exact Nat.mul_lt_mul'' hx hy
theorem Bi.add {n : Nat} {x y : Int} (hx : Bi n x) (hy : Bi n y) : Bi (n + 1) (x + y) := by
  unfold Bi at *
  rw [Nat.pow_succ]
  omega
theorem Bi.sub {n : Nat} {x y : Int} (hx : Bi n x) (hy : Bi n y) : Bi (n + 1) (x - y) := by
  unfold Bi at *
  rw [Nat.pow_succ]
  omega
theorem Bi.neg {n : Nat} {x : Int} (hx : Bi n x) : Bi n (-x) := by
  unfold Bi at *
  omega
theorem Bi.le {n : Nat} {x y : Int} (hx : Bi n x) (h : y.natAbs ≤ x.natAbs) : Bi n y := Nat.lt_of_le_of_lt h hx
theorem natAbs_le_mul {x s : Int} (hs : s ≠ 0) : x.natAbs ≤ (x * s).natAbs := by
  rw [Int.natAbs_mul]
  exact Nat.le_mul_of_pos_right _ (by omega)
def Bq (n : Nat) (q : Rat) : Prop := Bi n q.num ∧ Bi n (q.den : Int)
theorem Bq.mono {m n : Nat} {q : Rat} (h : Bq m q) (l : m ≤ n) : Bq n q := ⟨h.1.mono l, h.2.mono l⟩
theorem Bq.divInt {n : Nat} {a b : Int} (ha : Bi n a) (hb : Bi n b) (h : b ≠ 0) : Bq n (Rat.divInt a b) := by
  have e := frac_eq (a := a) h
  rw [Bq, ← e.1, ← e.2]
  have h1 := fdiv_mul (S_dvd_left a b)
  have h2 := fdiv_mul (S_dvd_right a b)
  have l1 := natAbs_le_mul (x := a.fdiv (S a b)) (S_ne (a := a) h)
  have l2 := natAbs_le_mul (x := b.fdiv (S a b)) (S_ne (a := a) h)
  rw [h1] at l1
  rw [h2] at l2
  exact ⟨ha.le l1, hb.le l2⟩
theorem Bq.add {m n : Nat} {p q : Rat} (hp : Bq m p) (hq : Bq n q) : Bq (m + n + 1) (p + q) := by
  rw [← add_eq]
  exact Bq.divInt ((hp.1.mul hq.2).add ((hq.1.mul hp.2).mono (by omega))) ((hp.2.mul hq.2).mono (by omega)) (den_mul_ne p q)
theorem Bq.sub {m n : Nat} {p q : Rat} (hp : Bq m p) (hq : Bq n q) : Bq (m + n + 1) (p - q) := by
  rw [← sub_eq]
  exact Bq.divInt ((hp.1.mul hq.2).sub ((hq.1.mul hp.2).mono (by omega))) ((hp.2.mul hq.2).mono (by omega)) (den_mul_ne p q)
end Fx
namespace L2
open PySem PySem.Spec PyProof.Rows
/-! ### own rules over the layer: products by bits, // by any number, isinstance, calls in a bundle -/
section
variable {X : Cx}
theorem op_mulB : OpR X (binaryOp .Mult) (rI IntMulOk fun i j => .int (i * j)) := opI fun _ _ _ _ _ _ _ hc q => mul_int q hc
/-- room for a division of long ints -/
def DivOk (X : Cx) : Prop := ∀ (pins : List (Addr × Obj)) (σ : St) (H : Hp) (s : Shared), Inv X pins σ H s → PylongRoom (model X.prog X.w) X.A s
theorem op_fdivA (hD : DivOk X) : OpR X (binaryOp .FloorDiv) (rI (fun _ j => j ≠ 0) fun i j => .int (i.fdiv j)) := by
  intro pins s σ H x y v u Q I rx ry h
  obtain ⟨i, j, rfl, rfl, hc, q⟩ := h
  obtain ⟨t, rfl⟩ := rx
  obtain ⟨t', rfl⟩ := ry
  exact floordiv_int hc ⟨.int (i.fdiv j), H, I.tok _, ⟨_, rfl⟩, q⟩ (.inr (hD pins σ H s I))
/-- // by a positive number -/
theorem op_fdivP (hD : DivOk X) : OpR X (binaryOp .FloorDiv) (rI (fun _ j => 0 < j) fun i j => .int (i / j)) := by
  intro pins s σ H x y v u Q I rx ry h
  obtain ⟨i, j, rfl, rfl, hc, q⟩ := h
  obtain ⟨t, rfl⟩ := rx
  obtain ⟨t', rfl⟩ := ry
  have hc' : (0 : Int) < j := hc
  refine floordiv_int (by omega) ?_ (.inr (hD pins σ H s I))
  rw [Int.fdiv_eq_ediv_of_nonneg i (by omega)]
  exact ⟨.int (i / j), H, I.tok _, ⟨_, rfl⟩, q⟩
theorem divOk_of (hS : X.base.NoSeer) (hT : X.prog.given.tree = none) (hr : Room 34 X.A) (hst : X.stack = X.env :: X.outer) (hg : X.env.scope.isGenerator = false) (hc : X.env.scope.isCoroutine = false) : DivOk X := fun pins σ H s I => by
  have hd := hr.dp
  refine PylongRoom.of I.nolimit ?_ ?_
  · show X.A.depth + 100 < 1000
    have e : recursionLimit = 1000 := rfl
    omega
  · exact SeerAt.of (hS.keeps I.bk) hT (by rw [I.ok.frames, hst]) hg hc I.ok.blt I.ok.glob
/-- isinstance(x, a built-in class) -/
theorem call_isiT : CallR X (.builtin "isinstance") (fun xs H Q => ∃ x T t b, xs = [x, .ty T] ∧ TyOf X.K H x t ∧ PySem.W.kitOne X.K t (.type T) = some b ∧ Q (.bl b) H) := by
  intro pins s σ H xs us Q I r h
  obtain ⟨x, T, t, b, rfl, ty, e, q⟩ := h
  obtain ⟨u, w', rfl, r1, r2⟩ := vals2 r
  cases r2
  exact isinst_ok I r1 ty e fun tk => ⟨.bl b, H, I.tok _, rfl, q⟩
/-- isinstance(x, an own class) -/
theorem call_isiC : CallR X (.builtin "isinstance") (fun xs H Q => ∃ x C t b, xs = [x, .ref C] ∧ TyOf X.K H x t ∧ PySem.W.kitOne X.K t (.ref C) = some b ∧ Q (.bl b) H) := by
  intro pins s σ H xs us Q I r h
  obtain ⟨x, C, t, b, rfl, ty, e, q⟩ := h
  obtain ⟨u, w', rfl, r1, r2⟩ := vals2 r
  cases r2
  exact isinst_ok I r1 ty e fun tk => ⟨.bl b, H, I.tok _, rfl, q⟩
end
/-- a def of the text with its promise, found under its name -/
structure Def (P : Program) (w : World) (K : PySem.W.Frag) (mg : Str → Option Value) (base : Heap) (CX : CXT) (k : Nat) (x : Str) (ps : List Str) (sp : Sp) : Prop where
  ex : ∃ f fd, FnOk P w K mg base CX k f fd ps sp ∧ mg x = some (.ref f) ∧ PySem.W.keepIn K (.ref f) = true ∧ Binds K fd ps []
def tDef (sp : Sp) (E : XK) (t : TA) : TE := fun σ H Q => t σ H fun vs H1 => sp vs H1 Q E
section
variable {X : Cx} {CX : CXT} {k : Nat} {ps : List Str} {sp : Sp} {E : XK} {x : Str} {p pos : Pos} {e : Expr} {es : List Expr} {t : TA}
theorem pe_def (D : Def X.prog X.w X.K X.mg X.base CX k x ps sp) (hr : Room k X.A) (hg : Gl X x) (hx : Passes CX X E) (ha : PA X (e :: es) t) (hdb : (x == ("__debug__" : Str)) = false := by decide)
    (he : starEach (e :: es) X.env = (false, eval e X.env) :: starEach es X.env := by rfl) (hpl : (backTo pos (starEach es X.env)).any (·.1) = false := by rfl) :
    PE X (.Call (.Name x p) (e :: es) [] pos) (tDef sp E t) := by
  obtain ⟨f, fd, F, hm, hk, hb⟩ := D.ex
  have h := pe_call (dvs := []) F hr hg hm hk hb .nil hx ha hdb he hpl (p := p) (pos := pos)
  have q : tCall sp [] E t = tDef sp E t := by
    unfold tCall tDef
    funext σ H Q
    simp only [List.append_nil]
  rw [q] at h
  exact h
end
structure DefAt (K : PySem.W.Frag) (mg : Str → Option Value) (x : Str) (st : Stmt) (ps : List Str) : Prop where
  ex : ∃ f fd, Fun K x x st f fd ∧ mg x = some (.ref f) ∧ Binds K fd ps []
theorem DefAt.ok {P : Program} {w : World} {K : PySem.W.Frag} {mg : Str → Option Value} {base : Heap} {x : Str} {st : Stmt} {N ps : List Str} {k : Nat} {sp : Sp} (D : DefAt K mg x st ps) (S : FnScope N ps (defScope st)) (len : ∀ vs H Q E, sp vs H Q E → vs.length = ps.length)
    (hbody : ∀ (f : Addr) (cdv : Value) (A : Around) (outer : List Env) (s : Shared) (H : Hp) (vs : List V) (Q : VK) (E : XK), Room k (A.deeper (envOfC x (defScope st) s.heap.objs.size f cdv)) → sp vs H Q E →
      ∃ t, PSs (cxOf CX0 P w K mg base N x (defScope st) f cdv A outer s H E).nox (defBody st) t ∧ t { nx := fun _ H' => Q .non H', rt := Q } (start N vs) H) : Def P w K mg base CX0 (k + 1) x ps sp := by
  obtain ⟨f, fd, F, hm, hb⟩ := D.ex
  exact ⟨f, fd, F.ok S len (hbody f), hm, F.kp, hb⟩
/-- what the whole run has: no seer, no tree -/
structure Md (P : Program) (base : Heap) : Prop where
  seer : base.NoSeer
  tree : P.given.tree = none
theorem Same.upd {H : Hp} {a : Addr} {o : HO} (h : H a = Option.none) : Same H (L2.upd H a o) := fun b u e => by
  rw [upd_ne (ne_of_none e h)]
  exact e
theorem Same.tup {K : PySem.W.Frag} {H H' : Hp} {a : Addr} {xs : List V} (e : Same H H') (h : SqT K H a xs) : SqT K H' a xs := by
  rcases h with (h | ⟨o, h⟩) | h
  · exact .inl (.inl (e _ _ h))
  · exact .inl (.inr ⟨o, e _ _ h⟩)
  · exact .inr h
end L2
namespace L2
open PySem PySem.Spec PyProof.Rows
/-! ### tests on ints, in short -/
theorem eqI {i j : Int} {A B : Prop} (h1 : i = j → A) (h2 : i ≠ j → B) : if decide (V.int i = V.int j) = true then A else B := by
  by_cases h : i = j
  · subst h
    rw [decide_eq_true rfl]
    exact iteT (h1 rfl)
  · rw [decide_eq_false (fun e => h (by injection e))]
    exact iteF (h2 h)
theorem neI {i j : Int} {A B : Prop} (h1 : i ≠ j → A) (h2 : i = j → B) : if (!decide (V.int i = V.int j)) = true then A else B := by
  by_cases h : i = j
  · subst h
    rw [decide_eq_true rfl]
    exact iteF (h2 rfl)
  · rw [decide_eq_false (fun e => h (by injection e))]
    exact iteT (h1 h)
theorem decI {c A B : Prop} [Decidable c] (h1 : c → A) (h2 : ¬ c → B) : if decide c = true then A else B := by
  by_cases h : c
  · rw [decide_eq_true h]
    exact iteT (h1 h)
  · rw [decide_eq_false h]
    exact iteF (h2 h)
open Fx in
theorem mulOk {m n : Nat} {x y : Int} (hx : Bi m x) (hy : Bi n y) (h : m + n ≤ 134217728) : IntMulOk x y :=
  IntMulOk.of_le (intBits_le_iff.mpr hx) (intBits_le_iff.mpr hy) h
/-- a fraction as a tuple -/
abbrev frV (q : Rat) : List V := [.int q.num, .int q.den]
def IsFr (H : Hp) (v : V) (q : Rat) : Prop := ∃ p, v = .ref p ∧ H p = some (.tup (frV q))
theorem IsFr.same {H H' : Hp} {v : V} {q : Rat} (h : IsFr H v q) (s : Same H H') : IsFr H' v q := by
  obtain ⟨p, e, h⟩ := h
  exact ⟨p, e, s _ _ h⟩
theorem kit_int_int (K : PySem.W.Frag) : PySem.W.kitOne K (.type "int") (.type "int") = some true := rfl
theorem kit_int_bool (K : PySem.W.Frag) : PySem.W.kitOne K (.type "int") (.type "bool") = some false := by kernel_rfl
theorem kit_tup_tup (K : PySem.W.Frag) : PySem.W.kitOne K (.type "tuple") (.type "tuple") = some true := rfl
end L2
namespace L2
open PySem PySem.Spec PyProof.Rows PySem.W PySem.Builtin PySem.Builtin.ObjectAttr PySem.Builtin.Getset_descriptor
/-! ### isinstance of an own exception -/
section
variable {prog : Program} {w : World} {A : Around} {E : Value → Shared → Prop} {s : Shared} {K : PySem.W.Frag} {x D : Addr}
/-- what is asked of an own error's class -/
structure ExcCls (K : PySem.W.Frag) (D : Addr) : Prop where
  ga : PySem.W.findIn K (.ref D) "__getattribute__" = some (some (.builtin "BaseException.__getattribute__"))
  gt : PySem.W.findIn K (.ref D) "__getattr__" = some none
  at_ : PySem.W.findIn K (.ref D) "__class__" = some (some (.builtin "object.__class__"))
  gs : PySem.W.specialIn K (.builtin "object.__class__") "__get__" = some (some (.builtin "getset_descriptor.__get__"))
  tk : PySem.W.takesIn K (.builtin "object.__class__") = some true
  sb : PySem.W.subIn K (.ref D) (.type "BaseException") = some true
  ob : PySem.W.mroIn K D (.type "object") = some true
  cl : (PySem.W.clsIn K D).isSome = true
end
end L2
namespace L2
open PySem PySem.Spec PyProof.Rows PySem.W
/-! ### own errors that leave a def -/
theorem ObjOk.got {P : Program} {w : World} {H : Hp} {h : Heap} {a : Addr} {o : HO} (x : ObjOk P w H h a o) : ∃ ob, h.get? a = some ob := by
  cases o with
  | lst xs => obtain ⟨_, _, _, _, e⟩ := x; exact ⟨_, e⟩
  | tup xs => obtain ⟨_, _, _, o, e, _⟩ := x; exact ⟨o, e⟩
  | dK kvs => obtain ⟨_, _, _, _, o, _, _, e, _⟩ := x; exact ⟨_, e⟩
  | dT kvs => obtain ⟨_, _, _, _, o, _, _, e, _⟩ := x; exact ⟨_, e⟩
  | set S n => obtain ⟨o, _, _, _, e, _⟩ := x; exact ⟨_, e⟩
  | ins C dx fs => obtain ⟨_, _, _, e, _⟩ := x; exact ⟨_, e⟩
  | own y => exact x
  | xd fs => obtain ⟨_, ⟨_, _, _, e, _⟩, _⟩ := x; exact ⟨_, e⟩
  | rng lo hi => obtain ⟨_, _, _, e⟩ := x; exact ⟨_, e⟩
  | frz ob u => obtain ⟨e, _⟩ := x; exact ⟨_, e⟩
  | tbl ps => exact ⟨_, (show h.get? a = some _ from x)⟩
  | met f y => exact ⟨_, (show h.get? a = some _ from x)⟩
  | ext φ => obtain ⟨_, ⟨_, e⟩, _⟩ := x; exact ⟨_, e⟩
theorem HOk.move {P : Program} {w : World} {H : Hp} {h1 h2 B : Heap} (ok : HOk P w H h1) (k1 : B.StaysIn h1) (k2 : B.StaysIn h2) (t : ∀ b u, H b = some u → ∃ o, B.get? b = some o) : HOk P w H h2 := fun a o e =>
  (ok a o e).stay (fun b u hb hu => by
    have z : ∃ o', B.get? b = some o' := by
      rcases hb with rfl | hb
      · exact t _ _ e
      · exact t _ _ hb
    obtain ⟨o', q⟩ := z
    have q1 := k1 _ _ q
    rw [hu] at q1
    cases q1
    exact k2 _ _ q) (fun _ z => z) (fun _ _ z => z)
theorem Un.fly {fs : List Addr} {H H' : Hp} {h h1 h2 B : Heap} (u : Un fs [] H H' h h1) (old : ∀ b o, h.get? b = some o → H b = none → b ∉ fs → B.get? b = some o) (has : ∀ b o, h.get? b = some o → b ∉ fs → ∃ o', B.get? b = some o')
    (k2 : B.StaysIn h2) (sl : h1.UpToSlots h2) (fr : ∀ b ∈ fs, H b = none ∧ ∃ o, h.get? b = some o ∧ ∀ vs, o.data ≠ .fields vs) : Un fs [] H H' h h2 := by
  have slot : ∀ b o, h.get? b = some o → H b = none → b ∈ fs → ∃ z, h2.get? b = some { o with slots := z } := fun b o q n hb => by
    obtain ⟨s1, e1⟩ := u.slot b o q n hb (by simp)
    obtain ⟨_, o', q', nf⟩ := fr b hb
    rw [q] at q'
    cases q'
    obtain ⟨s2, e2⟩ := sl b _ e1 nf
    exact ⟨s2, e2⟩
  refine ⟨fun b o q n hb _ => k2 _ _ (old b o q n hb), fun b o q n hb _ => slot b o q n hb, fun b o q n hx => u.free b o q n hx, fun b o q _ => ?_, u.tups, u.frzs, u.tbls⟩
  by_cases hb : b ∈ fs
  · obtain ⟨z, e⟩ := slot b o q (fr b hb).1 hb
    exact ⟨_, e⟩
  · obtain ⟨o', e⟩ := has b o q hb
    exact ⟨o', k2 _ _ e⟩
/-- an exception of the class at C flies over the frames l; B holds what stood, without the frames -/
structure Fly (l : List Env) (H H' : Hp) (h h' : Heap) (ea C : Addr) : Prop where
  ex : ∃ B a0, Heap.FlyingW B l ea (.ref C) a0 h' ∧ (∀ b o, h.get? b = some o → H b = none → b ∉ frs l → B.get? b = some o) ∧ (∀ b o, h.get? b = some o → b ∉ frs l → ∃ o', B.get? b = some o') ∧ (∀ b u, H' b = some u → ∃ o, B.get? b = some o)
def CXE (P : Program) (w : World) : CXT := fun outer H s E e s' => ∃ ea C H', e = .ref ea ∧ s'.os = s.os ∧ AllBare s'.gens ∧ Un (frs outer) [] H H' s.heap s'.heap ∧ HOk P w H' s'.heap ∧ Fly outer H H' s.heap s'.heap ea C ∧ E (.ref C) none H'
/-- no exception is wanted: none comes -/
theorem passE0 {P : Program} {w : World} {X : Cx} : Passes (CXE P w) X E0 := fun _ _ _ _ _ _ _ h => by
  obtain ⟨_, _, _, _, _, _, _, _, _, z⟩ := h
  exact z.elim
section
variable {P : Program} {w : World} {K : PySem.W.Frag} {mg : Str → Option Value} {base : Heap} {N : List Str} {qual : Str} {scope : Scope} {f : Addr} {cd : Value} {A : Around} {outer : List Env} {s₀ : Shared} {H₀ : Hp} {E : XK}
  {pins : List (Addr × Obj)} {σ : St} {H : Hp} {s : Shared}
/-- the frame of a def that runs -/
theorem frs_cons {l : List Env} {env : Env} {L : Addr} (h : env.frame = some L) : frs (env :: l) = L :: frs l := by
  unfold frs
  rw [List.filterMap_cons, h]
theorem leave_fly {B : Heap} {ea C : Addr} {a0 : Value} {h2 : Heap} (J : Inv (cxOf (CXE P w) P w K mg base N qual scope f cd A outer s₀ H₀ E) pins σ H s) (fl : Heap.FlyingW B outer ea (.ref C) a0 h2) (sm : s.heap.UpToSlots h2) (k1 : B.StaysIn s.heap)
    (old : ∀ b o, s₀.heap.get? b = some o → H₀ b = none → b ∉ frs outer → B.get? b = some o) (has : ∀ b o, s₀.heap.get? b = some o → b ∉ frs outer → ∃ o', B.get? b = some o') (trk : ∀ b u, H b = some u → ∃ o, B.get? b = some o)
    (hE : E (.ref C) none H) : CXE P w outer H₀ s₀ E (.ref ea) { s with heap := h2 } := by
  have hf : ∀ b ∈ frs outer, H₀ b = none ∧ ∃ o, s₀.heap.get? b = some o ∧ ∀ vs, o.data ≠ .fields vs := fun b hb => ⟨J.ok.frf b hb, (J.ok.funs.mem hb).2⟩
  have u : Un (frs outer) [] H₀ H s₀.heap s.heap := J.base
  exact ⟨ea, C, H, rfl, J.os, J.bare, u.fly old has fl.1 sm hf, J.hok.move k1 fl.1 trk, ⟨B, a0, fl, old, has, trk⟩, hE⟩
/-- an error made here leaves -/
theorem xe_made {h' : Heap} {ea C : Addr} {args : List Value} (I : Inv (cxOf (CXE P w) P w K mg base N qual scope f cd A outer s₀ H₀ E) pins σ H s) (hx : Heap.MadeExcOf s.heap h' ea (.ref C) args) (hE : E (.ref C) none H) :
    (cxOf (CXE P w) P w K mg base N qual scope f cd A outer s₀ H₀ E).xe (.ref ea) { s with heap := h' } := by
  have fc : frs (cxOf (CXE P w) P w K mg base N qual scope f cd A outer s₀ H₀ E).stack = s₀.heap.objs.size :: frs outer := frs_cons rfl
  have neL : ∀ b o, s₀.heap.get? b = some o → b ∉ frs outer → b ∉ frs (cxOf (CXE P w) P w K mg base N qual scope f cd A outer s₀ H₀ E).stack := fun b o q n z => by
    rw [fc] at z
    rcases List.mem_cons.mp z with z | z
    · exact absurd (Heap.lt_size q) (by rw [z]; exact Nat.lt_irrefl _)
    · exact n z
  have u : Un (frs outer) [] H₀ H s₀.heap s.heap := I.base
  refine wpAny_leaves_madeW (base := hideAll s.heap (frs (cxOf (CXE P w) P w K mg base N qual scope f cd A outer s₀ H₀ E).stack)) I.ok.frames rfl (fun b o q => of_hideAll _ q)
    (funFrames_hide I.stack fun env he a ha => List.mem_filterMap.mpr ⟨env, he, ha⟩) hx fun h2 t fl _ _ sm => ?_
  show CXE P w outer H₀ s₀ E (.ref ea) { s with heap := h2 }
  refine leave_fly I fl (fun b o q nf => sm b o (hx.keeps _ _ q) nf) (fun b o q => of_hideAll _ q) (fun b o q n hb => hideAll_get _ (u.keep b o q n hb (by simp)) (neL b o q hb)) (fun b o q hb => ?_) (fun b v e => ?_) hE
  · obtain ⟨o', q'⟩ := u.there b o q (by simp)
    exact ⟨o', hideAll_get _ q' (neL b o q hb)⟩
  · obtain ⟨o, q⟩ := (I.hok b v e).got
    exact ⟨o, hideAll_get _ q fun z => by have := I.stkFree b z; rw [e] at this; cases this⟩
/-- an error of a callee leaves -/
theorem passE {E1 : XK} (hE : ∀ c d H', E1 c d H' → E c d H') : Passes (CXE P w) (cxOf (CXE P w) P w K mg base N qual scope f cd A outer s₀ H₀ E) E1 := by
  intro pins σ H s e s' I h
  obtain ⟨ea, C, H', rfl, os, bare, un, hok, ⟨B, a0, fl, old, has, trk⟩, q⟩ := h
  have J := I.call' os un hok bare (by simp)
  have u : Un (frs outer) [] H₀ H s₀.heap s.heap := I.base
  have fc : frs (cxOf (CXE P w) P w K mg base N qual scope f cd A outer s₀ H₀ E).stack = s₀.heap.objs.size :: frs outer := frs_cons rfl
  have neL : ∀ b o, s₀.heap.get? b = some o → b ∉ frs outer → b ∉ frs (cxOf (CXE P w) P w K mg base N qual scope f cd A outer s₀ H₀ E).stack := fun b o q n z => by
    rw [fc] at z
    rcases List.mem_cons.mp z with z | z
    · exact absurd (Heap.lt_size q) (by rw [z]; exact Nat.lt_irrefl _)
    · exact n z
  refine wpAny_leaves_onW I.ok.frames rfl fl fun h2 fl2 sm => ?_
  refine leave_fly J fl2 sm fl.1 (fun b o z n hb => old b o (u.keep b o z n hb (by simp)) (u.free b o z n (by simp)) (neL b o z hb)) (fun b o z hb => ?_) trk (hE _ _ _ q)
  obtain ⟨o', z'⟩ := u.there b o z (by simp)
  exact has b o' z' (neL b o z hb)
end
end L2
namespace L2
open PySem PySem.Spec PyProof.Rows PySem.W
/-! ### raise of an own error -/
theorem own_obj {K : PySem.W.Frag} {h : Heap} {C : Addr} {bmB : List Value} {newId : String} (X : K.In h) (q : PySem.W.excIn K C bmB newId = true) :
    ∃ bm N nm qn bs hdct sn sub ab col dd k0 k1 k2 k3 k5 mN, h.get? C = some (excClassObj nm qn C N bs bm hdct sn sub ab col dd k0 k1 k2 k3 k5 newId) ∧ h.Ns N mN ∧ mN "__init__" = none ∧ OwnTail h bmB bm := by
  unfold PySem.W.excIn at q
  split at q
  · rename_i dd cd sl ho
    split at q
    · rename_i C1 bm k0 k1 k2 k3 n k5 hm hs
      simp only [Bool.and_eq_true, beq_iff_eq, Bool.not_eq_true'] at q
      obtain ⟨⟨⟨⟨⟨e1, e2⟩, hdel⟩, ht⟩, hok⟩, hni⟩ := q
      subst e1 e2
      obtain ⟨nm, bs, mro, ns, qn, hd, sn, sub, ab, col, del⟩ := cd
      dsimp only at hm hdel hok hni
      subst hm hdel
      obtain rfl : sl = #[k0, k1, k2, k3, some (.builtin n), k5] := by
        obtain ⟨l⟩ := sl
        simp only at hs
        rw [hs]
      exact ⟨bm, ns, nm, qn, bs, hd, sn, sub, ab, col, dd, k0, k1, k2, k3, k5, _, X _ _ ho, .of_isNs (isNs_of_in X hok),
        nsMap_none_of_in X hok hni, tail_of_in X ht⟩
    · cases q
  · cases q
abbrev excMro : List Value := [.type "ValueError", .type "Exception", .type "BaseException", .type "object"]
section
variable {P : Program} {w : World} {K : PySem.W.Frag} {mg : Str → Option Value} {base : Heap} {N : List Str} {qual : Str} {scope : Scope} {f : Addr} {cd : Value} {A : Around} {outer : List Env} {s₀ : Shared} {H₀ : Hp} {E : XK}
/-- raise x('..'): the wish about the error's class -/
def tRaise (E : XK) (C : Addr) (ta : TA) : TS := fun _ σ H => ta σ H fun vs H1 => vs.length ≤ sizeLine ∧ E (.ref C) none H1
theorem ps_raise {x : Str} {C : Addr} {e : Expr} {es : List Expr} {t : TA} {np cpos pos : Pos} (hh : A.handled = none) (q : PySem.W.excIn K C excMro "ValueError.__new__" = true) (hm : mg x = some (.ref C))
    (hg : Gl (cxOf (CXE P w) P w K mg base N qual scope f cd A outer s₀ H₀ E) x) (ha : PA (cxOf (CXE P w) P w K mg base N qual scope f cd A outer s₀ H₀ E) (e :: es) t)
    (he : starEach (e :: es) (cxOf (CXE P w) P w K mg base N qual scope f cd A outer s₀ H₀ E).env = (false, eval e (cxOf (CXE P w) P w K mg base N qual scope f cd A outer s₀ H₀ E).env) :: starEach es (cxOf (CXE P w) P w K mg base N qual scope f cd A outer s₀ H₀ E).env := by rfl)
    (hpl : (backTo cpos (starEach es (cxOf (CXE P w) P w K mg base N qual scope f cd A outer s₀ H₀ E).env)).any (·.1) = false := by rfl) (hd : (x == ("__debug__" : Str)) = false := by decide) :
    PS (cxOf (CXE P w) P w K mg base N qual scope f cd A outer s₀ H₀ E) (.Raise (some (.Call (.Name x np) (e :: es) [] cpos)) none pos) (tRaise E C t) := by
  intro pins s σ H D I h
  obtain ⟨bm, N1, nm, qn, bs, hdct, sn, sub, ab, col, dd, k0, k1, k2, k3, k5, mN, hC, hN, hni, T⟩ := own_obj I.ok.mod.kin q
  refine wpAny_Raise_call_subT (C := C) (nm := nm) (q := qn) (N := N1) (bs := bs) (bm := bm) (hdct := hdct) (sn := sn) (sub := sub) (ab := ab) (col := col) (dd := dd) (k0 := k0) (k1 := k1) (k2 := k2) (k3 := k3) (k5 := k5)
    F.excBase_ValueError (mN := mN) (T.hasType F.excBase_ValueError.hasBase) hh (by rw [he]; show (false || (backTo cpos (starEach es _)).any (·.1)) = false; rw [hpl]; rfl) hni (ld_glob I hg hm ⟨rfl, ?_⟩ hd)
  have h2 := ha cpos pins s σ H _ I h
  rw [he] at h2 ⊢
  refine Calls.evalArgs_plain (wpAny_mono h2 (fun us s2 z => ?_) fun _ _ y => y)
  obtain ⟨vs, H1, I1, r, hl, hE⟩ := z
  have kp := I1.bk
  exact ⟨rfl, by rw [← r.length]; exact hl, kp _ _ hC, hN.keeps kp, T.keeps kp, fun h' ea hx => xe_made I1 hx hE⟩
end
end L2
namespace L2
open PySem PySem.Spec PyProof.Rows PySem.W
/-! ### try: a call, except an own class as a name -/
section
variable {X : Cx} {pins : List (Addr × Obj)} {σ : St} {H : Hp} {s : Shared}
end
end L2
namespace L2
open PySem PySem.Spec PyProof.Rows PySem.W
section
variable {X : Cx} {pins : List (Addr × Obj)} {σ : St} {H H' : Hp} {s s' : Shared} {D : Ends} {i : Nat} {n B : Str} {ea C Ch : Addr} {b₀ : Stmt} {suite : List Stmt} {pos np : Pos} {rest : List ExceptHandler} {ts : Obj → TS}
end
/-- a def whose errors may leave -/
theorem DefAt.okE {P : Program} {w : World} {K : PySem.W.Frag} {mg : Str → Option Value} {base : Heap} {x : Str} {st : Stmt} {N ps : List Str} {k : Nat} {sp : Sp} (D : DefAt K mg x st ps) (S : FnScope N ps (defScope st)) (len : ∀ vs H Q E, sp vs H Q E → vs.length = ps.length)
    (hbody : ∀ (f : Addr) (cdv : Value) (A : Around) (outer : List Env) (s : Shared) (H : Hp) (vs : List V) (Q : VK) (E : XK), Room k (A.deeper (envOfC x (defScope st) s.heap.objs.size f cdv)) → sp vs H Q E →
      ∃ t, PSs (cxOf (CXE P w) P w K mg base N x (defScope st) f cdv A outer s H E) (defBody st) t ∧ t { nx := fun _ H' => Q .non H', rt := Q } (start N vs) H) : Def P w K mg base (CXE P w) (k + 1) x ps sp := by
  obtain ⟨f, fd, F, hm, hb⟩ := D.ex
  obtain ⟨oc, od, kV, doc, pm, an, cdv, ct, osl, rfl, lk, hcd⟩ := F.ex
  exact ⟨f, _, fn_of lk hcd S len fun A outer s H vs Q E hr hsp => hbody f cdv A outer s H vs Q E hr hsp, hm, F.kp, hb⟩
end L2
namespace L2
open PySem PySem.Spec PyProof.Rows PySem.W
/-! ### methods and classes in a bundle -/
/-- a method as the class at C finds it, with its promise -/
structure Mth (P : Program) (w : World) (K : PySem.W.Frag) (mg : Str → Option Value) (base : Heap) (CX : CXT) (k : Nat) (C : Addr) (m : Str) (ps : List Str) (sp : Sp) : Prop where
  ex : ∃ f fd, FnOk P w K mg base CX k f fd ps sp ∧ Meth K C m f ∧ Binds K fd ps []
structure MthAt (K : PySem.W.Frag) (C : Addr) (m qual : Str) (st : Stmt) (ps : List Str) : Prop where
  ex : ∃ f fd, Fun K m qual st f fd ∧ Meth K C m f ∧ Binds K fd ps []
/-- a class that is made, by the promise of its __init__ -/
structure Mak (P : Program) (w : World) (K : PySem.W.Frag) (mg : Str → Option Value) (base : Heap) (CX : CXT) (k : Nat) (x : Str) (C : Addr) (ps : List Str) (sp : Sp) : Prop where
  ex : ∃ f fd, FnOk P w K mg base CX k f fd ps sp ∧ Mk K C f ∧ Binds K fd ps [] ∧ mg x = some (.ref C)
structure MakAt (K : PySem.W.Frag) (mg : Str → Option Value) (x : Str) (C : Addr) (qual : Str) (st : Stmt) (ps : List Str) : Prop where
  ex : ∃ f fd, Fun K "__init__" qual st f fd ∧ Mk K C f ∧ Binds K fd ps [] ∧ mg x = some (.ref C)
/-- an own class: its attributes are plain, isinstance sees it -/
structure InsCls (K : PySem.W.Frag) (C : Addr) : Prop where
  cl : Cls K C
  at_ : PySem.W.findIn K (.ref C) "__class__" = some (some (.builtin "object.__class__"))
  gs : PySem.W.specialIn K (.builtin "object.__class__") "__get__" = some (some (.builtin "getset_descriptor.__get__"))
  tk : PySem.W.takesIn K (.builtin "object.__class__") = some true
  ob : PySem.W.mroIn K C (.type "object") = some true
theorem InsCls.ty {K : PySem.W.Frag} {C : Addr} (c : InsCls K C) {H : Hp} {a dx : Addr} {fs : List (Str × V)} (e : H a = some (.ins C dx fs)) : TyOf K H (.ref a) (.ref C) := TyOf.ins e c.cl c.at_ c.gs c.tk c.ob
def tMth (C : Addr) (m : Str) (sp : Sp) (E : XK) (ta : TE) (t : TA) : TE := fun σ H Q => ta σ H fun x H1 => ∃ a dx fs, x = .ref a ∧ H1 a = some (.ins C dx fs) ∧ fs.lookup m = none ∧ t σ H1 fun vs H2 => sp (x :: vs) H2 Q E
def tMak (C : Addr) (sp : Sp) (E : XK) (t : TA) : TE := fun σ H Q => t σ H fun vs H1 => ∀ x dx, H1 x = none → H1 dx = none → dx ≠ x →
  sp (.ref x :: vs) (upd (upd H1 dx (.own x)) x (.ins C dx [])) (fun v H2 => v = .non ∧ Q (.ref x) H2) E
theorem tMeth_eq (C : Addr) (m : Str) (sp : Sp) (E : XK) (ta : TE) (t : TA) : tMeth C m sp [] E ta t = tMth C m sp E ta t := by
  unfold tMeth tMth
  funext σ H Q
  simp only [List.append_nil]
theorem tMake_eq (C : Addr) (sp : Sp) (E : XK) (t : TA) : tMake C sp [] E t = tMak C sp E t := by
  unfold tMake tMak
  funext σ H Q
  simp only [List.append_nil]
section
variable {X : Cx} {CX : CXT} {k : Nat} {C : Addr} {ps : List Str} {sp : Sp} {E : XK} {x m : Str} {p pos apos : Pos} {e o : Expr} {es : List Expr} {t : TA} {ta : TE}
theorem PE.or {t' : TE} (h : PE X e ta) (h' : PE X e t') : PE X e (fun σ H Q => ta σ H Q ∨ t' σ H Q) := fun pins s σ H Q I z => by
  rcases z with z | z
  · exact h pins s σ H Q I z
  · exact h' pins s σ H Q I z
theorem pe_mth {pl : Sem Bool} (he : PE X o ta) (c : Cls X.K C) (M : Mth X.prog X.w X.K X.mg X.base CX k C m ps sp) (hr : Room k X.A) (hx : Passes CX X E) (ha : PA X (e :: es) t)
    (hst : starEach (e :: es) X.env = (false, eval e X.env) :: starEach es X.env := by rfl) (hpl : (backTo pos (starEach es X.env)).any (·.1) = false := by rfl)
    (ht : eval (.Call (.Attribute o m apos) (e :: es) [] pos) X.env = (do
      let ov ← eval o X.env
      standAt apos.atName
      let (f, first) ← holding [ov] (getMethod ov m pl)
      callWith pos f first (backTo pos (starEach (e :: es) X.env)) (backToKw pos (keywordEach [] X.env))) := by rfl) :
    PE X (.Call (.Attribute o m apos) (e :: es) [] pos) (tMth C m sp E ta t) := by
  obtain ⟨f, fd, F, hm, hb⟩ := M.ex
  rw [← tMeth_eq]
  exact pe_meth (pl := pl) he c hm F hr hb .nil hx ha hst hpl ht
theorem pe_mth0 {pl : Sem Bool} (he : PE X o ta) (c : Cls X.K C) (M : Mth X.prog X.w X.K X.mg X.base CX k C m ps sp) (hr : Room k X.A) (hx : Passes CX X E)
    (ht : eval (.Call (.Attribute o m apos) [] [] pos) X.env = (do
      let ov ← eval o X.env
      standAt apos.atName
      let (f, first) ← holding [ov] (getMethod ov m pl)
      callWith pos f first (backTo pos (starEach [] X.env)) (backToKw pos (keywordEach [] X.env))) := by rfl) :
    PE X (.Call (.Attribute o m apos) [] [] pos) (tMth C m sp E ta tNil) := by
  obtain ⟨f, fd, F, hm, hb⟩ := M.ex
  rw [← tMeth_eq]
  exact pe_meth0 (pl := pl) he c hm F hr hb .nil hx ht
theorem pe_mak (M : Mak X.prog X.w X.K X.mg X.base CX k x C ps sp) (hr : Room (k + 1) X.A) (hg : Gl X x) (hx : Passes CX X E) (ha : PA X (e :: es) t) (hdb : (x == ("__debug__" : Str)) = false := by decide)
    (he : starEach (e :: es) X.env = (false, eval e X.env) :: starEach es X.env := by rfl) (hpl : (backTo pos (starEach es X.env)).any (·.1) = false := by rfl) : PE X (.Call (.Name x p) (e :: es) [] pos) (tMak C sp E t) := by
  obtain ⟨f, fd, F, hm, hb, hg'⟩ := M.ex
  rw [← tMake_eq]
  exact pe_make hm F hr hg hg' hb .nil hx ha hdb he hpl
end
/-! ### bodies of methods -/
section
variable {P : Program} {w : World} {K : PySem.W.Frag} {mg : Str → Option Value} {base : Heap} {C : Addr} {x m qual : Str} {st : Stmt} {N ps : List Str} {k : Nat} {sp : Sp}
theorem MthAt.ok (D : MthAt K C m qual st ps) (S : FnScope N ps (defScope st)) (len : ∀ vs H Q E, sp vs H Q E → vs.length = ps.length)
    (hbody : ∀ (f : Addr) (cdv : Value) (A : Around) (outer : List Env) (s : Shared) (H : Hp) (vs : List V) (Q : VK) (E : XK), Room k (A.deeper (envOfC qual (defScope st) s.heap.objs.size f cdv)) → sp vs H Q E →
      ∃ t, PSs (cxOf CX0 P w K mg base N qual (defScope st) f cdv A outer s H E).nox (defBody st) t ∧ t { nx := fun _ H' => Q .non H', rt := Q } (start N vs) H) : Mth P w K mg base CX0 (k + 1) C m ps sp := by
  obtain ⟨f, fd, F, hm, hb⟩ := D.ex
  exact ⟨f, fd, F.ok S len (hbody f), hm, hb⟩
theorem MthAt.okE (D : MthAt K C m qual st ps) (S : FnScope N ps (defScope st)) (len : ∀ vs H Q E, sp vs H Q E → vs.length = ps.length)
    (hbody : ∀ (f : Addr) (cdv : Value) (A : Around) (outer : List Env) (s : Shared) (H : Hp) (vs : List V) (Q : VK) (E : XK), Room k (A.deeper (envOfC qual (defScope st) s.heap.objs.size f cdv)) → sp vs H Q E →
      ∃ t, PSs (cxOf (CXE P w) P w K mg base N qual (defScope st) f cdv A outer s H E) (defBody st) t ∧ t { nx := fun _ H' => Q .non H', rt := Q } (start N vs) H) : Mth P w K mg base (CXE P w) (k + 1) C m ps sp := by
  obtain ⟨f, fd, F, hm, hb⟩ := D.ex
  obtain ⟨oc, od, kV, doc, pm, an, cdv, ct, osl, rfl, lk, hcd⟩ := F.ex
  exact ⟨f, _, fn_of lk hcd S len fun A outer s H vs Q E hr hsp => hbody f cdv A outer s H vs Q E hr hsp, hm, hb⟩
theorem MakAt.ok (D : MakAt K mg x C qual st ps) (S : FnScope N ps (defScope st)) (len : ∀ vs H Q E, sp vs H Q E → vs.length = ps.length)
    (hbody : ∀ (f : Addr) (cdv : Value) (A : Around) (outer : List Env) (s : Shared) (H : Hp) (vs : List V) (Q : VK) (E : XK), Room k (A.deeper (envOfC qual (defScope st) s.heap.objs.size f cdv)) → sp vs H Q E →
      ∃ t, PSs (cxOf CX0 P w K mg base N qual (defScope st) f cdv A outer s H E).nox (defBody st) t ∧ t { nx := fun _ H' => Q .non H', rt := Q } (start N vs) H) : Mak P w K mg base CX0 (k + 1) x C ps sp := by
  obtain ⟨f, fd, F, hm, hb, hg⟩ := D.ex
  exact ⟨f, fd, F.ok S len (hbody f), hm, hb, hg⟩
theorem MakAt.okE (D : MakAt K mg x C qual st ps) (S : FnScope N ps (defScope st)) (len : ∀ vs H Q E, sp vs H Q E → vs.length = ps.length)
    (hbody : ∀ (f : Addr) (cdv : Value) (A : Around) (outer : List Env) (s : Shared) (H : Hp) (vs : List V) (Q : VK) (E : XK), Room k (A.deeper (envOfC qual (defScope st) s.heap.objs.size f cdv)) → sp vs H Q E →
      ∃ t, PSs (cxOf (CXE P w) P w K mg base N qual (defScope st) f cdv A outer s H E) (defBody st) t ∧ t { nx := fun _ H' => Q .non H', rt := Q } (start N vs) H) : Mak P w K mg base (CXE P w) (k + 1) x C ps sp := by
  obtain ⟨f, fd, F, hm, hb, hg⟩ := D.ex
  obtain ⟨oc, od, kV, doc, pm, an, cdv, ct, osl, rfl, lk, hcd⟩ := F.ex
  exact ⟨f, _, fn_of lk hcd S len fun A outer s H vs Q E hr hsp => hbody f cdv A outer s H vs Q E hr hsp, hm, hb, hg⟩
end
/-! ### try: C(..) except B as n: suite -/
section
variable {X : Cx} {pins : List (Addr × Obj)} {σ : St} {i : Nat} {n B : Str} {C Ch : Addr} {b₀ : Stmt} {suite : List Stmt} {pos np : Pos}
end
end L2
/-! ### what loads turn -/
namespace Fx
def ps (x : Rat) : Rat := if 0 < x then x else 0
theorem ps_pos {x : Rat} (h : 0 < x) : ps x = x := by
  unfold ps
  rw [if_pos h]
theorem ps_neg {x : Rat} (h : ¬ 0 < x) : ps x = 0 := by
  unfold ps
  rw [if_neg h]
/-- a weight of z at p, about x: from the left, from the right, both -/
def lw (p z : Int) (x : Rat) : Rat := z * ps (x - p)
def rw' (p z : Int) (x : Rat) : Rat := z * ps (p - x)
def aw (p z : Int) (x : Rat) : Rat := z * (p - x)
/-- a spread from s to e with k on each length -/
def ls (s e k : Int) (x : Rat) : Rat := k * (ps (x - s) * ps (x - s) - ps (x - e) * ps (x - e)) / 2
def rs (s e k : Int) (x : Rat) : Rat := k * (ps (e - x) * ps (e - x) - ps (s - x) * ps (s - x)) / 2
def as' (s e k : Int) (x : Rat) : Rat := k * (e - s) * ((s + e) / 2 - x)
theorem ps_sub (x : Rat) : ps x - ps (-x) = x := by
  unfold ps
  split <;> split <;> grind
theorem ps_sq (x : Rat) : ps x * ps x + ps (-x) * ps (-x) = x * x := by
  unfold ps
  split <;> split <;> grind
theorem about_w (p z : Int) (x : Rat) : rw' p z x - lw p z x = aw p z x := by
  unfold rw' lw aw
  have h := ps_sub (p - x)
  have e : -((p : Rat) - x) = x - p := by grind
  rw [e] at h
  grind
theorem about_s (s e k : Int) (x : Rat) : rs s e k x - ls s e k x = as' s e k x := by
  unfold rs ls as'
  have h1 := ps_sq (e - x)
  have h2 := ps_sq (s - x)
  have e1 : -((e : Rat) - x) = x - e := by grind
  have e2 : -((s : Rat) - x) = x - s := by grind
  rw [e1] at h1
  rw [e2] at h2
  grind
/-- a rational by its top and bottom -/
theorem by_parts (x : Rat) : ∃ t b : Rat, t = x.num ∧ b = x.den ∧ 0 < b ∧ x * b = t := by
  have d0 : (0 : Rat) < (x.den : Rat) := by
    have h := x.den_pos
    exact_mod_cast h
  refine ⟨x.num, x.den, rfl, rfl, d0, ?_⟩
  have h := Rat.num_divInt_den x
  rw [Rat.divInt_eq_div] at h
  have e : (((x.den : Nat) : Int) : Rat) = (x.den : Rat) := rfl
  rw [e] at h
  grind
theorem divInt_of {q : Rat} {a b : Int} (hb : b ≠ 0) (h : q * b = a) : q = Rat.divInt a b := by
  rw [Rat.divInt_eq_div]
  have hb' : (b : Rat) ≠ 0 := by exact_mod_cast hb
  grind
theorem lt_parts (x : Rat) (p : Int) : (x.num - p * x.den > 0) ↔ 0 < x - p := by
  obtain ⟨t, b, ht, hb, b0, e⟩ := by_parts x
  have h1 : ((x.num - p * x.den : Int) : Rat) = (x - p) * b := by
    push_cast
    rw [← ht, ← hb]
    grind
  constructor
  · intro h
    have h2 : (0 : Rat) < ((x.num - p * x.den : Int) : Rat) := by exact_mod_cast h
    rw [h1] at h2
    exact (Rat.mul_lt_mul_right b0).mp (by grind)
  · intro h
    have h2 : (0 : Rat) < ((x.num - p * x.den : Int) : Rat) := by
      rw [h1]
      exact Rat.mul_pos h b0
    exact_mod_cast h2
/-- the laws' own sums are what the document tells -/
theorem lw_law (p z : Int) (x : Rat) : lw p z x = Rat.divInt (z * (if x.num - p * x.den > 0 then x.num - p * x.den else 0)) x.den := by
  obtain ⟨t, b, ht, hb, b0, e⟩ := by_parts x
  refine divInt_of (by have := x.den_pos; omega) ?_
  unfold lw
  split
  · rename_i h
    rw [ps_pos ((lt_parts x p).mp h)]
    push_cast
    rw [← ht, ← hb]
    grind
  · rename_i h
    rw [ps_neg fun z => h ((lt_parts x p).mpr z)]
    push_cast
    grind
theorem gt_parts (x : Rat) (p : Int) : (p * x.den - x.num > 0) ↔ 0 < p - x := by
  obtain ⟨t, b, ht, hb, b0, e⟩ := by_parts x
  have h1 : ((p * x.den - x.num : Int) : Rat) = (p - x) * b := by
    push_cast
    rw [← ht, ← hb]
    grind
  constructor
  · intro h
    have h2 : (0 : Rat) < ((p * x.den - x.num : Int) : Rat) := by exact_mod_cast h
    rw [h1] at h2
    exact (Rat.mul_lt_mul_right b0).mp (by grind)
  · intro h
    have h2 : (0 : Rat) < ((p * x.den - x.num : Int) : Rat) := by
      rw [h1]
      exact Rat.mul_pos h b0
    exact_mod_cast h2
theorem rw_law (p z : Int) (x : Rat) : rw' p z x = Rat.divInt (z * (if p * x.den - x.num > 0 then p * x.den - x.num else 0)) x.den := by
  obtain ⟨t, b, ht, hb, b0, e⟩ := by_parts x
  refine divInt_of (by have := x.den_pos; omega) ?_
  unfold rw'
  split
  · rename_i h
    rw [ps_pos ((gt_parts x p).mp h)]
    push_cast
    rw [← ht, ← hb]
    grind
  · rename_i h
    rw [ps_neg fun z => h ((gt_parts x p).mpr z)]
    push_cast
    grind
theorem aw_law (p z : Int) (x : Rat) : aw p z x = Rat.divInt (z * (p * x.den - x.num)) x.den := by
  obtain ⟨t, b, ht, hb, b0, e⟩ := by_parts x
  refine divInt_of (by have := x.den_pos; omega) ?_
  unfold aw
  push_cast
  rw [← ht, ← hb]
  grind
theorem as_law (s e k : Int) (x : Rat) : as' s e k x = Rat.divInt (k * (e - s) * ((s + e) * x.den - 2 * x.num)) (2 * x.den) := by
  obtain ⟨t, b, ht, hb, b0, ee⟩ := by_parts x
  refine divInt_of (by have := x.den_pos; omega) ?_
  unfold as'
  push_cast
  rw [← ht, ← hb]
  grind
theorem ls_law (s e k : Int) (x : Rat) (h : s < e) : ls s e k x = Rat.divInt (if s * x.den < x.num then (k * ((if e * x.den < x.num then e * x.den else x.num) - s * x.den) * (2 * x.num - s * x.den - (if e * x.den < x.num then e * x.den else x.num))) else 0) (2 * x.den * x.den) := by
  obtain ⟨t, b, ht, hb, b0, ee⟩ := by_parts x
  have dp := x.den_pos
  have ne : (2 * (x.den : Int) * x.den) ≠ 0 := by
    have : (0 : Int) < 2 * (x.den : Int) * x.den := Int.mul_pos (by omega) (by omega)
    omega
  have h' : (s : Rat) < e := by exact_mod_cast h
  refine divInt_of ne ?_
  unfold ls
  have c1 : (s * x.den < x.num) ↔ 0 < x - s := by
    rw [← lt_parts x s]
    omega
  have c2 : (e * x.den < x.num) ↔ 0 < x - e := by
    rw [← lt_parts x e]
    omega
  by_cases a : s * x.den < x.num
  · rw [if_pos a, ps_pos (c1.mp a)]
    by_cases a2 : e * x.den < x.num
    · rw [if_pos a2, ps_pos (c2.mp a2)]
      push_cast
      rw [← ht, ← hb]
      grind
    · rw [if_neg a2, ps_neg fun z => a2 (c2.mpr z)]
      push_cast
      rw [← ht, ← hb]
      grind
  · have z1 : ¬ 0 < x - s := fun z => a (c1.mpr z)
    rw [if_neg a, ps_neg z1, ps_neg (x := x - e) (by grind)]
    push_cast
    grind
theorem rs_law (s e k : Int) (x : Rat) (h : s < e) : rs s e k x = Rat.divInt (if e * x.den > x.num then (k * (e * x.den - (if s * x.den > x.num then s * x.den else x.num)) * ((if s * x.den > x.num then s * x.den else x.num) + e * x.den - 2 * x.num)) else 0) (2 * x.den * x.den) := by
  obtain ⟨t, b, ht, hb, b0, ee⟩ := by_parts x
  have dp := x.den_pos
  have ne : (2 * (x.den : Int) * x.den) ≠ 0 := by
    have : (0 : Int) < 2 * (x.den : Int) * x.den := Int.mul_pos (by omega) (by omega)
    omega
  have h' : (s : Rat) < e := by exact_mod_cast h
  refine divInt_of ne ?_
  unfold rs
  have c1 : (e * x.den > x.num) ↔ 0 < e - x := by
    rw [← gt_parts x e]
    omega
  have c2 : (s * x.den > x.num) ↔ 0 < s - x := by
    rw [← gt_parts x s]
    omega
  by_cases a : e * x.den > x.num
  · rw [if_pos a, ps_pos (c1.mp a)]
    by_cases a2 : s * x.den > x.num
    · rw [if_pos a2, ps_pos (c2.mp a2)]
      push_cast
      rw [← ht, ← hb]
      grind
    · rw [if_neg a2, ps_neg fun z => a2 (c2.mpr z)]
      push_cast
      rw [← ht, ← hb]
      grind
  · have z1 : ¬ 0 < e - x := fun z => a (c1.mpr z)
    rw [if_neg a, ps_neg z1, ps_neg (x := s - x) (by grind)]
    push_cast
    grind
end Fx
/-! ### reading a term of rules, a step at a time -/
namespace L2
open PySem PySem.Spec PyProof.Rows Fx
section
variable {σ : St} {H H' : Hp} {Q : VK} {ta tb : TE} {t u : TS} {nx bk ct : St → Hp → Prop} {i j : Int} {v x y : V} {K : PySem.W.Frag}
theorem rd_var {i : Nat} (h : σ[i]? = some (some v)) (q : Q v H) : tVar i σ H Q := ⟨v, h, q⟩
theorem rd_c (q : Q v H) : tC v σ H Q := q
theorem rd_op {r : R2} (h : ta σ H fun x H1 => tb σ H1 fun y H2 => r x y H2 Q) : tOp r ta tb σ H Q := h
theorem rd_un {r : V → Hp → VK → Prop} (h : ta σ H fun x H1 => r x H1 Q) : tUn r ta σ H Q := h
theorem rd_rI {C : Int → Int → Prop} {g : Int → Int → V} (c : C i j) (q : Q (g i j) H) : rI C g (.int i) (.int j) H Q := ⟨i, j, rfl, rfl, c, q⟩
theorem rd_rI0 {g : Int → Int → V} (q : Q (g i j) H) : rI0 g (.int i) (.int j) H Q := ⟨i, j, rfl, rfl, q⟩
theorem rd_rU {g : Int → V} (q : Q (g i) H) : rU g (.int i) H Q := ⟨i, rfl, q⟩
theorem dec_vint (i j : Int) : decide (V.int i = V.int j) = decide (i = j) := decide_eq_decide.mpr ⟨fun e => by injection e, fun e => by rw [e]⟩
theorem rd_eqI (q : Q (.bl (decide (i = j))) H) : rEq (.int i) (.int j) H Q := ⟨rfl, by rw [dec_vint]; exact q⟩
theorem rd_neI (q : Q (.bl (!decide (i = j))) H) : rNe (.int i) (.int j) H Q := ⟨rfl, by rw [dec_vint]; exact q⟩
theorem rd_test {Q : Bool → Hp → Prop} (h : ta σ H fun x H1 => ∃ k, x = .bl k ∧ Q k H1) : tTest ta σ H Q := h
theorem rd_tB {Q : Bool → Hp → Prop} (h : ta σ H fun x H1 => ∃ k, x = .bl k ∧ Q k H1) : tB ta σ H Q := h
theorem rd_bl {P : Bool → Prop} {b : Bool} (q : P b) : ∃ k, V.bl b = V.bl k ∧ P k := ⟨b, rfl, q⟩
theorem rd_and {c d : TT} {Q : Bool → Hp → Prop} (h : c σ H fun b H1 => if b = true then d σ H1 Q else Q false H1) : tAnd c d σ H Q := h
theorem rd_or {c d : TT} {Q : Bool → Hp → Prop} (h : c σ H fun b H1 => if b = true then Q true H1 else d σ H1 Q) : tOr c d σ H Q := h
theorem rd_not {c : TT} {Q : Bool → Hp → Prop} (h : c σ H fun b H1 => Q (!b) H1) : tNot c σ H Q := h
theorem rd_andV (h : ta σ H fun x H1 => ∃ c, x = .bl c ∧ if c = true then tb σ H1 Q else Q (.bl false) H1) : tAndV ta tb σ H Q := h
theorem rd_orV (h : ta σ H fun x H1 => ∃ c, x = .bl c ∧ if c = true then Q (.bl true) H1 else tb σ H1 Q) : tOrV ta tb σ H Q := h
theorem rd_notV (h : ta σ H fun x H1 => ∃ c, x = .bl c ∧ Q (.bl (!c)) H1) : tNotV ta σ H Q := h
theorem rd_next {rt : VK} (h : nx σ H) : tNext ⟨nx, rt, bk, ct⟩ σ H := h
theorem rd_seq {rt : VK} (h : t ⟨u ⟨nx, rt, bk, ct⟩, rt, bk, ct⟩ σ H) : tSeq t u ⟨nx, rt, bk, ct⟩ σ H := h
theorem rd_drop {rt : VK} (h : ta σ H fun _ H1 => nx σ H1) : tDrop ta ⟨nx, rt, bk, ct⟩ σ H := h
theorem rd_ret {rt : VK} (h : ta σ H rt) : tRet ta ⟨nx, rt, bk, ct⟩ σ H := h
theorem rd_if {rt : VK} {c : TT} (h : c σ H fun b H1 => if b = true then t ⟨nx, rt, bk, ct⟩ σ H1 else u ⟨nx, rt, bk, ct⟩ σ H1) : tIfS c t u ⟨nx, rt, bk, ct⟩ σ H := h
theorem rd_asg {rt : VK} {g : TG} (h : ta σ H fun x H1 => g x σ H1 nx) : tAsg ta g ⟨nx, rt, bk, ct⟩ σ H := h
theorem rd_gname' {i : Nat} {σ' : St} {Q : St → Hp → Prop} (h : σ.set i (some v) = σ') (q : Q σ' H) : gName i v σ H Q := by
  subst h
  exact q
theorem rd_start {t : TS} {D : Ends} {N : List Str} {vs : List V} {σ' : St} (h : start N vs = σ') (q : t D σ' H) : t D (start N vs) H := by
  subst h
  exact q
theorem rd_gnil {Q : St → Hp → Prop} (q : Q σ H) : gNil [] σ H Q := ⟨rfl, q⟩
theorem rd_gcons {t : TG} {u : TGs} {vs : List V} {Q : St → Hp → Prop} (q : t v σ H fun σ' H' => u vs σ' H' Q) : gCons t u (v :: vs) σ H Q := ⟨v, vs, rfl, q⟩
theorem rd_aug {rt : VK} {i : Nat} {ti : TIp} (h1 : σ[i]? = some (some x)) (h : ta σ H fun y H1 => ti x y H1 fun z H2 => nx (σ.set i (some z)) H2) : tAug i ta ti ⟨nx, rt, bk, ct⟩ σ H := ⟨x, h1, h⟩
theorem rd_ipI {f : Int → Int → Int} (q : Q (.int (f i j)) H) : ipI f (.int i) (.int j) H Q := ⟨i, j, rfl, rfl, q⟩
theorem rd_nil {Q : List V → Hp → Prop} (q : Q [] H) : tNil σ H Q := q
theorem rd_cons {tr : TA} {Q : List V → Hp → Prop} (q : ta σ H fun x H1 => tr σ H1 fun xs H2 => Q (x :: xs) H2) : tCons ta tr σ H Q := q
theorem rd_def {sp : Sp} {E : XK} {tA : TA} (q : tA σ H fun vs H1 => sp vs H1 Q E) : tDef sp E tA σ H Q := q
theorem rd_cb {r : List V → Hp → VK → Prop} {tA : TA} (q : tA σ H fun vs H1 => r vs H1 Q) : tCB r tA σ H Q := q
theorem rd_ex1 {P : Int → Prop} (q : P i) : ∃ a, [V.int i] = [V.int a] ∧ P a := ⟨i, rfl, q⟩
theorem rd_ex2 {P : Int → Int → Prop} (q : P i j) : ∃ a b, [V.int i, V.int j] = [V.int a, V.int b] ∧ P a b := ⟨i, j, rfl, q⟩
/-! tuples and lists that are made -/
def rTup (xs : List V) (H : Hp) (Q : VK) : Prop := xs.length ≤ sizeLine ∧ ∀ p, H p = none → Q (.ref p) (upd H p (.tup xs))
def rLst (xs : List V) (H : Hp) (Q : VK) : Prop := xs.length ≤ sizeLine ∧ ∀ p, H p = none → Q (.ref p) (upd H p (.lst xs))
theorem rd_tup {tA : TA} (q : tA σ H fun xs H1 => rTup xs H1 Q) : tTup tA σ H Q := q
theorem rd_lst {tA : TA} (q : tA σ H fun xs H1 => rLst xs H1 Q) : tLst tA σ H Q := q
theorem rTup.mk' {xs : List V} (hl : xs.length ≤ sizeLine) (q : ∀ p H', Same H H' → H p = none → H' p = some (.tup xs) → Q (.ref p) H') : rTup xs H Q := ⟨hl, fun p hp => q p _ (Same.upd hp) hp upd_same⟩
theorem rLst.mk' {xs : List V} (hl : xs.length ≤ sizeLine) (q : ∀ p H', Same H H' → H p = none → H' p = some (.lst xs) → Q (.ref p) H') : rLst xs H Q := ⟨hl, fun p hp => q p _ (Same.upd hp) hp upd_same⟩
/-- a whole number as a fraction -/
theorem rTup.fr (q : ∀ v H', Same H H' → IsFr H' v (i : Rat) → Q v H') : rTup [.int i, .int 1] H Q := ⟨(by show 2 ≤ sizeLine; decide), fun p hp => q _ _ (Same.upd hp) ⟨p, rfl, upd_same⟩⟩
/-- two parts of a fraction -/
theorem IsFr.i0 {q : Rat} (h : IsFr H v q) (k : Q (.int q.num) H) : rIxT K v (.int 0) H Q := by
  obtain ⟨p, rfl, h⟩ := h
  exact ⟨p, _, _, _, rfl, rfl, SqT.of h, rfl, k⟩
theorem IsFr.i1 {q : Rat} (h : IsFr H v q) (k : Q (.int q.den) H) : rIxT K v (.int 1) H Q := by
  obtain ⟨p, rfl, h⟩ := h
  exact ⟨p, _, _, _, rfl, rfl, SqT.of h, rfl, k⟩
theorem IsFr.same' {q : Rat} (s : Same H H') (h : IsFr H v q) : IsFr H' v q := h.same s
theorem at_same {a : Addr} {o : HO} (s : Same H H') (h : H a = some o) : H' a = some o := s _ _ h
/-- a field that is read -/
def rFld (K : PySem.W.Frag) (f : Str) (x : V) (H : Hp) (Q : VK) : Prop := ∃ a C dx fs v, x = .ref a ∧ H a = some (.ins C dx fs) ∧ Cls K C ∧ NoAttr K C f ∧ fs.lookup f = some v ∧ Q v H
theorem rd_fld {f : Str} (h : ta σ H fun x H1 => rFld K f x H1 Q) : tFld K ta f σ H Q := h
def rMth (C : Addr) (m : Str) (t : Hp → Prop) (x : V) (H : Hp) : Prop := ∃ a dx fs, x = .ref a ∧ H a = some (.ins C dx fs) ∧ fs.lookup m = none ∧ t H
theorem rd_mth {C : Addr} {m : Str} {sp : Sp} {E : XK} {tA : TA} (h : ta σ H fun x H1 => rMth C m (fun H1 => tA σ H1 fun vs H2 => sp (x :: vs) H2 Q E) x H1) : tMth C m sp E ta tA σ H Q := h
end
/-! ### bits -/
theorem _root_.Fx.Bi.add' {m n : Nat} {x y : Int} (hx : Bi m x) (hy : Bi n y) : Bi (max m n + 1) (x + y) := (hx.mono (Nat.le_max_left ..)).add (hy.mono (Nat.le_max_right ..))
theorem _root_.Fx.Bi.sub' {m n : Nat} {x y : Int} (hx : Bi m x) (hy : Bi n y) : Bi (max m n + 1) (x - y) := (hx.mono (Nat.le_max_left ..)).sub (hy.mono (Nat.le_max_right ..))
theorem _root_.Fx.Bi.ite {m n : Nat} {x y : Int} {c : Prop} [Decidable c] (hx : Bi m x) (hy : Bi n y) : Bi (max m n) (if c then x else y) := by
  split
  · exact hx.mono (Nat.le_max_left ..)
  · exact hy.mono (Nat.le_max_right ..)
theorem _root_.Fx.Bi.lit {x : Int} (h : x.natAbs < 2 ^ 64) : Bi 64 x := h
theorem _root_.Fx.Bq.n {n : Nat} {q : Rat} (h : Bq n q) : Bi n q.num := h.1
theorem _root_.Fx.Bq.d {n : Nat} {q : Rat} (h : Bq n q) : Bi n (q.den : Int) := h.2
theorem _root_.Fx.Bq.int {n : Nat} {x : Int} (h : Bi n x) : Bq (n + 1) (x : Rat) := ⟨h.mono (by omega), by
  have z : Bi 1 (1 : Int) := by unfold Bi; decide
  exact z.mono (by omega)⟩
end L2
namespace L2
open PySem PySem.Spec PyProof.Rows Fx
section
variable {X : Cx} {K : PySem.W.Frag} {H H' : Hp} {Q : VK} {v : V} {i : Int} {σ : St}
def rIsiT (K : PySem.W.Frag) : List V → Hp → VK → Prop := fun xs H Q => ∃ x T t b, xs = [x, .ty T] ∧ TyOf K H x t ∧ PySem.W.kitOne K t (.type T) = some b ∧ Q (.bl b) H
theorem call_isiT' : CallR X (.builtin "isinstance") (rIsiT X.K) := call_isiT
def rIsiC (K : PySem.W.Frag) : List V → Hp → VK → Prop := fun xs H Q => ∃ x C t b, xs = [x, .ref C] ∧ TyOf K H x t ∧ PySem.W.kitOne K t (.ref C) = some b ∧ Q (.bl b) H
theorem call_isiC' : CallR X (.builtin "isinstance") (rIsiC X.K) := call_isiC
theorem isi_ii (q : Q (.bl true) H) : rIsiT K [.int i, .ty "int"] H Q := ⟨_, _, _, _, rfl, TyOf.int i, kit_int_int _, q⟩
theorem isi_ib (q : Q (.bl false) H) : rIsiT K [.int i, .ty "bool"] H Q := ⟨_, _, _, _, rfl, TyOf.int i, kit_int_bool _, q⟩
theorem isi_fr {r : Rat} (h : IsFr H v r) (q : Q (.bl true) H) : rIsiT K [v, .ty "tuple"] H Q := by
  obtain ⟨p, rfl, h⟩ := h
  exact ⟨_, _, _, _, rfl, TyOf.tup h, kit_tup_tup _, q⟩
theorem isi_tup {p : Addr} {xs : List V} (h : H p = some (.tup xs)) (q : Q (.bl true) H) : rIsiT K [.ref p, .ty "tuple"] H Q := ⟨_, _, _, _, rfl, TyOf.tup h, kit_tup_tup _, q⟩
def rLenS (K : PySem.W.Frag) : List V → Hp → VK → Prop := fun xs H Q => ∃ p ys, xs = [.ref p] ∧ (SqL K H p ys ∨ SqT K H p ys) ∧ Q (.int ys.length) H
theorem call_len' : CallR X (.builtin "len") (rLenS X.K) := call_len_seq
theorem len_fr {r : Rat} (h : IsFr H v r) (q : Q (.int 2) H) : rLenS K [v] H Q := by
  obtain ⟨p, rfl, h⟩ := h
  exact ⟨p, _, rfl, .inr (SqT.of h), q⟩
theorem len_sq {p : Addr} {xs : List V} (h : SqL K H p xs) (q : Q (.int xs.length) H) : rLenS K [.ref p] H Q := ⟨p, _, rfl, .inl h, q⟩
theorem len_tup {p : Addr} {xs : List V} (h : H p = some (.tup xs)) (q : Q (.int xs.length) H) : rLenS K [.ref p] H Q := ⟨p, _, rfl, .inr (SqT.of h), q⟩
theorem Same.seq' {a : Addr} {xs : List V} (s : Same H H') (h : SqL K H a xs) : SqL K H' a xs := s.seq h
theorem ite_t {c A B : Prop} [Decidable c] (h : c) (a : A) : if decide c = true then A else B := by
  rw [decide_eq_true h]
  exact iteT a
theorem ite_f {c A B : Prop} [Decidable c] (h : ¬ c) (a : B) : if decide c = true then A else B := by
  rw [decide_eq_false h]
  exact iteF a
theorem ite_nt {c A B : Prop} [Decidable c] (h : ¬ c) (a : A) : if (!decide c) = true then A else B := by
  rw [decide_eq_false h]
  exact iteT a
theorem ite_nf {c A B : Prop} [Decidable c] (h : c) (a : B) : if (!decide c) = true then A else B := by
  rw [decide_eq_true h]
  exact iteF a
theorem iteN1 {A B : Prop} (a : B) : if (!true) = true then A else B := iteF a
end
end L2
/-! ### loops, in short -/
namespace L2
open PySem PySem.Spec PyProof.Rows Fx
section
variable {K : PySem.W.Frag} {H H' : Hp} {Q : VK} {v : V} {σ : St} {nx bk ct : St → Hp → Prop} {rt : VK} {g : TG} {tb : TS}
def rFor (J : It) (g : TG) (tb : TS) : TS := fun D σ H => ∃ W : Nat → Nat → St → Hp → Prop, (∃ m, W 0 m σ H) ∧ ∀ i m σ H, W i m σ H →
  (J.stop i H ∧ D.nx σ H) ∨ (J.go i H ∧ ∃ N : St → Hp → Prop, (∀ σ' H', N σ' H' → ∃ m', m' < m ∧ W (i + 1) m' σ' H') ∧ ∀ x H', J.yld i H x H' → g x σ H' fun σ2 H2 => tb { D with nx := N, ct := N, bk := D.nx } σ2 H2)
theorem rd_for {D : Ends} {wi : TI} (h : wi σ H fun J H1 => rFor J g tb D σ H1) : tFor wi g tb D σ H := h
def rItl (K : PySem.W.Frag) (x : V) (H : Hp) (R : It → Hp → Prop) : Prop := ∃ a, x = .ref a ∧ (∃ xs, SqL K H a xs) ∧ R (Itl K a) H
def rItt (K : PySem.W.Frag) (x : V) (H : Hp) (R : It → Hp → Prop) : Prop := ∃ a, x = .ref a ∧ (∃ xs, SqT K H a xs) ∧ R (Itt K a) H
theorem rd_ilist {tl : TE} {R : It → Hp → Prop} (h : tl σ H fun x H1 => rItl K x H1 R) : iList K tl σ H R := h
theorem rd_itup {tl : TE} {R : It → Hp → Prop} (h : tl σ H fun x H1 => rItt K x H1 R) : iTup K tl σ H R := h
theorem rItl.sq {a : Addr} {xs : List V} {R : It → Hp → Prop} (h : SqL K H a xs) (q : R (Itl K a) H) : rItl K (.ref a) H R := ⟨a, rfl, ⟨xs, h⟩, q⟩
theorem rItt.at {a : Addr} {xs : List V} {R : It → Hp → Prop} (h : H a = some (.tup xs)) (q : R (Itt K a) H) : rItt K (.ref a) H R := ⟨a, rfl, ⟨xs, SqT.of h⟩, q⟩
theorem rFor.rng {lo : Int} {n : Nat} (Pv : Nat → St → Hp → Prop) (h0 : Pv 0 σ H)
    (hs : ∀ i σ H, i < n → Pv i σ H → g (.int (lo + i)) σ H fun σ2 H2 => tb ⟨Pv (i + 1), rt, nx, Pv (i + 1)⟩ σ2 H2) (hd : ∀ σ H, Pv n σ H → nx σ H) : rFor (Itr lo n) g tb ⟨nx, rt, bk, ct⟩ σ H :=
  for_range Pv h0 hs hd
theorem rd_rng2 {tA : TA} {R : It → Hp → Prop} (h : tA σ H fun vs H1 => ∃ i j : Int, vs = [.int i, .int j] ∧ (-(2 ^ 62) ≤ i ∧ i < 2 ^ 62 ∧ -(2 ^ 62) ≤ j ∧ j < 2 ^ 62) ∧ R (Itr i (j - i).toNat) H1) : iRng2 tA σ H R := h
/-! ### instances that are made -/
def rMak (C : Addr) (sp : Sp) (E : XK) (vs : List V) (H1 : Hp) (Q : VK) : Prop := ∀ x dx, H1 x = none → H1 dx = none → dx ≠ x →
  sp (.ref x :: vs) (upd (upd H1 dx (.own x)) x (.ins C dx [])) (fun v H2 => v = .non ∧ Q (.ref x) H2) E
theorem rd_mak {C : Addr} {sp : Sp} {E : XK} {tA : TA} (h : tA σ H fun vs H1 => rMak C sp E vs H1 Q) : tMak C sp E tA σ H Q := h
theorem Same.made {x dx : Addr} {o u : HO} (hx : H x = none) (hd : H dx = none) (k : ∀ b o', b ≠ x → (L2.upd (L2.upd H dx o) x u) b = some o' → H' b = some o') : Same H H' := fun b o' e => k b o' (ne_of_none e hx) (by
  rw [upd_ne (ne_of_none e hx), upd_ne (ne_of_none e hd)]
  exact e)
end
end L2
/-! ### loads -/
namespace Fx
inductive Ld where
  | w (p z : Int)
  | s (a e k : Int)
def Ld.isW : Ld → Bool
  | .w _ _ => true
  | .s _ _ _ => false
def Ld.total : Ld → Int
  | .w _ z => z
  | .s a e k => k * (e - a)
def Ld.left : Ld → Rat → Rat
  | .w p z, x => lw p z x
  | .s a e k, x => ls a e k x
def Ld.right : Ld → Rat → Rat
  | .w p z, x => rw' p z x
  | .s a e k, x => rs a e k x
def Ld.abt : Ld → Rat → Rat
  | .w p z, x => aw p z x
  | .s a e k, x => as' a e k x
theorem Ld.abt_eq (L : Ld) (x : Rat) : L.right x - L.left x = L.abt x := by
  cases L with
  | w p z => exact about_w p z x
  | s a e k => exact about_s a e k x
def Ld.ok : Ld → Prop
  | .w _ _ => True
  | .s a e _ => a < e
def Ld.b (n : Nat) : Ld → Prop
  | .w p z => Bi n p ∧ Bi n z
  | .s a e k => Bi n a ∧ Bi n e ∧ Bi n k
theorem Ld.b.mono {m n : Nat} {L : Ld} (h : L.b m) (l : m ≤ n) : L.b n := by
  cases L with
  | w p z => exact ⟨h.1.mono l, h.2.mono l⟩
  | s a e k => exact ⟨h.1.mono l, h.2.1.mono l, h.2.2.mono l⟩
/-- a top over twice the bottom's square -/
theorem scaled {q : Rat} {g : Rat} {N : Int} (h : (N : Rat) = g * (2 * q.den * q.den)) : Rat.divInt N (2 * q.den * q.den) = g := by
  have dp := q.den_pos
  have ne : (2 * (q.den : Int) * q.den) ≠ 0 := by
    have : (0 : Int) < 2 * (q.den : Int) * q.den := Int.mul_pos (by omega) (by omega)
    omega
  refine (divInt_of ne ?_).symm
  push_cast
  exact h.symm
theorem two_den_ne (q : Rat) : (2 * (q.den : Int) * q.den) ≠ 0 := by
  have dp := q.den_pos
  have : (0 : Int) < 2 * (q.den : Int) * q.den := Int.mul_pos (by omega) (by omega)
  omega
theorem unscaled {q g : Rat} {N : Int} (h : g = Rat.divInt N (2 * q.den * q.den)) : (N : Rat) = g * (2 * q.den * q.den) := by
  have ne := two_den_ne q
  have n' : ((2 * (q.den : Int) * q.den : Int) : Rat) ≠ 0 := by exact_mod_cast ne
  rw [h, Rat.divInt_eq_div]
  have e : ((2 * (q.den : Int) * q.den : Int) : Rat) = 2 * (q.den : Rat) * (q.den : Rat) := by push_cast; rfl
  rw [e] at n' ⊢
  grind
theorem unscaled1 {q g : Rat} {N : Int} (h : g = Rat.divInt N q.den) : ((2 * q.den * N : Int) : Rat) = g * (2 * q.den * q.den) := by
  have ne : ((q.den : Int) : Rat) ≠ 0 := by
    have dp := q.den_pos
    have : (q.den : Int) ≠ 0 := by omega
    exact_mod_cast this
  have e : (((q.den : Nat) : Int) : Rat) = (q.den : Rat) := rfl
  rw [e] at ne
  rw [h, Rat.divInt_eq_div, e]
  push_cast
  grind
end Fx
namespace L2
open PySem PySem.Spec PyProof.Rows Fx
abbrev wF (p z : Int) : List (Str × V) := putF "size" (.int z) (putF "place" (.int p) [])
abbrev sF (a e k : Int) : List (Str × V) := putF "each" (.int k) (putF "end" (.int e) (putF "start" (.int a) []))
abbrev fieldsOf : Ld → List (Str × V)
  | .w p z => wF p z
  | .s a e k => sF a e k
/-- a load stands at v -/
def IsLd (CW CS : Addr) (H : Hp) (v : V) (L : Ld) : Prop := L.ok ∧ ∃ a dx, v = .ref a ∧ H a = some (.ins (if L.isW then CW else CS) dx (fieldsOf L))
theorem IsLd.same' {CW CS : Addr} {H H' : Hp} {v : V} {L : Ld} (s : Same H H') (h : IsLd CW CS H v L) : IsLd CW CS H' v L := by
  obtain ⟨o, a, dx, e, h⟩ := h
  exact ⟨o, a, dx, e, s _ _ h⟩
section
variable {CW CS : Addr} {K : PySem.W.Frag} {H : Hp} {v : V} {Q : VK} {p z a e k : Int}
theorem IsLd.place (h : IsLd CW CS H v (.w p z)) (c : Cls K CW) (n : NoAttr K CW "place") (q : Q (.int p) H) : rFld K "place" v H Q := by
  obtain ⟨o, a, dx, e, h⟩ := h
  exact ⟨a, CW, dx, _, _, e, h, c, n, (by rw [lookup_putF, if_neg (by decide +kernel), lookup_putF, if_pos rfl]), q⟩
theorem IsLd.size (h : IsLd CW CS H v (.w p z)) (c : Cls K CW) (n : NoAttr K CW "size") (q : Q (.int z) H) : rFld K "size" v H Q := by
  obtain ⟨o, a, dx, e, h⟩ := h
  exact ⟨a, CW, dx, _, _, e, h, c, n, (by rw [lookup_putF, if_pos rfl]), q⟩
theorem IsLd.start (h : IsLd CW CS H v (.s a e k)) (c : Cls K CS) (n : NoAttr K CS "start") (q : Q (.int a) H) : rFld K "start" v H Q := by
  obtain ⟨o, b, dx, e, h⟩ := h
  exact ⟨b, CS, dx, _, _, e, h, c, n, (by rw [lookup_putF, if_neg (by decide +kernel), lookup_putF, if_neg (by decide +kernel), lookup_putF, if_pos rfl]), q⟩
theorem IsLd.end_ (h : IsLd CW CS H v (.s a e k)) (c : Cls K CS) (n : NoAttr K CS "end") (q : Q (.int e) H) : rFld K "end" v H Q := by
  obtain ⟨o, b, dx, e, h⟩ := h
  exact ⟨b, CS, dx, _, _, e, h, c, n, (by rw [lookup_putF, if_neg (by decide +kernel), lookup_putF, if_pos rfl]), q⟩
theorem IsLd.each (h : IsLd CW CS H v (.s a e k)) (c : Cls K CS) (n : NoAttr K CS "each") (q : Q (.int k) H) : rFld K "each" v H Q := by
  obtain ⟨o, b, dx, e, h⟩ := h
  exact ⟨b, CS, dx, _, _, e, h, c, n, (by rw [lookup_putF, if_pos rfl]), q⟩
/-- a name that is no field of a load -/
def noF (m : Str) : Prop := m ≠ "size" ∧ m ≠ "place" ∧ m ≠ "each" ∧ m ≠ "end" ∧ m ≠ "start"
instance {m : Str} : Decidable (noF m) := by unfold noF; infer_instance
theorem IsLd.no {L : Ld} {m : Str} (n : noF m) : (fieldsOf L).lookup m = none := by
  obtain ⟨n1, n2, n3, n4, n5⟩ := n
  cases L with
  | w p z =>
    show (wF p z).lookup m = none
    rw [lookup_putF, if_neg n1, lookup_putF, if_neg n2]
    rfl
  | s a e k =>
    show (sF a e k).lookup m = none
    rw [lookup_putF, if_neg n3, lookup_putF, if_neg n4, lookup_putF, if_neg n5]
    rfl
end
/-- a method of a load that stands in a slot, whatever its kind -/
def tLm (CW CS : Addr) (i : Nat) (sp : Bool → Sp) (E : XK) (t : TA) : TE := fun σ H Q => ∃ x L, σ[i]? = some (some x) ∧ IsLd CW CS H x L ∧ t σ H fun vs H2 => sp L.isW (x :: vs) H2 Q E
theorem rd_lm {CW CS : Addr} {i : Nat} {sp : Bool → Sp} {E : XK} {t : TA} {σ : St} {H : Hp} {Q : VK} {x : V} {L : Ld} (h : σ[i]? = some (some x)) (hL : IsLd CW CS H x L) (q : t σ H fun vs H2 => sp L.isW (x :: vs) H2 Q E) : tLm CW CS i sp E t σ H Q := ⟨x, L, h, hL, q⟩
section
variable {X : Cx} {CX : CXT} {k k' : Nat} {CW CS : Addr} {i : Nat} {ps : List Str} {sp : Bool → Sp} {E : XK} {x m : Str} {p pos apos : Pos} {e o : Expr} {es : List Expr} {t : TA}
theorem PE.imp {e : Expr} {t t' : TE} (h : PE X e t) (f : ∀ σ H Q, t' σ H Q → t σ H Q) : PE X e t' := fun pins s σ H Q I z => h pins s σ H Q I (f _ _ _ z)
theorem pe_lm {pl : Sem Bool} (he : PE X o (tVar i)) (cW : Cls X.K CW) (cS : Cls X.K CS) (MW : Mth X.prog X.w X.K X.mg X.base CX k CW m ps (sp true)) (MS : Mth X.prog X.w X.K X.mg X.base CX k' CS m ps (sp false)) (hr : Room k X.A) (hr' : Room k' X.A) (hx : Passes CX X E) (ha : PA X (e :: es) t)
    (nf : noF m := by decide +kernel)
    (hst : starEach (e :: es) X.env = (false, eval e X.env) :: starEach es X.env := by rfl) (hpl : (backTo pos (starEach es X.env)).any (·.1) = false := by rfl)
    (ht : eval (.Call (.Attribute o m apos) (e :: es) [] pos) X.env = (do
      let ov ← eval o X.env
      standAt apos.atName
      let (f, first) ← holding [ov] (getMethod ov m pl)
      callWith pos f first (backTo pos (starEach (e :: es) X.env)) (backToKw pos (keywordEach [] X.env))) := by rfl) :
    PE X (.Call (.Attribute o m apos) (e :: es) [] pos) (tLm CW CS i sp E t) := by
  refine PE.imp (PE.or (pe_mth (pl := pl) he cW MW hr hx ha hst hpl ht) (pe_mth (pl := pl) he cS MS hr' hx ha hst hpl ht)) fun σ H Q h => ?_
  obtain ⟨v, L, hv, ⟨ok, a, dx, rfl, hL⟩, q⟩ := h
  cases L with
  | w p z => exact .inl ⟨_, hv, a, dx, _, rfl, hL, IsLd.no nf, q⟩
  | s b e k => exact .inr ⟨_, hv, a, dx, _, rfl, hL, IsLd.no nf, q⟩
theorem pe_lm0 {pl : Sem Bool} (he : PE X o (tVar i)) (cW : Cls X.K CW) (cS : Cls X.K CS) (MW : Mth X.prog X.w X.K X.mg X.base CX k CW m ps (sp true)) (MS : Mth X.prog X.w X.K X.mg X.base CX k' CS m ps (sp false)) (hr : Room k X.A) (hr' : Room k' X.A) (hx : Passes CX X E)
    (nf : noF m := by decide +kernel)
    (ht : eval (.Call (.Attribute o m apos) [] [] pos) X.env = (do
      let ov ← eval o X.env
      standAt apos.atName
      let (f, first) ← holding [ov] (getMethod ov m pl)
      callWith pos f first (backTo pos (starEach [] X.env)) (backToKw pos (keywordEach [] X.env))) := by rfl) :
    PE X (.Call (.Attribute o m apos) [] [] pos) (tLm CW CS i sp E tNil) := by
  refine PE.imp (PE.or (pe_mth0 (pl := pl) he cW MW hr hx ht) (pe_mth0 (pl := pl) he cS MS hr' hx ht)) fun σ H Q h => ?_
  obtain ⟨v, L, hv, ⟨ok, a, dx, rfl, hL⟩, q⟩ := h
  cases L with
  | w p z => exact .inl ⟨_, hv, a, dx, _, rfl, hL, IsLd.no nf, q⟩
  | s b e k => exact .inr ⟨_, hv, a, dx, _, rfl, hL, IsLd.no nf, q⟩
end
end L2
/-! ### list comprehensions -/
namespace L2
open PySem PySem.Spec PyProof.Rows
/-- the cells that a block takes along -/
def clOf (env : Env) : List (Str × NameKind) → List (Str × Addr) → List (Str × Addr)
  | [], cs => cs
  | (n, k) :: r, cs => if k == .free then clOf env r ((n, (env.cells.lookup n).getD 0) :: cs) else clOf env r cs
theorem closureFor_clOf {scope : Scope} {env : Env} (h : ∀ y ∈ scope.names, y.2 = .free → ∃ c, env.cells.lookup y.1 = some c) : closureFor scope env = pure (clOf env scope.names []) := by
  unfold closureFor
  have all : ∀ (l : List (Str × NameKind)) (cs : List (Str × Addr)), (∀ y ∈ l, y.2 = .free → ∃ c, env.cells.lookup y.1 = some c) →
      (forIn l cs fun (x : Str × NameKind) (r : List (Str × Addr)) => (if (x.2 == NameKind.free) = true then do let __do_lift ← cellOf env x.1; pure (ForInStep.yield ((x.1, __do_lift) :: r)) else pure (ForInStep.yield r) : Sem (ForInStep (List (Str × Addr))))) = (pure (clOf env l cs) : Sem (List (Str × Addr))) := by
    intro l
    induction l with
    | nil => intro cs _; rfl
    | cons y r ih =>
      intro cs hl
      obtain ⟨n, k⟩ := y
      rw [List.forIn_cons]
      unfold clOf
      by_cases hk : (k == NameKind.free) = true
      · obtain ⟨c, e⟩ := hl (n, k) List.mem_cons_self (by simpa using hk)
        have e' : env.cells.lookup n = some c := e
        simp only [hk, if_true, e', Option.getD_some]
        have q : cellOf env n = pure c := by unfold cellOf; rw [e']
        rw [q]
        simp only [pure_bind]
        exact ih _ fun y hy => hl y (List.mem_cons_of_mem _ hy)
      · simp only [hk]
        simp only [Bool.false_eq_true, if_false, pure_bind]
        exact ih _ fun y hy => hl y (List.mem_cons_of_mem _ hy)
  have e := all scope.names [] h
  simp only [bind_pure]
  exact e
theorem clOf_lookup {env : Env} : ∀ {l : List (Str × NameKind)} {cs : List (Str × Addr)} {x : Str} {c : Addr}, (∀ y ∈ l, y.2 = .free → ∃ c, env.cells.lookup y.1 = some c) → (∀ x c, cs.lookup x = some c → env.cells.lookup x = some c) →
    (clOf env l cs).lookup x = some c → env.cells.lookup x = some c
  | [], _, x, c, _, h, e => h x c e
  | (n, k) :: r, cs, x, c, hl, h, e => by
    unfold clOf at e
    split at e
    · rename_i hk
      obtain ⟨c', e'⟩ := hl (n, k) List.mem_cons_self (by simpa using hk)
      refine clOf_lookup (fun y hy => hl y (List.mem_cons_of_mem _ hy)) (fun x' c2 e2 => ?_) e
      rw [List.lookup_cons] at e2
      have e' : env.cells.lookup n = some c' := e'
      split at e2
      · rename_i hb
        have z : x' = n := by simpa using hb
        rw [z, e']
        rw [e'] at e2
        exact e2
      · exact h x' c2 e2
    · exact clOf_lookup (fun y hy => hl y (List.mem_cons_of_mem _ hy)) h e
theorem clOf_some {env : Env} : ∀ {l : List (Str × NameKind)} {cs : List (Str × Addr)} {x : Str}, ((∃ c, cs.lookup x = some c) ∨ (x, NameKind.free) ∈ l) → ∃ c, (clOf env l cs).lookup x = some c
  | [], _, x, h => by
    rcases h with h | h
    · exact h
    · cases h
  | (n, k) :: r, cs, x, h => by
    unfold clOf
    split
    · rename_i hk
      refine clOf_some ?_
      by_cases hx : x = n
      · subst hx
        exact .inl ⟨(env.cells.lookup x).getD 0, by rw [List.lookup_cons]; simp⟩
      · rcases h with ⟨c, h⟩ | h
        · refine .inl ⟨c, ?_⟩
          rw [List.lookup_cons]
          have : (x == n) = false := by simpa using hx
          rw [this]
          exact h
        · rcases List.mem_cons.mp h with z | z
          · cases z; exact absurd rfl hx
          · exact .inr z
    · rename_i hk
      refine clOf_some ?_
      rcases h with h | h
      · exact .inl h
      · rcases List.mem_cons.mp h with z | z
        · cases z; exact absurd rfl hk
        · exact .inr z
/-- what is asked of a block's scope over the scope around it -/
structure CompSc (N : List Str) (out : Scope) (N' : List Str) (pick : List (Option Nat)) (sc : Scope) : Prop where
  kind : sc.kind = .function
  nocell : ∀ y ∈ sc.names, y.2 ≠ .cell
  names : ∀ y ∈ sc.names, y.2 = .local → sc.names.lookup y.1 = some .local
  frees : ∀ y ∈ sc.names, y.2 = .free → out.names.lookup y.1 = some .cell
  len : pick.length = N'.length
  once : ∀ x, (x, NameKind.free) ∈ sc.names → sc.names.lookup x ≠ some .local
  cap : ∀ (i j : Nat) (x : Str), pick[i]? = some (some j) → N'[i]? = some x → N[j]? = some x ∧ out.names.lookup x = some .cell ∧ (x, NameKind.free) ∈ sc.names
/-- the block's names at its entry -/
def pickSt (pick : List (Option Nat)) (σ : St) : St := pick.map fun o => o.bind fun j => (σ[j]?).join
abbrev Cx.comp (X : Cx) (N' : List Str) (sc : Scope) (C : Addr) (ex : List Addr) (s₂ : Shared) (H₂ : Hp) : Cx :=
  { X with N := N', s₀ := s₂, H₀ := H₂, env := compEnvC sc (clOf X.env sc.names []) C X.env, outer := X.stack, ex := ex, fn := fun _ => false, pn := [], xe := fun _ _ => False }
theorem lookup_relabel {env : Env} (hk : env.scope.kind = .function) : ∀ {names : List (Str × NameKind)} {x : Str} {k : NameKind}, (names.map fun (n, k) => if (k == NameKind.free && env.scope.kind == .function && env.kindOf n == some .cell) then (n, NameKind.cell) else (n, k)).lookup x = some k →
    (names.lookup x = some k) ∨ (k = .cell ∧ (x, NameKind.free) ∈ names)
  | [], _, _, h => by simp at h
  | (n, k) :: r, x, k', h => by
    rw [List.map_cons] at h
    by_cases hc : (k == NameKind.free && env.scope.kind == .function && env.kindOf n == some .cell) = true
    · simp only [hc, if_true] at h
      rw [List.lookup_cons] at h
      cases hx : x == n with
      | true =>
        rw [hx] at h
        have z : x = n := by simpa using hx
        simp only [Bool.and_eq_true, beq_iff_eq] at hc
        cases h
        refine .inr ⟨rfl, ?_⟩
        rw [z, ← hc.1.1]
        exact List.mem_cons_self
      | false =>
        rw [hx] at h
        rcases lookup_relabel hk h with q | ⟨q1, q2⟩
        · exact .inl (by rw [List.lookup_cons, hx]; exact q)
        · exact .inr ⟨q1, List.mem_cons_of_mem _ q2⟩
    · simp only [hc] at h
      simp only [Bool.false_eq_true, if_false] at h
      rw [List.lookup_cons] at h
      cases hx : x == n with
      | true =>
        rw [hx] at h
        cases h
        exact .inl (by rw [List.lookup_cons, hx])
      | false =>
        rw [hx] at h
        rcases lookup_relabel hk h with q | ⟨q1, q2⟩
        · exact .inl (by rw [List.lookup_cons, hx]; exact q)
        · exact .inr ⟨q1, List.mem_cons_of_mem _ q2⟩
end L2
namespace L2
open PySem PySem.Spec PyProof.Rows
theorem comp_once {sc : Scope} (h : (sc.names.all fun y => !(y.2 == .free && (sc.names.lookup y.1 == some .local))) = true) : ∀ x, (x, NameKind.free) ∈ sc.names → sc.names.lookup x ≠ some .local := fun x hx e => by
  have q := List.all_eq_true.mp h _ hx
  rw [show (((x, NameKind.free) : Str × NameKind).1) = x from rfl, e] at q
  exact absurd q (by simp)
theorem comp_cap {N N' : List Str} {out sc : Scope} {pick : List (Option Nat)} (h : ((List.range pick.length).all fun i => match pick[i]? with
    | some (some j) => (match N'[i]? with
      | some x => (N[j]? == some x) && (out.names.lookup x == some .cell) && sc.names.contains (x, NameKind.free)
      | none => true)
    | _ => true) = true) : ∀ (i j : Nat) (x : Str), pick[i]? = some (some j) → N'[i]? = some x → N[j]? = some x ∧ out.names.lookup x = some .cell ∧ (x, NameKind.free) ∈ sc.names := fun i j x h1 h2 => by
  have hi : i < pick.length := (List.getElem?_eq_some_iff.mp h1).1
  have q := List.all_eq_true.mp h i (List.mem_range.mpr hi)
  simp only [h1, h2, Bool.and_eq_true, beq_iff_eq, List.contains_iff_mem] at q
  exact ⟨q.1.1, q.1.2, q.2⟩
end L2
namespace L2
open PySem PySem.Spec PyProof.Rows
section
variable {X : Cx} {pins : List (Addr × Obj)} {σ : St} {H : Hp} {s : Shared} {N' : List Str} {pick : List (Option Nat)} {sc : Scope}
theorem CompSc.cells (S : CompSc X.N X.env.scope N' pick sc) (ok : X.Ok) : ∀ y ∈ sc.names, y.2 = .free → ∃ c, X.env.cells.lookup y.1 = some c := fun y hy hk => ok.has y.1 (.inl (S.frees y hy hk))
theorem comp_ok (S : CompSc X.N X.env.scope N' pick sc) (I : Inv X pins σ H s) {C : Addr} {fp : List Addr} (hC : s.heap.objs.size ≤ C) (hf : ∀ b ∈ fp, FpOk X pins H b) (hlt : ∀ b ∈ fp, b < s.heap.objs.size) : (X.comp N' sc C fp s H).Ok := by
  have ok := I.ok
  have cells := S.cells ok
  have sub : ∀ x c, (clOf X.env sc.names []).lookup x = some c → X.env.cells.lookup x = some c := fun x c e => clOf_lookup cells (fun x c e => by simp at e) e
  refine ⟨ok.mod, S.kind, ok.glob, ok.blt, hC, fun x y c e1 e2 => ok.inj x y c (sub x c e1) (sub y c e2), fun x hx => ?_, fun x c z => (by cases z), ok.hd, ok.frames, .inl rfl, fun b hb => ⟨?_, fun x c e => ?_⟩, I.bs, Nat.le_trans ok.bsz I.sz, fun b o e hb => ?_, fun b hb hz => ?_, I.stack, I.stkFree⟩
  · have hx' : (relabel sc X.env).names.lookup x = some .cell ∨ (relabel sc X.env).names.lookup x = some .free := hx
    have fin : (x, NameKind.free) ∈ sc.names → ∃ c, (clOf X.env sc.names []).lookup x = some c := fun z => clOf_some (.inr z)
    rcases hx' with z | z
    · rcases lookup_relabel ok.kind z with q | ⟨_, q⟩
      · exact absurd rfl (S.nocell _ (PySem.mem_of_lookup q))
      · exact fin q
    · rcases lookup_relabel ok.kind z with q | ⟨q, _⟩
      · exact fin (PySem.mem_of_lookup q)
      · cases q
  · exact Nat.ne_of_lt (Nat.lt_of_lt_of_le (hlt b hb) hC)
  · exact (hf b hb).2.2.2.2.1 x c (sub x c e)
  · rcases (hf b hb).2.2.2.1 with z | z
    · exact ok.noex b o e z
    · exact absurd (Nat.lt_of_lt_of_le (Nat.lt_of_lt_of_le (Heap.lt_size e) ok.bsz) z) (Nat.lt_irrefl _)
  · have hz' : b ∈ frs X.stack := hz
    rcases List.mem_cons.mp (I.stkSub b hz') with z | z
    · exact (hf b hb).2.1 z
    · exact (hf b hb).2.2.1 z
theorem comp_inv (S : CompSc X.N X.env.scope N' pick sc) (I : Inv X pins σ H s) {C D : Addr} {fp : List Addr} {h₁ : Heap} {tk : Nat} (hC : s.heap.objs.size ≤ C) (hD : s.heap.objs.size ≤ D) (hDC : D ≠ C) (hf : ∀ b ∈ fp, FpOk X pins H b) (hlt : ∀ b ∈ fp, b < s.heap.objs.size)
    (old : ∀ b o, s.heap.get? b = some o → h₁.get? b = some o) (hn : h₁.Ns C fun _ => none) (hl : ObjOk X.prog X.w (upd H D (.lst [])) h₁ D (.lst [])) :
    Inv (X.comp N' sc C fp s H) [] (pickSt pick σ) (upd H D (.lst [])) { s with heap := h₁, toks := tk } := by
  have ok := I.ok
  have cells := S.cells ok
  have sub : ∀ x c, (clOf X.env sc.names []).lookup x = some c → X.env.cells.lookup x = some c := fun x c e => clOf_lookup cells (fun x c e => by simp at e) e
  have cellD : ∀ x c, X.env.cells.lookup x = some c → c ≠ D := fun x c e => by
    obtain ⟨v, o, ho, _⟩ := I.cell x c e
    exact Nat.ne_of_lt (Nat.lt_of_lt_of_le (Heap.lt_size ho) hD)
  refine ⟨comp_ok S I hC hf hlt, rfl, I.bare, Un.laid old hD (I.hok.fresh hD), ⟨_, hn, fun i x v e1 e2 e3 => ?_⟩, fun x c e => ?_, ?_, fun x c e => ?_, fun p hp => ?_, I.hok.laid old hD hl, ?_⟩
  · unfold pickSt at e2
    rw [List.getElem?_map] at e2
    cases hp : pick[i]? with
    | none => rw [hp] at e2; cases e2
    | some o =>
      rw [hp] at e2
      cases o with
      | none => cases e2
      | some j =>
        have e2' : some ((σ[j]?).join) = some (some v) := e2
        have e2'' : (σ[j]?).join = some v := Option.some.inj e2'
        have e4 : σ[j]? = some (some v) := by
          cases q : σ[j]? with
          | none => rw [q] at e2''; cases e2''
          | some z =>
            rw [q] at e2''
            have : z = some v := e2''
            rw [this]
        obtain ⟨h1, h2, h3⟩ := S.cap i j x hp e1
        obtain ⟨m, _, hl'⟩ := I.loc
        obtain ⟨u, r, lk⟩ := hl' j x v h1 e4 (.inr (.inl h2))
        refine ⟨u, r, ?_⟩
        rcases lk with ⟨k, _⟩ | ⟨_, c, e, z⟩
        · have k' : X.env.scope.names.lookup x = some .local := k
          rw [h2] at k'; cases k'
        · obtain ⟨c', ec⟩ := clOf_some (env := X.env) (cs := []) (.inr h3)
          have := sub x c' ec
          rw [e] at this
          cases this
          refine .inr ⟨?_, c, ec, ?_⟩
          · rcases e3 with e3 | e3 | e3
            · have e3' : (relabel sc X.env).names.lookup x = some .local := e3
              exfalso
              rcases lookup_relabel ok.kind e3' with q | ⟨q, _⟩
              · exact S.once x h3 q
              · cases q
            · exact .inl e3
            · exact .inr e3
          · obtain ⟨o, ho, hd⟩ := z
            exact ⟨o, old c o ho, hd⟩
  · obtain ⟨v, o, ho, hd⟩ := I.cell x c (sub x c e)
    exact ⟨v, o, old c o ho, hd⟩
  · show upd H D (.lst []) C = none
    rw [upd_ne (Ne.symm hDC)]
    exact I.hok.fresh hC
  · show upd H D (.lst []) c = none
    rw [upd_ne (cellD x c (sub x c e))]
    exact I.freeC x c (sub x c e)
  · exact absurd (show p ∈ ([] : List (Addr × Obj)) from hp) (by simp)
  · show (pickSt pick σ).length = N'.length
    unfold pickSt
    rw [List.length_map, S.len]
end
end L2
namespace L2
open PySem PySem.Spec PyProof.Rows
theorem compLoop_go {prog : Program} {w : World} {A : Around} {R : Result → Shared → Prop} {s : Shared} {elt target iter : Expr} {ifs : List Expr} {scope : Scope} {pos : Pos} {it acc : Value} {env : Env} (I : Nat → Shared → Prop)
    (turn : ∀ n s, I n s → wpAny (model prog w) A (pyNext it) (fun r s₁ => match r with
      | none => R (.ok .next) s₁
      | some v => wpAny (model prog w) A (letOwnedTupleGo target it v) (fun _ s₁' => wpAny (model prog w) A (assign target env v) (fun _ s₂ =>
          wpAny (model prog w) A (forIn ifs true fun c r => if r = true then do let ok ← isTrue c env (eval c env); pure (ForInStep.yield ok) else pure (ForInStep.yield r)) (fun ok s₃ =>
            if ok = true then wpAny (model prog w) A (eval elt env) (fun x s₄ =>
              wpAny (model prog w) A (call (.builtin "list.append") [acc, x]) (fun _ s₅ => ∃ m, m < n ∧ I m s₅) (fun _ _ => False) s₄) (fun _ _ => False) s₃
            else ∃ m, m < n ∧ I m s₃) (fun _ _ => False) s₂) (fun _ _ => False) s₁') (fun _ _ => False) s₁) (fun _ _ => False) s)
    (n : Nat) (h : I n s) :
    codeAny (model prog w) A (.compLoop (.ListComp elt [⟨target, iter, ifs, 0⟩] scope pos) 0 it acc env) R s := by
  have no : ∀ {E : Value → Shared → Prop} (e : Value) (s : Shared), False → E e s := fun _ _ z => z.elim
  refine codeAny_loop rfl I (fun n s hI => ?_) n h
  show wpAny _ A ((compTurn (.ListComp elt [⟨target, iter, ifs, 0⟩] scope pos) 0 it acc env).onRaise (fun x => do noteFrame x env; theTreesLotGoes x)) _ _ s
  refine wpAny_noted ?_
  rw [compTurn_list]
  refine wpAny_bind (wpAny_standAt (wpAny_bind (wpAny_mono (turn n s hI) (fun r s₁ h₁ => ?_) no)))
  cases r with
  | none => exact wpAny_pure h₁
  | some v =>
    refine wpAny_bind (wpAny_mono h₁ (fun _ s₁' h₁' => ?_) no)
    refine wpAny_bind (wpAny_mono h₁' (fun _ s₂ h₂ => wpAny_bind (wpAny_mono h₂ (fun ok s₃ h₃ => ?_) no)) no)
    cases ok with
    | false => exact wpAny_pure ⟨rfl, h₃⟩
    | true =>
      exact wpAny_bind (wpAny_bind (wpAny_mono h₃ (fun x s₄ h₄ => wpAny_bind (wpAny_mono h₄ (fun _ s₅ h₅ => wpAny_pure (wpAny_pure ⟨rfl, h₅⟩)) no)) no))
/-- the tests of a clause -/
def PTs (X : Cx) (ifs : List Expr) (t : TT) : Prop :=
  ∀ (pins : List (Addr × Obj)) (s : Shared) (σ : St) (H : Hp) (Q : Bool → Hp → Prop), Inv X pins σ H s → t σ H Q → wpAny (model X.prog X.w) X.A (forIn ifs true fun c r => if r = true then do let ok ← isTrue c X.env (eval c X.env); pure (ForInStep.yield ok) else pure (ForInStep.yield r)) (TP X pins σ Q) X.xe s
def tYes : TT := fun _ H Q => Q true H
theorem pts_nil {X : Cx} : PTs X [] tYes := fun pins s σ H Q I h => wpAny_tests_nil ⟨H, I, h⟩
theorem pts_one {X : Cx} {c : Expr} {t : TT} (h : PT X c t) : PTs X [c] t := fun pins s σ H Q I q => wpAny_tests_one (h pins s σ H Q I q)
/-- [elt for target in iter if test] -/
def rLc (J : It) (pick : List (Option Nat)) (g : TG) (tc : TT) (te : TE) (σ : St) (H1 : Hp) (Q : VK) : Prop := ∀ D, H1 D = none → ∃ W : Nat → Nat → St → Hp → Prop, (∃ m, W 0 m (pickSt pick σ) (upd H1 D (.lst []))) ∧ ∀ i m σ' H', W i m σ' H' →
  (J.stop i H' ∧ Q (.ref D) H') ∨ (J.go i H' ∧ ∀ x H2, J.yld i H' x H2 → g x σ' H2 fun σ2 H3 => tc σ2 H3 fun b H4 => if b = true then te σ2 H4 fun y H5 => ∃ ys m', H5 D = some (.lst ys) ∧ ys.length < sizeLine ∧ m' < m ∧ W (i + 1) m' σ2 (upd H5 D (.lst (ys ++ [y])))
    else ∃ m', m' < m ∧ W (i + 1) m' σ2 H4)
def tLc (wi : TI) (pick : List (Option Nat)) (g : TG) (tc : TT) (te : TE) : TE := fun σ H Q => wi σ H fun J H1 => rLc J pick g tc te σ H1 Q
section
variable {X : Cx} {pins : List (Addr × Obj)} {σ : St} {H : Hp} {s : Shared} {N' : List Str} {pick : List (Option Nat)} {sc : Scope}
theorem lc_block {elt tg iter : Expr} {ifs : List Expr} {pos : Pos} {g : TG} {tc : TT} {te : TE} {J : It} {fp : List Addr} {it : Addr} {tn : Nat → Heap → Prop} {Q : VK} {E : Value → Shared → Prop} {RR : Value → Addr → Result → Shared → Prop}
    (S : CompSc X.N X.env.scope N' pick sc) (hc : X.calm = true) (I : Inv X pins σ H s) (T : Turn X.prog X.w X.K tg J fp it tn) (st : tn 0 s.heap) (hf : ∀ b ∈ fp, FpOk X pins H b)
    (hg : ∀ C ex s H, PG (X.comp N' sc C ex s H) tg g) (ht : ∀ C ex s H, PTs (X.comp N' sc C ex s H) ifs tc) (he : ∀ C ex s H, PE (X.comp N' sc C ex s H) elt te)
    (q : rLc J pick g tc te σ H Q)
    (hRR : ∀ D C σ' H' s', s.heap.objs.size ≤ C → s'.os = s.os → AllBare s'.gens → (∀ h', Heap.SameBut C s'.heap h' → Inv X pins σ H' { s' with heap := h' }) → H' C = none → (∃ m, s'.heap.Ns C m) → Inv (X.comp N' sc C fp s H) [] σ' H' s' → Q (.ref D) H' → RR (.ref D) C (.ok .next) s') :
    wpAny (model X.prog X.w) X.A (newList []) (fun acc s₃ => wpAny (model X.prog X.w) X.A (newFunctionEnv sc X.env.globals (clOf X.env sc.names []) [] X.env.qual none .none (some X.env)) (fun cenv s₄ =>
      codeAny (model X.prog X.w) X.A (.compStart (.ListComp elt [⟨tg, iter, ifs, 0⟩] sc pos) 0 (.ref it) acc { cenv with scope := relabel sc X.env }) (RR acc cenv.locals) s₄) E s₃) E s := by
  have no : ∀ {E : Value → Shared → Prop} (e : Value) (s : Shared), False → E e s := fun _ _ z => z.elim
  have hlt : ∀ b ∈ fp, b < s.heap.objs.size := fun b hb => by
    obtain ⟨o, e, _⟩ := T.obj 0 _ st b hb
    exact Heap.lt_size e
  refine wpAny_newObj_type (wpAny_newFunctionEnv S.nocell (by intro y hy; simp at hy) (fun h₁ hns₁ hsb₁ => ?_) S.kind)
  dsimp only at hns₁ hsb₁ ⊢
  generalize hH2 : s.heap.push { cls := .type "list", dict := none, data := .seq ([] : List Value).toArray } = H2 at hns₁ hsb₁ ⊢
  have hC : H2.objs.size = s.heap.objs.size + 1 := by rw [← hH2, Heap.size_push]
  have hDC : s.heap.objs.size ≠ H2.objs.size := by rw [hC]; exact Nat.ne_of_lt (Nat.lt_succ_self _)
  have hCle : s.heap.objs.size ≤ H2.objs.size := by rw [hC]; exact Nat.le_succ _
  have old : ∀ b o, s.heap.get? b = some o → h₁.get? b = some o := fun b o e => hsb₁.extBut b o (Nat.ne_of_lt (Nat.lt_of_lt_of_le (Heap.lt_size e) hCle)) (Heap.get?_push_of_some _ (hH2 ▸ Heap.get?_push_of_some _ e))
  have hacc : h₁.get? s.heap.objs.size = some { cls := .type "list", data := .seq ([] : List Value).toArray } := hsb₁.extBut _ _ hDC (Heap.get?_push_of_some _ (hH2 ▸ Heap.get?_push_size _ rfl))
  have hn0 : h₁.Ns H2.objs.size (fun _ => none) := hns₁
  have I1 : ∀ tk, Inv (X.comp N' sc H2.objs.size fp s H) [] (pickSt pick σ) (upd H s.heap.objs.size (.lst [])) { s with heap := h₁, toks := tk } := fun tk => comp_inv S I hCle (Nat.le_refl _) hDC hf hlt old hn0 ⟨Nat.zero_le _, [], _, .nil, hacc⟩
  obtain ⟨W, ⟨m0, w0⟩, turn⟩ := q s.heap.objs.size (I.hok.fresh (Nat.le_refl _))
  -- what stays true of the iterator's objects
  have stat : ∀ {H' : Hp}, (∀ b ∈ fp, H' b = none) → ∀ b ∈ fp, FpOk (X.comp N' sc H2.objs.size fp s H) [] H' b := fun hn b hb =>
    ⟨hn b hb, ((I1 0).ok.exf b hb).1, (I1 0).ok.exfs b hb, .inl hb, ((I1 0).ok.exf b hb).2, fun p hp => absurd (show p ∈ ([] : List (Addr × Obj)) from hp) (by simp)⟩
  have fr0 : ∀ b ∈ fp, upd H s.heap.objs.size (.lst []) b = none := fun b hb => by
    rw [upd_ne (Nat.ne_of_lt (hlt b hb))]
    exact (hf b hb).1
  have loop : ∀ s₃ : Shared, s₃ = { s with heap := h₁, toks := s.toks + ([] : List (Str × Value)).length } →
      codeAny (model X.prog X.w) X.A (.compLoop (.ListComp elt [⟨tg, iter, ifs, 0⟩] sc pos) 0 (.ref it) (.ref s.heap.objs.size) (compEnvC sc (clOf X.env sc.names []) H2.objs.size X.env)) (RR (.ref s.heap.objs.size) H2.objs.size) s₃ := by
    rintro s₃ rfl
    refine compLoop_go (fun n s' => ∃ i σ' H', Inv (X.comp N' sc H2.objs.size fp s H) [] σ' H' s' ∧ tn i s'.heap ∧ (∀ b ∈ fp, H' b = none) ∧ W i n σ' H') ?_ m0 ⟨0, _, _, I1 _, T.keep _ _ _ st (fun b hb o e => old b o e), fr0, w0⟩
    rintro n s3 ⟨i, σ3, H3, I3, st3, fr3, w3⟩
    rcases turn i n σ3 H3 w3 with ⟨stop, qn⟩ | ⟨go, step⟩
    · refine thn (T.done (X.comp N' sc H2.objs.size fp s H) rfl rfl rfl hc i [] s3 σ3 H3 _ I3 (stat fr3) st3 stop) fun r s4 ⟨hr, I4⟩ => ?_
      subst hr
      show RR (.ref s.heap.objs.size) H2.objs.size (.ok .next) s4
      have un : Un (frs X.stack) fp H H3 s.heap s4.heap := I4.base
      refine hRR _ _ σ3 H3 s4 hCle I4.os I4.bare (fun h' hs => ?_) I4.free (let ⟨m, hn, _⟩ := I4.loc; ⟨m, hn⟩) I4 qn
      have un' : Un (frs X.stack) fp H H3 s.heap h' := by
        have neC : ∀ b o, s.heap.get? b = some o → b ≠ H2.objs.size := fun b o e => Nat.ne_of_lt (Nat.lt_of_lt_of_le (Heap.lt_size e) hCle)
        refine ⟨fun b o e n hb hx => (hs.2 b (neC b o e)).trans (un.keep b o e n hb hx), fun b o e n hb hx => ?_, un.free, fun b o e hx => ?_, un.tups, un.frzs, un.tbls⟩
        · obtain ⟨sl, e1⟩ := un.slot b o e n hb hx
          exact ⟨sl, (hs.2 b (neC b o e)).trans e1⟩
        · obtain ⟨o', e1⟩ := un.there b o e hx
          exact ⟨o', (hs.2 b (neC b o e)).trans e1⟩
      have hok' : HOk X.prog X.w H3 h' := fun b ob e => by
        refine (I4.hok b ob e).stay (fun c w' hc q => (hs.2 c ?_).trans q) (fun _ q => q) fun _ _ q => q
        rintro rfl
        have f : H3 H2.objs.size = none := I4.free
        rcases hc with rfl | hc
        · rw [f] at e; cases e
        · rw [f] at hc; cases hc
      exact I.call' (s' := { s4 with heap := h' }) (ch := fp) I4.os un' hok' I4.bare fun b hb => ⟨(hf b hb).2.2.2.1, (hf b hb).2.1, (hf b hb).2.2.2.2.1, (hf b hb).2.2.2.2.2⟩
    · refine thn (T.item (X.comp N' sc H2.objs.size fp s H) rfl rfl rfl hc i [] s3 σ3 H3 _ I3 (stat fr3) st3 go) fun r s4 ⟨u, hr, h4⟩ => ?_
      subst hr
      refine thn h4 fun _ s5 ⟨x, H5, I5, r5, y5, st5, fr5⟩ => ?_
      have I5' := I5.pinned (stat fr5) (T.obj _ _ st5)
      refine thn (hg H2.objs.size fp s H _ s5 σ3 H5 x u _ I5' r5 (step x H5 y5)) fun _ s6 ⟨σ6, H6, I6, q6⟩ => ?_
      refine thn (ht H2.objs.size fp s H _ s6 σ6 H6 _ I6 q6) fun ok s7 ⟨H7, I7, q7⟩ => ?_
      have stays : ∀ {σ' : St} {H' : Hp} {s' : Shared}, Inv (X.comp N' sc H2.objs.size fp s H) ([] ++ pinsAt fp s5.heap) σ' H' s' → tn (i + 1) s'.heap ∧ ∀ b ∈ fp, H' b = none := fun {σ' H' s'} J => by
        refine ⟨T.keep _ _ _ st5 fun b hb o e => (J.pin (b, o) (List.mem_append_right _ (List.mem_append_right _ (mem_pinsAt hb e)))).1, fun b hb => ?_⟩
        obtain ⟨o, e, d⟩ := T.obj _ _ st5 b hb
        exact (J.pin (b, o) (List.mem_append_right _ (List.mem_append_right _ (mem_pinsAt hb e)))).2.1
      cases ok with
      | false =>
        obtain ⟨m', hm, w7⟩ := q7
        exact ⟨m', hm, i + 1, σ6, H7, I7.unpinned, (stays I7).1, (stays I7).2, w7⟩
      | true =>
        have q7 : te σ6 H7 fun y H8 => ∃ ys m', H8 s.heap.objs.size = some (.lst ys) ∧ ys.length < sizeLine ∧ m' < n ∧ W (i + 1) m' σ6 (upd H8 s.heap.objs.size (.lst (ys ++ [y]))) := q7
        show wpAny _ _ _ _ _ _
        refine thn (he H2.objs.size fp s H _ s7 σ6 H7 _ I7 q7) fun v s8 ⟨y, H8, I8, r8, ys, m', hD, hsz, hm, w8⟩ => ?_
        obtain ⟨z, its, k, rv, hl⟩ := I8.hok _ _ hD
        refine append_at hl (fun h' hs hnew => ?_) (by rw [List.size_toArray, ← rv.length]; exact Nat.le_of_lt hsz)
        have I9 : Inv (X.comp N' sc H2.objs.size fp s H) ([] ++ pinsAt fp s5.heap) σ6 (upd H8 s.heap.objs.size (.lst (ys ++ [y]))) { s8 with heap := h' } := I8.write (t' := s8.toks) (by rw [hD]; trivial) (.inl rfl) (fun b u hb e => (hs.2 b hb).trans e) ⟨_, hnew⟩
          ⟨by rw [List.length_append, List.length_singleton]; exact hsz, its ++ [v], k + 1, rv.append (.cons r8 .nil), by rw [hnew, List.push_toArray]⟩
        exact ⟨m', hm, i + 1, σ6, _, I9.unpinned, (stays I9).1, (stays I9).2, w8⟩
  have st1 : tn 0 h₁ := T.keep _ _ _ st fun b hb o e => old b o e
  exact codeAny_compStart_list (loop _ rfl) (T.self _ 0 _ _ _ st1 (loop _ rfl))
/-- a list comprehension as a value -/
theorem pe_lc {elt tg iter : Expr} {ifs : List Expr} {pos : Pos} {wi : TI} {g : TG} {tc : TT} {te : TE} (S : CompSc X.N X.env.scope N' pick sc) (hc : X.calm = true) (hi : PI X tg iter wi)
    (hg : ∀ C ex s H, PG (X.comp N' sc C ex s H) tg g) (ht : ∀ C ex s H, PTs (X.comp N' sc C ex s H) ifs tc) (he : ∀ C ex s H, PE (X.comp N' sc C ex s H) elt te)
    (hs : ∀ x, foldedSetIterable iter X.env x = pure x := by intro _; rfl) : PE X (.ListComp elt [⟨tg, iter, ifs, 0⟩] sc pos) (tLc wi pick g tc te) := by
  intro pins s σ H Q I h
  rw [eval_ListComp]
  refine wpAny_comprehension_free (use := none) rfl hs (closureFor_clOf (S.cells I.ok)) S.kind S.names (thn (hi pins s σ H _ I h) fun v s1 h1 => thn h1 fun itv s2 h2 => ?_)
  obtain ⟨it, fp, tn, J, H2, e, I2, T, st2, f2, q⟩ := h2
  subst e
  refine lc_block (RR := compPost (model X.prog X.w) X.A X.xe none (EP X pins σ Q)) S hc I2 T st2 f2 hg ht he q fun D C σ' H' s' _ _ _ back _ hn _ qq => ?_
  obtain ⟨m, hn⟩ := hn
  exact ⟨m, hn, fun h' hs' => ⟨.ref D, H', back h' hs', rfl, qq⟩⟩
/-- y = a list comprehension, on one row -/
theorem ps_lc {i : Nat} {y : Str} {elt tg iter : Expr} {ifs : List Expr} {pos py spos : Pos} {wi : TI} {g : TG} {tc : TT} {te : TE} (S : CompSc X.N X.env.scope N' pick sc) (hc : X.calm = true) (hi : PI X tg iter wi)
    (hg : ∀ C ex s H, PG (X.comp N' sc C ex s H) tg g) (ht : ∀ C ex s H, PTs (X.comp N' sc C ex s H) ifs tc) (he : ∀ C ex s H, PE (X.comp N' sc C ex s H) elt te)
    (hN : X.N.Nodup) (hiy : X.N[i]? = some y) (hky : X.env.scope.names.lookup y = some .local)
    (hsw : swapsWith (.ListComp elt [⟨tg, iter, ifs, 0⟩] sc pos) (some (.Name y py)) spos.line X.env = pure true := by rfl)
    (hs : ∀ x, foldedSetIterable iter X.env x = pure x := by intro _; rfl) : PS X (.Assign [.Name y py] (.ListComp elt [⟨tg, iter, ifs, 0⟩] sc pos) spos) (tAsg (tLc wi pick g tc te) (gName i)) := by
  intro pins s σ H D I h
  rw [exec_Assign_Name_used _ _ _ _ hsw]
  refine wpAny_bind (wpAny_standAt (wpAny_bind ?_))
  show wpAny _ X.A (do let _ ← comprehension (.ListComp elt [⟨tg, iter, ifs, 0⟩] sc pos) sc X.env _ (newList []) false (eval iter X.env) (some (assign (.Name y py) X.env))) _ _ s
  refine wpAny_bind (thn (wpAny_comprehension_free (use := some (assign (.Name y py) X.env)) (Q := fun _ s' => SP X pins D .next s') rfl hs (closureFor_clOf (S.cells I.ok)) S.kind S.names (thn (hi pins s σ H _ I h) fun v s1 h1 => thn h1 fun itv s2 h2 => ?_)) (fun _ s' hq => wpAny_pure (wpAny_pure hq)))
  obtain ⟨it, fp, tn, J, H2, e, I2, T, st2, f2, q⟩ := h2
  subst e
  refine lc_block (RR := compPost (model X.prog X.w) X.A X.xe (some (assign (.Name y py) X.env)) (fun _ s' => SP X pins D .next s')) S hc I2 T st2 f2 hg ht he q fun Dl C σ' H' s' hCl _ _ back hfC hn _ qq => ?_
  obtain ⟨m, hn⟩ := hn
  have I3 := back s'.heap (Heap.SameBut.refl _ _)
  have I3 : Inv X pins σ H' s' := I3
  have hlt : X.env.locals < s2.heap.objs.size := I2.lt
  have hLC : C ≠ X.env.locals := fun z => by rw [z] at hCl; exact absurd (Nat.lt_of_lt_of_le hlt hCl) (Nat.lt_irrefl _)
  have hcC : ∀ x c, X.env.cells.lookup x = some c → c ≠ C := fun x c e z => by
    obtain ⟨v, o, ho, _⟩ := I2.cell x c e
    exact absurd (Nat.lt_of_lt_of_le (Heap.lt_size ho) (by rw [z]; exact hCl)) (Nat.lt_irrefl _)
  show wpAny _ X.A (assign (.Name y py) X.env (.ref Dl)) _ _ _
  refine wpAny_assign_Name (store_ok2 (v := .ref Dl) I3 hN hiy (.inl hky) rfl (fun s4 I4 ⟨a, sm, ha⟩ => ?_) (.inr hky))
  have hne : C ≠ a := by
    rcases ha with z | z
    · rw [z]; exact hLC
    · exact Ne.symm (hcC _ _ z)
  refine ⟨m, hn.sameBut sm hne, fun h' hs' => ⟨_, H', ?_, qq⟩⟩
  refine I4.turned (t' := s4.toks) (it := C) (fun b o hb e => (hs'.2 b hb).trans e) hfC hLC (.inr (Nat.le_trans I2.sz hCl)) hcC fun p hp z => ?_
  have := Heap.lt_size (I2.pin p hp).1
  rw [z] at this
  exact absurd (Nat.lt_of_lt_of_le this hCl) (Nat.lt_irrefl _)
end
end L2
/-! ### sums, equal data, more iterators -/
namespace L2
open PySem PySem.Spec PyProof.Rows
theorem ints_of_vals : ∀ {ns : List Int} {vs : List Value}, Vals (ns.map V.int) vs → IntsAre vs ns
  | [], _, .nil => .nil
  | n :: ns, _, .cons ⟨t, e⟩ r => by
    subst e
    exact .cons n t (ints_of_vals r)
section
variable {X : Cx}
def rSum (K : PySem.W.Frag) : List V → Hp → VK → Prop := fun xs H Q => ∃ (p : Addr) (ns : List Int), xs = [.ref p] ∧ SqL K H p (ns.map V.int) ∧ Q (.int ns.sum) H
theorem call_sum (hc : X.calm = true) : CallR X (.builtin "sum") (rSum X.K) := by
  intro pins s σ H xs us Q I r h
  obtain ⟨p, ns, rfl, hq, q⟩ := h
  obtain ⟨u, rfl, rx⟩ := vals1 r
  cases rx
  obtain ⟨its, r', pl, hz⟩ := I.list hq
  have hi := ints_of_vals r'
  obtain ⟨xs, hx⟩ := hi.allInts.items
  have hl' : s.heap.IsList p (intItems xs) := hx ▸ pl.isList
  refine sum_intListG (I.ok.hd hc) hl' fun h' tk t' hk => ?_
  have e1 : ns = xs.toList.map (·.1) := by
    rw [← nums_intItems, ← hx]
    exact (show numsOf its.toArray.toList = ns from hi.numsOf).symm
  have e2 : preSum (numAt xs) xs.size = ns.sum := by
    rw [preSum_eq, List.take_of_length_le (by simp), e1]
  rw [e2]
  exact ⟨.int ns.sum, H, I.kept hk, ⟨t', rfl⟩, q⟩
theorem rSum.use {K : PySem.W.Frag} {H : Hp} {Q : VK} {p : Addr} {ns : List Int} (h : SqL K H p (ns.map V.int)) (q : Q (.int ns.sum) H) : rSum K [.ref p] H Q := ⟨p, ns, rfl, h, q⟩
end
/-! data: ints, tuples and lists of them -/
/-- v is worth d, to a depth -/
def Dat (K : PySem.W.Frag) (H : Hp) : Nat → V → PyData → Prop
  | 0, v, d => ∃ n, v = .int n ∧ d = .int n
  | k + 1, v, d => (∃ n, v = .int n ∧ d = .int n) ∨ ∃ a xs ds, v = .ref a ∧ Paired (Dat K H k) xs ds ∧ ((SqT K H a xs ∧ d = .tuple ds) ∨ (SqL K H a xs ∧ d = .list ds))
theorem Dat.good {K : PySem.W.Frag} {H : Hp} : ∀ {k : Nat} {v : V} {d : PyData}, Dat K H k v d → d.canLay0 = true ∧ d.depth ≤ k ∧ SeqAt.noMix d d = true ∧ PySem.Spec.same d d = true
  | 0, v, d, h => by
    obtain ⟨n, rfl, rfl⟩ := h
    exact ⟨rfl, Nat.le_refl _, rfl, by simp [PySem.Spec.same]⟩
  | k + 1, v, d, h => by
    rcases h with ⟨n, rfl, rfl⟩ | ⟨a, xs, ds, rfl, p, h⟩
    · exact ⟨rfl, Nat.zero_le _, rfl, by simp [PySem.Spec.same]⟩
    · have all : PyData.canLayAll0 ds = true ∧ PyData.depthAll ds ≤ k ∧ SeqAt.noMixAll ds ds = true ∧ PySem.Spec.sameAll ds ds = true := by
        clear h
        induction p with
        | nil => exact ⟨rfl, Nat.zero_le _, rfl, rfl⟩
        | cons h _ ih =>
          obtain ⟨a1, a2, a3, a4⟩ := Dat.good h
          obtain ⟨b1, b2, b3, b4⟩ := ih
          refine ⟨?_, ?_, ?_, ?_⟩
          · simp [PyData.canLayAll0, a1, b1]
          · simp only [PyData.depthAll]; omega
          · simp [SeqAt.noMixAll, a3, b3]
          · simp [PySem.Spec.sameAll, a4, b4]
      obtain ⟨a1, a2, a3, a4⟩ := all
      rcases h with ⟨_, rfl⟩ | ⟨_, rfl⟩
      · exact ⟨by simpa [PyData.canLay0] using a1, by simp only [PyData.depth]; omega, by simpa [SeqAt.noMix] using a3, by simpa [PySem.Spec.same] using a4⟩
      · exact ⟨by simpa [PyData.canLay0] using a1, by simp only [PyData.depth]; omega, by simpa [SeqAt.noMix] using a3, by simpa [PySem.Spec.same] using a4⟩
theorem Dat.reads {X : Cx} {pins : List (Addr × Obj)} {σ : St} {H : Hp} {s : Shared} (I : Inv X pins σ H s) : ∀ {k : Nat} {v : V} {d : PyData} {u : Value}, Dat X.K H k v d → RelV v u → ∃ as, Reads s.heap u d as
  | 0, v, d, u, h, r => by
    obtain ⟨n, rfl, rfl⟩ := h
    obtain ⟨t, rfl⟩ := r
    exact ⟨[], .int n t⟩
  | k + 1, v, d, u, h, r => by
    rcases h with ⟨n, rfl, rfl⟩ | ⟨a, xs, ds, rfl, p, h⟩
    · obtain ⟨t, rfl⟩ := r
      exact ⟨[], .int n t⟩
    · cases r
      have all : ∀ {xs : List V} {ds : List PyData} {us : List Value}, Paired (Dat X.K H k) xs ds → Vals xs us → ∃ as, ReadsAll s.heap us ds as := by
        intro xs ds us p
        induction p generalizing us with
        | nil => intro rv; cases rv; exact ⟨[], .nil⟩
        | cons h _ ih =>
          intro rv
          cases rv with
          | cons r rr =>
            obtain ⟨as, ha⟩ := Dat.reads I h r
            obtain ⟨bs, hb⟩ := ih rr
            exact ⟨_, .cons ha hb⟩
      rcases h with ⟨hq, rfl⟩ | ⟨hq, rfl⟩
      · obtain ⟨its, rv, ⟨o, ho, hc, n, hd⟩, hz⟩ := I.tuple hq
        obtain ⟨as, ha⟩ := all p rv
        exact ⟨_, .tuple ho hc hd (by simpa using ha)⟩
      · obtain ⟨its, rv, pl, hz⟩ := I.list hq
        obtain ⟨o, ho, hc, n, hd⟩ := pl.isList
        obtain ⟨as, ha⟩ := all p rv
        exact ⟨_, .list ho hc hd (by simpa using ha)⟩
section
variable {X : Cx}
/-- two things of the same worth -/
def rEqD (K : PySem.W.Frag) : R2 := fun x y H Q => (∃ d, Dat K H 3 x d ∧ Dat K H 3 y d) ∧ Q (.bl true) H
theorem op_eqD {k : Nat} (hr : Room k X.A) : OpR X (compareOp .Eq) (rEqD X.K) := by
  intro pins s σ H x y u v Q I rx ry h
  obtain ⟨⟨d, h1, h2⟩, q⟩ := h
  obtain ⟨g1, g2, g3, g4⟩ := h1.good
  obtain ⟨as, ra⟩ := Dat.reads I h1 rx
  obtain ⟨bs, rb⟩ := Dat.reads I h2 ry
  have sh : SeqAt.shaped d = true := by
    unfold SeqAt.shaped
    rw [g1, Bool.true_and]
    exact decide_eq_true (by omega)
  refine eq_dataH_same ra rb sh sh (by have := hr.un; omega) g3 ?_
  rw [g4]
  exact ⟨.bl true, H, I, rfl, q⟩
/-- two lists of the very same things -/
def rEqS (K : PySem.W.Frag) : R2 := fun x y H Q => (∃ (a b : Addr) (as : List Addr), x = .ref a ∧ y = .ref b ∧ SqL K H a (as.map V.ref) ∧ SqL K H b (as.map V.ref)) ∧ Q (.bl true) H
theorem refs_of_vals : ∀ {as : List Addr} {vs : List Value}, Vals (as.map V.ref) vs → vs = as.map Value.ref
  | [], _, .nil => rfl
  | a :: as, _, .cons e r => by
    cases e
    rw [refs_of_vals r]
    rfl
theorem op_eqS {k : Nat} (hr : Room k X.A) : OpR X (compareOp .Eq) (rEqS X.K) := by
  intro pins s σ H x y u v Q I rx ry h
  obtain ⟨⟨a, b, as, rfl, rfl, h1, h2⟩, q⟩ := h
  cases rx
  cases ry
  obtain ⟨i1, r1, p1, _⟩ := I.list h1
  obtain ⟨i2, r2, p2, _⟩ := I.list h2
  have e1 := refs_of_vals r1
  have e2 := refs_of_vals r2
  subst e1 e2
  refine SeqAt.eq_listAt (e := fun _ => true) p1.isList p2.isList rfl (by have := hr.un; omega) (fun j h1 h2 => SeqAt.EqAt.same _) ?_
  rw [List.all_eq_true.mpr (fun _ _ => rfl)]
  exact ⟨.bl true, H, I, rfl, q⟩
end
/-! range with a step -/
def Itr3 (lo c : Int) (n : Nat) : It := ⟨fun i _ => i < n, fun i H x H' => H' = H ∧ x = .int (lo + i * c), fun i _ => n ≤ i⟩
theorem turn_range3 {P : Program} {w : World} {K : PySem.W.Frag} {tg : Expr} (it : Addr) (lo c : Int) (n : Nat) : Turn P w K tg (Itr3 lo c n) [it] it (fun i h => IsRangeIter h it (lo + (i : Nat) * c) ((n : Int) - (i : Nat)) c) where
  mem := by simp
  obj := fun i h st b hb => by
    have e : b = it := by simpa using hb
    subst e
    exact ⟨_, st, fun v z => by
      have z' : Data.fields _ = Data.cell v := z
      cases z'⟩
  keep := fun i h h' st k => k it (by simp) _ st
  item := by
    intro X hP hw hK hc i pins s σ H E I hf st hg
    subst hP hw hK
    obtain ⟨f0, f1, f2, f3, f4, f5⟩ := hf it (by simp)
    have W := Walks.range (prog := X.prog) (w := X.w) (I.ok.hd hc) it lo c n
    refine W.item i s _ _ hg st fun v h' tk hv st' kk => ?_
    obtain ⟨t, rfl⟩ := hv
    have I1 : Inv X pins σ H { s with heap := h', toks := tk } := I.turned (fun b o hb e => kk b o (by simpa using hb) e) f0 f1 f3 f4 f5
    exact ⟨_, rfl, go_of (s := { s with heap := h', toks := tk }) (n := "range_iterator") st' rfl rfl (by decide) ⟨.int (lo + i * c), H, I1, ⟨t, rfl⟩, ⟨rfl, rfl⟩, st', fun b hb => (hf b hb).1⟩⟩
  done := by
    intro X hP hw hK hc i pins s σ H E I hf st hg
    subst hP hw hK
    obtain ⟨f0, f1, f2, f3, f4, f5⟩ := hf it (by simp)
    exact wpAny_pyNext_range_end (I.ok.hd hc) st (by have : n ≤ i := hg; omega) fun h' eb => ⟨rfl, I.turned (t' := s.toks) (fun b o hb e => eb b o hb e) f0 f1 f3 f4 f5⟩
  self := fun _ _ _ _ _ st h => wpAny_pyIter_rangeiter st h
end L2
namespace L2
open PySem PySem.Spec PyProof.Rows
theorem small_by {a b c : Int} (hc : c = 2 ∨ c = 3) (ha : -(2 ^ 60) ≤ a) (ha' : a < 2 ^ 60) (hb : -(2 ^ 60) ≤ b) (hb' : b < 2 ^ 60) : Builtin.Range.small a b c = true := by
  unfold Builtin.Range.small Builtin.Range.rangeSize
  rcases hc with rfl | rfl
  · simp only [Builtin.Range.rangeFitsLong, Bool.and_eq_true, Bool.or_eq_true, decide_eq_true_eq, beq_iff_eq, show (2 : Int) > 0 by decide, if_true]
    split <;> omega
  · simp only [Builtin.Range.rangeFitsLong, Bool.and_eq_true, Bool.or_eq_true, decide_eq_true_eq, beq_iff_eq, show (3 : Int) > 0 by decide, if_true]
    split <;> omega
theorem size_nn {a b c : Int} (hc : c = 2 ∨ c = 3) : 0 ≤ Builtin.Range.rangeSize a b c := by
  unfold Builtin.Range.rangeSize
  rcases hc with rfl | rfl
  · simp only [show (2 : Int) > 0 by decide, if_true]
    split <;> omega
  · simp only [show (3 : Int) > 0 by decide, if_true]
    split <;> omega
section
variable {X : Cx} {tg : Expr}
def iRng3 (ta : TA) : TI := fun σ H R => ta σ H fun vs H1 => ∃ i j c : Int, vs = [.int i, .int j, .int c] ∧ ((c = 2 ∨ c = 3) ∧ -(2 ^ 60) ≤ i ∧ i < 2 ^ 60 ∧ -(2 ^ 60) ≤ j ∧ j < 2 ^ 60) ∧ R (Itr3 i c (Builtin.Range.rangeSize i j c).toNat) H1
theorem pi_range3 {a b c : Expr} {ta : TA} {p pos : Pos} (hg : Gl X "range") (hm : X.mg "range" = none) (ha : PA X [a, b, c] ta) (hs : starEach [a, b, c] X.env = (false, eval a X.env) :: starEach [b, c] X.env := by rfl) (hs2 : (backTo pos (starEach [b, c] X.env)).any (·.1) = false := by rfl) :
    PI X tg (.Call (.Name "range" p) [a, b, c] [] pos) (iRng3 ta) := by
  intro pins s σ H R I h
  refine Call_ (ld_blt I hg hm boot_range (PyProof.Rows.callWith_type1 (thn (ha pos pins s σ H _ I h) fun us s1 ⟨vs, H1, I1, r1, q1⟩ => ?_) hs hs2))
  obtain ⟨i, j, c, e, ⟨hc, q1, q2, q3, q4⟩, q⟩ := q1
  subst e
  cases r1 with
  | cons r rr =>
  cases rr with
  | cons r' rr =>
  cases rr with
  | cons r'' rr =>
  cases rr
  obtain ⟨t, rfl⟩ := r
  obtain ⟨t', rfl⟩ := r'
  obtain ⟨t'', rfl⟩ := r''
  refine call_range_3 (by omega) ?_ (Or.inl (PyProof.noPylong_small (by omega)))
  refine wpAny_pyIter_range (IsRange.new ..) (small_by hc q1 q2 q3 q4) ?_
  have I2 := I1.kept (t' := s1.toks) (h' := s1.heap.push { cls := .type "range", data := .fields #[.int i t, .int j t', .int c t''] }) fun b o e => Heap.get?_push_of_some _ e
  refine ⟨_, [(s1.heap.push { cls := .type "range", data := .fields #[.int i t, .int j t', .int c t''] }).objs.size], _, _, H1, rfl, I2.kept (t' := s1.toks) fun b o e => Heap.get?_push_of_some _ e, turn_range3 _ i c (Builtin.Range.rangeSize i j c).toNat, ?_, fun b hb => ?_, q⟩
  · show IsRangeIter _ _ (i + ((0 : Nat) : Int) * c) ((((Builtin.Range.rangeSize i j c).toNat : Nat) : Int) - ((0 : Nat) : Int)) c
    have e1 : i + ((0 : Nat) : Int) * c = i := by simp
    have nn := size_nn (a := i) (b := j) hc
    have e2 : (((Builtin.Range.rangeSize i j c).toNat : Nat) : Int) - ((0 : Nat) : Int) = Builtin.Range.rangeSize i j c := by omega
    rw [e1, e2]
    exact Heap.get?_push_size _ rfl
  · have e : b = (s1.heap.push { cls := .type "range", data := .fields #[.int i t, .int j t', .int c t''] }).objs.size := by simpa using hb
    subst e
    exact I2.fpOk (Nat.le_refl _) (I2.hok.fresh (Nat.le_refl _))
/-! reversed of a list, walked -/
end
end L2
namespace L2
open PySem PySem.Spec PyProof.Rows
section
variable {X : Cx} {pins : List (Addr × Obj)} {σ : St} {H : Hp} {s : Shared}
/-- records of an iterator have turned, and a new object is there -/
theorem Inv.drawn {ch : List Addr} {T : Addr} {o : HO} {h' : Heap} {tk : Nat} (I : Inv X pins σ H s) (hf : ∀ b ∈ ch, FpOk X pins H b) (kp : ∀ b u, b ∉ ch → s.heap.get? b = some u → h'.get? b = some u) (th : ∀ b ∈ ch, ∃ u, h'.get? b = some u)
    (hT : s.heap.objs.size ≤ T) (new : ObjOk X.prog X.w (upd H T o) h' T o) : Inv X pins σ (upd H T o) { s with heap := h', toks := tk } := by
  have hn := I.hok.fresh hT
  have no : ∀ b u, H b = some u → b ∉ ch := fun b u e hb => by
    rw [(hf b hb).1] at e
    cases e
  refine I.call (ch := ch) (g' := s.gens) (d' := s.drawn) ⟨fun b u e _ _ hx => kp b u hx e, fun b u e _ _ hx => ⟨u.slots, kp b u hx e⟩, fun b u e n _ => ?_, fun b u e hx => ⟨u, kp b u hx e⟩, fun b xs e => ?_, fun b u xs e => ?_, fun b ps e => ?_⟩ (fun b u e => ?_) I.bare fun b hb => ⟨(hf b hb).2.2.2.1, (hf b hb).2.1, (hf b hb).2.2.2.2.1, (hf b hb).2.2.2.2.2⟩
  · rw [upd_ne (Nat.ne_of_lt (Nat.lt_of_lt_of_le (Heap.lt_size e) hT))]
    exact n
  · rw [upd_ne (ne_of_none e hn)]
    exact e
  · rw [upd_ne (ne_of_none e hn)]
    exact e
  · exact ⟨#[], by rw [upd_ne (ne_of_none e hn), e]; simp⟩
  · by_cases hb : b = T
    · subst hb
      rw [upd_same] at e
      cases e
      exact new
    · rw [upd_ne hb] at e
      refine (I.hok b u e).stay (fun c v hc q => kp c v ?_ q) (fun c q => by rw [upd_ne (ne_of_none q hn)]; exact q) fun c xs q => by rw [upd_ne (ne_of_none q hn)]; exact q
      rcases hc with rfl | hc
      · exact no c u e
      · exact no c _ hc
theorem Inv.moved {ch : List Addr} {h' : Heap} {tk : Nat} (I : Inv X pins σ H s) (hf : ∀ b ∈ ch, FpOk X pins H b) (kp : ∀ b u, b ∉ ch → s.heap.get? b = some u → h'.get? b = some u) : Inv X pins σ H { s with heap := h', toks := tk } := by
  have no : ∀ b u, H b = some u → b ∉ ch := fun b u e hb => by
    rw [(hf b hb).1] at e
    cases e
  refine I.call (ch := ch) (g' := s.gens) (d' := s.drawn) ⟨fun b u e _ _ hx => kp b u hx e, fun b u e _ _ hx => ⟨u.slots, kp b u hx e⟩, fun b u e n _ => n, fun b u e hx => ⟨u, kp b u hx e⟩, fun b xs e => e, fun b u xs e => e, fun b ps e => ⟨#[], by rw [e]; simp⟩⟩ (fun b u e => ?_) I.bare fun b hb => ⟨(hf b hb).2.2.2.1, (hf b hb).2.1, (hf b hb).2.2.2.2.1, (hf b hb).2.2.2.2.2⟩
  refine (I.hok b u e).stay (fun c v hc q => kp c v ?_ q) (fun c q => q) fun c xs q => q
  rcases hc with rfl | hc
  · exact no c u e
  · exact no c _ hc
end
/-- two lists, side by side: each turn a new pair -/
def Itz (K : PySem.W.Frag) (a b : Addr) (xs ys : List V) : It :=
  ⟨fun i H => i < xs.length ∧ i < ys.length ∧ SqL K H a xs ∧ SqL K H b ys, fun i H v H' => ∃ p x y, v = .ref p ∧ H p = none ∧ xs[i]? = some x ∧ ys[i]? = some y ∧ H' = upd H p (.tup [x, y]), fun i H => min xs.length ys.length ≤ i ∧ SqL K H a xs ∧ SqL K H b ys⟩
theorem turn_zip {P : Program} {w : World} {K : PySem.W.Frag} {elts : List Expr} {k : Nat} {pos : Pos} {z TI TO i1 i2 a b : Addr} (D : ZipApart z TI TO i1 i2 a b) (xs ys : List V) : Turn P w K (.Tuple elts k pos) (Itz K a b xs ys) [z, TI, TO, i1, i2] z
    (fun i h => i ≤ min xs.length ys.length ∧ IsZip h z TI TO .none ∧ IsPair h TI (.ref i1) (.ref i2) ∧ (∃ c d, IsPair h TO c d) ∧ h.IsListIter i1 a i ∧ h.IsListIter i2 b i) where
  mem := by simp
  obj := fun i h st c hc => by
    obtain ⟨_, hz, hTI, ⟨u, v, hTO⟩, ⟨o1, e1, c1, d1⟩, ⟨o2, e2, c2, d2⟩⟩ := st
    simp only [List.mem_cons, List.not_mem_nil, or_false] at hc
    rcases hc with rfl | rfl | rfl | rfl | rfl
    · exact ⟨_, hz, fun v z => by cases z⟩
    · exact ⟨_, hTI, fun v z => by cases z⟩
    · exact ⟨_, hTO, fun v z => by cases z⟩
    · exact ⟨o1, e1, fun v z => by rw [d1] at z; cases z⟩
    · exact ⟨o2, e2, fun v z => by rw [d2] at z; cases z⟩
  keep := fun i h h' st kp => by
    obtain ⟨hi, hz, hTI, ⟨u, v, hTO⟩, h1, h2⟩ := st
    exact ⟨hi, kp z (by simp) _ hz, kp TI (by simp) _ hTI, ⟨u, v, kp TO (by simp) _ hTO⟩, h1.at fun o e => kp i1 (by simp) o e, h2.at fun o e => kp i2 (by simp) o e⟩
  item := by
    intro X hP hw hK hc i pins s σ H E I hf st hg
    subst hP hw hK
    obtain ⟨_, hz, hTI, hTO, h1, h2⟩ := st
    obtain ⟨l1, l2, q1, q2⟩ := hg
    obtain ⟨its1, r1, p1, z1⟩ := I.list q1
    obtain ⟨its2, r2, p2, z2⟩ := I.list q2
    have e1 := r1.length
    have e2 := r2.length
    have W := WalksT.zip2 (prog := X.prog) (w := X.w) (I.ok.hd hc) z TI TO i1 i2 a b D its1.toArray its2.toArray
    refine W.item i s _ _ (by simp only [List.size_toArray]; omega) ⟨hz, hTI, hTO, h1, h2, p1.isList, p2.isList⟩ fun T vals h' tk hp hT ht hm kp => ?_
    obtain ⟨x', y', hx', hy', rfl⟩ := hp
    have hx : xs[i]? = some xs[i] := List.getElem?_eq_getElem l1
    have hy : ys[i]? = some ys[i] := List.getElem?_eq_getElem l2
    obtain ⟨u, hu, ru⟩ := r1.get hx
    obtain ⟨v, hv, rv⟩ := r2.get hy
    have ex : x' = u := by
      have : its1[i]? = some x' := by simpa using hx'
      rw [hu] at this
      exact (Option.some.inj this).symm
    have ey : y' = v := by
      have : its2[i]? = some y' := by simpa using hy'
      rw [hv] at this
      exact (Option.some.inj this).symm
    subst ex ey
    have hw : ∀ c ∈ [z, TO, i1, i2], c ∈ [z, TI, TO, i1, i2] := fun c hc => by
      simp only [List.mem_cons, List.not_mem_nil, or_false] at hc ⊢
      rcases hc with rfl | rfl | rfl | rfl <;> simp
    have I1 : Inv X pins σ (upd H T (.tup [xs[i], ys[i]])) { s with heap := h', toks := tk } := I.drawn (ch := [z, TO, i1, i2]) (fun c hc => hf c (hw c hc)) kp (fun c hc => by
      obtain ⟨m1, m2, ⟨u, v, m3⟩, ⟨o1, m4, _⟩, ⟨o2, m5, _⟩, _⟩ := hm
      simp only [List.mem_cons, List.not_mem_nil, or_false] at hc
      rcases hc with rfl | rfl | rfl | rfl
      · exact ⟨_, m1⟩
      · exact ⟨_, m3⟩
      · exact ⟨_, m4⟩
      · exact ⟨_, m5⟩) hT ⟨by show 2 ≤ sizeLine; decide, [x', y'], .cons ru (.cons rv .nil), ht⟩
    refine ⟨.ref T, rfl, ?_⟩
    have hTn := I.hok.fresh hT
    have neT : ∀ c ∈ [z, TI, TO, i1, i2], c ≠ T := fun c hc e => by
      subst e
      have := W.apart i c h' hm
      have hlt : c < s.heap.objs.size := by
        simp only [List.mem_cons, List.not_mem_nil, or_false] at hc
        obtain ⟨u, v, hTO⟩ := hTO
        obtain ⟨o1, g1, _⟩ := h1
        obtain ⟨o2, g2, _⟩ := h2
        rcases hc with rfl | rfl | rfl | rfl | rfl
        · exact Heap.lt_size hz
        · exact Heap.lt_size hTI
        · exact Heap.lt_size hTO
        · exact Heap.lt_size g1
        · exact Heap.lt_size g2
      exact absurd (Nat.lt_of_lt_of_le hlt hT) (Nat.lt_irrefl _)
    have hf1 : ∀ c ∈ [z, TI, TO, i1, i2], FpOk X pins (upd H T (.tup [xs[i], ys[i]])) c := fun c hc => ⟨by rw [upd_ne (neT c hc)]; exact (hf c hc).1, (hf c hc).2⟩
    refine W.go elts k pos i T { s with heap := h', toks := tk } _ _ hm fun h2 st2 kp2 => ?_
    have I2 : Inv X pins σ (upd H T (.tup [xs[i], ys[i]])) { s with heap := h2, toks := tk } := I1.moved (ch := [z, TO, i1, i2]) (tk := tk) (fun c hc => hf1 c (hw c hc)) kp2
    obtain ⟨a1, a2, a3, a4, a5, _⟩ := st2
    exact ⟨.ref T, _, I2, rfl, ⟨T, _, _, rfl, hTn, hx, hy, rfl⟩, ⟨by omega, a1, a2, a3, a4, a5⟩, fun c hc => (hf1 c hc).1⟩
  done := by
    intro X hP hw hK hc i pins s σ H E I hf st hg
    subst hP hw hK
    obtain ⟨hi, hz, hTI, hTO, h1, h2⟩ := st
    obtain ⟨hl, q1, q2⟩ := hg
    obtain ⟨its1, r1, p1, z1⟩ := I.list q1
    obtain ⟨its2, r2, p2, z2⟩ := I.list q2
    have e1 := r1.length
    have e2 := r2.length
    have W := WalksT.zip2 (prog := X.prog) (w := X.w) (I.ok.hd hc) z TI TO i1 i2 a b D its1.toArray its2.toArray
    have ei : i = min its1.toArray.size its2.toArray.size := by
      simp only [List.size_toArray]
      omega
    rw [ei] at h1 h2
    refine W.done s _ _ ⟨hz, hTI, hTO, h1, h2, p1.isList, p2.isList⟩ fun h' tk kp => ⟨rfl, ?_⟩
    refine I.moved (ch := [z, TO, i1, i2]) (tk := tk) (fun c hc => hf c ?_) kp
    simp only [List.mem_cons, List.not_mem_nil, or_false] at hc ⊢
    rcases hc with rfl | rfl | rfl | rfl <;> simp
  self := fun A i s Q E st h => wpAny_pyIter_zip st.2.1 h
section
variable {X : Cx}
def iZip (K : PySem.W.Frag) (ta : TA) : TI := fun σ H R => ta σ H fun vs H1 => ∃ a b xs ys, vs = [.ref a, .ref b] ∧ SqL K H1 a xs ∧ SqL K H1 b ys ∧ R (Itz K a b xs ys) H1
theorem pi_zip {e1 e2 : Expr} {elts : List Expr} {k : Nat} {tp : Pos} {ta : TA} {p pos : Pos} (hg : Gl X "zip") (hm : X.mg "zip" = none) (ha : PA X [e1, e2] ta) (hs : starEach [e1, e2] X.env = (false, eval e1 X.env) :: starEach [e2] X.env := by rfl)
    (hs2 : (backTo pos (starEach [e2] X.env)).any (·.1) = false := by rfl) : PI X (.Tuple elts k tp) (.Call (.Name "zip" p) [e1, e2] [] pos) (iZip X.K ta) := by
  intro pins s σ H R I h
  refine Call_ (ld_blt I hg hm Boot.«zip» (PyProof.Rows.callWith_type1 (thn (ha pos pins s σ H _ I h) fun us s1 ⟨vs, H1, I1, r1, q1⟩ => ?_) hs hs2))
  obtain ⟨a, b, xs, ys, e, q1, q2, q⟩ := q1
  subst e
  obtain ⟨u, v, rfl, rx, ry⟩ := vals2 r1
  cases rx
  cases ry
  obtain ⟨its1, r1, p1, z1⟩ := I1.list q1
  obtain ⟨its2, r2, p2, z2⟩ := I1.list q2
  have lt1 : a < s1.heap.objs.size := by obtain ⟨_, e, _⟩ := p1.isList; exact Heap.lt_size e
  have lt2 : b < s1.heap.objs.size := by obtain ⟨_, e, _⟩ := p2.isList; exact Heap.lt_size e
  refine call_zip_2 p1.isList p2.isList fun h' g1 g2 g3 g4 g5 _ kp => ?_
  refine wpAny_pyIter_zip g1 ?_
  refine ⟨s1.heap.objs.size + 4, _, _, _, H1, rfl, I1.kept (t' := s1.toks) kp, turn_zip (zipApart_new lt1 lt2) xs ys, ⟨Nat.zero_le _, g1, g2, ⟨_, _, g3⟩, g4, g5⟩, fun c hc => ?_, q⟩
  have hc' : s1.heap.objs.size ≤ c := by
    simp only [List.mem_cons, List.not_mem_nil, or_false] at hc
    rcases hc with rfl | rfl | rfl | rfl | rfl
    · exact Nat.le_add_right _ _
    · exact Nat.le_add_right _ _
    · exact Nat.le_add_right _ _
    · exact Nat.le_refl _
    · exact Nat.le_add_right _ _
  exact I1.fpOk hc' (I1.hok.fresh hc')
end
end L2
/-! ### loops and comprehensions over what stays -/
namespace L2
open PySem PySem.Spec PyProof.Rows Fx
/-- all but lists is as it was -/
def NL (H H' : Hp) : Prop := ∀ b o, (∀ xs, o ≠ HO.lst xs) → H b = some o → H' b = some o
theorem Same.nl {H H' : Hp} (s : Same H H') : NL H H' := fun b o _ e => s b o e
theorem NL.trans {H H1 H2 : Hp} (a : NL H H1) (b : NL H1 H2) : NL H H2 := fun c o n e => b c o n (a c o n e)
theorem NL.upd {H : Hp} {D : Addr} {ys zs : List V} (h : H D = some (.lst ys)) : NL H (L2.upd H D (.lst zs)) := fun b o n e => by
  rw [upd_ne]
  · exact e
  · rintro rfl
    rw [h] at e
    exact n ys (Option.some.inj e).symm
theorem IsFr.nl {H H' : Hp} {v : V} {q : Rat} (n : NL H H') (h : IsFr H v q) : IsFr H' v q := by
  obtain ⟨p, e, h⟩ := h
  exact ⟨p, e, n _ _ (fun _ z => by cases z) h⟩
theorem IsLd.nl {CW CS : Addr} {H H' : Hp} {v : V} {L : Ld} (n : NL H H') (h : IsLd CW CS H v L) : IsLd CW CS H' v L := by
  obtain ⟨o, a, dx, e, h⟩ := h
  exact ⟨o, a, dx, e, n _ _ (fun _ z => by cases z) h⟩
/-- n turns, as long as all that H has stays; turn i yields what Y says -/
structure Over (J : It) (H : Hp) (n : Nat) (Y : Nat → Hp → V → Prop) : Prop where
  go : ∀ i H', Same H H' → i < n → J.go i H'
  stop : ∀ i H', Same H H' → n ≤ i → J.stop i H'
  yld : ∀ i H' x H2, i < n → Same H H' → J.yld i H' x H2 → Same H' H2 ∧ Y i H2 x
section
variable {K : PySem.W.Frag} {H H' : Hp} {Q : VK} {σ : St} {nx bk ct : St → Hp → Prop} {rt : VK} {g : TG} {tb : TS} {J : It} {n : Nat} {Y : Nat → Hp → V → Prop}
theorem Over.list {a : Addr} {xs : List V} (h : SqL K H a xs) : Over (Itl K a) H xs.length (fun i _ x => xs[i]? = some x) where
  go := fun i H' s hi => ⟨xs, xs[i], s.seq h, List.getElem?_eq_getElem hi⟩
  stop := fun i H' s hi => ⟨xs, s.seq h, hi⟩
  yld := fun i H' x H2 _ s y => by
    obtain ⟨e, y⟩ := y
    subst e
    exact ⟨Same.refl _, y xs (s.seq h)⟩
theorem Over.tup {a : Addr} {xs : List V} (h : SqT K H a xs) : Over (Itt K a) H xs.length (fun i _ x => xs[i]? = some x) where
  go := fun i H' s hi => ⟨xs, xs[i], s.tup h, List.getElem?_eq_getElem hi⟩
  stop := fun i H' s hi => ⟨xs, s.tup h, hi⟩
  yld := fun i H' x H2 _ s y => by
    obtain ⟨e, y⟩ := y
    subst e
    exact ⟨Same.refl _, y xs (s.tup h)⟩
theorem Over.rng (lo : Int) (n : Nat) : Over (Itr lo n) H n (fun i _ x => x = .int (lo + i)) where
  go := fun i H' s hi => hi
  stop := fun i H' s hi => hi
  yld := fun i H' x H2 _ s y => by
    obtain ⟨e, y⟩ := y
    subst e
    exact ⟨Same.refl _, y⟩
theorem Over.rng3 (lo c : Int) (n : Nat) : Over (Itr3 lo c n) H n (fun i _ x => x = .int (lo + i * c)) where
  go := fun i H' s hi => hi
  stop := fun i H' s hi => hi
  yld := fun i H' x H2 _ s y => by
    obtain ⟨e, y⟩ := y
    subst e
    exact ⟨Same.refl _, y⟩
theorem Over.zip {a b : Addr} {xs ys : List V} (h1 : SqL K H a xs) (h2 : SqL K H b ys) : Over (Itz K a b xs ys) H (min xs.length ys.length) (fun i H2 v => ∃ p x y, v = .ref p ∧ xs[i]? = some x ∧ ys[i]? = some y ∧ H2 p = some (.tup [x, y])) where
  go := fun i H' s hi => ⟨by omega, by omega, s.seq h1, s.seq h2⟩
  stop := fun i H' s hi => ⟨hi, s.seq h1, s.seq h2⟩
  yld := fun i H' x H2 _ s y => by
    obtain ⟨p, u, v, rfl, hp, hx, hy, rfl⟩ := y
    exact ⟨Same.upd hp, p, u, v, rfl, hx, hy, upd_same⟩
theorem rFor.over {H0 : Hp} (O : Over J H0 n Y) (Pv : Nat → St → Hp → Prop) (h0 : Pv 0 σ H) (hS : ∀ i σ H', Pv i σ H' → Same H0 H')
    (hs : ∀ i x σ H' H2, i < n → Pv i σ H' → Same H' H2 → Y i H2 x → g x σ H2 fun σ2 H3 => tb ⟨Pv (i + 1), rt, nx, Pv (i + 1)⟩ σ2 H3) (hd : ∀ σ H', Pv n σ H' → nx σ H') : rFor J g tb ⟨nx, rt, bk, ct⟩ σ H := by
  refine ⟨fun i m σ H' => m = n - i ∧ i ≤ n ∧ Pv i σ H', ⟨n, by simp, Nat.zero_le _, h0⟩, ?_⟩
  rintro i m σ' H' ⟨rfl, hi, p⟩
  have sm := hS i σ' H' p
  by_cases hlt : i < n
  · refine .inr ⟨O.go i H' sm hlt, Pv (i + 1), fun σ2 H2 p' => ⟨n - (i + 1), by omega, rfl, hlt, p'⟩, fun x H2 y => ?_⟩
    obtain ⟨s2, y⟩ := O.yld i H' x H2 hlt sm y
    exact hs i x σ' H' H2 hlt p s2 y
  · have e : i = n := by omega
    subst e
    exact .inl ⟨O.stop i H' sm (Nat.le_refl _), hd σ' H' p⟩
/-- a comprehension: S is what stays true of the block's names, R what the i-th item is, keep which are kept -/
theorem rLc.over {pick : List (Option Nat)} {tc : TT} {te : TE} (O : Over J H n Y) (hn : n ≤ sizeLine) (S : St → Prop) (R : Nat → Hp → V → Prop) (keep : Nat → Bool) (mono : ∀ i H1 H2 y, NL H1 H2 → R i H1 y → R i H2 y) (h0 : S (pickSt pick σ))
    (hs : ∀ i x σ' H2 (C1 : St → V → Hp → Prop) (C2 : St → Hp → Prop), i < n → Same H H2 → Y i H2 x → S σ' → (∀ σ2 y H5, S σ2 → Same H2 H5 → keep i = true → R i H5 y → C1 σ2 y H5) → (∀ σ2 H4, S σ2 → Same H2 H4 → keep i = false → C2 σ2 H4) →
      g x σ' H2 fun σ2 H3 => tc σ2 H3 fun b H4 => if b = true then te σ2 H4 fun y H5 => C1 σ2 y H5 else C2 σ2 H4)
    (hd : ∀ D ys H', Same H H' → H D = none → H' D = some (.lst ys) → Paired (fun i y => R i H' y) ((List.range n).filter keep) ys → Q (.ref D) H') : rLc J pick g tc te σ H Q := by
  intro D hD
  refine ⟨fun i m σ' H' => m = n - i ∧ i ≤ n ∧ Same H H' ∧ S σ' ∧ ∃ ys, H' D = some (.lst ys) ∧ Paired (fun i y => R i H' y) ((List.range i).filter keep) ys, ⟨n, by simp, Nat.zero_le _, Same.upd hD, h0, [], upd_same, .nil⟩, ?_⟩
  rintro i m σ' H' ⟨rfl, hi, sm, hS, ys, hys, pr⟩
  by_cases hlt : i < n
  · refine .inr ⟨O.go i H' sm hlt, fun x H2 y => ?_⟩
    obtain ⟨s2, y⟩ := O.yld i H' x H2 hlt sm y
    have len : ys.length ≤ i := by
      have := pr.length
      rw [← this]
      exact Nat.le_trans (List.length_filter_le _ _) (by simp)
    refine hs i x σ' H2 (fun σ2 y H5 => ∃ ys m', H5 D = some (.lst ys) ∧ ys.length < sizeLine ∧ m' < n - i ∧ m' = n - (i + 1) ∧ i + 1 ≤ n ∧ Same H (upd H5 D (.lst (ys ++ [y]))) ∧ S σ2 ∧ ∃ zs, upd H5 D (.lst (ys ++ [y])) D = some (.lst zs) ∧ Paired (fun i z => R i (upd H5 D (.lst (ys ++ [y]))) z) ((List.range (i + 1)).filter keep) zs) _ hlt (sm.trans s2) y hS (fun σ2 y H5 hS2 s5 hk hr => ?_) (fun σ2 H4 hS2 s4 hk => ?_)
    · have s25 := s2.trans s5
      refine ⟨ys, n - (i + 1), s25 _ _ hys, Nat.lt_of_le_of_lt len (Nat.lt_of_lt_of_le hlt hn), by omega, rfl, hlt, ?_, hS2, ys ++ [y], upd_same, ?_⟩
      · intro b o e
        rw [upd_ne (ne_of_none e hD)]
        exact s25 _ _ (sm _ _ e)
      · rw [List.range_succ, List.filter_append, List.filter_cons, if_pos hk, List.filter_nil]
        have up : NL H5 (L2.upd H5 D (.lst (ys ++ [y]))) := NL.upd (s25 _ _ hys)
        exact (Paired.imp' (fun j z r => mono j _ _ z (s25.nl.trans up) r) pr).snoc (mono i _ _ y up hr)
    · have s24 := s2.trans s4
      refine ⟨n - (i + 1), by omega, rfl, hlt, sm.trans s24, hS2, ys, s24 _ _ hys, ?_⟩
      rw [List.range_succ, List.filter_append, List.filter_cons, if_neg (by rw [hk]; exact Bool.false_ne_true), List.filter_nil, List.append_nil]
      exact Paired.imp' (fun j z r => mono j _ _ z s24.nl r) pr
  · have e : i = n := by omega
    subst e
    exact .inl ⟨O.stop i H' sm (Nat.le_refl _), hd D ys H' sm hD hys pr⟩
end
end L2
namespace L2
open PySem PySem.Spec PyProof.Rows Fx
theorem Paired.split {α β : Type} {F : α → β → Prop} : ∀ {l1 l2 : List α} {m : List β}, Paired F (l1 ++ l2) m → ∃ m1 m2, m = m1 ++ m2 ∧ Paired F l1 m1 ∧ Paired F l2 m2
  | [], _, m, p => ⟨[], m, rfl, .nil, p⟩
  | _ :: _, _, _, .cons h t => by
    obtain ⟨m1, m2, e, p1, p2⟩ := Paired.split t
    exact ⟨_ :: m1, m2, by rw [e]; rfl, .cons h p1, p2⟩
theorem Paired.app {α β : Type} {F : α → β → Prop} : ∀ {l1 l2 : List α} {m1 m2 : List β}, Paired F l1 m1 → Paired F l2 m2 → Paired F (l1 ++ l2) (m1 ++ m2)
  | _, _, _, _, .nil, q => q
  | _, _, _, _, .cons h t, q => .cons h (Paired.app t q)
theorem Paired.get {α β : Type} {F : α → β → Prop} : ∀ {l1 : List α} {l2 : List β} {i : Nat} {a : α}, Paired F l1 l2 → l1[i]? = some a → ∃ b, l2[i]? = some b ∧ F a b
  | _, _, _, _, .nil, e => by simp at e
  | _, _, 0, _, .cons h _, e => by simp at e; subst e; exact ⟨_, rfl, h⟩
  | _, _, i + 1, a, .cons _ t, e => by
    obtain ⟨b, e1, e2⟩ := Paired.get (i := i) (a := a) t (by simpa using e)
    exact ⟨b, by simpa using e1, e2⟩
theorem Paired.one {α β : Type} {F : α → β → Prop} {a : α} {m : List β} (p : Paired F [a] m) : ∃ b, m = [b] ∧ F a b := by
  cases p with
  | cons h t =>
    cases t
    exact ⟨_, rfl, h⟩
theorem Paired.zero {α β : Type} {F : α → β → Prop} {m : List β} (p : Paired F [] m) : m = [] := by
  cases p
  rfl
theorem paired_filter {α β : Type} {R : α → β → Prop} (xs : List α) (p : α → Bool) : ∀ (k : Nat) (ys : List β), k ≤ xs.length → Paired (fun i y => ∃ x, xs[i]? = some x ∧ R x y) ((List.range k).filter fun i => (xs[i]?).elim false p) ys → Paired R ((xs.take k).filter p) ys
  | 0, ys, _, h => by
    rw [Paired.zero h]
    exact .nil
  | k + 1, ys, hk, h => by
    rw [List.range_succ, List.filter_append] at h
    obtain ⟨m1, m2, rfl, p1, p2⟩ := Paired.split h
    have q1 := paired_filter xs p k m1 (by omega) p1
    have hx : xs[k]? = some xs[k] := List.getElem?_eq_getElem hk
    rw [List.take_succ, hx, Option.toList_some, List.filter_append]
    refine Paired.app q1 ?_
    rw [List.filter_cons, hx] at p2
    rw [List.filter_cons]
    by_cases hp : p xs[k] = true
    · have hp' : (Option.elim (some xs[k]) false p) = true := hp
      rw [if_pos hp', List.filter_nil] at p2
      rw [if_pos hp, List.filter_nil]
      obtain ⟨b, rfl, x, e, r⟩ := Paired.one p2
      rw [hx] at e
      cases e
      exact .cons r .nil
    · have hp' : ¬ (Option.elim (some xs[k]) false p) = true := hp
      rw [if_neg hp', List.filter_nil] at p2
      rw [if_neg hp, List.filter_nil, Paired.zero p2]
      exact .nil
section
variable {K : PySem.W.Frag} {H H' : Hp} {Q : VK} {σ : St} {g : TG} {J : It} {pick : List (Option Nat)} {te : TE} {tc : TT}
/-- over things xs one by one, those kept that p says -/
theorem rLc.things {xs : List V} (O : Over J H xs.length (fun i _ x => xs[i]? = some x)) (hn : xs.length ≤ sizeLine) (S : St → Prop) (R : V → Hp → V → Prop) (p : V → Bool) (mono : ∀ x H1 H2 y, NL H1 H2 → R x H1 y → R x H2 y) (h0 : S (pickSt pick σ))
    (hs : ∀ x σ' H2 (C1 : St → V → Hp → Prop) (C2 : St → Hp → Prop), x ∈ xs → Same H H2 → S σ' → (∀ σ2 y H5, S σ2 → Same H2 H5 → p x = true → R x H5 y → C1 σ2 y H5) → (∀ σ2 H4, S σ2 → Same H2 H4 → p x = false → C2 σ2 H4) →
      g x σ' H2 fun σ2 H3 => tc σ2 H3 fun b H4 => if b = true then te σ2 H4 fun y H5 => C1 σ2 y H5 else C2 σ2 H4)
    (hd : ∀ D ys H', Same H H' → H D = none → H' D = some (.lst ys) → Paired (fun x y => R x H' y) (xs.filter p) ys → Q (.ref D) H') : rLc J pick g tc te σ H Q := by
  refine rLc.over O hn S (fun i H' y => ∃ x, xs[i]? = some x ∧ R x H' y) (fun i => (xs[i]?).elim false p) (fun i H1 H2 y n ⟨x, e, r⟩ => ⟨x, e, mono x H1 H2 y n r⟩) h0 (fun i x σ' H2 C1 C2 hi s2 hx hS c1 c2 => ?_) (fun D ys H' s hD h pr => ?_)
  · refine hs x σ' H2 C1 C2 (List.mem_of_getElem? hx) s2 hS (fun σ2 y H5 a b c d => c1 σ2 y H5 a b (by rw [hx]; exact c) ⟨x, hx, d⟩) fun σ2 H4 a b c => c2 σ2 H4 a b (by rw [hx]; exact c)
  · have q := paired_filter (R := fun x y => R x H' y) xs p xs.length ys (Nat.le_refl _) pr
    rw [List.take_length] at q
    exact hd D ys H' s hD h q
/-- .. all of them -/
theorem rLc.map {xs : List V} (O : Over J H xs.length (fun i _ x => xs[i]? = some x)) (hn : xs.length ≤ sizeLine) (S : St → Prop) (R : V → Hp → V → Prop) (mono : ∀ x H1 H2 y, NL H1 H2 → R x H1 y → R x H2 y) (h0 : S (pickSt pick σ))
    (hs : ∀ x σ' H2 (C1 : St → V → Hp → Prop), x ∈ xs → Same H H2 → S σ' → (∀ σ2 y H5, S σ2 → Same H2 H5 → R x H5 y → C1 σ2 y H5) → g x σ' H2 fun σ2 H3 => te σ2 H3 fun y H5 => C1 σ2 y H5)
    (hd : ∀ D ys H', Same H H' → H D = none → H' D = some (.lst ys) → Paired (fun x y => R x H' y) xs ys → Q (.ref D) H') : rLc J pick g tYes te σ H Q := by
  refine rLc.things O hn S R (fun _ => true) mono h0 (fun x σ' H2 C1 C2 hx s2 hS c1 _ => ?_) fun D ys H' s hD h pr => hd D ys H' s hD h (by rw [List.filter_eq_self.mpr (fun _ _ => rfl)] at pr; exact pr)
  exact hs x σ' H2 C1 hx s2 hS fun σ2 y H5 a b c => c1 σ2 y H5 a b rfl c
theorem rd_lc {wi : TI} (h : wi σ H fun J H1 => rLc J pick g tc te σ H1 Q) : tLc wi pick g tc te σ H Q := h
theorem rd_irng1 {tA : TA} {R : It → Hp → Prop} (h : tA σ H fun vs H1 => ∃ j : Int, vs = [.int j] ∧ -(2 ^ 62) ≤ j ∧ j < 2 ^ 62 ∧ R (Itr 0 j.toNat) H1) : iRng1 tA σ H R := h
end
section
variable {X : Cx} {K : PySem.W.Frag} {H H' : Hp} {Q : VK} {σ : St}
def rListOf (K : PySem.W.Frag) : List V → Hp → VK → Prop := fun xs H Q => ∃ p ys, xs = [.ref p] ∧ (SqL K H p ys ∨ SqT K H p ys) ∧ ∀ l, H l = none → Q (.ref l) (upd H l (.lst ys))
theorem call_list' : CallR X (.type "list") (rListOf X.K) := call_list_of
theorem rListOf.l {p : Addr} {ys : List V} (h : SqL K H p ys) (q : ∀ l H', Same H H' → H l = none → H' l = some (.lst ys) → Q (.ref l) H') : rListOf K [.ref p] H Q := ⟨p, ys, rfl, .inl h, fun l hl => q l _ (Same.upd hl) hl upd_same⟩
theorem rListOf.t {p : Addr} {ys : List V} (h : H p = some (.tup ys)) (q : ∀ l H', Same H H' → H l = none → H' l = some (.lst ys) → Q (.ref l) H') : rListOf K [.ref p] H Q := ⟨p, ys, rfl, .inr (SqT.of h), fun l hl => q l _ (Same.upd hl) hl upd_same⟩
def rTupOf (K : PySem.W.Frag) : List V → Hp → VK → Prop := fun xs H Q => ∃ p ys, xs = [.ref p] ∧ ((SqL K H p ys ∧ ∀ l, H l = none → Q (.ref l) (upd H l (.tup ys))) ∨ (SqT K H p ys ∧ Q (.ref p) H))
theorem call_tuple' : CallR X (.type "tuple") (rTupOf X.K) := call_tuple_of
end
end L2
/-! ### zip over any number of lists and tuples -/
namespace L2
open PySem PySem.Spec PyProof.Rows
/-- one of those that are walked side by side: its iterator, the thing, what is in it -/
structure Mb where
  tp : Bool
  it : Addr
  l : Addr
  xs : Array Value
def Mb.at (m : Mb) (h : Heap) (i : Nat) : Prop := if m.tp = true then h.IsTupleIter m.it m.l i ∧ h.IsTuple m.l m.xs else h.IsListIter m.it m.l i ∧ h.IsList m.l m.xs
theorem Mb.at.keep {m : Mb} {h h' : Heap} {i : Nat} (a : m.at h i) (k : ∀ c, c = m.it ∨ c = m.l → ∀ o, h.get? c = some o → h'.get? c = some o) : m.at h' i := by
  unfold Mb.at at *
  split
  · rename_i e
    rw [if_pos e] at a
    obtain ⟨⟨o, h1, h2⟩, ⟨o', h3, h4⟩⟩ := a
    exact ⟨⟨o, k _ (.inl rfl) _ h1, h2⟩, ⟨o', k _ (.inr rfl) _ h3, h4⟩⟩
  · rename_i e
    rw [if_neg e] at a
    obtain ⟨⟨o, h1, h2⟩, ⟨o', h3, h4⟩⟩ := a
    exact ⟨⟨o, k _ (.inl rfl) _ h1, h2⟩, ⟨o', k _ (.inr rfl) _ h3, h4⟩⟩
section
variable {prog : Program} {w : World} {A : Around} {E : Value → Shared → Prop} {s : Shared}
theorem next_tup_item {it l : Addr} {i : Nat} {items} {x : Value} {Q : Value → Shared → Prop} (hit : s.heap.IsTupleIter it l i) (hl : s.heap.IsTuple l items) (hx : items[i]? = some x)
    (hQ : ∀ h', h'.IsTupleIter it l (i + 1) → Heap.SameBut it s.heap h' → Q x { s with heap := h' }) : wpAny (model prog w) A (Builtin.SmallTypes.nextOf (.ref it)) Q E s := by
  obtain ⟨o, ho, hc, hd⟩ := id hit
  obtain ⟨ol, hol, _, nl, hdl⟩ := hl
  unfold Builtin.SmallTypes.nextOf
  refine wpAny_bind (wpAny_callSpecial?_slot (name := Str.ofString "__next__") hit.typeIs F.slot_tuple_iterator_next (wpAny_call_entry F.slot_tuple_iterator_next hit.typeIs F.entry_tuple_iterator_next ?_ (F.args_tuple_iterator_next_1 _)))
  show wpAny _ _ (field (.ref it) 0 >>= _) _ _ s
  refine wpAny_bind (wpAny_field ho hd (x := .ref l) rfl ?_)
  show wpAny _ _ (if (Value.ref l == Value.none) = true then _ else _) _ _ s
  rw [if_neg (show ¬ ((Value.ref l == Value.none) = true) from Bool.false_ne_true)]
  show wpAny _ _ (field (.ref it) 1 >>= _) _ _ s
  refine wpAny_bind (wpAny_field ho hd (x := .int i 0) rfl ?_)
  show wpAny _ _ (seqItems? (.ref l) >>= _) _ _ s
  refine wpAny_bind (wpAny_seqItems hol hdl ?_)
  simp only [Int.toNat_natCast, hx]
  refine wpAny_bind (wpAny_setField ho hd (by simp) (wpAny_pure ⟨x, rfl, wpAny_pure (hQ _ ?_ (Heap.SameBut.update ..))⟩))
  exact ⟨_, Heap.get?_update_self _ ho (Obj.isFreed_of_fields (Obj.data_mapFields hd _)), (Obj.cls_mapFields ..).trans hc, by rw [Obj.data_mapFields hd]; simp [rawInt]⟩
theorem next_tup_end {it l : Addr} {i : Nat} {items} {Q : Value → Shared → Prop} (hh : A.handled = none) (hit : s.heap.IsTupleIter it l i) (hl : s.heap.IsTuple l items) (hx : items[i]? = none)
    (hE : ∀ h' e, Heap.ExtBut it s.heap h' → (∃ o, h'.get? e = some o ∧ o.cls = .type "StopIteration") → E (.ref e) { s with heap := h' }) : wpAny (model prog w) A (Builtin.SmallTypes.nextOf (.ref it)) Q E s := by
  obtain ⟨o, ho, hc, hd⟩ := id hit
  obtain ⟨ol, hol, _, nl, hdl⟩ := hl
  unfold Builtin.SmallTypes.nextOf
  refine wpAny_bind (wpAny_callSpecial?_slot (name := Str.ofString "__next__") hit.typeIs F.slot_tuple_iterator_next (wpAny_call_entry F.slot_tuple_iterator_next hit.typeIs F.entry_tuple_iterator_next ?_ (F.args_tuple_iterator_next_1 _)))
  show wpAny _ _ (field (.ref it) 0 >>= _) _ _ s
  refine wpAny_bind (wpAny_field ho hd (x := .ref l) rfl ?_)
  show wpAny _ _ (if (Value.ref l == Value.none) = true then _ else _) _ _ s
  rw [if_neg (show ¬ ((Value.ref l == Value.none) = true) from Bool.false_ne_true)]
  show wpAny _ _ (field (.ref it) 1 >>= _) _ _ s
  refine wpAny_bind (wpAny_field ho hd (x := .int i 0) rfl ?_)
  show wpAny _ _ (seqItems? (.ref l) >>= _) _ _ s
  refine wpAny_bind (wpAny_seqItems hol hdl ?_)
  simp only [Int.toNat_natCast, hx]
  refine wpAny_bind (wpAny_rule (wpAny_bind (wpAny_setField ho hd (by simp) ?_)))
  show wpAny _ _ (newExc (.type "StopIteration") [] >>= _) _ _ _
  refine wpAny_bind ?_
  simp only [newExc, newTuple]
  refine wpAny_bind (wpAny_newObj_type ?_ (by size_fits))
  refine wpAny_bind (m := firstArgMember _ _) (wpAny_of_eq (a := Value.none) (by first | rfl | (simp only [firstArgMember]; rfl)) ?_)
  refine wpAny_newObj_type ?_ (by size_fits)
  simp only [raiseNew]
  refine wpAny_bind (wpAny_handled ?_)
  first | rw [show A.in1.handled = none from hh] | rw [hh]
  refine wpAny_bind (wpAny_pure (wpAny_throw ?_))
  exact hE _ _ (((Heap.SameBut.update ..).extBut.push _).push _) ⟨_, Heap.get?_push_size _ rfl, rfl⟩
theorem Mb.item {m : Mb} {i : Nat} {x : Value} {Q : Value → Shared → Prop} (a : m.at s.heap i) (ne : m.l ≠ m.it) (hx : m.xs[i]? = some x) (hQ : ∀ h', m.at h' (i + 1) → Heap.SameBut m.it s.heap h' → Q x { s with heap := h' }) :
    wpAny (model prog w) A (Builtin.SmallTypes.nextOf (.ref m.it)) Q E s := by
  unfold Mb.at at *
  split at a
  · rename_i e
    simp only [if_pos e] at hQ
    exact next_tup_item a.1 a.2 hx fun h' h1 sb => hQ h' ⟨h1, a.2.extBut sb.extBut ne⟩ sb
  · rename_i e
    simp only [if_neg e] at hQ
    exact wpAny_nextOf_list_item a.1 a.2 hx fun h' h1 sb => hQ h' ⟨h1, a.2.extBut sb.extBut ne⟩ sb
theorem Mb.end {m : Mb} {i : Nat} {Q : Value → Shared → Prop} (hh : A.handled = none) (a : m.at s.heap i) (hx : m.xs[i]? = none)
    (hE : ∀ h' e, Heap.ExtBut m.it s.heap h' → (∃ o, h'.get? e = some o ∧ o.cls = .type "StopIteration") → E (.ref e) { s with heap := h' }) : wpAny (model prog w) A (Builtin.SmallTypes.nextOf (.ref m.it)) Q E s := by
  unfold Mb.at at a
  split at a
  · exact next_tup_end hh a.1 a.2 hx hE
  · exact wpAny_nextOf_list_end hh a.1 a.2 hx hE
end
/-- all that a zip is made of, apart -/
structure Zap (z TI TO : Addr) (ms : List Mb) : Prop where
  TIz : TI ≠ z
  TOz : TO ≠ z
  TITO : TI ≠ TO
  its : (ms.map Mb.it).Nodup
  it : ∀ m ∈ ms, m.it ≠ z ∧ m.it ≠ TI ∧ m.it ≠ TO
  ls : ∀ m ∈ ms, m.l ≠ z ∧ m.l ≠ TI ∧ m.l ≠ TO ∧ ∀ n ∈ ms, m.l ≠ n.it
abbrev tupO (vs : Array Value) : Obj := { cls := .type "tuple", data := .seq vs }
/-- a zip that is at its i-th turn -/
structure ZAt (z TI TO : Addr) (ms : List Mb) (f0 : Value) (i : Nat) (h : Heap) : Prop where
  hz : IsZip h z TI TO f0
  ti : h.get? TI = some (tupO (ms.map fun m => Value.ref m.it).toArray)
  to : ∃ out, h.get? TO = some (tupO out) ∧ out.size = ms.length
  ats : ∀ m ∈ ms, m.at h i
theorem nodup_it {ms : List Mb} (h : (ms.map Mb.it).Nodup) {j k : Nat} {m n : Mb} (hj : ms[j]? = some m) (hk : ms[k]? = some n) (ne : j ≠ k) : m.it ≠ n.it := by
  intro e
  have h1 : (ms.map Mb.it)[j]? = some m.it := by rw [List.getElem?_map, hj]; rfl
  have h2 : (ms.map Mb.it)[k]? = some n.it := by rw [List.getElem?_map, hk]; rfl
  obtain ⟨l1, e1⟩ := List.getElem?_eq_some_iff.mp h1
  obtain ⟨l2, e2⟩ := List.getElem?_eq_some_iff.mp h2
  have pw := List.pairwise_iff_getElem.mp h
  rcases Nat.lt_or_gt_of_ne ne with q | q
  · exact pw j k l1 l2 q (by rw [e1, e2, e])
  · exact pw k j l2 l1 q (by rw [e1, e2, e])
theorem zipIdx_at {α : Type} {l : List α} {j : Nat} {x : α} (h : l[j]? = some x) : l.zipIdx.drop j = (x, j) :: l.zipIdx.drop (j + 1) := by
  obtain ⟨hl, e⟩ := List.getElem?_eq_some_iff.mp h
  rw [List.drop_eq_getElem_cons (by rw [List.length_zipIdx]; exact hl), List.getElem_zipIdx, e, Nat.zero_add]
section
variable {prog : Program} {w : World} {A : Around} {E : Value → Shared → Prop} {s : Shared}
/-- while members are drawn: the first j have moved on -/
structure ZMid (z TI TO : Addr) (ms : List Mb) (i j : Nat) (h0 h : Heap) : Prop where
  hz : IsZip h z TI TO .ellipsis
  to : ∃ out : Array Value, h.get? TO = some (tupO out) ∧ out.size = ms.length ∧ ∀ k m, k < j → ms[k]? = some m → out[k]? = m.xs[i]?
  fst : ∀ k m, k < j → ms[k]? = some m → m.at h (i + 1)
  rst : ∀ k m, j ≤ k → ms[k]? = some m → m.at h i
  kp : ∀ c o, c ≠ z → c ≠ TO → (∀ m ∈ ms, c ≠ m.it) → h0.get? c = some o → h.get? c = some o
  sz : h.objs.size = h0.objs.size
theorem set_at {out : Array Value} {j : Nat} {x : Value} (h : j < out.size) (k : Nat) : (out.setIfInBounds j x)[k]? = if k = j then some x else out[k]? := by
  rw [Array.getElem?_setIfInBounds]
  by_cases e : k = j
  · subst e
    simp [h]
  · rw [if_neg (Ne.symm e), if_neg e]
theorem wpAny_updateSeq_tup {T : Addr} {vs : Array Value} {x : Value} {k : Nat} {Q : Unit → Shared → Prop} (hT : s.heap.get? T = some (tupO vs)) (small : vs.size ≤ 10)
    (h : ∀ h', h'.get? T = some (tupO (vs.setIfInBounds k x)) → Heap.SameBut T s.heap h' → Q () { s with heap := h' }) : wpAny (model prog w) A (updateSeq T (·.setIfInBounds k x)) Q E s := by
  refine wpAny_updateSeq hT rfl (h _ ?_ (Heap.SameBut.update ..)) (hz := Nat.le_trans small (by decide)) (_hz' := Nat.le_trans (by rw [Array.size_setIfInBounds]; exact small) (by decide))
  rw [Heap.get?_update_self _ hT rfl]
  simp [Obj.mapSeq]
/-- one has been drawn -/
theorem ZMid.step {z TI TO : Addr} {ms : List Mb} {i j : Nat} {h0 h h1 h2 : Heap} {m : Mb} {x : Value} {out : Array Value} (D : Zap z TI TO ms) (Z : ZMid z TI TO ms i j h0 h) (hm : ms[j]? = some m) (hx : m.xs[i]? = some x) (a1 : m.at h1 (i + 1)) (s1 : Heap.SameBut m.it h h1)
    (ho : h1.get? TO = some (tupO out)) (hs : out.size = ms.length) (hv : ∀ k m, k < j → ms[k]? = some m → out[k]? = m.xs[i]?) (h2o : h2.get? TO = some (tupO (out.setIfInBounds j x))) (s2 : Heap.SameBut TO h1 h2) : ZMid z TI TO ms i (j + 1) h0 h2 := by
  have mem := List.mem_of_getElem? hm
  have hj : j < out.size := by rw [hs]; exact (List.getElem?_eq_some_iff.mp hm).1
  have up : ∀ k n, ms[k]? = some n → k ≠ j → ∀ t, n.at h t → n.at h2 t := fun k n hn ne t a => a.keep fun c hc o e => by
    have nm := List.mem_of_getElem? hn
    refine s2.extBut _ _ ?_ (s1.extBut _ _ ?_ e)
    · rcases hc with rfl | rfl
      · exact (D.it n nm).2.2
      · exact (D.ls n nm).2.2.1
    · rcases hc with rfl | rfl
      · exact nodup_it D.its hn hm ne
      · exact (D.ls n nm).2.2.2 m mem
  refine ⟨s2.extBut _ _ D.TOz.symm (s1.extBut _ _ (D.it m mem).1.symm Z.hz), ⟨_, h2o, by rw [Array.size_setIfInBounds]; exact hs, fun k n hk hn => ?_⟩, fun k n hk hn => ?_, fun k n hk hn => up k n hn (by omega) i (Z.rst k n (by omega) hn), fun c o c1 c2 c3 e => s2.extBut _ _ c2 (s1.extBut _ _ (c3 m mem) (Z.kp c o c1 c2 c3 e)), by rw [s2.1, s1.1, Z.sz]⟩
  · rw [set_at hj]
    by_cases e : k = j
    · subst e
      rw [if_pos rfl]
      rw [hm] at hn
      cases hn
      exact hx.symm
    · rw [if_neg e]
      exact hv k n (by omega) hn
  · by_cases e : k = j
    · subst e
      rw [hm] at hn
      cases hn
      refine a1.keep fun c hc o e => s2.extBut _ _ ?_ e
      rcases hc with rfl | rfl
      · exact (D.it _ mem).2.2
      · exact (D.ls _ mem).2.2.1
    · exact up k n hn e _ (Z.fst k n (by omega) hn)
theorem zipN_item {z TI TO : Addr} {ms : List Mb} {i : Nat} {Q : Value → Shared → Prop} (D : Zap z TI TO ms) (ne : ms ≠ []) (Z : ZAt z TI TO ms .none i s.heap) (hi : ∀ m ∈ ms, i < m.xs.size) (small : ms.length ≤ 10)
    (hQ : ∀ h' (ys : List Value), ys.length = ms.length → (∀ (k : Nat) (m : Mb), ms[k]? = some m → ys[k]? = m.xs[i]?) → ZAt z TI TO ms (rawInt s.heap.objs.size) (i + 1) h' → h'.get? s.heap.objs.size = some (tupO ys.toArray) →
      (∀ c o, c ≠ z → c ≠ TO → (∀ m ∈ ms, c ≠ m.it) → s.heap.get? c = some o → h'.get? c = some o) → Q (.ref s.heap.objs.size) { s with heap := h' }) :
    wpAny (model prog w) A (Builtin.«zip.__next__» ⟨[.ref z], []⟩) (fun fin s' => ∃ v, fin = .done (.ret v) ∧ Q v s') E s := by
  obtain ⟨hz, hTI, ⟨out0, hTO, hs0⟩, hat⟩ := Z
  show wpAny _ _ (field (.ref z) 2 >>= _) _ _ _
  refine wpAny_bind (wpAny_field hz rfl (x := .bool false) rfl ?_)
  show wpAny _ _ (field (.ref z) 3 >>= _) _ _ _
  refine wpAny_bind (wpAny_field hz rfl (x := .ref TI) rfl ?_)
  refine wpAny_bind (wpAny_seqItems hTI rfl ?_)
  have hne : ((ms.map fun m => Value.ref m.it).toArray.isEmpty) = false := by
    cases ms with
    | nil => exact absurd rfl ne
    | cons => rfl
  dsimp only
  rw [hne]
  show wpAny _ _ (Builtin.SmallTypes.ownedTupleIsFree (.ref z) >>= _) _ _ _
  refine wpAny_bind ?_
  unfold Builtin.SmallTypes.ownedTupleIsFree
  refine wpAny_bind (wpAny_field hz rfl (x := .none) rfl (wpAny_pure ?_))
  simp only [if_true]
  refine wpAny_bind (wpAny_rule ?_)
  refine wpAny_bind (wpAny_field hz rfl (x := .ref TO) rfl ?_)
  refine wpAny_bind (wpAny_setField_rec hz (by simp) fun h₁ hz₁ hs₁ => ?_)
  replace hz₁ : IsZip h₁ z TI TO .ellipsis := hz₁
  have Z0 : ZMid z TI TO ms i 0 s.heap h₁ := ⟨hz₁, ⟨out0, hs₁.extBut _ _ D.TOz hTO, hs0, fun k m hk => by omega⟩, fun k m hk => by omega, fun k m _ hm => (hat m (List.mem_of_getElem? hm)).keep fun c hc o e => hs₁.extBut _ _ (by
    have nm := List.mem_of_getElem? hm
    rcases hc with rfl | rfl
    · exact (D.it m nm).1
    · exact (D.ls m nm).1) e, fun c o c1 _ _ e => hs₁.extBut _ _ c1 e, hs₁.1⟩
  refine wpAny_bind (wpAny_forIn_list _ (fun rest r s' => r = ⟨none, ⟨⟩⟩ ∧ ∃ j h', j ≤ ms.length ∧ rest = (ms.map fun m => Value.ref m.it).zipIdx.drop j ∧ s' = { s with heap := h' } ∧ ZMid z TI TO ms i j s.heap h') _ ?_ ?_ _ _ ⟨rfl, 0, h₁, Nat.zero_le _, by simp, rfl, Z0⟩)
  · rintro x rest b s1 ⟨rfl, j, h', hj, hr, rfl, Z⟩
    have hlt : j < ms.length := by
      rcases Nat.lt_or_ge j ms.length with q | q
      · exact q
      · rw [List.drop_eq_nil_of_le (by rw [List.length_zipIdx, List.length_map]; exact q)] at hr
        cases hr
    have hm : ms[j]? = some ms[j] := List.getElem?_eq_getElem hlt
    generalize ms[j] = m at hm
    rw [zipIdx_at (x := Value.ref m.it) (by rw [List.getElem?_map, hm]; rfl)] at hr
    obtain ⟨rfl, rfl⟩ := List.cons.inj hr
    have mem := List.mem_of_getElem? hm
    obtain ⟨x, hx⟩ : ∃ x, m.xs[i]? = some x := ⟨_, Array.getElem?_eq_getElem (hi m mem)⟩
    refine wpAny_bind (wpAny_onRaise ?_)
    show wpAny _ _ (Builtin.SmallTypes.nextOf (.ref m.it) >>= _) _ _ _
    refine wpAny_bind (Mb.item (Z.rst j m (Nat.le_refl _) hm) ((D.ls m mem).2.2.2 m mem) hx fun h1 a1 s1 => wpAny_pure ?_)
    obtain ⟨out, ho, hs, hv⟩ := Z.to
    have ho1 : h1.get? TO = some (tupO out) := s1.extBut _ _ (D.it m mem).2.2.symm ho
    refine wpAny_bind (wpAny_seqItems ho1 rfl ?_)
    refine wpAny_bind (wpAny_updateSeq_tup ho1 (by omega) fun h2 ho2 s2 => ?_)
    refine wpAny_bind (wpAny_letGo (wpAny_pure ?_))
    exact ⟨rfl, j + 1, h2, hlt, rfl, rfl, Z.step D hm hx a1 s1 ho1 hs hv ho2 s2⟩
  · rintro b s1 ⟨rfl, j, h', hj, hr, rfl, Z⟩
    have hj : j = ms.length := by
      rcases Nat.lt_or_ge j ms.length with q | q
      · have := congrArg List.length hr
        rw [List.length_drop, List.length_zipIdx, List.length_map, List.length_nil] at this
        omega
      · omega
    subst hj
    obtain ⟨out, ho, hs, hv⟩ := Z.to
    refine wpAny_bind (wpAny_seqItems ho rfl ?_)
    refine wpAny_bind (wpAny_newTuple ?_ (by have := Nat.le_trans (show out.toList.length ≤ 10 by rw [Array.length_toList]; omega) (show 10 ≤ sizeLine by decide); first | exact this | simpa using this))
    have hzlt : z < h'.objs.size := Heap.lt_size Z.hz
    show wpAny _ _ (Builtin.SmallTypes.ownedTupleHandOut (.ref z) (.ref h'.objs.size) >>= _) _ _ _
    refine wpAny_bind ?_
    unfold Builtin.SmallTypes.ownedTupleHandOut
    have hz₆ : IsZip (h'.push (tupO out.toList.toArray)) z TI TO .ellipsis := Heap.get?_push_of_some _ Z.hz
    refine wpAny_bind (wpAny_setField_rec hz₆ (by simp) fun h₇ hz₇ hs₇ => ?_)
    replace hz₇ : IsZip h₇ z TI TO (rawInt h'.objs.size) := hz₇
    refine wpAny_setField_rec hz₇ (by simp) fun h₈ hz₈ hs₈ => ?_
    replace hz₈ : IsZip h₈ z TI TO (rawInt h'.objs.size) := hz₈
    have up : ∀ c o, c ≠ z → h'.get? c = some o → h₈.get? c = some o := fun c o c1 e => hs₈.extBut _ _ c1 (hs₇.extBut _ _ c1 (Heap.get?_push_of_some _ e))
    have hT₈ : h₈.get? h'.objs.size = some (tupO out.toList.toArray) := hs₈.extBut _ _ (Nat.ne_of_gt hzlt) (hs₇.extBut _ _ (Nat.ne_of_gt hzlt) (Heap.get?_push_size _ rfl))
    refine wpAny_pure ⟨_, rfl, ?_⟩
    show Q (.ref h'.objs.size) _
    rw [Z.sz] at hz₈ hT₈ ⊢
    refine hQ h₈ out.toList (by rw [Array.length_toList]; exact hs) (fun k m hm => ?_) ⟨hz₈, up _ _ D.TIz (Z.kp _ _ D.TIz D.TITO (fun m hm => (D.it m hm).2.1.symm) hTI), ⟨out, up _ _ D.TOz ho, hs⟩, fun m hm => ?_⟩ hT₈ fun c o c1 c2 c3 e => up c o c1 (Z.kp c o c1 c2 c3 e)
    · rw [Array.getElem?_toList]
      exact hv k m (List.getElem?_eq_some_iff.mp hm).1 hm
    · obtain ⟨k, hk, e⟩ := List.getElem_of_mem hm
      refine (Z.fst k m hk (by rw [List.getElem?_eq_getElem hk, e])).keep fun c hc o e => up c o ?_ e
      rcases hc with rfl | rfl
      · exact (D.it m hm).1
      · exact (D.ls m hm).1
theorem zipN_end {z TI TO : Addr} {ms : List Mb} {i : Nat} {Q : Fin → Shared → Prop} (hh : A.handled = none) (D : Zap z TI TO ms) (ne : ms ≠ []) (Z : ZAt z TI TO ms .none i s.heap) (hi : ∃ m ∈ ms, m.xs.size ≤ i) (small : ms.length ≤ 10)
    (hE : ∀ h' e, (∀ c o, c ≠ z → c ≠ TO → (∀ m ∈ ms, c ≠ m.it) → s.heap.get? c = some o → h'.get? c = some o) → (∃ o, h'.get? e = some o ∧ o.cls = .type "StopIteration") → E (.ref e) { s with heap := h' }) :
    wpAny (model prog w) A (Builtin.«zip.__next__» ⟨[.ref z], []⟩) Q E s := by
  obtain ⟨hz, hTI, ⟨out0, hTO, hs0⟩, hat⟩ := Z
  show wpAny _ _ (field (.ref z) 2 >>= _) _ _ _
  refine wpAny_bind (wpAny_field hz rfl (x := .bool false) rfl ?_)
  show wpAny _ _ (field (.ref z) 3 >>= _) _ _ _
  refine wpAny_bind (wpAny_field hz rfl (x := .ref TI) rfl ?_)
  refine wpAny_bind (wpAny_seqItems hTI rfl ?_)
  have hne : ((ms.map fun m => Value.ref m.it).toArray.isEmpty) = false := by
    cases ms with
    | nil => exact absurd rfl ne
    | cons => rfl
  dsimp only
  rw [hne]
  show wpAny _ _ (Builtin.SmallTypes.ownedTupleIsFree (.ref z) >>= _) _ _ _
  refine wpAny_bind ?_
  unfold Builtin.SmallTypes.ownedTupleIsFree
  refine wpAny_bind (wpAny_field hz rfl (x := .none) rfl (wpAny_pure ?_))
  simp only [if_true]
  refine wpAny_bind (wpAny_rule ?_)
  refine wpAny_bind (wpAny_field hz rfl (x := .ref TO) rfl ?_)
  refine wpAny_bind (wpAny_setField_rec hz (by simp) fun h₁ hz₁ hs₁ => ?_)
  replace hz₁ : IsZip h₁ z TI TO .ellipsis := hz₁
  have Z0 : ZMid z TI TO ms i 0 s.heap h₁ := ⟨hz₁, ⟨out0, hs₁.extBut _ _ D.TOz hTO, hs0, fun k m hk => by omega⟩, fun k m hk => by omega, fun k m _ hm => (hat m (List.mem_of_getElem? hm)).keep fun c hc o e => hs₁.extBut _ _ (by
    have nm := List.mem_of_getElem? hm
    rcases hc with rfl | rfl
    · exact (D.it m nm).1
    · exact (D.ls m nm).1) e, fun c o c1 _ _ e => hs₁.extBut _ _ c1 e, hs₁.1⟩
  refine wpAny_bind (wpAny_forIn_list _ (fun rest r s' => r = ⟨none, ⟨⟩⟩ ∧ ∃ j h', j ≤ ms.length ∧ rest = (ms.map fun m => Value.ref m.it).zipIdx.drop j ∧ s' = { s with heap := h' } ∧ ZMid z TI TO ms i j s.heap h' ∧ ∀ k m, k < j → ms[k]? = some m → i < m.xs.size) _ ?_ ?_ _ _ ⟨rfl, 0, h₁, Nat.zero_le _, by simp, rfl, Z0, fun k m hk => by omega⟩)
  · rintro x rest b s1 ⟨rfl, j, h', hj, hr, rfl, Z, all⟩
    have hlt : j < ms.length := by
      rcases Nat.lt_or_ge j ms.length with q | q
      · exact q
      · rw [List.drop_eq_nil_of_le (by rw [List.length_zipIdx, List.length_map]; exact q)] at hr
        cases hr
    have hm : ms[j]? = some ms[j] := List.getElem?_eq_getElem hlt
    generalize ms[j] = m at hm
    rw [zipIdx_at (x := Value.ref m.it) (by rw [List.getElem?_map, hm]; rfl)] at hr
    obtain ⟨rfl, rfl⟩ := List.cons.inj hr
    have mem := List.mem_of_getElem? hm
    refine wpAny_bind (wpAny_onRaise ?_)
    show wpAny _ _ (Builtin.SmallTypes.nextOf (.ref m.it) >>= _) _ _ _
    cases hx : m.xs[i]? with
    | none =>
      refine wpAny_bind (Mb.end hh (Z.rst j m (Nat.le_refl _) hm) hx fun h2 e hs2 he => ?_)
      obtain ⟨oe, hoe, hce⟩ := he
      have hz2 : IsZip h2 z TI TO .ellipsis := hs2 _ _ (D.it m mem).1.symm Z.hz
      have hez : e ≠ z := fun x => by subst x; rw [hz2] at hoe; cases hoe; simp at hce
      exact wpAny_setField_rec hz2 (by simp) fun h3 _ hs3 => hE h3 e (fun c o c1 c2 c3 x => hs3.extBut _ _ c1 (hs2 _ _ (c3 m mem) (Z.kp c o c1 c2 c3 x))) ⟨oe, hs3.extBut _ _ hez hoe, hce⟩
    | some x =>
      refine wpAny_bind (Mb.item (Z.rst j m (Nat.le_refl _) hm) ((D.ls m mem).2.2.2 m mem) hx fun h1 a1 s1 => wpAny_pure ?_)
      obtain ⟨out, ho, hs, hv⟩ := Z.to
      have ho1 : h1.get? TO = some (tupO out) := s1.extBut _ _ (D.it m mem).2.2.symm ho
      refine wpAny_bind (wpAny_seqItems ho1 rfl ?_)
      refine wpAny_bind (wpAny_updateSeq_tup ho1 (by omega) fun h2 ho2 s2 => ?_)
      refine wpAny_bind (wpAny_letGo (wpAny_pure ?_))
      refine ⟨rfl, j + 1, h2, hlt, rfl, rfl, Z.step D hm hx a1 s1 ho1 hs hv ho2 s2, fun k n hk hn => ?_⟩
      by_cases e : k = j
      · subst e
        rw [hm] at hn
        cases hn
        exact (Array.getElem?_eq_some_iff.mp hx).1
      · exact all k n (by omega) hn
  · rintro b s1 ⟨rfl, j, h', hj, hr, rfl, Z, all⟩
    have hj : j = ms.length := by
      rcases Nat.lt_or_ge j ms.length with q | q
      · have := congrArg List.length hr
        rw [List.length_drop, List.length_zipIdx, List.length_map, List.length_nil] at this
        omega
      · omega
    subst hj
    obtain ⟨m, hm, le⟩ := hi
    obtain ⟨k, hk, e⟩ := List.getElem_of_mem hm
    have := all k m hk (by rw [List.getElem?_eq_getElem hk, e])
    omega
end
/-- a member, as it is handed in -/
structure Zm where
  tp : Bool
  a : Addr
  xs : List V
def Zm.sq (K : PySem.W.Frag) (H : Hp) (m : Zm) : Prop := if m.tp = true then SqT K H m.a m.xs else SqL K H m.a m.xs
/-- side by side: each turn a new tuple -/
def Itn (K : PySem.W.Frag) (ms : List Zm) : It :=
  ⟨fun i H => ∀ m ∈ ms, i < m.xs.length ∧ m.sq K H, fun i H v H' => ∃ p ys, v = .ref p ∧ H p = none ∧ ys.length = ms.length ∧ (∀ (k : Nat) (m : Zm), ms[k]? = some m → ys[k]? = m.xs[i]?) ∧ H' = upd H p (.tup ys), fun i H => (∃ m ∈ ms, m.xs.length ≤ i) ∧ ∀ m ∈ ms, m.sq K H⟩
def ZIt (tp : Bool) (h : Heap) (it l : Addr) (i : Nat) : Prop := if tp = true then h.IsTupleIter it l i else h.IsListIter it l i
theorem ZIt.keep {tp : Bool} {h h' : Heap} {it l : Addr} {i : Nat} (a : ZIt tp h it l i) (k : ∀ o, h.get? it = some o → h'.get? it = some o) : ZIt tp h' it l i := by
  unfold ZIt at *
  split
  · rename_i e
    rw [if_pos e] at a
    obtain ⟨o, h1, h2⟩ := a
    exact ⟨o, k _ h1, h2⟩
  · rename_i e
    rw [if_neg e] at a
    obtain ⟨o, h1, h2⟩ := a
    exact ⟨o, k _ h1, h2⟩
theorem ZIt.obj {tp : Bool} {h : Heap} {it l : Addr} {i : Nat} (a : ZIt tp h it l i) : ∃ o, h.get? it = some o ∧ ∀ v, o.data ≠ .cell v := by
  unfold ZIt at a
  split at a
  · obtain ⟨o, h1, h2, h3⟩ := a
    exact ⟨o, h1, fun v z => by rw [h3] at z; cases z⟩
  · obtain ⟨o, h1, h2, h3⟩ := a
    exact ⟨o, h1, fun v z => by rw [h3] at z; cases z⟩
structure ZSt (z TI TO : Addr) (zs : List (Addr × Zm)) (f0 : Value) (i : Nat) (h : Heap) : Prop where
  hz : IsZip h z TI TO f0
  ti : h.get? TI = some (tupO (zs.map fun p => Value.ref p.1).toArray)
  to : ∃ out, h.get? TO = some (tupO out) ∧ out.size = zs.length
  its : ∀ p ∈ zs, ZIt p.2.tp h p.1 p.2.a i
structure Zpa (z TI TO : Addr) (zs : List (Addr × Zm)) : Prop where
  TIz : TI ≠ z
  TOz : TO ≠ z
  TITO : TI ≠ TO
  its : (zs.map (·.1)).Nodup
  it : ∀ p ∈ zs, p.1 ≠ z ∧ p.1 ≠ TI ∧ p.1 ≠ TO
  ls : ∀ p ∈ zs, p.2.a ≠ z ∧ p.2.a ≠ TI ∧ p.2.a ≠ TO ∧ ∀ q ∈ zs, p.2.a ≠ q.1
/-- what a member is in the heap -/
structure MbR (h : Heap) (p : Addr × Zm) (b : Mb) : Prop where
  it : b.it = p.1
  l : b.l = p.2.a
  tp : b.tp = p.2.tp
  vs : Vals p.2.xs b.xs.toList
  cn : if b.tp = true then h.IsTuple b.l b.xs else h.IsList b.l b.xs
theorem mbs_of {X : Cx} {pins : List (Addr × Obj)} {σ : St} {H : Hp} {s : Shared} (I : Inv X pins σ H s) : ∀ {zs : List (Addr × Zm)}, (∀ p ∈ zs, p.2.sq X.K H) → ∃ mbs, Paired (MbR s.heap) zs mbs
  | [], _ => ⟨[], .nil⟩
  | p :: zs, h => by
    obtain ⟨mbs, r⟩ := mbs_of I fun q hq => h q (List.mem_cons_of_mem _ hq)
    have hp := h p List.mem_cons_self
    unfold Zm.sq at hp
    split at hp
    · rename_i e
      obtain ⟨its, rv, ht, _⟩ := I.tuple hp
      exact ⟨⟨true, p.1, p.2.a, its.toArray⟩ :: mbs, .cons ⟨rfl, rfl, e.symm, rv, ht⟩ r⟩
    · rename_i e
      obtain ⟨its, rv, pl, _⟩ := I.list hp
      exact ⟨⟨false, p.1, p.2.a, its.toArray⟩ :: mbs, .cons ⟨rfl, rfl, (by cases h : p.2.tp with | true => exact absurd h e | false => rfl), rv, pl.isList⟩ r⟩
theorem mbs_its {h : Heap} : ∀ {zs : List (Addr × Zm)} {mbs : List Mb}, Paired (MbR h) zs mbs → mbs.map Mb.it = zs.map (·.1)
  | _, _, .nil => rfl
  | _, _, .cons r t => by rw [List.map_cons, List.map_cons, r.it, mbs_its t]
theorem Paired.ex {α β : Type} {F : α → β → Prop} {l1 : List α} {l2 : List β} (p : Paired F l1 l2) {y : β} (hy : y ∈ l2) : ∃ x ∈ l1, F x y := by
  induction p with
  | nil => cases hy
  | cons h _ ih =>
    rcases List.mem_cons.mp hy with rfl | hy
    · exact ⟨_, List.mem_cons_self, h⟩
    · obtain ⟨x, hx, e⟩ := ih hy
      exact ⟨x, List.mem_cons_of_mem _ hx, e⟩
theorem Zpa.zap {z TI TO : Addr} {zs : List (Addr × Zm)} {h : Heap} {mbs : List Mb} (D : Zpa z TI TO zs) (p : Paired (MbR h) zs mbs) : Zap z TI TO mbs := by
  refine ⟨D.TIz, D.TOz, D.TITO, by rw [mbs_its p]; exact D.its, fun m hm => ?_, fun m hm => ?_⟩
  · obtain ⟨q, hq, r⟩ := Paired.ex p hm
    rw [r.it]
    exact D.it q hq
  · obtain ⟨q, hq, r⟩ := Paired.ex p hm
    rw [r.l]
    refine ⟨(D.ls q hq).1, (D.ls q hq).2.1, (D.ls q hq).2.2.1, fun n hn => ?_⟩
    obtain ⟨q', hq', r'⟩ := Paired.ex p hn
    rw [r'.it]
    exact (D.ls q hq).2.2.2 q' hq'
theorem ZSt.zat {z TI TO : Addr} {zs : List (Addr × Zm)} {f0 : Value} {i : Nat} {h : Heap} {mbs : List Mb} (Z : ZSt z TI TO zs f0 i h) (p : Paired (MbR h) zs mbs) : ZAt z TI TO mbs f0 i h := by
  have e := mbs_its p
  have e2 : (mbs.map fun m => Value.ref m.it) = zs.map fun p => Value.ref p.1 := by
    have := congrArg (List.map Value.ref) e
    rw [List.map_map, List.map_map] at this
    exact this
  refine ⟨Z.hz, by rw [e2]; exact Z.ti, by rw [← p.length]; exact Z.to, fun m hm => ?_⟩
  obtain ⟨q, hq, r⟩ := Paired.ex p hm
  have a := Z.its q hq
  unfold Mb.at
  have cn := r.cn
  unfold ZIt at a
  rw [← r.tp] at a
  split
  · rename_i t
    rw [if_pos t] at a cn
    exact ⟨by rw [r.it, r.l]; exact a, cn⟩
  · rename_i t
    rw [if_neg t] at a cn
    exact ⟨by rw [r.it, r.l]; exact a, cn⟩
theorem ZAt.zst {z TI TO : Addr} {zs : List (Addr × Zm)} {f0 : Value} {i : Nat} {h h0 : Heap} {mbs : List Mb} (p : Paired (MbR h0) zs mbs) (Z : ZAt z TI TO mbs f0 i h) : ZSt z TI TO zs f0 i h := by
  have e := mbs_its p
  have e2 : (mbs.map fun m => Value.ref m.it) = zs.map fun p => Value.ref p.1 := by
    have := congrArg (List.map Value.ref) e
    rw [List.map_map, List.map_map] at this
    exact this
  refine ⟨Z.hz, by rw [← e2]; exact Z.ti, by rw [p.length]; exact Z.to, fun q hq => ?_⟩
  have : ∃ m ∈ mbs, MbR h0 q m := by
    clear e e2 Z
    induction p with
    | nil => cases hq
    | cons h _ ih =>
      rcases List.mem_cons.mp hq with rfl | hq
      · exact ⟨_, List.mem_cons_self, h⟩
      · obtain ⟨x, hx, e⟩ := ih hq
        exact ⟨x, List.mem_cons_of_mem _ hx, e⟩
  obtain ⟨m, hm, r⟩ := this
  have a := Z.ats m hm
  unfold Mb.at at a
  unfold ZIt
  rw [← r.tp, ← r.it, ← r.l]
  split
  · rename_i t
    rw [if_pos t] at a
    exact a.1
  · rename_i t
    rw [if_neg t] at a
    exact a.1
theorem vals_row {h : Heap} {i : Nat} {zs : List (Addr × Zm)} {mbs : List Mb} (p : Paired (MbR h) zs mbs) : ∀ {ys : List Value}, ys.length = mbs.length → (∀ (k : Nat) (m : Mb), mbs[k]? = some m → ys[k]? = m.xs[i]?) → (∀ q ∈ zs, i < q.2.xs.length) → Vals (zs.map fun q => (q.2.xs[i]?).getD (.int 0)) ys := by
  induction p with
  | nil =>
    intro ys hl _ _
    have : ys = [] := List.length_eq_zero_iff.mp hl
    subst this
    exact .nil
  | cons r t ih =>
    intro ys hl hv hi
    rename_i q b zs mbs
    cases ys with
    | nil => simp at hl
    | cons y ys =>
      have h0 := hv 0 b rfl
      have hx : q.2.xs[i]? = some (q.2.xs[i]'(hi q List.mem_cons_self)) := List.getElem?_eq_getElem _
      obtain ⟨u, hu, ru⟩ := r.vs.get hx
      have e : b.xs[i]? = some u := by rw [← hu, Array.getElem?_toList]
      rw [e] at h0
      have ey : y = u := Option.some.inj h0
      subst ey
      refine .cons ?_ (ih (by simpa using hl) (fun k m hm => hv (k + 1) m hm) fun q' hq' => hi q' (List.mem_cons_of_mem _ hq'))
      show RelV ((q.2.xs[i]?).getD (.int 0)) y
      rw [hx]
      exact ru
theorem turn_zipN {P : Program} {w : World} {K : PySem.W.Frag} {elts : List Expr} {k : Nat} {pos : Pos} {z TI TO : Addr} {zs : List (Addr × Zm)} (D : Zpa z TI TO zs) (ne : zs ≠ []) (small : zs.length ≤ 10) :
    Turn P w K (.Tuple elts k pos) (Itn K (zs.map (·.2))) (z :: TI :: TO :: zs.map (·.1)) z (fun i h => ZSt z TI TO zs .none i h) where
  mem := by simp
  obj := fun i h st c hc => by
    obtain ⟨hz, hTI, ⟨out, hTO, _⟩, its⟩ := st
    simp only [List.mem_cons] at hc
    rcases hc with rfl | rfl | rfl | hc
    · exact ⟨_, hz, fun v z => by cases z⟩
    · exact ⟨_, hTI, fun v z => by cases z⟩
    · exact ⟨_, hTO, fun v z => by cases z⟩
    · obtain ⟨p, hp, rfl⟩ := List.mem_map.mp hc
      exact (its p hp).obj
  keep := fun i h h' st kp => by
    obtain ⟨hz, hTI, ⟨out, hTO, hs⟩, its⟩ := st
    exact ⟨kp z (by simp) _ hz, kp TI (by simp) _ hTI, ⟨out, kp TO (by simp) _ hTO, hs⟩, fun p hp => (its p hp).keep fun o e => kp p.1 (by simp only [List.mem_cons]; exact .inr (.inr (.inr (List.mem_map_of_mem hp)))) o e⟩
  item := by
    intro X hP hw hK hc i pins s σ H E I hf st hg
    subst hP hw hK
    have hg' : ∀ p ∈ zs, i < p.2.xs.length ∧ p.2.sq X.K H := fun p hp => hg p.2 (List.mem_map_of_mem hp)
    obtain ⟨mbs, pr⟩ := mbs_of I fun p hp => (hg' p hp).2
    have D' := D.zap pr
    have Z' := st.zat pr
    have hT : s.TypeIs (.ref z) "zip" := ⟨_, st.hz, rfl⟩
    have hi : ∀ m ∈ mbs, i < m.xs.size := fun m hm => by
      obtain ⟨q, hq, r⟩ := Paired.ex pr hm
      have := r.vs.length
      rw [← Array.length_toList, ← this]
      exact (hg' q hq).1
    have ne' : mbs ≠ [] := fun e => by
      have := pr.length
      rw [e] at this
      exact ne (List.length_eq_zero_iff.mp this)
    unfold pyNext
    refine wpAny_bind (wpAny_attempt (wpAny_callSpecial?_slot (name := Str.ofString "__next__") hT F.slot_zip_next (wpAny_call_entry F.slot_zip_next hT F.entry_zip_next (zipN_item D' ne' Z' hi (by rw [← pr.length]; exact small) fun h' ys hl hv ZT hnew kp => wpAny_pure ?_) (F.args_zip_next_1 _))))
    have sub : ∀ c ∈ z :: TO :: zs.map (·.1), c ∈ z :: TI :: TO :: zs.map (·.1) := fun c hc => by
      simp only [List.mem_cons] at hc ⊢
      rcases hc with h | h | h
      · exact .inl h
      · exact .inr (.inr (.inl h))
      · exact .inr (.inr (.inr h))
    have kp' : ∀ c u, c ∉ z :: TO :: zs.map (·.1) → s.heap.get? c = some u → h'.get? c = some u := fun c u hc e => by
      simp only [List.mem_cons, not_or] at hc
      refine kp c u hc.1 hc.2.1 (fun m hm e2 => ?_) e
      obtain ⟨q, hq, r⟩ := Paired.ex pr hm
      rw [r.it] at e2
      exact hc.2.2 (e2 ▸ List.mem_map_of_mem hq)
    have vr := vals_row (i := i) pr hl hv fun q hq => (hg' q hq).1
    generalize hvs : (zs.map fun q => (q.2.xs[i]?).getD (.int 0)) = vs at vr
    have hlv : vs.length = zs.length := by rw [← hvs, List.length_map]
    have ZT' := ZT.zst pr
    have I1 : Inv X pins σ (upd H s.heap.objs.size (.tup vs)) { s with heap := h' } := I.drawn (tk := s.toks) (ch := z :: TO :: zs.map (·.1)) (fun c hc => hf c (sub c hc)) kp' (fun c hc => by
      obtain ⟨m1, m2, ⟨out, m3, _⟩, m4⟩ := ZT'
      simp only [List.mem_cons] at hc
      rcases hc with rfl | rfl | hc
      · exact ⟨_, m1⟩
      · exact ⟨_, m3⟩
      · obtain ⟨p, hp, rfl⟩ := List.mem_map.mp hc
        obtain ⟨o, e, _⟩ := (m4 p hp).obj
        exact ⟨o, e⟩) (Nat.le_refl _) ⟨by rw [hlv]; exact Nat.le_trans small (by decide), ys, vr, ⟨_, hnew, rfl, _, rfl⟩⟩
    refine ⟨.ref s.heap.objs.size, rfl, ?_⟩
    have hTn := I.hok.fresh (Nat.le_refl _)
    have neT : ∀ c ∈ z :: TI :: TO :: zs.map (·.1), c ≠ s.heap.objs.size := fun c hc e => by
      obtain ⟨hz, hTI, ⟨out, hTO, _⟩, its⟩ := st
      have : c < s.heap.objs.size := by
        simp only [List.mem_cons] at hc
        rcases hc with rfl | rfl | rfl | hc
        · exact Heap.lt_size hz
        · exact Heap.lt_size hTI
        · exact Heap.lt_size hTO
        · obtain ⟨p, hp, rfl⟩ := List.mem_map.mp hc
          obtain ⟨o, e, _⟩ := (its p hp).obj
          exact Heap.lt_size e
      rw [e] at this
      exact Nat.lt_irrefl _ this
    have hf1 : ∀ c ∈ z :: TI :: TO :: zs.map (·.1), FpOk X pins (upd H s.heap.objs.size (.tup vs)) c := fun c hc => ⟨by rw [upd_ne (neT c hc)]; exact (hf c hc).1, (hf c hc).2⟩
    refine wpAny_letOwnedTupleGo_zip (s := { s with heap := h' }) ZT'.hz fun h2 hz2 hs2 => ?_
    have I2 : Inv X pins σ (upd H s.heap.objs.size (.tup vs)) { s with heap := h2 } := I1.moved (tk := s.toks) (ch := [z]) (fun c hc => hf1 c (by have := List.mem_singleton.mp hc; subst this; simp)) fun b u hb e => hs2.extBut _ _ (by simpa using hb) e
    obtain ⟨m1, m2, ⟨out, m3, m3'⟩, m4⟩ := ZT'
    refine ⟨.ref s.heap.objs.size, _, I2, rfl, ⟨_, vs, rfl, hTn, by rw [hlv, List.length_map], fun k m hm => ?_, rfl⟩, ⟨hz2, hs2.extBut _ _ D.TIz m2, ⟨out, hs2.extBut _ _ D.TOz m3, m3'⟩, fun p hp => (m4 p hp).keep fun o e => hs2.extBut _ _ (D.it p hp).1 e⟩, fun c hc => (hf1 c hc).1⟩
    rw [List.getElem?_map] at hm
    cases hq : zs[k]? with
    | none => rw [hq] at hm; cases hm
    | some q =>
      rw [hq] at hm
      have em : q.2 = m := Option.some.inj hm
      subst em
      rw [← hvs, List.getElem?_map, hq]
      have := (hg' q (List.mem_of_getElem? hq)).1
      rw [List.getElem?_eq_getElem this]
      simp [this]
  done := by
    intro X hP hw hK hc i pins s σ H E I hf st hg
    subst hP hw hK
    obtain ⟨⟨m, hm, hle⟩, hg⟩ := hg
    obtain ⟨mbs, pr⟩ := mbs_of (zs := zs) I fun p hp => hg p.2 (List.mem_map_of_mem hp)
    have D' := D.zap pr
    have Z' := st.zat pr
    have hT : s.TypeIs (.ref z) "zip" := ⟨_, st.hz, rfl⟩
    have ne' : mbs ≠ [] := fun e => by
      have := pr.length
      rw [e] at this
      exact ne (List.length_eq_zero_iff.mp this)
    have hi : ∃ m ∈ mbs, m.xs.size ≤ i := by
      obtain ⟨q, hq, rfl⟩ := List.mem_map.mp hm
      obtain ⟨j, hj, e⟩ := List.getElem_of_mem hq
      obtain ⟨b, hb, r⟩ := Paired.get pr (by rw [List.getElem?_eq_getElem hj, e])
      refine ⟨b, List.mem_of_getElem? hb, ?_⟩
      have := r.vs.length
      rw [← Array.length_toList, ← this]
      exact hle
    unfold pyNext
    refine wpAny_bind (wpAny_attempt (wpAny_callSpecial?_slot (name := Str.ofString "__next__") hT F.slot_zip_next (wpAny_call_entry F.slot_zip_next hT F.entry_zip_next (zipN_end (I.ok.hd hc) D' ne' Z' hi (by rw [← pr.length]; exact small) fun h' e kp he => ?_) (F.args_zip_next_1 _))))
    obtain ⟨o, ho, hc⟩ := he
    refine wpAny_bind (wpAny_isInstance (T := "StopIteration") (b := true) ⟨o, ho, hc⟩ isSubtype_stop ?_)
    refine wpAny_pure ⟨rfl, ?_⟩
    refine I.moved (tk := s.toks) (ch := z :: TO :: zs.map (·.1)) (fun c hc => hf c ?_) fun c u hc e => ?_
    · simp only [List.mem_cons] at hc ⊢
      rcases hc with h | h | h
      · exact .inl h
      · exact .inr (.inr (.inl h))
      · exact .inr (.inr (.inr h))
    · simp only [List.mem_cons, not_or] at hc
      refine kp c u hc.1 hc.2.1 (fun m hm e2 => ?_) e
      obtain ⟨q, hq, r⟩ := Paired.ex pr hm
      rw [r.it] at e2
      exact hc.2.2 (e2 ▸ List.mem_map_of_mem hq)
  self := fun A i s Q E st h => wpAny_pyIter_zip st.hz h
end L2
namespace L2
open PySem PySem.Spec PyProof.Rows
theorem far_of {x n : Nat} (h : x < n) (k : Nat) : x ≠ n + k := by omega
abbrev itO (n : String) (l : Addr) : Obj := { cls := .type n, data := .fields #[.ref l, .int 0 0] }
abbrev zipO (TI TO : Addr) : Obj := { cls := .type "zip", data := .fields #[.none, .bool false, .bool false, .ref TI, .ref TO] }
abbrev zpA1 (h : Heap) (a : Obj) : Heap := h.push a
abbrev zpA2 (h : Heap) (a b : Obj) : Heap := (zpA1 h a).push b
abbrev zpA3 (h : Heap) (a b : Obj) : Heap := (zpA2 h a b).push (tupO #[.ref h.objs.size, .ref (zpA1 h a).objs.size])
abbrev zpA4 (h : Heap) (a b : Obj) : Heap := (zpA3 h a b).push (tupO #[.none, .none])
abbrev zpA5 (h : Heap) (a b : Obj) : Heap := (zpA4 h a b).push (zipO (zpA2 h a b).objs.size (zpA3 h a b).objs.size)
theorem meets_zip_tl (l1 l2 : Addr) (xs ys : Array Value) : Meets (Builtin.«zip.__new__» ⟨[.type "zip", .ref l1, .ref l2], []⟩) (fun _ R s => s.heap.IsTuple l1 xs ∧ s.heap.IsList l2 ys ∧
    R (.ok (.ret (.ref (zpA4 s.heap (itO "tuple_iterator" l1) (itO "list_iterator" l2)).objs.size))) { s with heap := zpA5 s.heap (itO "tuple_iterator" l1) (itO "list_iterator" l2) }) :=
  .of_wp fun prog w A R s h => by
    obtain ⟨hp, g, d, tk, os⟩ := s
    obtain ⟨hl1, hl2, h⟩ := h
    have hsub := sub_zip
    have hL1 : Heap.IsTuple (Shared.heap ⟨hp, g, d, tk, os⟩) l1 xs := hl1
    have hL2 : Heap.IsList (Shared.heap ⟨hp.push (itO "tuple_iterator" l1), g, d, tk, os⟩) l2 ys := Heap.IsList.push hl2 _
    wp_walk using wpAny_pyIter_tuple hL1, wpAny_pyIter_list hL2
    exact ⟨_, rfl, h⟩
section
variable {prog : Program} {w : World} {A : Around} {E : Value → Shared → Prop} {s : Shared}
theorem call_zip_tl {l1 l2 : Addr} {xs ys : Array Value} {Q : Value → Shared → Prop} (hl1 : s.heap.IsTuple l1 xs) (hl2 : s.heap.IsList l2 ys)
    (h : ∀ h', IsZip h' (s.heap.objs.size + 4) (s.heap.objs.size + 2) (s.heap.objs.size + 3) .none → h'.get? (s.heap.objs.size + 2) = some (tupO #[.ref s.heap.objs.size, .ref (s.heap.objs.size + 1)]) → h'.get? (s.heap.objs.size + 3) = some (tupO #[.none, .none]) →
      h'.IsTupleIter s.heap.objs.size l1 0 → h'.IsListIter (s.heap.objs.size + 1) l2 0 → (∀ c o, s.heap.get? c = some o → h'.get? c = some o) → Q (.ref (s.heap.objs.size + 4)) { s with heap := h' }) :
    wpAny (model prog w) A (call (.type "zip") [.ref l1, .ref l2]) Q E s := by
  refine callType_new F.called_zip (by decide) (F.typeCall_zip_2 _ _) (F.newCall_zip_2 _ _) (fun obj => F.args_object_init_3 obj _ _) F.entry_zip_new (meets_zip_tl l1 l2 xs ys) ⟨hl1, hl2, ?_⟩
  generalize ha : itO "tuple_iterator" l1 = oa
  generalize hb : itO "list_iterator" l2 = ob
  have fa : oa.isFreed = false := by rw [← ha]; rfl
  have fb : ob.isFreed = false := by rw [← hb]; rfl
  have z1 : (zpA1 s.heap oa).objs.size = s.heap.objs.size + 1 := Heap.size_push ..
  have z2 : (zpA2 s.heap oa ob).objs.size = s.heap.objs.size + 2 := by rw [Heap.size_push, z1]
  have z3 : (zpA3 s.heap oa ob).objs.size = s.heap.objs.size + 3 := by rw [Heap.size_push, z2]
  have z4 : (zpA4 s.heap oa ob).objs.size = s.heap.objs.size + 4 := by rw [Heap.size_push, z3]
  have g5 : (zpA5 s.heap oa ob).get? (zpA4 s.heap oa ob).objs.size = some _ := Heap.get?_push_size _ rfl
  have g4 : (zpA5 s.heap oa ob).get? (zpA3 s.heap oa ob).objs.size = some _ := Heap.get?_push_of_some _ (Heap.get?_push_size _ rfl)
  have g3 : (zpA5 s.heap oa ob).get? (zpA2 s.heap oa ob).objs.size = some _ := Heap.get?_push_of_some _ (Heap.get?_push_of_some _ (Heap.get?_push_size _ rfl))
  have g2 : (zpA5 s.heap oa ob).get? (zpA1 s.heap oa).objs.size = some _ := Heap.get?_push_of_some _ (Heap.get?_push_of_some _ (Heap.get?_push_of_some _ (Heap.get?_push_size _ fb)))
  have g1 : (zpA5 s.heap oa ob).get? s.heap.objs.size = some _ := Heap.get?_push_of_some _ (Heap.get?_push_of_some _ (Heap.get?_push_of_some _ (Heap.get?_push_of_some _ (Heap.get?_push_size _ fa))))
  show _ ∧ _
  rw [z2, z3, z4] at g5
  rw [z1, z2] at g3
  rw [z3] at g4
  rw [z1] at g2
  rw [z4]
  exact ⟨⟨_, g5, rfl⟩, h _ g5 g3 g4 ⟨_, g1, by subst ha; rfl, by subst ha; rfl⟩ ⟨_, g2, by subst hb; rfl, by subst hb; rfl⟩ fun c o x =>
    Heap.get?_push_of_some _ (Heap.get?_push_of_some _ (Heap.get?_push_of_some _ (Heap.get?_push_of_some _ (Heap.get?_push_of_some _ x))))⟩
end
section
variable {X : Cx}
def iZipT (K : PySem.W.Frag) (ta : TA) : TI := fun σ H R => ta σ H fun vs H1 => ∃ a b xs ys, vs = [.ref a, .ref b] ∧ SqT K H1 a xs ∧ SqL K H1 b ys ∧ R (Itn K [⟨true, a, xs⟩, ⟨false, b, ys⟩]) H1
theorem pi_zipT {e1 e2 : Expr} {elts : List Expr} {k : Nat} {tp : Pos} {ta : TA} {p pos : Pos} (hg : Gl X "zip") (hm : X.mg "zip" = none) (ha : PA X [e1, e2] ta) (hs : starEach [e1, e2] X.env = (false, eval e1 X.env) :: starEach [e2] X.env := by rfl)
    (hs2 : (backTo pos (starEach [e2] X.env)).any (·.1) = false := by rfl) : PI X (.Tuple elts k tp) (.Call (.Name "zip" p) [e1, e2] [] pos) (iZipT X.K ta) := by
  intro pins s σ H R I h
  refine Call_ (ld_blt I hg hm Boot.«zip» (PyProof.Rows.callWith_type1 (thn (ha pos pins s σ H _ I h) fun us s1 ⟨vs, H1, I1, r1, q1⟩ => ?_) hs hs2))
  obtain ⟨a, b, xs, ys, e, q1, q2, q⟩ := q1
  subst e
  obtain ⟨u, v, rfl, rx, ry⟩ := vals2 r1
  cases rx
  cases ry
  obtain ⟨its1, r1, p1, z1⟩ := I1.tuple q1
  obtain ⟨its2, r2, p2, z2⟩ := I1.list q2
  have lt1 : a < s1.heap.objs.size := by obtain ⟨_, e, _⟩ := p1; exact Heap.lt_size e
  have lt2 : b < s1.heap.objs.size := by obtain ⟨_, e, _⟩ := p2.isList; exact Heap.lt_size e
  refine call_zip_tl p1 p2.isList fun h' g1 g2 g3 g4 g5 kp => ?_
  refine wpAny_pyIter_zip g1 ?_
  generalize hn : s1.heap.objs.size = n at *
  have lt1' : (a : Nat) < n := lt1
  have lt2' : (b : Nat) < n := lt2
  have D : Zpa (n + 4) (n + 2) (n + 3) [(n, ⟨true, a, xs⟩), (n + 1, ⟨false, b, ys⟩)] := by
    refine ⟨?_, ?_, ?_, ?_, fun p hp => ?_, fun p hp => ?_⟩
    · show n + 2 ≠ n + 4; omega
    · show n + 3 ≠ n + 4; omega
    · show n + 2 ≠ n + 3; omega
    · simp
    · simp only [List.mem_cons, List.not_mem_nil, or_false] at hp
      rcases hp with rfl | rfl
      · refine ⟨?_, ?_, ?_⟩ <;> show n ≠ _ <;> omega
      · refine ⟨?_, ?_, ?_⟩ <;> show n + 1 ≠ _ <;> omega
    · simp only [List.mem_cons, List.not_mem_nil, or_false] at hp
      rcases hp with rfl | rfl
      · refine ⟨?_, ?_, ?_, fun q hq => ?_⟩
        · exact far_of lt1' 4
        · exact far_of lt1' 2
        · exact far_of lt1' 3
        · simp only [List.mem_cons, List.not_mem_nil, or_false] at hq
          rcases hq with rfl | rfl
          · exact Nat.ne_of_lt lt1'
          · exact Nat.ne_of_lt (Nat.lt_succ_of_lt lt1')
      · refine ⟨?_, ?_, ?_, fun q hq => ?_⟩
        · exact far_of lt2' 4
        · exact far_of lt2' 2
        · exact far_of lt2' 3
        · simp only [List.mem_cons, List.not_mem_nil, or_false] at hq
          rcases hq with rfl | rfl
          · exact Nat.ne_of_lt lt2'
          · exact Nat.ne_of_lt (Nat.lt_succ_of_lt lt2')
  refine ⟨n + 4, _, _, _, H1, rfl, I1.kept (t' := s1.toks) kp, turn_zipN D (by simp) (by simp), ⟨g1, g2, ⟨_, g3, rfl⟩, fun p hp => ?_⟩, fun c hc => ?_, q⟩
  · simp only [List.mem_cons, List.not_mem_nil, or_false] at hp
    rcases hp with rfl | rfl
    · exact g4
    · exact g5
  · have hc' : s1.heap.objs.size ≤ c := by
      rw [hn]
      simp only [List.map_cons, List.map_nil, List.mem_cons, List.not_mem_nil, or_false] at hc
      rcases hc with rfl | rfl | rfl | rfl | rfl
      · exact Nat.le_add_right _ _
      · exact Nat.le_add_right _ _
      · exact Nat.le_add_right _ _
      · exact Nat.le_refl _
      · exact Nat.le_add_right _ _
    exact I1.fpOk hc' (I1.hok.fresh hc')
end
end L2
namespace L2
open PySem PySem.Spec PyProof.Rows
section
variable {X : Cx}
end
section
variable {K : PySem.W.Frag} {H : Hp} {σ : St}
theorem Zm.sq.same {m : Zm} {H H' : Hp} (s : Same H H') (h : m.sq K H) : m.sq K H' := by
  unfold Zm.sq at *
  split
  · rename_i e
    rw [if_pos e] at h
    exact s.tup h
  · rename_i e
    rw [if_neg e] at h
    exact s.seq h
theorem Over.zipN {ms : List Zm} {n : Nat} (h : ∀ m ∈ ms, m.sq K H) (hn : ∀ m ∈ ms, n ≤ m.xs.length) (hs : ∃ m ∈ ms, m.xs.length = n) : Over (Itn K ms) H n (fun i H2 v => ∃ p ys, v = .ref p ∧ ys.length = ms.length ∧ (∀ (k : Nat) (m : Zm), ms[k]? = some m → ys[k]? = m.xs[i]?) ∧ H2 p = some (.tup ys)) where
  go := fun i H' s hi m hm => ⟨by have := hn m hm; omega, (h m hm).same s⟩
  stop := fun i H' s hi => ⟨by obtain ⟨m, hm, e⟩ := hs; exact ⟨m, hm, by omega⟩, fun m hm => (h m hm).same s⟩
  yld := fun i H' v H2 s hi => by
    rintro ⟨p, ys, rfl, hp, hl, hv, rfl⟩
    exact ⟨Same.upd hp, p, ys, rfl, hl, hv, upd_same⟩
theorem rd_izipT {tA : TA} {R : It → Hp → Prop} (h : tA σ H fun vs H1 => ∃ a b xs ys, vs = [.ref a, .ref b] ∧ SqT K H1 a xs ∧ SqL K H1 b ys ∧ R (Itn K [⟨true, a, xs⟩, ⟨false, b, ys⟩]) H1) : iZipT K tA σ H R := h
theorem Over.zipT {a b : Addr} {xs ys : List V} (h1 : SqT K H a xs) (h2 : SqL K H b ys) : Over (Itn K [⟨true, a, xs⟩, ⟨false, b, ys⟩]) H (min xs.length ys.length) (fun i H2 v => ∃ p x y, v = .ref p ∧ xs[i]? = some x ∧ ys[i]? = some y ∧ H2 p = some (.tup [x, y])) := by
  have O := Over.zipN (K := K) (H := H) (ms := [⟨true, a, xs⟩, ⟨false, b, ys⟩]) (n := min xs.length ys.length) (fun m hm => by
    simp only [List.mem_cons, List.not_mem_nil, or_false] at hm
    rcases hm with rfl | rfl
    · exact h1
    · exact h2) (fun m hm => by
    simp only [List.mem_cons, List.not_mem_nil, or_false] at hm
    rcases hm with rfl | rfl
    · exact Nat.min_le_left ..
    · exact Nat.min_le_right ..) (by
    rcases Nat.le_total xs.length ys.length with q | q
    · exact ⟨⟨true, a, xs⟩, by simp, (Nat.min_eq_left q).symm⟩
    · exact ⟨⟨false, b, ys⟩, by simp, (Nat.min_eq_right q).symm⟩)
  refine ⟨O.go, O.stop, fun i H' v H2 s hi y => ?_⟩
  obtain ⟨s2, p, zs, e, hl, hv, hp⟩ := O.yld i H' v H2 s hi y
  have v0 := hv 0 _ rfl
  have v1 := hv 1 _ rfl
  match zs, hl with
  | [x, y], _ => exact ⟨s2, p, x, y, e, v0.symm, v1.symm, hp⟩
end
end L2
namespace L2
open PySem PySem.Spec PyProof.Rows Fx
section
variable {X : Cx} {K : PySem.W.Frag} {H H' : Hp} {Q : VK} {σ : St} {v : V} {nx bk ct : St → Hp → Prop} {rt : VK}
def rRaise (E : XK) (C : Addr) (vs : List V) (H : Hp) : Prop := vs.length ≤ sizeLine ∧ E (.ref C) none H
theorem rd_raise {D : Ends} {E : XK} {C : Addr} {tA : TA} (h : tA σ H fun vs H1 => rRaise E C vs H1) : tRaise E C tA D σ H := h
theorem rRaise.one {E : XK} {C : Addr} (h : E (.ref C) none H) : rRaise E C [v] H := ⟨by show 1 ≤ sizeLine; decide, h⟩
theorem ixl {a : Addr} {xs : List V} {i : Int} (h : SqL K H a xs) (e : atI xs i = some v) (q : Q v H) : rIxL K (.ref a) (.int i) H Q := ⟨a, xs, i, v, rfl, rfl, h, e, q⟩
theorem ixt {a : Addr} {xs : List V} {i : Int} (h : SqT K H a xs) (e : atI xs i = some v) (q : Q v H) : rIxT K (.ref a) (.int i) H Q := ⟨a, xs, i, v, rfl, rfl, h, e, q⟩
theorem rd_izip {tA : TA} {R : It → Hp → Prop} (h : tA σ H fun vs H1 => ∃ a b xs ys, vs = [.ref a, .ref b] ∧ SqL K H1 a xs ∧ SqL K H1 b ys ∧ R (Itz K a b xs ys) H1) : iZip K tA σ H R := h
theorem rd_irng3 {tA : TA} {R : It → Hp → Prop} (h : tA σ H fun vs H1 => ∃ i j c : Int, vs = [.int i, .int j, .int c] ∧ ((c = 2 ∨ c = 3) ∧ -(2 ^ 60) ≤ i ∧ i < 2 ^ 60 ∧ -(2 ^ 60) ≤ j ∧ j < 2 ^ 60) ∧ R (Itr3 i c (Builtin.Range.rangeSize i j c).toNat) H1) : iRng3 tA σ H R := h
theorem rd_ex3 {i j k : Int} {P : Int → Int → Int → Prop} (q : P i j k) : ∃ a b c, [V.int i, V.int j, V.int k] = [V.int a, V.int b, V.int c] ∧ P a b c := ⟨i, j, k, rfl, q⟩
/-- a new list of both -/
theorem cat_use {l b : Addr} {xs zs : List V} (h1 : H l = some (.lst xs)) (h2 : H b = some (.lst zs)) (hl : xs.length + zs.length ≤ sizeLine) (q : ∀ p H', Same H H' → H p = none → H' p = some (.lst (xs ++ zs)) → Q (.ref p) H') : rCat (.ref l) (.ref b) H Q :=
  ⟨l, b, xs, zs, rfl, rfl, h1, h2, hl, fun p hp => q p _ (Same.upd hp) hp upd_same⟩
end
end L2
namespace Fx
theorem mul_eq (p q : Rat) : Rat.divInt (p.num * q.num) (p.den * q.den) = p * q := by
  refine (divInt_of (den_mul_ne p q) ?_).symm
  obtain ⟨t, b, ht, hb, b0, e⟩ := by_parts p
  obtain ⟨t', b', ht', hb', b0', e'⟩ := by_parts q
  push_cast
  rw [← ht, ← hb, ← ht', ← hb']
  grind
theorem div_eq {p q : Rat} (h : q ≠ 0) : p.den * q.num ≠ 0 ∧ Rat.divInt (p.num * q.den) (p.den * q.num) = p / q := by
  have hq : q.num ≠ 0 := fun z => h (Rat.num_eq_zero.mp z)
  have hp := dpos p
  have ne : (p.den : Int) * q.num ≠ 0 := by
    intro z
    rcases Int.mul_eq_zero.mp z with z | z
    · omega
    · exact hq z
  refine ⟨ne, (divInt_of ne ?_).symm⟩
  obtain ⟨t, b, ht, hb, b0, e⟩ := by_parts p
  obtain ⟨t', b', ht', hb', b0', e'⟩ := by_parts q
  push_cast
  rw [← ht, ← hb, ← ht', ← hb']
  have : t' ≠ 0 := by
    rw [ht']
    exact_mod_cast hq
  grind
theorem Bq.mul {m n : Nat} {p q : Rat} (hp : Bq m p) (hq : Bq n q) : Bq (m + n) (p * q) := by
  rw [← mul_eq]
  exact Bq.divInt (hp.1.mul hq.1) (hp.2.mul hq.2) (den_mul_ne p q)
theorem Bq.div {m n : Nat} {p q : Rat} (h : q ≠ 0) (hp : Bq m p) (hq : Bq n q) : Bq (m + n) (p / q) := by
  rw [← (div_eq h).2]
  exact Bq.divInt (hp.1.mul hq.2) (hp.2.mul hq.1) (div_eq h).1
def Ld.edges : Ld → List Int
  | .w p _ => [p]
  | .s a e _ => [a, e]
/-- it lies on a beam so long -/
def Ld.on (len : Int) (L : Ld) : Prop := ∀ e ∈ L.edges, 0 ≤ e ∧ e ≤ len
instance {len : Int} {L : Ld} : Decidable (L.on len) := by unfold Ld.on; infer_instance
end Fx
namespace L2
open PySem PySem.Spec PyProof.Rows Fx
/-- a list of loads stands at l -/
def IsLds (K : PySem.W.Frag) (CW CS : Addr) (H : Hp) (l : Addr) (Ls : List Ld) : Prop := ∃ vs, SqL K H l vs ∧ Paired (IsLd CW CS H) vs Ls
theorem IsLds.same' {K : PySem.W.Frag} {CW CS : Addr} {H H' : Hp} {l : Addr} {Ls : List Ld} (s : Same H H') (h : IsLds K CW CS H l Ls) : IsLds K CW CS H' l Ls := by
  obtain ⟨vs, h1, h2⟩ := h
  exact ⟨vs, s.seq h1, Paired.imp' (fun _ _ x => IsLd.same' s x) h2⟩
abbrev bF (len : Int) (p : Addr) : List (Str × V) := putF "rests" (.ref p) (putF "length" (.int len) [])
/-- a beam stands at v -/
def IsBm (CB : Addr) (H : Hp) (v : V) (len : Int) (rs : List Int) : Prop := ∃ a dx p, v = .ref a ∧ H a = some (.ins CB dx (bF len p)) ∧ H p = some (.tup (rs.map V.int))
theorem IsBm.same' {CB : Addr} {H H' : Hp} {v : V} {len : Int} {rs : List Int} (s : Same H H') (h : IsBm CB H v len rs) : IsBm CB H' v len rs := by
  obtain ⟨a, dx, p, e, h1, h2⟩ := h
  exact ⟨a, dx, p, e, s _ _ h1, s _ _ h2⟩
section
variable {CB : Addr} {K : PySem.W.Frag} {H : Hp} {v : V} {Q : VK} {len : Int} {rs : List Int}
theorem IsBm.length (h : IsBm CB H v len rs) (c : Cls K CB) (n : NoAttr K CB "length") (q : Q (.int len) H) : rFld K "length" v H Q := by
  obtain ⟨a, dx, p, e, h, _⟩ := h
  exact ⟨a, CB, dx, _, _, e, h, c, n, (by rw [lookup_putF, if_neg (by decide +kernel), lookup_putF, if_pos rfl]), q⟩
theorem IsBm.rests (h : IsBm CB H v len rs) (c : Cls K CB) (n : NoAttr K CB "rests") (q : ∀ p, H p = some (.tup (rs.map V.int)) → Q (.ref p) H) : rFld K "rests" v H Q := by
  obtain ⟨a, dx, p, e, h, h2⟩ := h
  exact ⟨a, CB, dx, _, _, e, h, c, n, (by rw [lookup_putF, if_pos rfl]), q p h2⟩
theorem IsBm.mth {m : Str} {t : Hp → Prop} (h : IsBm CB H v len rs) (q : t H) (n : m ≠ "rests" ∧ m ≠ "length" := by decide +kernel) : rMth CB m t v H := by
  obtain ⟨a, dx, p, e, h, h2⟩ := h
  exact ⟨a, dx, _, e, h, (by rw [lookup_putF, if_neg n.1, lookup_putF, if_neg n.2]; rfl), q⟩
end
end L2
namespace L2
open PySem PySem.Spec PyProof.Rows Fx
section
variable {K : PySem.W.Frag} {H H' : Hp} {Q : VK} {σ : St} {g : TG} {J : It} {pick : List (Option Nat)} {te : TE}
theorem paired_all {α β : Type} {R : α → β → Prop} {xs : List α} {ys : List β} (h : Paired (fun i y => ∃ x, xs[i]? = some x ∧ R x y) (List.range xs.length) ys) : Paired R xs ys := by
  have q := paired_filter (R := R) xs (fun _ => true) xs.length ys (Nat.le_refl _) (by
    rw [List.filter_eq_self.mpr]
    · exact h
    · intro i hi
      rw [List.getElem?_eq_getElem (List.mem_range.mp hi)]
      rfl)
  rw [List.take_length, List.filter_eq_self.mpr (fun _ _ => rfl)] at q
  exact q
/-- over things that stand for Ls -/
theorem rLc.for {α : Type} {vs : List V} {Ls : List α} {A : V → α → Prop} (pr : Paired A vs Ls) (O : Over J H vs.length (fun i _ x => vs[i]? = some x)) (hn : vs.length ≤ sizeLine) (S : St → Prop) (R : α → Hp → V → Prop) (mono : ∀ L H1 H2 y, NL H1 H2 → R L H1 y → R L H2 y) (h0 : S (pickSt pick σ))
    (hs : ∀ L x σ' H2 (C1 : St → V → Hp → Prop), L ∈ Ls → A x L → Same H H2 → S σ' → (∀ σ2 y H5, S σ2 → Same H2 H5 → R L H5 y → C1 σ2 y H5) → g x σ' H2 fun σ2 H3 => te σ2 H3 fun y H5 => C1 σ2 y H5)
    (hd : ∀ D ys H', Same H H' → H D = none → H' D = some (.lst ys) → Paired (fun L y => R L H' y) Ls ys → Q (.ref D) H') : rLc J pick g tYes te σ H Q := by
  refine rLc.over O hn S (fun i H' y => ∃ L, Ls[i]? = some L ∧ R L H' y) (fun _ => true) (fun i H1 H2 y n ⟨x, e, r⟩ => ⟨x, e, mono x H1 H2 y n r⟩) h0 (fun i x σ' H2 C1 C2 hi s2 hx hS c1 _ => ?_) (fun D ys H' s hD h p => ?_)
  · obtain ⟨L, hL, a⟩ := Paired.get pr hx
    exact hs L x σ' H2 C1 (List.mem_of_getElem? hL) a s2 hS fun σ2 y H5 a b c => c1 σ2 y H5 a b rfl ⟨L, hL, c⟩
  · rw [List.filter_eq_self.mpr (fun _ _ => rfl), pr.length] at p
    exact hd D ys H' s hD h (paired_all p)
theorem paired_ints {α : Type} {f : α → Int} : ∀ {Ls : List α} {ys : List V}, Paired (fun L y => y = .int (f L)) Ls ys → ys = (Ls.map f).map V.int
  | _, _, .nil => rfl
  | _, _, .cons h t => by
    rw [h, paired_ints t]
    rfl
theorem IsLds.len {CW CS : Addr} {vs : List V} {Ls : List Ld} (h : Paired (IsLd CW CS H) vs Ls) (hl : Ls.length ≤ 1000) : vs.length ≤ sizeLine := by
  rw [h.length]
  exact Nat.le_of_lt (small1000 hl)
end
end L2
/-! ### what the middle rest bears, as the program reckons it -/
namespace Fx
def mshare (a b c x : Int) : Int :=
  if x - a ≤ 0 then (x - a) * ((b - a) + 2 * (c - b)) * (b - a) * (c - b)
  else if x ≤ b then (x - a) * ((b - a) * (b - a) + 2 * (b - a) * (c - b) - (x - a) * (x - a)) * (c - b)
  else if c - x ≥ 0 then (c - x) * ((c - b) * (c - b) + 2 * (b - a) * (c - b) - (c - x) * (c - x)) * (b - a)
  else (c - x) * ((c - b) + 2 * (b - a)) * (b - a) * (c - b)
def scaleOf (a b c : Int) : Int := 2 * (b - a) * (b - a) * (c - b) * (c - b)
def pieceP (a b c k l r : Int) : Int := k * ((r - l) / 2) * (mshare a b c l + 4 * mshare a b c ((l + r) / 2) + mshare a b c r)
def cutsOf (a b c s e : Int) : List Int := [s] ++ ([a, b, c].filter fun r => decide (s < r) && decide (r < e)) ++ [e]
def piecesP (f : Int → Int → Int) : List Int → Int
  | x :: y :: r => f x y + piecesP f (y :: r)
  | _ => 0
theorem piecesP_snoc (f : Int → Int → Int) (y : Int) : ∀ (l : List Int) (x : Int), piecesP f (l ++ [x] ++ [y]) = piecesP f (l ++ [x]) + f x y
  | [], x => by simp [piecesP]
  | [z], x => by simp [piecesP, Int.add_assoc]
  | z :: z' :: l, x => by
    have := piecesP_snoc f y (z' :: l) x
    simp only [List.cons_append] at this ⊢
    rw [piecesP, this, piecesP, Int.add_assoc]
theorem piecesP_take (f : Int → Int → Int) {l : List Int} {i : Nat} {x y : Int} (h1 : l[i]? = some x) (h2 : l[i + 1]? = some y) : piecesP f (l.take (i + 2)) = piecesP f (l.take (i + 1)) + f x y := by
  have e1 : l.take (i + 1) = l.take i ++ [x] := by rw [List.take_succ, h1]; rfl
  have e2 : l.take (i + 2) = l.take i ++ [x] ++ [y] := by rw [show i + 2 = (i + 1) + 1 from rfl, List.take_succ, h2, e1]; rfl
  rw [e2, e1, piecesP_snoc]
def partOf (a b c : Int) : Ld → Int
  | .w p z => 6 * z * mshare a b c (2 * p)
  | .s s e k => piecesP (pieceP a b c k) (cutsOf a b c (2 * s) (2 * e))
def wOf (Ls : List Ld) : Int := (Ls.map Ld.total).sum
def tOf (x : Rat) (Ls : List Ld) : Rat := (Ls.map fun L => L.abt x).sum
def mOf (p q r : Int) (Ls : List Ld) : Rat := Rat.divInt (Ls.map (partOf (2 * p) (2 * q) (2 * r))).sum (6 * scaleOf (2 * p) (2 * q) (2 * r))
/-- what the rests bear -/
def bearsOf (rs : List Int) (Ls : List Ld) : List Rat := match rs with
  | [p, q] => [(wOf Ls : Rat) - tOf p Ls / ((q - p : Int) : Rat), tOf p Ls / ((q - p : Int) : Rat)]
  | [p, q, r] => [(wOf Ls : Rat) - mOf p q r Ls - (tOf p Ls - mOf p q r Ls * ((q - p : Int) : Rat)) / ((r - p : Int) : Rat), mOf p q r Ls, (tOf p Ls - mOf p q r Ls * ((q - p : Int) : Rat)) / ((r - p : Int) : Rat)]
  | _ => []
theorem bi_sum {n : Nat} : ∀ {l : List Int}, (∀ x ∈ l, Bi n x) → Bi (n + l.length + 1) l.sum
  | [], _ => by show Bi _ (0 : Int); unfold Bi; exact Nat.two_pow_pos _
  | x :: l, h => by
    have h1 := h x List.mem_cons_self
    have h2 := bi_sum fun y hy => h y (List.mem_cons_of_mem _ hy)
    rw [List.sum_cons, List.length_cons]
    exact ((h1.mono (by omega)).add h2).mono (by omega)
theorem bq_sum {n : Nat} : ∀ {l : List Rat}, (∀ x ∈ l, Bq n x) → Bq ((n + 1) * l.length + 1) l.sum
  | [], _ => ⟨by show Bi _ (0 : Int); unfold Bi; exact Nat.two_pow_pos _, by show Bi 1 (1 : Int); unfold Bi; decide⟩
  | x :: l, h => by
    have h1 := h x List.mem_cons_self
    have h2 := bq_sum fun y hy => h y (List.mem_cons_of_mem _ hy)
    rw [List.sum_cons, List.length_cons]
    refine (h1.add h2).mono ?_
    rw [Nat.mul_add]
    omega
theorem scale_ne {a b c : Int} (h1 : a < b) (h2 : b < c) : 6 * scaleOf (2 * a) (2 * b) (2 * c) ≠ 0 := by
  have p1 : 0 < (2 * b - 2 * a) := by omega
  have p2 : 0 < (2 * c - 2 * b) := by omega
  have := Int.mul_pos (Int.mul_pos (Int.mul_pos (Int.mul_pos (show (0 : Int) < 2 by decide) p1) p1) p2) p2
  unfold scaleOf
  omega
theorem int_ne {a b : Int} (h : a < b) : ((b - a : Int) : Rat) ≠ 0 := by
  have : b - a ≠ 0 := by omega
  exact_mod_cast this
end Fx
namespace L2
open PySem PySem.Spec PyProof.Rows Fx
/-- a list of fractions stands at l -/
def IsFrs (H : Hp) (l : Addr) (qs : List Rat) : Prop := ∃ vs, H l = some (.lst vs) ∧ Paired (IsFr H) vs qs
theorem IsFrs.same' {H H' : Hp} {l : Addr} {qs : List Rat} (s : Same H H') (h : IsFrs H l qs) : IsFrs H' l qs := by
  obtain ⟨vs, h1, h2⟩ := h
  exact ⟨vs, s _ _ h1, Paired.imp' (fun _ _ x => x.same s) h2⟩
end L2
namespace L2
open PySem PySem.Spec PyProof.Rows Fx
section
variable {X : Cx} {K : PySem.W.Frag} {H H1 H2 H' : Hp} {Q : VK} {σ : St} {v : V} {nx bk ct : St → Hp → Prop} {rt : VK}
theorem rd_bm {T : String} {r : V → List V → Hp → VK → Prop} {to : TE} {tA : TA} (h : to σ H fun x H1 => tyV K T x H1 ∧ tA σ H1 fun xs H2 => r x xs H2 Q) : tBM K T r to tA σ H Q := h
theorem rd_bm0 {T : String} {r : V → List V → Hp → VK → Prop} {to : TE} (h : to σ H fun x H1 => tyV K T x H1 ∧ r x [] H1 Q) : tBM0 K T r to σ H Q := h
theorem tyV_l {a : Addr} {xs : List V} (h : SqL K H a xs) : tyV K "list" (.ref a) H := .inl ⟨rfl, _, h⟩
/-- all but the thing at l is as it was -/
def But (l : Addr) (H H' : Hp) : Prop := ∀ b o, b ≠ l → H b = some o → H' b = some o
theorem Same.past {l : Addr} (s : Same H H1) (hl : H l = none) (k : But l H1 H2) : Same H H2 := fun b o e => k b o (ne_of_none e hl) (s b o e)
theorem But.upd {l : Addr} {o : HO} : But l H (L2.upd H l o) := fun b u n e => by
  rw [upd_ne n]
  exact e
theorem But.nl {l : Addr} {xs ys : List V} (h : H l = some (.lst xs)) (k : But l H H') : NL H H' := fun b o n e => k b o (by
  rintro rfl
  rw [h] at e
  exact n xs (Option.some.inj e).symm) e
theorem rAppend.use {l : Addr} {xs : List V} {y : V} (h : H l = some (.lst xs)) (hl : xs.length < 1000) (q : ∀ H', But l H H' → H' l = some (.lst (xs ++ [y])) → Q .non H') : rAppend (.ref l) [y] H Q :=
  ⟨l, xs, y, rfl, rfl, h, small1000 (by omega), q _ But.upd upd_same⟩
theorem rClear.use {l : Addr} {xs : List V} (h : H l = some (.lst xs)) (q : ∀ H', But l H H' → H' l = some (.lst []) → Q .non H') : rClear (.ref l) [] H Q := ⟨l, xs, rfl, rfl, h, q _ But.upd upd_same⟩
theorem rExtend.use {l b : Addr} {xs zs : List V} (h : H l = some (.lst xs)) (h2 : H b = some (.lst zs)) (hl : xs.length + zs.length ≤ 1000) (q : ∀ H', But l H H' → H' l = some (.lst (xs ++ zs)) → Q .non H') : rExtend (.ref l) [.ref b] H Q := ⟨l, b, xs, zs, rfl, rfl, h, h2, Nat.le_of_lt (small1000 hl), q _ But.upd upd_same⟩
theorem rd_gsub {to ti : TE} {t : TSet} {Q : St → Hp → Prop} (h : to σ H fun o H1 => ti σ H1 fun i H2 => t o i v H2 fun H3 => Q σ H3) : gSub to ti t v σ H Q := h
theorem rSetL.use {l : Addr} {xs : List V} {i : Int} {j : Nat} {Q : Hp → Prop} (h : H l = some (.lst xs)) (e : ixN xs.length i = some j) (q : ∀ H', But l H H' → H' l = some (.lst (xs.set j v)) → Q H') : rSetL (.ref l) (.int i) v H Q := ⟨l, xs, i, j, rfl, rfl, h, e, q _ But.upd upd_same⟩
end
/-! ### data -/
theorem Dat.int {K : PySem.W.Frag} {H : Hp} {k : Nat} {n : Int} : Dat K H k (.int n) (.int n) := by
  cases k with
  | zero => exact ⟨n, rfl, rfl⟩
  | succ k => exact .inl ⟨n, rfl, rfl⟩
def frD (q : Rat) : PyData := .tuple [.int q.num, .int q.den]
theorem Dat.fr {K : PySem.W.Frag} {H : Hp} {k : Nat} {v : V} {q : Rat} (h : IsFr H v q) : Dat K H (k + 1) v (frD q) := by
  obtain ⟨p, rfl, h⟩ := h
  exact .inr ⟨p, _, _, rfl, .cons Dat.int (.cons Dat.int .nil), .inl ⟨SqT.of h, rfl⟩⟩
theorem Dat.tup {K : PySem.W.Frag} {H : Hp} {k : Nat} {a : Addr} {xs : List V} {ds : List PyData} (h : SqT K H a xs) (p : Paired (Dat K H k) xs ds) : Dat K H (k + 1) (.ref a) (.tuple ds) := .inr ⟨a, xs, ds, rfl, p, .inl ⟨h, rfl⟩⟩
theorem rEqD.use {K : PySem.W.Frag} {H : Hp} {Q : VK} {x y : V} {d : PyData} (h1 : Dat K H 3 x d) (h2 : Dat K H 3 y d) (q : Q (.bl true) H) : rEqD K x y H Q := ⟨⟨d, h1, h2⟩, q⟩
end L2
/-! ### rows -/
namespace Fx
structure Ro where
  a : Int
  b : Int
  k : Int
def Ro.ld (r : Ro) : Ld := if r.a = r.b then .w r.a r.k else .s r.a r.b r.k
structure Ro.ok (len : Int) (n : Nat) (r : Ro) : Prop where
  lo : 0 ≤ r.a
  le : r.a ≤ r.b
  hi : r.b ≤ len
  bk : Bi n r.k
theorem Ro.on {len : Int} {n : Nat} {r : Ro} (h : r.ok len n) : r.ld.on len := by
  obtain ⟨h1, h2, h3, _⟩ := h
  unfold Ro.ld Ld.on
  split
  · intro e he
    simp only [Ld.edges, List.mem_cons, List.not_mem_nil, or_false] at he
    omega
  · intro e he
    simp only [Ld.edges, List.mem_cons, List.not_mem_nil, or_false] at he
    omega
theorem bi_le {n : Nat} {len x : Int} (h : Bi n len) (h0 : 0 ≤ x) (h1 : x ≤ len) : Bi n x := by
  unfold Bi at *
  omega
theorem Ro.bld {len : Int} {r : Ro} (h : r.ok len 300) (bl : Bi 300 len) : r.ld.b 300 := by
  obtain ⟨h1, h2, h3, h4⟩ := h
  have ba := bi_le bl h1 (Int.le_trans h2 h3)
  have bb := bi_le bl (Int.le_trans h1 h2) h3
  unfold Ro.ld
  split
  · exact ⟨ba, h4⟩
  · exact ⟨ba, bb, h4⟩
end Fx
namespace L2
open PySem PySem.Spec PyProof.Rows Fx
def IsRow (H : Hp) (v : V) (r : Ro) : Prop := ∃ p, v = .ref p ∧ H p = some (.tup [.int r.a, .int r.b, .int r.k])
theorem IsRow.nl {H H' : Hp} {v : V} {r : Ro} (n : NL H H') (h : IsRow H v r) : IsRow H' v r := by
  obtain ⟨p, e, h⟩ := h
  exact ⟨p, e, n _ _ (fun _ z => by cases z) h⟩
theorem IsRow.same' {H H' : Hp} {v : V} {r : Ro} (s : Same H H') (h : IsRow H v r) : IsRow H' v r := h.nl s.nl
def IsRows (H : Hp) (l : Addr) (rs : List Ro) : Prop := ∃ vs, H l = some (.lst vs) ∧ Paired (IsRow H) vs rs
theorem IsRows.same' {H H' : Hp} {l : Addr} {rs : List Ro} (s : Same H H') (h : IsRows H l rs) : IsRows H' l rs := by
  obtain ⟨vs, h1, h2⟩ := h
  exact ⟨vs, s _ _ h1, Paired.imp' (fun _ _ x => IsRow.same' s x) h2⟩
section
variable {K : PySem.W.Frag} {H : Hp} {Q : VK} {v : V} {r : Ro}
theorem IsRow.i0 (h : IsRow H v r) (k : Q (.int r.a) H) : rIxT K v (.int 0) H Q := by
  obtain ⟨p, rfl, h⟩ := h
  exact ⟨p, _, _, _, rfl, rfl, SqT.of h, rfl, k⟩
theorem IsRow.i1 (h : IsRow H v r) (k : Q (.int r.b) H) : rIxT K v (.int 1) H Q := by
  obtain ⟨p, rfl, h⟩ := h
  exact ⟨p, _, _, _, rfl, rfl, SqT.of h, rfl, k⟩
theorem IsRow.i2 (h : IsRow H v r) (k : Q (.int r.k) H) : rIxT K v (.int 2) H Q := by
  obtain ⟨p, rfl, h⟩ := h
  exact ⟨p, _, _, _, rfl, rfl, SqT.of h, rfl, k⟩
end
end L2
namespace L2
open PySem PySem.Spec PyProof.Rows Fx
section
variable {K : PySem.W.Frag} {H : Hp} {Q : VK}
theorem rRep.use {l : Addr} {k : Int} {xs : List V} (h : H l = some (.lst xs)) (hk : 0 ≤ k ∧ k ≤ 10) (hl : xs.length ≤ 100) (q : ∀ p H', Same H H' → H p = none → H' p = some (.lst (List.replicate k.toNat xs).flatten) → Q (.ref p) H') : rRep (.ref l) (.int k) H Q := by
  refine ⟨l, k, xs, rfl, rfl, h, by omega, by omega, ?_, fun p hp => q p _ (Same.upd hp) hp upd_same⟩
  have h1 : k.toNat ≤ 10 := by omega
  have := Nat.mul_le_mul hl h1
  exact Nat.le_of_lt (small1000 (by omega))
theorem Paired.rep {α β : Type} {F : α → β → Prop} {l1 : List α} {l2 : List β} (p : Paired F l1 l2) : ∀ k : Nat, Paired F (List.replicate k l1).flatten (List.replicate k l2).flatten
  | 0 => .nil
  | k + 1 => by
    rw [List.replicate_succ, List.replicate_succ, List.flatten_cons, List.flatten_cons]
    exact Paired.app p (Paired.rep p k)
end
end L2
/-! ### what rests bear, in the balance -/
namespace Fx
theorem tOf_cons (x : Rat) (L : Ld) (Ls : List Ld) : tOf x (L :: Ls) = L.abt x + tOf x Ls := by
  unfold tOf
  rw [List.map_cons, List.sum_cons]
/-- all bottoms in one -/
def dprod : List Rat → Int
  | [] => 1
  | q :: qs => q.den * dprod qs
theorem dprod_app : ∀ (l m : List Rat), dprod (l ++ m) = dprod l * dprod m
  | [], m => by simp [dprod]
  | q :: l, m => by
    rw [List.cons_append, dprod, dprod, dprod_app l m, Int.mul_assoc]
theorem dprod_pos : ∀ l : List Rat, 0 < dprod l
  | [] => by decide
  | q :: l => Int.mul_pos (dpos q) (dprod_pos l)
theorem den_dvd {q : Rat} : ∀ {l : List Rat}, q ∈ l → (q.den : Int) ∣ dprod l
  | p :: l, h => by
    rcases List.mem_cons.mp h with rfl | h
    · exact Int.dvd_mul_right _ _
    · exact Int.dvd_trans (den_dvd h) (Int.dvd_mul_left _ _)
/-- a part of the common bottom -/
def sh (cm : Int) (q : Rat) : Int := q.num * (cm / q.den)
theorem sh_eq {cm : Int} {q : Rat} (h : (q.den : Int) ∣ cm) : (sh cm q : Rat) = q * cm := by
  obtain ⟨k, rfl⟩ := h
  unfold sh
  have hd := dpos q
  rw [Int.mul_ediv_cancel_left k (by omega)]
  obtain ⟨t, b, ht, hb, b0, e⟩ := by_parts q
  push_cast
  rw [← ht, ← hb]
  grind
end Fx
namespace L2
open PySem PySem.Spec PyProof.Rows Fx
theorem gtup2 {K : PySem.W.Frag} {H : Hp} {σ : St} {t : TGs} {Q : St → Hp → Prop} {p : Addr} {x y : V} (h : H p = some (.tup [x, y])) (k : t [x, y] σ H Q) : gTup K 2 t (.ref p) σ H Q := ⟨p, _, rfl, SqT.of h, rfl, k⟩
end L2
/-! ### what turns a beam at a place -/
namespace Fx
theorem bq_zero : Bq 64 ((0 : Int) : Rat) := ⟨by show Bi 64 (0 : Int); unfold Bi; decide, by show Bi 64 (1 : Int); unfold Bi; decide⟩
/-- what the rests turn, from the left and from the right -/
def dotL (x : Rat) : List Int → List Rat → Rat
  | r :: rs, q :: qs => q * ps (x - r) + dotL x rs qs
  | _, _ => 0
def lSum (x : Rat) (Ls : List Ld) : Rat := (Ls.map fun L => L.left x).sum
def turnOf (rs : List Int) (qs : List Rat) (Ls : List Ld) (x : Rat) : Rat := dotL x rs qs - lSum x Ls
theorem dotL_snoc (x : Rat) {r : Int} {q : Rat} : ∀ {rs : List Int} {qs : List Rat}, rs.length = qs.length → dotL x (rs ++ [r]) (qs ++ [q]) = dotL x rs qs + q * ps (x - r)
  | [], [], _ => by
    simp only [List.nil_append, dotL]
    grind
  | a :: rs, b :: qs, h => by
    simp only [List.cons_append, dotL]
    rw [dotL_snoc x (by simpa using h)]
    grind
  | [], _ :: _, h => by simp at h
  | _ :: _, [], h => by simp at h
theorem lt_rat (p q : Rat) : decide (p.num * q.den < q.num * p.den) = decide (p < q) := decide_eq_decide.mpr (Rat.lt_iff p q).symm
open PySem PySem.Spec PyProof.Rows in
theorem lsum_scaled {x : Rat} : ∀ {Ls : List Ld} {ns : List Int}, Paired (fun (L : Ld) (n : Int) => (n : Rat) = L.left x * (2 * x.den * x.den)) Ls ns → ((ns.sum : Int) : Rat) = lSum x Ls * (2 * x.den * x.den)
  | _, _, .nil => by
    show ((0 : Int) : Rat) = 0 * _
    push_cast
    grind
  | L :: Ls, n :: ns, .cons h t => by
    have e := lsum_scaled t
    have e2 : lSum x (L :: Ls) = L.left x + lSum x Ls := by unfold lSum; rw [List.map_cons, List.sum_cons]
    rw [e2, List.sum_cons]
    push_cast
    rw [h, e]
    grind
end Fx
/-! ### both sides of a place, in whole numbers -/
namespace Fx
theorem lt_or_le (x y : Rat) : x < y ∨ y ≤ x := by grind
def mx (y : Int) : Int := if y > 0 then y else 0
theorem place_in {len t b : Int} (hb : 0 < b) (h0 : 0 ≤ t) (h1 : t ≤ len * b) : 0 ≤ Rat.divInt t b ∧ Rat.divInt t b ≤ (len : Rat) := by
  have hb' : (0 : Rat) < (b : Rat) := by exact_mod_cast hb
  have e : Rat.divInt t b * b = t := by
    rw [Rat.divInt_eq_div]
    grind
  have h0' : (0 : Rat) ≤ (t : Rat) := by exact_mod_cast h0
  have h1' : (t : Rat) ≤ (len : Rat) * b := by exact_mod_cast h1
  generalize Rat.divInt t b = x at *
  rw [← e] at h0' h1'
  constructor
  · rcases lt_or_le x 0 with q | q
    · have := Rat.mul_pos (show 0 < -x by grind) hb'
      grind
    · exact q
  · rcases lt_or_le (len : Rat) x with q | q
    · have := Rat.mul_pos (show 0 < x - len by grind) hb'
      grind
    · exact q
end Fx
namespace Fx
theorem bi_zero (n : Nat) : Bi n (0 : Int) := by unfold Bi; exact Nat.two_pow_pos _
end Fx
namespace L2
open PySem PySem.Spec PyProof.Rows
theorem divOk_comp {X : Cx} (hS : X.base.NoSeer) (hT : X.prog.given.tree = none) (hr : Room 34 X.A) (hst : X.stack = X.env :: X.outer) (hg : X.env.scope.isGenerator = false) (hc : X.env.scope.isCoroutine = false) (N' : List Str) (sc : Scope) (C : Addr) (ex : List Addr) (s₂ : Shared) (H₂ : Hp) : DivOk (X.comp N' sc C ex s₂ H₂) := fun pins σ H s I => by
  have hd := hr.dp
  refine PylongRoom.of I.nolimit ?_ ?_
  · show X.A.depth + 100 < 1000
    have e : recursionLimit = 1000 := rfl
    omega
  · exact SeerAt.of (env := X.env) (l := X.outer) (hS.keeps I.bk) hT (by rw [I.ok.frames]; show some X.stack = some (X.env :: X.outer); rw [hst]) hg hc I.ok.blt I.ok.glob
theorem ix_tupK {X : Cx} {K : PySem.W.Frag} (h : X.K = K) : IxR X (rIxT K) := h ▸ ix_tup
theorem ix_listK {X : Cx} {K : PySem.W.Frag} (h : X.K = K) : IxR X (rIxL K) := h ▸ ix_list
end L2
/-! ### list(reversed(a list)); parts of a list; is None -/
namespace L2
open PySem PySem.Spec PyProof.Rows
section
variable {prog : Program} {w : World} {A : Around} {E : Value → Shared → Prop} {s : Shared}
end
section
variable {X : Cx} {K : PySem.W.Frag} {H H' : Hp} {Q : VK} {σ : St} {nx bk ct : St → Hp → Prop} {rt : VK}
/-! parts of a list -/
theorem rd_sl {r : V → Option Int → Option Int → Hp → VK → Prop} {te : TE} {tl th : TO} (h : te σ H fun x H1 => tl σ H1 fun l H2 => th σ H2 fun u H3 => r x l u H3 Q) : tSl r te tl th σ H Q := h
theorem rd_nopart {Q : Option Int → Hp → Prop} (h : Q none H) : tNoPart σ H Q := h
theorem rd_part {t : TE} {Q : Option Int → Hp → Prop} (h : t σ H fun x H1 => ∃ i, x = .int i ∧ Q (some i) H1) : tPart t σ H Q := h
theorem rd_exi {i : Int} {P : Int → Prop} (q : P i) : ∃ j, V.int i = V.int j ∧ P j := ⟨i, rfl, q⟩
theorem cut_take {xs : List V} {n : Int} (h : 0 ≤ n) : cutV xs none (some n) = xs.take n.toNat := by
  have e : HT.sIx xs.length xs.length (some n) = min n.toNat xs.length := by
    show (if n < 0 then (n + (xs.length : Int)).toNat else min n.toNat xs.length) = _
    rw [if_neg (by omega)]
  unfold cutV
  rw [e]
  show (xs.drop 0).take (min n.toNat xs.length - 0) = _
  rw [List.drop_zero, Nat.sub_zero]
  by_cases c : n.toNat ≤ xs.length
  · rw [Nat.min_eq_left c]
  · rw [Nat.min_eq_right (by omega), List.take_length, List.take_of_length_le (by omega)]
theorem cut_drop {xs : List V} {n : Int} (h : 0 ≤ n) (h2 : n.toNat ≤ xs.length) : cutV xs (some n) none = xs.drop n.toNat := by
  have e : HT.sIx xs.length 0 (some n) = n.toNat := by
    show (if n < 0 then (n + (xs.length : Int)).toNat else min n.toNat xs.length) = _
    rw [if_neg (by omega), Nat.min_eq_left h2]
  unfold cutV
  rw [e]
  show (xs.drop n.toNat).take (xs.length - n.toNat) = _
  rw [List.take_of_length_le (by rw [List.length_drop]; exact Nat.le_refl _)]
theorem sl_take {a : Addr} {xs : List V} {n : Int} (h : SqL K H a xs) (h0 : 0 ≤ n) (q : ∀ l H', Same H H' → H l = none → H' l = some (.lst (xs.take n.toNat)) → Q (.ref l) H') : rSlL K (.ref a) none (some n) H Q := ⟨a, xs, rfl, h, fun l hl => by
  rw [cut_take h0]
  exact q l _ (Same.upd hl) hl upd_same⟩
theorem sl_drop {a : Addr} {xs : List V} {n : Int} (h : SqL K H a xs) (h0 : 0 ≤ n) (h2 : n.toNat ≤ xs.length) (q : ∀ l H', Same H H' → H l = none → H' l = some (.lst (xs.drop n.toNat)) → Q (.ref l) H') : rSlL K (.ref a) (some n) none H Q := ⟨a, xs, rfl, h, fun l hl => by
  rw [cut_drop h0 h2]
  exact q l _ (Same.upd hl) hl upd_same⟩
/-! is None -/
/-! joining both ways of an if -/
theorem stop_if {c : TT} {t u v : TS} (h : tSeq (tIfS c t u) v ⟨nx, rt, bk, ct⟩ σ H) : tSeq (tIfS c t u) v ⟨nx, rt, bk, ct⟩ σ H := h
theorem seq_join {t u : TS} (J : St → Hp → Prop) (h1 : ∀ nx' : St → Hp → Prop, (∀ σ' H', J σ' H' → nx' σ' H') → t ⟨nx', rt, bk, ct⟩ σ H) (h2 : ∀ σ' H', J σ' H' → u ⟨nx, rt, bk, ct⟩ σ' H') : tSeq t u ⟨nx, rt, bk, ct⟩ σ H := h1 _ h2
end
end L2
/-! ### the places of a set's table rise, so a walk meets each element once -/
namespace St
open PySem
def Up (xs : Array Nat) : Prop := xs.toList.Pairwise (· < ·)
theorem Up.lt {xs : Array Nat} (h : Up xs) {i k : Nat} {a b : Nat} (hi : xs[i]? = some a) (hk : xs[k]? = some b) (hik : i < k) : a < b := by
  unfold Up at h
  rw [List.pairwise_iff_getElem] at h
  have hi' := Array.getElem?_eq_some_iff.mp hi
  have hk' := Array.getElem?_eq_some_iff.mp hk
  obtain ⟨h1, rfl⟩ := hi'
  obtain ⟨h2, rfl⟩ := hk'
  have := h i k (by simpa using h1) (by simpa using h2) hik
  simpa using this
theorem go_spec {xs : Array Nat} (h : Up xs) (j : Nat) : ∀ (fuel lo hi : Nat), hi - lo ≤ fuel → lo ≤ hi → hi ≤ xs.size → (∀ k a, k < lo → xs[k]? = some a → a < j) → (∀ k a, hi ≤ k → xs[k]? = some a → j ≤ a) →
    ∃ i, SetTable.below.go xs j fuel lo hi = i ∧ i ≤ xs.size ∧ (∀ k a, k < i → xs[k]? = some a → a < j) ∧ (∀ k a, i ≤ k → xs[k]? = some a → j ≤ a)
  | 0, lo, hi, hf, h1, h2, h3, h4 => by
    have e : lo = hi := by omega
    subst e
    exact ⟨lo, rfl, h2, h3, h4⟩
  | fuel + 1, lo, hi, hf, h1, h2, h3, h4 => by
    unfold SetTable.below.go
    by_cases c : lo < hi
    · rw [if_pos c]
      dsimp only
      have hm : (lo + hi) / 2 < xs.size := by omega
      have em : xs[(lo + hi) / 2]? = some xs[(lo + hi) / 2] := Array.getElem?_eq_getElem hm
      have eD : xs.getD ((lo + hi) / 2) j = xs[(lo + hi) / 2] := by
        rw [Array.getD_eq_getD_getElem?, em]
        rfl
      rw [eD]
      by_cases d : xs[(lo + hi) / 2] < j
      · rw [if_pos d]
        refine go_spec h j fuel ((lo + hi) / 2 + 1) hi (by omega) (by omega) h2 (fun k a hk ha => ?_) h4
        by_cases e : k = (lo + hi) / 2
        · subst e
          rw [em] at ha
          cases ha
          exact d
        · have := h.lt ha em (by omega)
          omega
      · rw [if_neg d]
        refine go_spec h j fuel lo ((lo + hi) / 2) (by omega) (by omega) (by omega) h3 (fun k a hk ha => ?_)
        by_cases e : k = (lo + hi) / 2
        · subst e
          rw [em] at ha
          cases ha
          omega
        · have := h.lt em ha (by omega)
          omega
    · rw [if_neg c]
      have e : lo = hi := by omega
      subst e
      exact ⟨lo, rfl, h2, h3, h4⟩
theorem below_spec {xs : Array Nat} (h : Up xs) (j : Nat) : SetTable.below xs j ≤ xs.size ∧ (∀ k a, k < SetTable.below xs j → xs[k]? = some a → a < j) ∧ (∀ k a, SetTable.below xs j ≤ k → xs[k]? = some a → j ≤ a) := by
  obtain ⟨i, e, h1, h2, h3⟩ := go_spec h j xs.size 0 xs.size (by omega) (by omega) (Nat.le_refl _) (fun k a hk => by omega) (fun k a hk ha => by
    have := Array.getElem?_eq_some_iff.mp ha
    obtain ⟨q, _⟩ := this
    omega)
  have e' : SetTable.below xs j = i := e
  rw [e']
  exact ⟨h1, h2, h3⟩
/-- the next place behind the i-th -/
theorem below_next {xs : Array Nat} (h : Up xs) {i j : Nat} (hi : xs[i]? = some j) : SetTable.below xs (j + 1) = i + 1 := by
  obtain ⟨h1, h2, h3⟩ := below_spec h (j + 1)
  have li : i < xs.size := (Array.getElem?_eq_some_iff.mp hi).1
  have a1 : ¬ SetTable.below xs (j + 1) ≤ i := fun c => by
    have := h3 i j c hi
    omega
  have a2 : ¬ i + 1 < SetTable.below xs (j + 1) := fun c => by
    have hl : i + 1 < xs.size := by omega
    have e : xs[i + 1]? = some xs[i + 1] := Array.getElem?_eq_getElem hl
    have q1 := h2 (i + 1) _ c e
    have q2 := h.lt hi e (by omega)
    omega
  omega
theorem below_zero {xs : Array Nat} (h : Up xs) : SetTable.below xs 0 = 0 := by
  obtain ⟨h1, h2, h3⟩ := below_spec h 0
  by_cases c : 0 < SetTable.below xs 0
  · have hl : 0 < xs.size := by omega
    have e : xs[0]? = some xs[0] := Array.getElem?_eq_getElem hl
    have := h2 0 _ c e
    omega
  · omega
theorem insert_up {xs : Array Nat} (h : Up xs) {j : Nat} (hj : xs[SetTable.below xs j]? ≠ some j) : Up (SetTable.insertAt xs (SetTable.below xs j) j) := by
  obtain ⟨h1, h2, h3⟩ := below_spec h j
  generalize SetTable.below xs j = p at *
  unfold Up SetTable.insertAt
  have e : ((xs.extract 0 p).push j ++ xs.extract p xs.size).toList = xs.toList.take p ++ (j :: xs.toList.drop p) := by
    rw [Array.toList_append, Array.toList_push, Array.toList_extract, Array.toList_extract, List.append_assoc]
    simp [List.extract_eq_take_drop, List.take_of_length_le]
  rw [e]
  unfold Up at h
  rw [List.pairwise_append]
  refine ⟨h.sublist (List.take_sublist _ _), ?_, ?_⟩
  · rw [List.pairwise_cons]
    refine ⟨fun a ha => ?_, h.sublist (List.drop_sublist _ _)⟩
    obtain ⟨k, hk⟩ := List.mem_iff_getElem?.mp ha
    rw [List.getElem?_drop, Array.getElem?_toList] at hk
    have q := h3 (p + k) a (by omega) hk
    by_cases c : a = j
    · subst c
      exfalso
      by_cases k0 : k = 0
      · subst k0
        exact hj hk
      · have lp : p < xs.size := by
          have := (Array.getElem?_eq_some_iff.mp hk).1
          omega
        have ep : xs[p]? = some xs[p] := Array.getElem?_eq_getElem lp
        have q2 := h3 p _ (Nat.le_refl _) ep
        have q3 := Up.lt h ep hk (by omega)
        omega
    · omega
  · intro a ha b hb
    obtain ⟨k, hk⟩ := List.mem_iff_getElem?.mp ha
    have ka : k < p := by
      have := (List.getElem?_eq_some_iff.mp hk).1
      rw [List.length_take] at this
      omega
    rw [List.getElem?_take, if_pos ka, Array.getElem?_toList] at hk
    have q := h2 k a ka hk
    rcases List.mem_cons.mp hb with rfl | hb
    · exact q
    · obtain ⟨m, hm⟩ := List.mem_iff_getElem?.mp hb
      rw [List.getElem?_drop, Array.getElem?_toList] at hm
      have := h3 (p + m) b (by omega) hm
      omega
/-- no element was ever taken out, and where nothing is hidden the places rise -/
structure Tb (t : SetTable) : Prop where
  nd : t.dummies = #[]
  up : t.plain = true → Up t.place
theorem slot_empty {t : SetTable} (h : t.dummies = #[]) (j : Nat) : t.slot j ≠ .dummy := by
  unfold SetTable.slot
  dsimp only
  split
  · exact fun z => by cases z
  · have e : SetTable.has t.dummies j = false := by
      rw [h]
      unfold SetTable.has
      simp
    rw [e]
    exact fun z => by cases z
theorem probe_free {t : SetTable} (h : t.dummies = #[]) (f : Nat → Int) (x : Int) : ∀ (fuel : Nat) (p : SetTable.Probe), p.dummy = none → ∀ j d, SetTable.probe.go t f x fuel p = some (.empty j d) → d = none ∧ t.place[SetTable.below t.place j]? ≠ some j
  | 0, p, hp, j, d, e => by
    unfold SetTable.probe.go at e
    cases e
  | fuel + 1, p, hp, j, d, e => by
    unfold SetTable.probe.go at e
    have adv : (t.advance p).dummy = none := by
      unfold SetTable.advance
      split
      · exact hp
      · exact hp
    split at e
    · rename_i hs
      cases e
      refine ⟨hp, fun z => ?_⟩
      unfold SetTable.slot at hs
      dsimp only at hs
      rw [z] at hs
      simp at hs
    · rename_i hs
      exact absurd hs (slot_empty h _)
    · split at e
      · cases e
      · exact probe_free h f x fuel _ adv j d e
theorem Tb.lay {t : SetTable} (h : Tb t) (es : Array (Int × Value)) (x : Int) (v : Value) : Tb (layNew t es x v).2.1 ∧ ((layNew t es x v).2.1).led = t.led := by
  unfold layNew
  split
  · rename_i slot wd hs
    have hfree : t.place[SetTable.below t.place slot]? ≠ some slot := by
      unfold SetTable.freeSlot SetTable.probe at hs
      split at hs
      · rename_i j d he
        obtain ⟨e1, e2⟩ := probe_free h.nd _ _ _ _ rfl _ _ he
        subst e1
        cases hs
        exact e2
      · cases hs
    have hput : Tb (t.put slot).1 ∧ (t.put slot).1.led = t.led := by
      unfold SetTable.put
      dsimp only
      have e : SetTable.has t.dummies slot = false := by
        rw [h.nd]
        unfold SetTable.has
        simp
      rw [e]
      exact ⟨⟨h.nd, fun hp => insert_up (h.up hp) hfree⟩, rfl⟩
    dsimp only
    unfold SetTable.orStandIn
    split
    · exact hput
    · exact ⟨⟨rfl, fun z => by cases z⟩, hput.2⟩
  · exact ⟨⟨rfl, fun z => by cases z⟩, rfl⟩
theorem fm_up {α : Type} (f : Nat → Option (Nat × α)) (hf : ∀ j y, f j = some y → y.1 = j) : ∀ n : Nat, (((List.range n).filterMap f).map (·.1)).Pairwise (· < ·) ∧ ∀ x ∈ ((List.range n).filterMap f).map (·.1), x < n
  | 0 => ⟨by simp, by simp⟩
  | n + 1 => by
    obtain ⟨h1, h2⟩ := fm_up f hf n
    rw [List.range_succ, List.filterMap_append, List.map_append]
    cases e : f n with
    | none =>
      have e2 : List.filterMap f [n] = [] := by simp [e]
      rw [e2]
      refine ⟨by simpa using h1, fun x hx => ?_⟩
      have := h2 x (by simpa using hx)
      omega
    | some y =>
      have e2 : List.filterMap f [n] = [y] := by simp [e]
      have ey := hf n y e
      rw [e2]
      refine ⟨?_, fun x hx => ?_⟩
      · rw [List.pairwise_append]
        refine ⟨h1, by simp, fun a ha b hb => ?_⟩
        have := h2 a ha
        simp at hb
        omega
      · rcases List.mem_append.mp hx with hx | hx
        · have := h2 x hx
          omega
        · simp at hx
          omega
theorem Tb.relay {t : SetTable} (h : Tb t) (es : Array (Int × Value)) (n : Nat) : Tb (relayAll t es n).2.1 ∧ ((relayAll t es n).2.1).led = t.led := by
  unfold relayAll
  split
  · rename_i t' order hr
    dsimp only
    split
    · unfold SetTable.relaid SetTable.laid at hr
      simp only [bind, Option.bind, pure] at hr
      split at hr
      · cases hr
      · rename_i owner ho
        cases hr
        refine ⟨⟨rfl, fun _ => ?_⟩, rfl⟩
        unfold Up
        simp only
        exact (fm_up _ (fun j y e => by
          cases hq : owner.getD j none with
          | none => rw [hq] at e; cases e
          | some z => rw [hq] at e; cases e; rfl) _).1
    · exact ⟨⟨rfl, fun z => by cases z⟩, rfl⟩
  · exact ⟨⟨rfl, fun z => by cases z⟩, rfl⟩
end St
/-! ### a set of ints, with what a walk over it needs -/
namespace St
open PySem PySem.Spec PyProof.Rows
def iv : Value → Int
  | .int n _ => n
  | _ => 0
/-- a set of ints at a -/
structure At (prog : Program) (w : World) (h : Heap) (a : Addr) (ks : List Int) (es : Array (Int × Value)) (ep : Nat) (t : SetTable) : Prop where
  obj : ∃ o, h.get? a = some o ∧ o.ExactSet ∧ o.data = .set es ep t
  el : ElemsOf (intKind prog w) es.toList
  perm : (es.toList.map fun e => iv e.2).Perm ks
  nd : ks.Nodup
  small : es.size < scanBound
  fits : t.fits es.size = true
  tb : Tb t
  led : t.led = !w.params.followText "set-order"
section
variable {prog : Program} {w : World} {A : Around} {E : Value → Shared → Prop} {s : Shared} {a : Addr} {ks : List Int} {es : Array (Int × Value)} {ep : Nat} {t : SetTable}
theorem isInt_iv {k : Int} {v : Value} (h : (intKind prog w).is k v = true) : iv v = k ∧ ∃ tk, v = .int k tk := by
  cases v with
  | int n tk =>
    have e : k = n := (intKind prog w).inj (.int n tk) k n h (intKind_is prog w n tk)
    subst e
    exact ⟨rfl, tk, rfl⟩
  | _ => exact absurd h (by simp [intKind, Value.isInt])
theorem At.mem {h : Heap} (I : At prog w h a ks es ep t) (k : Int) : k ∈ ks ↔ ∃ e ∈ es.toList, (intKind prog w).is k e.2 = true := by
  rw [← I.perm.mem_iff, List.mem_map]
  constructor
  · rintro ⟨e, he, rfl⟩
    obtain ⟨⟨k', hk', _⟩, _⟩ := I.el e he
    rw [(isInt_iv hk').1]
    exact ⟨e, he, hk'⟩
  · rintro ⟨e, he, hk⟩
    exact ⟨e, he, (isInt_iv hk).1⟩
theorem At.keep {h h' : Heap} (I : At prog w h a ks es ep t) (k : ∀ o, h.get? a = some o → h'.get? a = some o) : At prog w h' a ks es ep t := by
  obtain ⟨o, h1, h2⟩ := I.obj
  exact ⟨⟨o, k o h1, h2⟩, I.el, I.perm, I.nd, I.small, I.fits, I.tb, I.led⟩
theorem At.stored {h : Heap} {ks' : List Int} {es' : Array (Int × Value)} {t' : SetTable} (I : At prog w h a ks es ep t) (el : ElemsOf (intKind prog w) es'.toList) (perm : (es'.toList.map fun e => iv e.2).Perm ks') (nd : ks'.Nodup) (small : es'.size < scanBound) (fits : t'.fits es'.size = true) (tb : Tb t') (led : t'.led = t.led) : At prog w (h.update a (Obj.putSet es' t')) a ks' es' (ep + 1) t' := by
  obtain ⟨o, h1, h2, h3⟩ := I.obj
  refine ⟨⟨{ o with data := .set es' (ep + 1) t' }, ?_, h2, rfl⟩, el, perm, nd, small, fits, tb, led.trans I.led⟩
  have q := Heap.get?_update_self (Obj.putSet es' t') h1 (by rw [putSet_of es' t' h3]; rfl)
  rw [putSet_of es' t' h3] at q
  exact q
def addK (ks : List Int) (k : Int) : List Int := if k ∈ ks then ks else ks ++ [k]
theorem add_ok {k tk : _} {Q : Bool → Shared → Prop} (I : At prog w s.heap a ks es ep t) (room : es.size + 1 < scanBound)
    (h : ∀ h' es' ep' t', Heap.SameBut a s.heap h' → At prog w h' a (addK ks k) es' ep' t' → es'.size ≤ es.size + 1 → ∀ b, Q b { s with heap := h' }) :
    wpAny (model prog w) A (setAddHashed a (.int k tk) ((intKind prog w).hash k)) Q E s := by
  have hkey := intKind_is prog w k tk
  obtain ⟨o, ho, hex, hd⟩ := I.obj
  unfold setAddHashed setAddHashedIn
  refine wpAny_holding (wpAny_bind (wpAny_setState_of ho hd I.fits ?_))
  dsimp only
  rw [byScan_of (knd := intKind prog w) rfl I.small I.el]
  simp only [↓reduceIte]
  unfold setAddByScan
  refine wpAny_bind ?_
  refine wpAny_bind (wpAny_rule ?_)
  refine wpAny_bind (wpAny_setScan_of hkey ho hd I.fits I.el ?_)
  cases hr : List.findIdx? (fun e => (intKind prog w).is k e.2) es.toList with
  | some j =>
    dsimp only
    obtain ⟨hj, hpj, _⟩ := List.findIdx?_eq_some_iff_getElem.mp hr
    have hk : k ∈ ks := (I.mem k).mpr ⟨es.toList[j], List.getElem_mem hj, hpj⟩
    refine wpAny_pure (wpAny_pure ?_)
    have I' : At prog w s.heap a (addK ks k) es ep t := by
      unfold addK
      rw [if_pos hk]
      exact I
    exact h s.heap es ep t (Heap.SameBut.refl a s.heap) I' (Nat.le_succ _) _
  | none =>
    dsimp only
    have hk : k ∉ ks := fun z => by
      obtain ⟨e, he, hp⟩ := (I.mem k).mp z
      have := List.findIdx?_eq_none_iff.mp hr e he
      rw [hp] at this
      exact Bool.noConfusion this
    have eK : addK ks k = ks ++ [k] := by
      unfold addK
      rw [if_neg hk]
    have nd' : (ks ++ [k]).Nodup := by
      rw [List.nodup_append]
      exact ⟨I.nd, by simp, fun x hx y hy => by
        rintro rfl
        exact hk (by simpa using List.mem_singleton.mp hy ▸ hx)⟩
    have hperm := layNew_perm t es ((intKind prog w).hash k) (.int k tk)
    have hfits := layNew_fits t es ((intKind prog w).hash k) (.int k tk)
    have htb := I.tb.lay es ((intKind prog w).hash k) (.int k tk)
    generalize layNew t es ((intKind prog w).hash k) (.int k tk) = L at hperm hfits htb ⊢
    obtain ⟨es1, t1, wasDummy, gave⟩ := L
    dsimp only at hperm hfits htb ⊢
    rw [Array.toList_push] at hperm
    have hel1 : ElemsOf (intKind prog w) es1.toList := (I.el.push hkey rfl).perm hperm
    have hp1 : (es1.toList.map fun e => iv e.2).Perm (ks ++ [k]) := by
      refine (hperm.map _).trans ?_
      rw [List.map_append]
      exact I.perm.append_right _
    have hs1 : es1.size = es.size + 1 := by rw [← Array.length_toList, hperm.length_eq, List.length_append, Array.length_toList]; rfl
    have hb1 : es1.size < scanBound := by omega
    have gw : ∀ (b : Bool) {s₁ : Shared} {Q' : Unit → Shared → Prop}, Q' () s₁ → wpAny (model prog w) A (match b with | true => rule "set.scan.the-table-gave-way" | false => pure ()) Q' E s₁ := fun b s₁ Q' hq => by
      cases b
      · exact wpAny_pure hq
      · exact wpAny_rule hq
    refine wpAny_bind (gw _ ?_)
    have tail : ∀ t2 : SetTable, t2.fits es1.size = true → Tb t2 → t2.led = t.led → wpAny (model prog w) A (do
        storeSet a es1 t2
        if (!wasDummy && t2.tooFull) = true then do
            (match (relayAll t2 es1 (SetTable.grown es1.size)).2.2 with | true => rule "set.scan.the-table-gave-way" | false => pure ())
            storeSet a (relayAll t2 es1 (SetTable.grown es1.size)).1 (relayAll t2 es1 (SetTable.grown es1.size)).2.1
            pure (some true)
          else pure (some true)) (fun r s₁ => r = some true ∧ ∀ b, Q b s₁) E s := fun t2 f2 b2 l2 => by
      have J1 := I.stored (ks' := ks ++ [k]) hel1 hp1 nd' hb1 f2 b2 l2
      have sb1 := Heap.SameBut.update s.heap a (Obj.putSet es1 t2)
      refine wpAny_bind (wpAny_storeSet_of ho hd ?_ (fits_of_scanBound hb1))
      split
      · have rp := relayAll_perm t2 es1 (SetTable.grown es1.size)
        have rf := relayAll_fits t2 es1 (SetTable.grown es1.size)
        have rb := b2.relay es1 (SetTable.grown es1.size)
        generalize relayAll t2 es1 (SetTable.grown es1.size) = R at rp rf rb ⊢
        obtain ⟨es2, t3, g2⟩ := R
        dsimp only at rp rf rb ⊢
        have hs2 : es2.size = es1.size := by rw [← Array.length_toList, rp.length_eq, Array.length_toList]
        have J2 := J1.stored (ks' := ks ++ [k]) (hel1.perm rp) ((rp.map _).trans hp1) nd' (by omega) rf rb.1 rb.2
        obtain ⟨o1, ho1, _, hd1⟩ := J1.obj
        refine wpAny_bind (gw _ ?_)
        refine wpAny_bind (wpAny_storeSet_of ho1 hd1 ?_ (fits_of_scanBound (by omega)))
        exact wpAny_pure ⟨rfl, h _ es2 _ t3 (sb1.trans (Heap.SameBut.update _ a _)) (eK ▸ J2) (by omega)⟩
      · exact wpAny_pure ⟨rfl, h _ es1 _ t2 sb1 (eK ▸ J1) (by omega)⟩
    split
    · refine wpAny_bind ?_
      rw [hashByValue_scannable 8 rfl]
      refine wpAny_pure ?_
      refine wpAny_mono (tail _ ?_ ?_ ?_) ?_ (fun _ _ x => x)
      · exact hfits
      · exact htb.1
      · exact htb.2
      · rintro r s₁ ⟨rfl, q⟩
        dsimp only
        exact wpAny_pure (q _)
    · refine wpAny_bind (wpAny_pure ?_)
      simp only [↓reduceIte]
      refine wpAny_mono (tail _ hfits htb.1 htb.2) ?_ (fun _ _ x => x)
      rintro r s₁ ⟨rfl, q⟩
      dsimp only
      exact wpAny_pure (q _)
end
/-- all of them, one after another -/
def addAll (val : Nat → Int) : Nat → List Int
  | 0 => []
  | i + 1 => addK (addAll val i) (val i)
theorem addK_mem {ks : List Int} {k x : Int} : x ∈ addK ks k ↔ x ∈ ks ∨ x = k := by
  unfold addK
  split
  · rename_i h
    constructor
    · exact Or.inl
    · rintro (z | rfl)
      · exact z
      · exact h
  · rw [List.mem_append, List.mem_singleton]
theorem addAll_mem (val : Nat → Int) (x : Int) : ∀ n : Nat, x ∈ addAll val n ↔ ∃ i, i < n ∧ x = val i
  | 0 => by simp [addAll]
  | n + 1 => by
    rw [addAll, addK_mem, addAll_mem val x n]
    constructor
    · rintro (⟨i, hi, e⟩ | e)
      · exact ⟨i, by omega, e⟩
      · exact ⟨n, by omega, e⟩
    · rintro ⟨i, hi, e⟩
      by_cases c : i = n
      · subst c
        exact .inr e
      · exact .inl ⟨i, by omega, e⟩
section
variable {prog : Program} {w : World} {A : Around} {R : Result → Shared → Prop} {I : Addr} {fp wr : List Addr} {G : Array GenState → Array GenState → Prop} {n : Nat} {P : Nat → Value → Prop} {St' : Nat → Shared → Prop}
theorem fill_ok (W : WalksS prog w A.in1 I fp wr G n P St') (S : Addr) (hSf : S ∉ fp) (val : Nat → Int) (hval : ∀ i v, P i v → ∃ t, v = .int (val i) t) (hb : n + 1 < scanBound) :
    ∀ (k i : Nat) (s : Shared) (es : Array (Int × Value)) (ep : Nat) (t : SetTable), n - i = k → i ≤ n → St' i s → At prog w s.heap S (addAll val i) es ep t → es.size ≤ i →
      (∀ s' es' ep' t', Moved (S :: wr) G s s' → At prog w s'.heap S (addAll val n) es' ep' t' → es'.size ≤ n → R (.ok (.ret .none)) s') →
      codeAny (model prog w) A (.builtin "set.update.loop" ⟨[.ref S, .ref I], []⟩) R s := by
  have hSw : S ∉ wr := fun h => hSf (W.sub _ h)
  have wider : ∀ b ∈ wr, b ∈ S :: wr := fun b q => List.mem_cons_of_mem _ q
  intro k
  induction k with
  | zero =>
    intro i s es ep t hk hi hst hS hz hR
    have e : i = n := by omega
    subst e
    refine codeAny_builtin F.entry_set_update_loop ?_
    rw [Around.under_plainId F.plain_set_update_loop _]
    show wpAny _ A.in1 (pyNext (.ref I) >>= _) _ _ s
    refine wpAny_bind (W.done s _ _ hst fun s' hm => ?_)
    show wpAny _ A.in1 (ret Value.none) _ _ s'
    exact wpAny_pure (hR s' es ep t (hm.mono wider) (hS.keep fun o q => hm.heap S o hSw q) hz)
  | succ k ih =>
    intro i s es ep t hk hi hst hS hz hR
    refine codeAny_builtin F.entry_set_update_loop ?_
    rw [Around.under_plainId F.plain_set_update_loop _]
    show wpAny _ A.in1 (pyNext (.ref I) >>= _) _ _ s
    refine wpAny_bind (W.item i s _ _ (by omega) hst fun v s' hP hst' hm => ?_)
    obtain ⟨tk, rfl⟩ := hval i v hP
    have hS' := hS.keep fun o q => hm.heap S o hSw q
    show wpAny _ A.in1 (holding [Value.int (val i) tk] (setAdd S (.int (val i) tk)) >>= _) _ _ s'
    refine wpAny_bind (wpAny_holding ?_)
    unfold setAdd
    refine wpAny_holding ?_
    refine wpAny_bind ((intKind prog w).pyHash (k := val i) (intKind_is _ _ _ _) ?_)
    refine add_ok (s := { s' with toks := s'.toks + 1 }) hS' (by omega) fun h' es' ep' t' sb J hz' b => ?_
    refine wpAny_pure ⟨plainId_quiet F.plain_set_update_loop _, ih (i + 1) _ es' ep' t' (by omega) (by omega) (W.frame _ s' _ _ hst' (Nat.le_succ _) fun c hc o q => ?_) J (by omega) fun s'' es'' ep'' t'' hm'' J'' hz'' => ?_⟩
    · rw [sb.2 c (fun z : c = S => hSf (by rw [← z]; exact hc))]
      exact q
    · refine hR s'' es'' ep'' t'' (Moved.trans W.gtrans ((hm.mono wider).then_heap (Nat.le_succ _) fun c o hc q => ?_) hm'') J'' hz''
      rw [sb.2 c (fun z : c = S => hc (by rw [z]; exact List.mem_cons_self))]
      exact q
end
end St
/-! ### set(a list of ints) -/
namespace St
open PySem PySem.Spec PyProof.Rows
section
variable {prog : Program} {w : World} {A : Around} {E : Value → Shared → Prop} {s : Shared}
abbrev newOne (w : World) : Obj := { cls := .type "set", dict := none, data := .set #[] 0 (.fresh 0 0 (!w.params.followText "set-order")) }
theorem made_ok (x : Value) {Q₁ : Value → Shared → Prop} (h : Q₁ (.ref s.heap.objs.size) { s with heap := s.heap.push (newOne w) }) :
    codeAny (model prog w) A (.call (.builtin "set.__new__") ⟨[.type "set", x], []⟩) (wants Q₁ E) s := by
  refine codeAny_of_tree ?_
  show wpAny _ A.in1 (do checkBuiltinCall "set.__new__" ⟨[.type "set", x], []⟩; again (.builtin "set.__new__" ⟨[.type "set", x], []⟩)) _ _ s
  refine wpAny_bind (wpAny_of_eq (PySem.F.newCall_set_1 x) (wpAny_pure ⟨plainId_quiet PySem.F.plain_set_new _, codeAny_builtin PySem.F.entry_set_new ?_⟩))
  rw [Around.under_plainId PySem.F.plain_set_new _]
  unfold Builtin.«set.__new__» Builtin.Frozenset.newClass
  have hsub := sub_set_self
  obtain ⟨hp, g, d, tk, os⟩ := s
  dsimp only
  wp_walk
  refine wpAny_askSetting (wpAny_pure ?_)
  dsimp only
  simp only [newObj]
  refine wpAny_bind (wpAny_alloc (wpAny_pure ?_))
  exact wpAny_pure h
theorem new_at : At prog w (s.heap.push (newOne w)) s.heap.objs.size [] #[] 0 (.fresh 0 0 (!w.params.followText "set-order")) :=
  ⟨⟨_, Heap.get?_push_size _ rfl, ⟨rfl, rfl, rfl⟩, rfl⟩, fun e he => (by cases he), List.Perm.nil, List.nodup_nil, by decide, by rfl, ⟨rfl, fun _ => List.Pairwise.nil⟩, rfl⟩
set_option maxHeartbeats 3200000 in
theorem call_set_ok {l : Addr} {items : Array Value} {ns : List Int} {Q : Value → Shared → Prop} (hh : A.handled = none) (hl : s.heap.IsList l items) (hi : IntsAre items.toList ns) (hb : items.size + 1 < scanBound)
    (h : ∀ (h' : Heap) (tk : Nat) es ep t, At prog w h' s.heap.objs.size (addAll (fun i => ns.getD i 0) items.size) es ep t → es.size ≤ items.size → (∀ b o, b < s.heap.objs.size → s.heap.get? b = some o → h'.get? b = some o) → Q (.ref s.heap.objs.size) { s with heap := h', toks := tk }) :
    wpAny (model prog w) A (call (.type "set") [.ref l]) Q E s := by
  obtain ⟨c, tl, hmro⟩ := PySem.F.called_set.mro
  have hmade := PySem.F.called_set.made
  have hsub := PySem.F.called_set.sub
  refine wpAny_call (codeAny_of_tree ?_)
  show wpAny _ _ (callAny (.type "set") _) _ _ _
  refine wpAny_pure ⟨Code.quiet_builtin _ (by decide +kernel), codeAny_builtin F.entry_type_call ?_⟩
  rw [Around.under_plain (weight_type_call_type "set" [.ref l] []) rfl]
  have h1 := PySem.F.called_set.notType
  have h2 := PySem.F.called_set.canCreate
  have hct := PySem.F.typeCall_set_1 (.ref l)
  repeat (any_goals (first | assumption | wp_step))
  refine codeAny_mono (made_ok (.ref l) (E := E) (Q₁ := fun obj s₁ => obj = .ref s.heap.objs.size ∧ s₁ = { s with heap := s.heap.push (newOne w) }) ⟨rfl, rfl⟩) fun r s₁ hr => ?_
  cases r with
  | error e => exact hr
  | ok fl =>
    cases fl with
    | ret obj =>
      obtain ⟨rfl, rfl⟩ := hr
      have hT : Shared.TypeIs { s with heap := s.heap.push (newOne w) } (.ref s.heap.objs.size) "set" := ⟨_, Heap.get?_push_size _ rfl, rfl⟩
      have hli := PySem.F.called_set.init.lookup
      have hbi := PySem.F.called_set.init.bind (.ref s.heap.objs.size)
      repeat (any_goals (first | assumption | wp_step))
      refine codeAny_mono (codeAny_call_builtin (R := wants (fun r s₂ => r = .none ∧ ∃ h' tk es ep t, s₂ = { s with heap := h', toks := tk } ∧ At prog w h' s.heap.objs.size (addAll (fun i => ns.getD i 0) items.size) es ep t ∧ es.size ≤ items.size ∧
          (∀ b o, b < s.heap.objs.size → s.heap.get? b = some o → h'.get? b = some o)) E) PySem.F.called_set.init.plain PySem.F.entry_set_init (check_set_init_1 hT ?_)) fun r₂ s₂ hr₂ => ?_
      · obtain ⟨ol, hol, hcl, nl, hdl⟩ := hl
        obtain ⟨ocls, odict, odata, oslots⟩ := ol
        simp only at hcl hdl
        subst hcl
        subst hdl
        have hol' : (s.heap.push (newOne w)).get? l = some { cls := .type "list", dict := odict, data := .seq items nl, slots := oslots } := Heap.get?_push_of_some _ hol
        have hsls := PySem.F.sub_list_set
        have hslf := PySem.F.sub_list_frozenset
        have hne : (Value.type "list" == Value.type "dict") = false := by decide
        have hS : (s.heap.push (newOne w)).get? s.heap.objs.size = some (newOne w) := Heap.get?_push_size _ rfl
        have hl1 : (s.heap.push (newOne w)).IsList l items := ⟨_, hol', rfl, nl, rfl⟩
        unfold Builtin.«set.__init__» noKeywords Builtin.Frozenset.updateFrom
        generalize hPI : pyIter = PI
        wp_walk
        subst hPI
        refine wpAny_pyIter_list hl1 ?_
        refine wpAny_bind (wpAny_runValue ?_)
        have hlS : l < s.heap.objs.size := Heap.lt_size hol
        have hh3 : A.in1.in1.in1.handled = none := by simp [hh]
        have hneI : l ≠ (s.heap.push (newOne w)).objs.size := by
          rw [Heap.size_push]
          exact Nat.ne_of_lt (Nat.lt_succ_of_lt hlS)
        have hSf : s.heap.objs.size ∉ [(s.heap.push (newOne w)).objs.size, l] := by
          rw [Heap.size_push]
          simp only [List.mem_cons, List.not_mem_nil, or_false, not_or]
          exact ⟨Nat.ne_of_lt (Nat.lt_succ_self _), Nat.ne_of_gt hlS⟩
        refine fill_ok ((Walks.list hh3 _ l hneI items).toS) s.heap.objs.size hSf (fun i => ns.getD i 0) (fun i v hv => IntsAre.int_at hi i v (by rw [Array.getElem?_toList]; exact hv)) hb (items.size - 0) 0 _ #[] 0 _ (by omega) (Nat.zero_le _)
          ⟨⟨_, Heap.get?_push_size _ rfl, rfl, rfl⟩, (hl1.push _)⟩ (new_at.keep fun o q => Heap.get?_push_of_some _ q) (Nat.le_refl _) fun s' es' ep' t' hm J hz => ?_
        obtain ⟨h', g', d', tk', os'⟩ := s'
        have eg : g' = s.gens := hm.gens
        have ed : d' = s.drawn := hm.drawn
        have eo : os' = s.os := hm.os
        subst eg
        subst ed
        subst eo
        refine wpAny_pure ?_
        show wpAny _ _ (ret Value.none) _ _ _
        refine wpAny_pure ⟨rfl, h', tk', es', ep', t', rfl, J, hz, fun b o hb e => ?_⟩
        have hb1 : b ≠ s.heap.objs.size := Nat.ne_of_lt hb
        have hb2 : b ≠ (s.heap.push (newOne w)).objs.size := by
          rw [Heap.size_push]
          exact Nat.ne_of_lt (Nat.lt_succ_of_lt hb)
        exact hm.heap b o (by simp only [List.mem_cons, List.not_mem_nil, or_false, not_or]; exact ⟨hb1, hb2⟩) (Heap.get?_push_of_some _ (Heap.get?_push_of_some _ e))
      · cases r₂ with
        | error e => exact hr₂
        | ok fl₂ =>
          cases fl₂ with
          | ret r =>
            obtain ⟨rfl, h', tk, es', ep', t', rfl, J, hz, hk'⟩ := hr₂
            repeat (any_goals (first | assumption | wp_step))
            exact h _ _ _ _ _ J hz hk'
          | _ => exact hr₂.elim
    | _ => exact hr.elim
end
end St
namespace St
open PySem PySem.Spec PyProof.Rows
theorem slot_set_iter : Slot "set" "__iter__" "set.__iter__" :=
  .of (owner := "set") (n := "__iter__") (by rw [typeLookup_type, builtinLookup_eq_fast]; kernel_rfl) (by decide +kernel) (by decide +kernel) (by decide +kernel) (by first | exact .inl (by decide +kernel) | exact .inr (by decide +kernel)) (by rw [isSubtype_type]; kernel_rfl)
theorem entry_set_iter : entryFor table "set.__iter__" = some Builtin.«frozenset.__iter__» :=
  entryFor_alias (id' := "frozenset.__iter__") (by kernel_rfl) (by first | rfl | decide +kernel | (unfold String.splitOn; simp +decide [String.splitOnAux])) (by decide +kernel) (by kernel_rfl)
theorem slot_si_next : Slot "set_iterator" "__next__" "set_iterator.__next__" :=
  .of (owner := "set_iterator") (n := "__next__") (by rw [typeLookup_type, builtinLookup_eq_fast]; kernel_rfl) (by decide +kernel) (by decide +kernel) (by decide +kernel) (by first | exact .inl (by decide +kernel) | exact .inr (by decide +kernel)) (by rw [isSubtype_type]; kernel_rfl)
theorem entry_si_next : entryFor table "set_iterator.__next__" = some Builtin.«set_iterator.__next__» := entryFor_of_tree (by kernel_rfl)
theorem slot_si_iter : Slot "set_iterator" "__iter__" "set_iterator.__iter__" :=
  .of (owner := "set_iterator") (n := "__iter__") (by rw [typeLookup_type, builtinLookup_eq_fast]; kernel_rfl) (by decide +kernel) (by decide +kernel) (by decide +kernel) (by first | exact .inl (by decide +kernel) | exact .inr (by decide +kernel)) (by rw [isSubtype_type]; kernel_rfl)
theorem entry_si_iter : entryFor table "set_iterator.__iter__" = some Builtin.«dict_keyiterator.__iter__» :=
  entryFor_alias (id' := "dict_keyiterator.__iter__") (by kernel_rfl) (by first | rfl | decide +kernel | (unfold String.splitOn; simp +decide [String.splitOnAux])) (by decide +kernel) (by kernel_rfl)
theorem owner_si : Manifest.owners.lookup (String.ofList ['r', 'o', 't', 'a', 'r', 'e', 't', 'i', '_', 't', 'e', 's'].reverse) = some Manifest.sig_set_iterator := by kernel_rfl
theorem owner_set : Manifest.owners.lookup (String.ofList ['t', 'e', 's'].reverse) = some Manifest.sig_set := by kernel_rfl
theorem args_si_next (a : Value) : argsOk "set_iterator.__next__" ⟨[a], []⟩ := by
  unfold argsOk
  rw [signature?_of (id := "set_iterator.__next__") (n := ['_', '_', 't', 'x', 'e', 'n', '_', '_']) (o := ['r', 'o', 't', 'a', 'r', 'e', 't', 'i', '_', 't', 'e', 's']) (by kernel_rfl) owner_si]
  kernel_rfl
theorem args_si_iter (a : Value) : argsOk "set_iterator.__iter__" ⟨[a], []⟩ := by
  unfold argsOk
  rw [signature?_of (id := "set_iterator.__iter__") (n := ['_', '_', 'r', 'e', 't', 'i', '_', '_']) (o := ['r', 'o', 't', 'a', 'r', 'e', 't', 'i', '_', 't', 'e', 's']) (by kernel_rfl) owner_si]
  kernel_rfl
theorem args_set_iter (a : Value) : argsOk "set.__iter__" ⟨[a], []⟩ := by
  unfold argsOk
  rw [signature?_of (id := "set.__iter__") (n := ['_', '_', 'r', 'e', 't', 'i', '_', '_']) (o := ['t', 'e', 's']) (by kernel_rfl) owner_set]
  kernel_rfl
theorem set_len_at : typeLookup (.type "set") "__len__" = pure (some (.builtin "set.__len__")) := by rw [typeLookup_type, builtinLookup_eq_fast]; kernel_rfl
end St
namespace St
open PySem PySem.Spec PyProof.Rows
abbrev siObj (f : Value) (i : Nat) (a : Addr) (n ep : Nat) : Obj := { cls := .type "set_iterator", dict := none, data := .fields #[f, rawInt i, .ref a, rawInt n, rawInt ep], slots := #[] }
section
variable {prog : Program} {w : World} {A : Around} {E : Value → Shared → Prop} {s : Shared} {a I : Addr} {ks : List Int} {es : Array (Int × Value)} {ep : Nat} {t : SetTable}
theorem entries_ok {Q : Array (Int × Value) → Shared → Prop} (J : At prog w s.heap a ks es ep t) (h : Q es s) : wpAny (model prog w) A (setEntries a) Q E s := by
  obtain ⟨o, ho, _, hd⟩ := J.obj
  unfold setEntries
  exact wpAny_bind (wpAny_setState_of ho hd J.fits (wpAny_pure h))
/-- an item, where the iterator keeps a place -/
theorem next_int {sl nx i : Nat} {x : Value} {Q : Option Value → Shared → Prop} (hI : s.heap.get? I = some (siObj (rawInt sl) i a es.size ep)) (J : At prog w s.heap a ks es ep t)
    (hn : ∀ (A' : Around) (E' : Value → Shared → Prop) (Q' : Option (Value × Nat) → Shared → Prop), Q' (some (x, nx)) s → wpAny (model prog w) A' (setNext a sl i ep) Q' E' s)
    (hQ : ∀ h', h'.get? I = some (siObj (rawInt nx) (i + 1) a es.size ep) → Heap.SameBut I s.heap h' → Q (some x) { s with heap := h' }) : wpAny (model prog w) A (pyNext (.ref I)) Q E s := by
  unfold pyNext
  refine wpAny_bind (wpAny_attempt (wpAny_callSpecial?_slot (name := Str.ofString "__next__") ⟨_, hI, rfl⟩ slot_si_next (wpAny_call_entry slot_si_next ⟨_, hI, rfl⟩ entry_si_next ?_ (args_si_next _))))
  unfold Builtin.«set_iterator.__next__»
  refine wpAny_bind (wpAny_of_eq (a := (Value.ref I, [])) rfl ?_)
  try dsimp only
  refine wpAny_bind (wpAny_fieldsOf hI rfl ?_)
  try dsimp only
  refine wpAny_bind (entries_ok J ?_)
  rw [if_neg (by simp)]
  try dsimp only
  refine wpAny_bind (hn _ _ _ ?_)
  try dsimp only
  refine wpAny_bind (wpAny_setField_rec hI (by simp) fun h1 g1 b1 => ?_)
  refine wpAny_bind (wpAny_setField_rec g1 (by simp) fun h2 g2 b2 => ?_)
  refine wpAny_pure ⟨x, rfl, wpAny_pure (hQ h2 ?_ (b1.trans b2))⟩
  exact g2
/-- the end, where the iterator keeps a place -/
theorem end_int {sl i : Nat} {Q : Option Value → Shared → Prop} (hh : A.handled = none) (hI : s.heap.get? I = some (siObj (rawInt sl) i a es.size ep)) (J : At prog w s.heap a ks es ep t)
    (hn : ∀ (A' : Around) (E' : Value → Shared → Prop) (Q' : Option (Value × Nat) → Shared → Prop), Q' none s → wpAny (model prog w) A' (setNext a sl i ep) Q' E' s)
    (hQ : ∀ h', Heap.ExtBut I s.heap h' → Q none { s with heap := h' }) : wpAny (model prog w) A (pyNext (.ref I)) Q E s := by
  unfold pyNext
  refine wpAny_bind (wpAny_attempt (wpAny_callSpecial?_slot (name := Str.ofString "__next__") ⟨_, hI, rfl⟩ slot_si_next (wpAny_call_entry slot_si_next ⟨_, hI, rfl⟩ entry_si_next ?_ (args_si_next _))))
  unfold Builtin.«set_iterator.__next__»
  refine wpAny_bind (wpAny_of_eq (a := (Value.ref I, [])) rfl ?_)
  try dsimp only
  refine wpAny_bind (wpAny_fieldsOf hI rfl ?_)
  try dsimp only
  refine wpAny_bind (entries_ok J ?_)
  rw [if_neg (by simp)]
  try dsimp only
  refine wpAny_bind (hn _ _ _ ?_)
  try dsimp only
  refine wpAny_bind (wpAny_setField_rec hI (by simp) fun h1 g1 b1 => ?_)
  refine wpAny_bind ?_
  simp only [newExc, newTuple]
  refine wpAny_bind (wpAny_newObj_type ?_ (by size_fits))
  refine wpAny_bind (m := firstArgMember _ _) (wpAny_of_eq (a := Value.none) (by first | rfl | (simp only [firstArgMember]; rfl)) ?_)
  refine wpAny_newObj_type ?_ (by size_fits)
  simp only [raiseNew]
  refine wpAny_bind (wpAny_handled ?_)
  first | rw [show A.in1.handled = none from hh] | rw [hh]
  refine wpAny_bind (wpAny_pure (wpAny_throw ?_))
  refine wpAny_bind (wpAny_isInstance (T := "StopIteration") (b := true) ⟨_, Heap.get?_push_size _ rfl, rfl⟩ isSubtype_stop ?_)
  exact wpAny_pure (hQ _ ((b1.extBut.push _).push _))
/-- an item, where the order is drawn -/
theorem next_tup {tp : Addr} {places : Array Value} {i pl pt : Nat} {hx : Int} {x : Value} {ot : Obj} {m : Nat} {Q : Option Value → Shared → Prop} (hI : s.heap.get? I = some (siObj (.ref tp) i a es.size ep)) (J : At prog w s.heap a ks es ep t)
    (ht : s.heap.get? tp = some ot) (hd : ot.data = .seq places m) (hp : places[i]? = some (.int pl pt)) (hx : es[pl]? = some (hx, x))
    (hQ : ∀ h', h'.get? I = some (siObj (.ref tp) (i + 1) a es.size ep) → Heap.SameBut I s.heap h' → Q (some x) { s with heap := h' }) : wpAny (model prog w) A (pyNext (.ref I)) Q E s := by
  unfold pyNext
  refine wpAny_bind (wpAny_attempt (wpAny_callSpecial?_slot (name := Str.ofString "__next__") ⟨_, hI, rfl⟩ slot_si_next (wpAny_call_entry slot_si_next ⟨_, hI, rfl⟩ entry_si_next ?_ (args_si_next _))))
  unfold Builtin.«set_iterator.__next__»
  refine wpAny_bind (wpAny_of_eq (a := (Value.ref I, [])) rfl ?_)
  try dsimp only
  refine wpAny_bind (wpAny_fieldsOf hI rfl ?_)
  try dsimp only
  refine wpAny_bind (entries_ok J ?_)
  rw [if_neg (by simp)]
  try dsimp only
  refine wpAny_bind (wpAny_seqItems ht hd ?_)
  try dsimp only
  have e1 : ((i : Int)).toNat = i := Int.toNat_natCast i
  simp only [rawInt, e1, hp]
  obtain ⟨o, ho, _, hdo⟩ := J.obj
  unfold setNextDrawn
  refine wpAny_bind (wpAny_bind (wpAny_setState_of ho hdo J.fits ?_))
  try dsimp only
  rw [if_neg (by simp)]
  have e2 : ((pl : Int)).toNat = pl := Int.toNat_natCast pl
  simp only [e2, hx]
  refine wpAny_pure ?_
  refine wpAny_bind (wpAny_setField_rec hI (by simp) fun h1 g1 b1 => ?_)
  exact wpAny_pure ⟨x, rfl, wpAny_pure (hQ h1 g1 b1)⟩
theorem end_tup {tp : Addr} {places : Array Value} {i : Nat} {ot : Obj} {m : Nat} {Q : Option Value → Shared → Prop} (hh : A.handled = none) (hI : s.heap.get? I = some (siObj (.ref tp) i a es.size ep)) (J : At prog w s.heap a ks es ep t)
    (ht : s.heap.get? tp = some ot) (hd : ot.data = .seq places m) (hp : places[i]? = none)
    (hQ : ∀ h', Heap.ExtBut I s.heap h' → Q none { s with heap := h' }) : wpAny (model prog w) A (pyNext (.ref I)) Q E s := by
  unfold pyNext
  refine wpAny_bind (wpAny_attempt (wpAny_callSpecial?_slot (name := Str.ofString "__next__") ⟨_, hI, rfl⟩ slot_si_next (wpAny_call_entry slot_si_next ⟨_, hI, rfl⟩ entry_si_next ?_ (args_si_next _))))
  unfold Builtin.«set_iterator.__next__»
  refine wpAny_bind (wpAny_of_eq (a := (Value.ref I, [])) rfl ?_)
  try dsimp only
  refine wpAny_bind (wpAny_fieldsOf hI rfl ?_)
  try dsimp only
  refine wpAny_bind (entries_ok J ?_)
  rw [if_neg (by simp)]
  try dsimp only
  refine wpAny_bind (wpAny_seqItems ht hd ?_)
  try dsimp only
  have e1 : ((i : Int)).toNat = i := Int.toNat_natCast i
  simp only [rawInt, e1, hp]
  refine wpAny_bind (wpAny_setField_rec hI (by simp) fun h1 g1 b1 => ?_)
  refine wpAny_bind (wpAny_setField_rec g1 (by simp) fun h2 g2 b2 => ?_)
  refine wpAny_bind ?_
  simp only [newExc, newTuple]
  refine wpAny_bind (wpAny_newObj_type ?_ (by size_fits))
  refine wpAny_bind (m := firstArgMember _ _) (wpAny_of_eq (a := Value.none) (by first | rfl | (simp only [firstArgMember]; rfl)) ?_)
  refine wpAny_newObj_type ?_ (by size_fits)
  simp only [raiseNew]
  refine wpAny_bind (wpAny_handled ?_)
  first | rw [show A.in1.handled = none from hh] | rw [hh]
  refine wpAny_bind (wpAny_pure (wpAny_throw ?_))
  refine wpAny_bind (wpAny_isInstance (T := "StopIteration") (b := true) ⟨_, Heap.get?_push_size _ rfl, rfl⟩ isSubtype_stop ?_)
  exact wpAny_pure (hQ _ (((b1.trans b2).extBut.push _).push _))
theorem self_ok {f : Value} {i n : Nat} {Q : Value → Shared → Prop} (hI : s.heap.get? I = some (siObj f i a n ep)) (h : Q (.ref I) s) : wpAny (model prog w) A (pyIter (.ref I)) Q E s := by
  refine wpAny_pyIter_slot (T := "set_iterator") ⟨_, hI, rfl⟩ slot_si_iter (wpAny_call_entry slot_si_iter ⟨_, hI, rfl⟩ entry_si_iter ?_ (args_si_iter _))
  show wpAny _ _ (ret (.ref I)) _ _ s
  exact wpAny_pure ⟨_, rfl, "set_iterator", _, ⟨_, hI, rfl⟩, slot_si_next.lookup, h⟩
/-- what comes next, where the order is the text's -/
theorem nextT {sl i : Nat} {Q : Option (Value × Nat) → Shared → Prop} (J : At prog w s.heap a ks es ep t) (hT : w.params.followText "set-order" = true)
    (h : Q (((pickOrder (w.params.setOrder a ep) es)[i]?).map fun e => (e.2, sl)) s) : wpAny (model prog w) A (setNext a sl i ep) Q E s := by
  obtain ⟨o, ho, _, hd⟩ := J.obj
  unfold setNext
  refine wpAny_bind (wpAny_setState_of ho hd J.fits ?_)
  try dsimp only
  unfold setsByText
  refine wpAny_bind (wpAny_bind (wpAny_askSetting (wpAny_pure ?_)))
  have hT' : (model prog w).w.params.followText "set-order" = true := hT
  rw [if_pos hT', if_neg (by simp)]
  unfold setWalk setsByText
  refine wpAny_bind (wpAny_bind (wpAny_setState_of ho hd J.fits ?_))
  try dsimp only
  refine wpAny_bind (wpAny_bind (wpAny_askSetting (wpAny_pure ?_)))
  rw [if_pos hT']
  refine wpAny_bind (wpAny_askSetting ?_)
  exact wpAny_pure (wpAny_pure h)
/-- what comes next, where the table is plain -/
theorem nextP {sl i : Nat} {Q : Option (Value × Nat) → Shared → Prop} (J : At prog w s.heap a ks es ep t) (hT : w.params.followText "set-order" = false) (hp : t.plain = true ∨ es.size ≤ 1)
    (h : Q (match es[SetTable.below t.place sl]?, t.place[SetTable.below t.place sl]? with | some (_, x), some j => some (x, j + 1) | _, _ => none) s) : wpAny (model prog w) A (setNext a sl i ep) Q E s := by
  obtain ⟨o, ho, _, hd⟩ := J.obj
  unfold setNext
  refine wpAny_bind (wpAny_setState_of ho hd J.fits ?_)
  try dsimp only
  unfold setsByText
  refine wpAny_bind (wpAny_bind (wpAny_askSetting (wpAny_pure ?_)))
  have hT' : ¬ (model prog w).w.params.followText "set-order" = true := by
    show ¬ w.params.followText "set-order" = true
    rw [hT]
    decide
  rw [if_neg hT']
  have nd : (!t.plain && decide (es.size > 1)) = false := by
    rcases hp with q | q
    · rw [q]
      rfl
    · have : decide (es.size > 1) = false := decide_eq_false (by omega)
      rw [this, Bool.and_false]
  refine wpAny_ite_split (fun z => ?_) (fun _ => ?_)
  · have z' : (!t.plain && decide (es.size > 1)) = true := z
    rw [nd] at z'
    cases z'
  have ld : (!t.led && !es.isEmpty) = false := by
    rw [J.led, hT]
    rfl
  refine wpAny_bind ?_
  show wpAny _ _ (if (!t.led && !es.isEmpty) = true then _ else _) _ _ s
  rw [if_neg (by rw [ld]; decide)]
  exact wpAny_pure (wpAny_pure h)
end
end St
namespace St
open PySem PySem.Spec PyProof.Rows
theorem erase_perm {α : Type} : ∀ {l : List α} {i : Nat} (h : i < l.length), (l[i] :: l.eraseIdx i).Perm l
  | x :: l, 0, _ => List.Perm.refl _
  | x :: l, i + 1, h => by
    have q := erase_perm (l := l) (i := i) (by simpa using h)
    show (l[i]'(by simpa using h) :: x :: l.eraseIdx i).Perm (x :: l)
    exact (List.Perm.swap _ _ _).trans (q.cons x)
theorem pick_go {α : Type} (nx : Nat → Nat) : ∀ (fuel k : Nat) (left : List α) (out : Array α), left.length = fuel → (pickOrder.go nx fuel k left out).toList.Perm (out.toList ++ left)
  | 0, k, left, out, h => by
    have e : left = [] := List.eq_nil_of_length_eq_zero h
    subst e
    rw [List.append_nil]
    exact List.Perm.refl _
  | fuel + 1, k, left, out, h => by
    unfold pickOrder.go
    have hi : nx k % left.length < left.length := Nat.mod_lt _ (by omega)
    rw [List.getElem?_eq_getElem hi]
    dsimp only
    refine (pick_go nx fuel (k + 1) _ _ (by rw [List.length_eraseIdx, if_pos hi]; omega)).trans ?_
    rw [Array.toList_push, List.append_assoc]
    exact List.Perm.append_left _ (erase_perm hi)
theorem pick_perm {α : Type} (nx : Nat → Nat) (xs : Array α) : (pickOrder nx xs).toList.Perm xs.toList := pick_go nx xs.size 0 xs.toList #[] (by simp)
section
variable {prog : Program} {w : World} {A : Around} {E : Value → Shared → Prop}
theorem choose_ok {src : Source} {n : Nat} {Q : Nat → Shared → Prop} {s : Shared} (hn : n ≠ 0) (h : ∀ i d', i < n → Q i { s with drawn := d' }) : wpAny (model prog w) A (choose src n) Q E s := fun Γ p _ => by
  unfold choose
  rw [Sem.wp_choose]
  exact ⟨hn, h _ _ (Nat.mod_lt _ (by omega))⟩
theorem draw_ok {α : Type} : ∀ (n : Nat) (xs : List α) (s : Shared) (Q : List α → Shared → Prop), xs.length = n → (∀ ys d', ys.Perm xs → Q ys { s with drawn := d' }) → wpAny (model prog w) A (drawOrder n xs) Q E s
  | 0, xs, s, Q, hl, h => by
    have e : xs = [] := List.eq_nil_of_length_eq_zero hl
    subst e
    unfold drawOrder
    exact wpAny_pure (h [] s.drawn (List.Perm.refl _))
  | n + 1, [], s, Q, hl, h => by simp at hl
  | n + 1, x :: xs, s, Q, hl, h => by
    unfold drawOrder
    refine wpAny_bind (choose_ok (by simp) fun i d' hi => ?_)
    rw [List.getElem?_eq_getElem hi]
    dsimp only
    refine wpAny_bind (draw_ok n _ _ _ (by rw [List.length_eraseIdx, if_pos hi]; omega) fun ys d'' hp => ?_)
    exact wpAny_pure (h _ d'' ((hp.cons _).trans (erase_perm hi)))
end
theorem ints_of : ∀ {vs : List Value}, (∀ v ∈ vs, ∃ k tk, v = .int k tk) → IntsAre vs (vs.map iv)
  | [], _ => .nil
  | v :: vs, h => by
    obtain ⟨k, tk, rfl⟩ := h v List.mem_cons_self
    exact .cons k tk (ints_of fun u hu => h u (List.mem_cons_of_mem _ hu))
section
variable {prog : Program} {w : World} {A : Around} {E : Value → Shared → Prop} {s : Shared} {a : Addr} {ks : List Int} {es : Array (Int × Value)} {ep : Nat} {t : SetTable}
theorem At.vals {h : Heap} (J : At prog w h a ks es ep t) {l : List (Int × Value)} (p : l.Perm es.toList) : ((l.map (·.2)).map iv).Perm ks ∧ IntsAre (l.map (·.2)) ((l.map (·.2)).map iv) := by
  refine ⟨?_, ints_of fun v hv => ?_⟩
  · rw [List.map_map]
    exact (p.map _).trans J.perm
  · obtain ⟨e, he, rfl⟩ := List.mem_map.mp hv
    obtain ⟨⟨k, hk, _⟩, _⟩ := J.el e (p.mem_iff.mp he)
    obtain ⟨_, tk, q⟩ := isInt_iv hk
    exact ⟨k, tk, q⟩
/-- what a walk over the set is -/
structure Wk (prog : Program) (w : World) (h0 : Heap) (a I : Addr) (ks : List Int) (h : Heap) (vs : List Value) (fp wr : List Addr) (Sd : Nat → Heap → Prop) : Prop where
  walks : ∀ A : Around, A.handled = none → Walks prog w A I fp wr vs.length (fun i v => vs[i]? = some v) Sd
  st : Sd 0 h
  perm : (vs.map iv).Perm ks
  isi : IntsAre vs (vs.map iv)
  old : ∀ b o, h0.get? b = some o → h.get? b = some o
  fpn : ∀ b ∈ fp, b = a ∨ h0.objs.size ≤ b
  wrn : ∀ b ∈ wr, h0.objs.size ≤ b
  szle : h0.objs.size ≤ h.objs.size
theorem walksT {I : Addr} {ks : List Int} (hne : a ≠ I) (hT : w.params.followText "set-order" = true) {A : Around} (hh : A.handled = none) :
    Walks prog w A I [I, a] [I] ((pickOrder (w.params.setOrder a ep) es).toList.map (·.2)).length (fun i v => ((pickOrder (w.params.setOrder a ep) es).toList.map (·.2))[i]? = some v) (fun i h => h.get? I = some (siObj (rawInt (0 : Nat)) i a es.size ep) ∧ At prog w h a ks es ep t) where
  sub := fun b hb => by simp at hb; simp [hb]
  frame := fun i h h' st k => ⟨k I (by simp) _ st.1, st.2.keep fun o e => k a (by simp) o e⟩
  item := fun i s Q E hi st hQ => by
    have hv : ((pickOrder (w.params.setOrder a ep) es).toList.map (·.2))[i]? = some (((pickOrder (w.params.setOrder a ep) es).toList.map (·.2))[i]) := List.getElem?_eq_getElem hi
    have hv2 := hv
    rw [List.getElem?_map, Array.getElem?_toList] at hv2
    refine next_int (x := ((pickOrder (w.params.setOrder a ep) es).toList.map (·.2))[i]) (nx := 0) st.1 st.2 (fun A' E' Q' q => nextT st.2 hT ?_) fun h' g b => ?_
    · cases hp : (pickOrder (w.params.setOrder a ep) es)[i]? with
      | none => rw [hp] at hv2; cases hv2
      | some e =>
        rw [hp] at hv2
        have e2 : e.2 = ((pickOrder (w.params.setOrder a ep) es).toList.map (·.2))[i] := Option.some.inj hv2
        show Q' (some (e.2, 0)) s
        rw [e2]
        exact q
    · exact hQ _ h' s.toks hv ⟨g, st.2.keep fun o e => (b.2 a hne).trans e⟩ fun c o hc e => (b.2 c (fun z => hc (by simp [z]))).trans e
  done := fun s Q E st hQ => by
    refine end_int hh st.1 st.2 (fun A' E' Q' q => nextT st.2 hT ?_) fun h' b => hQ h' s.toks fun c o hc e => b c o (fun z => hc (by simp [z])) e
    have hp : (pickOrder (w.params.setOrder a ep) es)[((pickOrder (w.params.setOrder a ep) es).toList.map (·.2)).length]? = none := by
      rw [Array.getElem?_eq_none (by simp)]
    rw [hp]
    exact q
  self := fun i s Q E st h => self_ok st.1 h
theorem walksP {I : Addr} {ks : List Int} (hne : a ≠ I) (hT : w.params.followText "set-order" = false) (hp : t.plain = true ∨ es.size ≤ 1) (up : Up t.place) (hz : t.place.size = es.size) {A : Around} (hh : A.handled = none) :
    Walks prog w A I [I, a] [I] (es.toList.map (·.2)).length (fun i v => (es.toList.map (·.2))[i]? = some v) (fun i h => (∃ sl : Nat, h.get? I = some (siObj (rawInt sl) i a es.size ep) ∧ SetTable.below t.place sl = i) ∧ At prog w h a ks es ep t) where
  sub := fun b hb => by simp at hb; simp [hb]
  frame := fun i h h' st k => ⟨by
    obtain ⟨⟨sl, q1, q2⟩, _⟩ := st
    exact ⟨sl, k I (by simp) _ q1, q2⟩, st.2.keep fun o e => k a (by simp) o e⟩
  item := fun i s Q E hi st hQ => by
    obtain ⟨⟨sl, q1, q2⟩, J⟩ := st
    have hi' : i < es.size := by simpa using hi
    have he : es[i]? = some es[i] := Array.getElem?_eq_getElem hi'
    have hpl : t.place[i]? = some (t.place[i]'(by omega)) := Array.getElem?_eq_getElem (by omega)
    have hv : (es.toList.map (·.2))[i]? = some es[i].2 := by
      rw [List.getElem?_map, Array.getElem?_toList, he]
      rfl
    refine next_int (x := es[i].2) (nx := t.place[i]'(by omega) + 1) q1 J (fun A' E' Q' q => nextP J hT hp ?_) fun h' g b => ?_
    · rw [q2, he, hpl]
      exact q
    · exact hQ _ h' s.toks hv ⟨⟨_, g, below_next up hpl⟩, J.keep fun o e => (b.2 a hne).trans e⟩ fun c o hc e => (b.2 c (fun z => hc (by simp [z]))).trans e
  done := fun s Q E st hQ => by
    obtain ⟨⟨sl, q1, q2⟩, J⟩ := st
    refine end_int hh q1 J (fun A' E' Q' q => nextP J hT hp ?_) fun h' b => hQ h' s.toks fun c o hc e => b c o (fun z => hc (by simp [z])) e
    have hp : es[(es.toList.map (·.2)).length]? = none := by
      rw [Array.getElem?_eq_none (by simp)]
    rw [q2, hp]
    exact q
  self := fun i s Q E st h => by
    obtain ⟨⟨sl, q1, q2⟩, J⟩ := st
    exact self_ok q1 h
theorem walksD {I tp : Addr} {ks : List Int} (hne : a ≠ I) (hnt : tp ≠ I) {ot : Obj} {m : Nat} (ord : List Nat) (ho : ∀ k ∈ ord, k < es.size) (hd : ot.data = .seq (ord.map fun (k : Nat) => rawInt k).toArray m) {A : Around} (hh : A.handled = none) :
    Walks prog w A I [I, a, tp] [I] ((ord.map fun k => es.getD k (0, Value.none)).map (·.2)).length (fun i v => ((ord.map fun k => es.getD k (0, Value.none)).map (·.2))[i]? = some v) (fun i h => h.get? I = some (siObj (.ref tp) i a es.size ep) ∧ At prog w h a ks es ep t ∧ h.get? tp = some ot) where
  sub := fun b hb => by simp at hb; simp [hb]
  frame := fun i h h' st k => ⟨k I (by simp) _ st.1, st.2.1.keep fun o e => k a (by simp) o e, k tp (by simp) _ st.2.2⟩
  item := fun i s Q E hi st hQ => by
    have len : (ord.map fun k => es.getD k (0, Value.none)).length = ord.length := List.length_map _
    have hi' : i < ord.length := by
      rw [List.length_map, len] at hi
      exact hi
    have hk := ho ord[i] (List.getElem_mem hi')
    have hv : ((ord.map fun k => es.getD k (0, Value.none)).map (·.2))[i]? = some es[ord[i]].2 := by
      rw [List.getElem?_map, List.getElem?_map, List.getElem?_eq_getElem hi']
      show some (es.getD ord[i] (0, Value.none)).2 = _
      rw [Array.getD_eq_getD_getElem?, Array.getElem?_eq_getElem hk]
      rfl
    have hp : ((ord.map fun (k : Nat) => rawInt k).toArray)[i]? = some (.int (ord[i] : Int) 0) := by
      rw [List.getElem?_toArray, List.getElem?_map, List.getElem?_eq_getElem hi']
      rfl
    refine next_tup (x := es[ord[i]].2) (hx := es[ord[i]].1) st.1 st.2.1 st.2.2 hd hp (Array.getElem?_eq_getElem hk) fun h' g b => ?_
    exact hQ _ h' s.toks hv ⟨g, st.2.1.keep fun o e => (b.2 a hne).trans e, (b.2 tp hnt).trans st.2.2⟩ fun c o hc e => (b.2 c (fun z => hc (by simp [z]))).trans e
  done := fun s Q E st hQ => by
    have len : (ord.map fun k => es.getD k (0, Value.none)).length = ord.length := List.length_map _
    refine end_tup hh st.1 st.2.1 st.2.2 hd ?_ fun h' b => hQ h' s.toks fun c o hc e => b c o (fun z => hc (by simp [z])) e
    rw [List.getElem?_toArray, List.getElem?_eq_none (by rw [List.length_map, List.length_map, len]; exact Nat.le_refl _)]
  self := fun i s Q E st h => self_ok st.1 h
theorem range_get (es : Array (Int × Value)) : (List.range es.size).map (fun k => es.getD k (0, Value.none)) = es.toList := by
  refine List.ext_getElem? fun i => ?_
  by_cases h : i < es.size
  · rw [List.getElem?_map, List.getElem?_range h, Array.getElem?_toList, Array.getElem?_eq_getElem h]
    show some (es.getD i (0, Value.none)) = _
    rw [Array.getD_eq_getD_getElem?, Array.getElem?_eq_getElem h]
    rfl
  · rw [List.getElem?_eq_none (by rw [List.length_map, List.length_range]; omega), List.getElem?_eq_none (by rw [Array.length_toList]; omega)]
theorem up_small {xs : Array Nat} (h : xs.size ≤ 1) : Up xs := by
  unfold Up
  have h' : xs.toList.length ≤ 1 := by simpa using h
  match xs.toList, h' with
  | [], _ => exact List.Pairwise.nil
  | [_], _ => exact List.pairwise_singleton _ _
/-- the walk begins -/
theorem iter_ok {Q : Value → Shared → Prop} (J : At prog w s.heap a ks es ep t)
    (h : ∀ (I : Addr) (h' : Heap) d' vs fp wr Sd, Wk prog w s.heap a I ks h' vs fp wr Sd → vs.length = es.size → I ∈ fp → s.heap.objs.size ≤ I → Q (.ref I) { s with heap := h', drawn := d' }) : wpAny (model prog w) A (pyIter (.ref a)) Q E s := by
  obtain ⟨o, ho, hex, hd⟩ := J.obj
  have la : a < s.heap.objs.size := Heap.lt_size ho
  have hT : s.TypeIs (.ref a) "set" := ⟨o, ho, hex.1⟩
  have hz : t.place.size = es.size := by
    have q := J.fits
    simp only [SetTable.fits, Bool.and_eq_true, beq_iff_eq] at q
    exact q.1
  have hsz : es.size ≤ sizeLine := fits_of_scanBound J.small
  refine wpAny_pyIter_slot hT slot_set_iter (wpAny_call_entry slot_set_iter hT entry_set_iter ?_ (args_set_iter _))
  have fin : ∀ (I : Addr) (h' : Heap) d' vs fp wr Sd f, Wk prog w s.heap a I ks h' vs fp wr Sd → vs.length = es.size → I ∈ fp → s.heap.objs.size ≤ I → h'.get? I = some (siObj f 0 a es.size ep) →
      ∃ v, (Flow.ret (.ref I)) = .ret v ∧ ∃ T' r, Shared.TypeIs { s with heap := h', drawn := d' } v T' ∧ typeLookup (.type T') "__next__" = pure (some r) ∧ Q v { s with heap := h', drawn := d' } := fun I h' d' vs fp wr Sd f W hl hI hi hg => ⟨_, rfl, "set_iterator", _, ⟨_, hg, rfl⟩, slot_si_next.lookup, h I h' d' vs fp wr Sd W hl hI hi⟩
  unfold Builtin.«frozenset.__iter__» Builtin.Frozenset.slot0 Builtin.Frozenset.sizeOf
  refine wpAny_bind (wpAny_bind (wpAny_of_eq (a := (Value.ref a, [])) rfl ?_))
  show wpAny _ _ (pure a) _ _ s
  refine wpAny_pure ?_
  refine wpAny_bind (wpAny_bind (entries_ok J (wpAny_pure ?_)))
  refine wpAny_bind (wpAny_bind (wpAny_setState_of ho hd J.fits ?_))
  try dsimp only
  unfold setsByText
  refine wpAny_bind (wpAny_bind (wpAny_askSetting (wpAny_pure ?_)))
  refine wpAny_pure ?_
  have last : ∀ (f : Value) (s1 : Shared) (Q' : Fin → Shared → Prop), At prog w s1.heap a ks es ep t → Q' (.done (.ret (.ref s1.heap.objs.size))) { s1 with heap := s1.heap.push (siObj f 0 a es.size ep) } → wpAny (model prog w) A.in1 (do ret (← newFields "set_iterator" [f, rawInt 0, .ref a, rawInt es.size, rawInt (← setEpoch a)])) Q' E s1 := fun f s1 Q' J1 q => by
    obtain ⟨o1, ho1, _, hd1⟩ := J1.obj
    refine wpAny_bind (wpAny_setEpoch_of ho1 hd1 J1.fits ?_)
    unfold newFields
    refine wpAny_bind (wpAny_newObj_type ?_ (by size_fits))
    exact wpAny_pure q
  by_cases hD : (!w.params.followText "set-order" && (!t.plain && decide (es.size > 1))) = true
  · refine wpAny_ite_split (fun _ => ?_) (fun z => absurd hD z)
    refine wpAny_bind (draw_ok es.size (List.range es.size) s _ (by simp) fun ord d' hp => ?_)
    refine wpAny_bind (wpAny_newTuple ?_ (by rw [List.length_map, hp.length_eq, List.length_range]; exact hsz))
    have hq : ∀ k ∈ ord, k < es.size := fun k hk => List.mem_range.mp (hp.mem_iff.mp hk)
    have pe : (ord.map fun k => es.getD k (0, Value.none)).Perm es.toList := by
      rw [← range_get es]
      exact hp.map _
    have hz1 : (s.heap.push { cls := .type "tuple", data := .seq (List.map (fun (i : Nat) => rawInt i) ord).toArray }).objs.size = s.heap.objs.size + 1 := Heap.size_push ..
    have fpn : ∀ b ∈ [(s.heap.push { cls := .type "tuple", data := .seq (List.map (fun (i : Nat) => rawInt i) ord).toArray }).objs.size, a, s.heap.objs.size], b = a ∨ s.heap.objs.size ≤ b := fun b hb => by
      rw [hz1] at hb
      simp only [List.mem_cons, List.not_mem_nil, or_false] at hb
      rcases hb with rfl | rfl | rfl
      · exact .inr (Nat.le_succ _)
      · exact .inl rfl
      · exact .inr (Nat.le_refl _)
    have wrn : ∀ b ∈ [(s.heap.push { cls := .type "tuple", data := .seq (List.map (fun (i : Nat) => rawInt i) ord).toArray }).objs.size], s.heap.objs.size ≤ b := fun b hb => by
      rw [List.mem_singleton.mp hb, hz1]
      exact Nat.le_succ _
    have szle : s.heap.objs.size ≤ ((s.heap.push { cls := .type "tuple", data := .seq (List.map (fun (i : Nat) => rawInt i) ord).toArray }).push (siObj (.ref s.heap.objs.size) 0 a es.size ep)).objs.size := by
      rw [Heap.size_push, hz1]
      omega
    refine last _ _ _ (J.keep fun o e => Heap.get?_push_of_some _ e) ?_
    obtain ⟨v1, v2⟩ := J.vals pe
    obtain ⟨v, e, T', r, q1, q2, q3⟩ := fin (s.heap.push { cls := .type "tuple", data := .seq (List.map (fun (i : Nat) => rawInt i) ord).toArray }).objs.size _ d' _ [_, a, s.heap.objs.size] [_] _ _
      ⟨fun A' hh => walksD (prog := prog) (w := w) (ks := ks) (t := t) (ep := ep) (es := es) (a := a) (Nat.ne_of_lt (by rw [hz1]; exact Nat.lt_succ_of_lt la)) (tp := s.heap.objs.size) (Nat.ne_of_lt (by rw [hz1]; omega)) ord hq (ot := { cls := .type "tuple", data := .seq (List.map (fun (i : Nat) => rawInt i) ord).toArray }) rfl hh,
        ⟨Heap.get?_push_size _ rfl, (J.keep fun o e => Heap.get?_push_of_some _ e).keep fun o e => Heap.get?_push_of_some _ e, Heap.get?_push_of_some _ (Heap.get?_push_size _ rfl)⟩, v1, v2, fun b o e => Heap.get?_push_of_some _ (Heap.get?_push_of_some _ e), fpn, wrn, szle⟩
      (by rw [List.length_map, List.length_map, hp.length_eq, List.length_range]) (by simp) (by rw [hz1]; omega) (Heap.get?_push_size _ rfl)
    exact ⟨v, by rw [← e], T', r, q1, q2, q3⟩
  · refine wpAny_ite_split (fun z => absurd z hD) (fun _ => ?_)
    refine wpAny_bind (wpAny_pure ?_)
    refine last _ s _ J ?_
    have ne : a ≠ s.heap.objs.size := Nat.ne_of_lt la
    have es0 : s = { s with drawn := s.drawn } := rfl
    have fpn : ∀ b ∈ [s.heap.objs.size, a], b = a ∨ s.heap.objs.size ≤ b := fun b hb => by
      simp only [List.mem_cons, List.not_mem_nil, or_false] at hb
      rcases hb with rfl | rfl
      · exact .inr (Nat.le_refl _)
      · exact .inl rfl
    have wrn : ∀ b ∈ [s.heap.objs.size], s.heap.objs.size ≤ b := fun b hb => by
      rw [List.mem_singleton.mp hb]
      exact Nat.le_refl _
    have szle : s.heap.objs.size ≤ (s.heap.push (siObj (rawInt (0 : Nat)) 0 a es.size ep)).objs.size := by
      rw [Heap.size_push]
      omega
    by_cases hf : w.params.followText "set-order" = true
    · have pp := pick_perm (w.params.setOrder a ep) es
      obtain ⟨v1, v2⟩ := J.vals pp
      obtain ⟨v, e, T', r, q1, q2, q3⟩ := fin s.heap.objs.size _ s.drawn _ [_, a] [_] _ _
        ⟨fun A' hh => walksT (prog := prog) (ks := ks) (t := t) (ep := ep) (es := es) ne hf hh, ⟨Heap.get?_push_size _ rfl, J.keep fun o e => Heap.get?_push_of_some _ e⟩, v1, v2, fun b o e => Heap.get?_push_of_some _ e, fpn, wrn, szle⟩
        (by rw [List.length_map, pp.length_eq, Array.length_toList]) (by simp) (Nat.le_refl _) (Heap.get?_push_size _ rfl)
      exact ⟨v, by rw [← e], T', r, q1, q2, q3⟩
    · have hf' : w.params.followText "set-order" = false := by
        cases q : w.params.followText "set-order" with
        | true => exact absurd q hf
        | false => rfl
      have hp : t.plain = true ∨ es.size ≤ 1 := by
        rw [hf'] at hD
        cases q : t.plain with
        | true => exact .inl rfl
        | false =>
          rw [q] at hD
          refine .inr ?_
          by_cases c : es.size > 1
          · exact absurd (by simp [c]) hD
          · omega
      have up : Up t.place := by
        rcases hp with q | q
        · exact J.tb.up q
        · exact up_small (by omega)
      obtain ⟨v1, v2⟩ := J.vals (List.Perm.refl _)
      obtain ⟨v, e, T', r, q1, q2, q3⟩ := fin s.heap.objs.size _ s.drawn _ [_, a] [_] _ _
        ⟨fun A' hh => walksP (prog := prog) (ks := ks) (t := t) (ep := ep) (es := es) ne hf' hp up hz hh, ⟨⟨0, Heap.get?_push_size _ rfl, below_zero up⟩, J.keep fun o e => Heap.get?_push_of_some _ e⟩, v1, v2, fun b o e => Heap.get?_push_of_some _ e, fpn, wrn, szle⟩
        (by rw [List.length_map, Array.length_toList]) (by simp) (Nat.le_refl _) (Heap.get?_push_size _ rfl)
      exact ⟨v, by rw [← e], T', r, q1, q2, q3⟩
end
end St
namespace St
open PySem PySem.Spec PyProof.Rows
section
variable {prog : Program} {w : World} {A : Around} {E : Value → Shared → Prop} {s : Shared} {a : Addr} {ks : List Int} {es : Array (Int × Value)} {ep : Nat} {t : SetTable}
set_option maxRecDepth 100000 in
theorem hint_ok {o : Obj} {Q : Bool → Shared → Prop} (ho : s.heap.get? a = some o) (hc : o.cls = .type "set") (h : Q false s) : wpAny (model prog w) A (Builtin.List.listLengthHint (.ref a)) Q E s := by
  unfold Builtin.List.listLengthHint
  refine wpAny_bind (wpAny_specialOf ⟨o, ho, hc⟩ set_len_at ?_)
  generalize hid : ("set.__len__" : String) = id0
  wp_delta
  rw [show splitId id0 = some ("set", "__len__") from by subst hid; decide +kernel]
  subst hid
  refine wpAny_bind (wpAny_isInstance (T := "set") (b := true) ⟨o, ho, hc⟩ (by rw [isSubtype_type]; kernel_rfl) ?_)
  refine wpAny_ite_split (fun hab => absurd hab (by decide)) (fun _ => ?_)
  refine wpAny_ite_split (fun _ => ?_) (fun hab => absurd rfl hab)
  refine wpAny_bind (wpAny_typeOf (T := "set") ⟨o, ho, hc⟩ ?_)
  exact wpAny_pure h
theorem vs_eq {vs : List Value} {acc : Array Value} (h : ItemsOf (fun i v => vs[i]? = some v) acc vs.length) : acc.toList = vs := by
  obtain ⟨h0, h2⟩ := h
  refine List.ext_getElem? fun i => ?_
  by_cases hi : i < vs.length
  · have e : acc[i]? = some acc[i] := Array.getElem?_eq_getElem (by omega)
    rw [Array.getElem?_toList, e, h2 i _ e]
  · rw [List.getElem?_eq_none (by rw [Array.length_toList]; omega), List.getElem?_eq_none (by omega)]
/-- all of a set, in some order -/
theorem collect_ok {Q : List Value → Shared → Prop} (hh : A.handled = none) (J : At prog w s.heap a ks es ep t)
    (h : ∀ (vs : List Value) h' d' tk, (vs.map iv).Perm ks → IntsAre vs (vs.map iv) → (∀ b o, s.heap.get? b = some o → h'.get? b = some o) → s.heap.objs.size ≤ h'.objs.size → Q vs { s with heap := h', drawn := d', toks := tk }) : wpAny (model prog w) A (collect (.ref a)) Q E s := by
  have J1 : At prog w (s.heap.push (seqObj "list" #[] 0)) a ks es ep t := J.keep fun o e => Heap.get?_push_of_some _ e
  obtain ⟨o, ho, hex, hd⟩ := J.obj
  have la : a < s.heap.objs.size := Heap.lt_size ho
  obtain ⟨o1, ho1, hex1, hd1⟩ := J1.obj
  unfold collect
  refine wpAny_bind (wpAny_runValue (codeAny_builtin entry_proto_collect' ?_))
  show wpAny _ _ (do again (.builtin "list.__iadd__" ⟨[← newList [], .ref a], []⟩)) _ _ s
  refine wpAny_bind (wpAny_newList (wpAny_pure ⟨Code.quiet_builtin _ (by decide +kernel), codeAny_builtin entry_list_iadd' ?_⟩))
  show wpAny _ _ (Builtin.List.listExtendWith (.ref s.heap.objs.size) (.ref a) (.ref s.heap.objs.size)) _ _ { s with heap := s.heap.push (seqObj "list" #[] 0) }
  unfold Builtin.List.listExtendWith
  refine wpAny_bind (wpAny_typeOf (T := "set") ⟨o1, ho1, hex1.1⟩ ?_)
  have hsa : s.heap.objs.size ≠ a := Nat.ne_of_gt la
  have h1 : Builtin.List.listSameRef (.ref s.heap.objs.size) (.ref a) = false := by simp [Builtin.List.listSameRef, hsa]
  have h2 : (Value.type "set" == Value.type "list") = false := by decide
  have h3 : (Value.type "set" == Value.type "tuple") = false := by decide
  simp only [h1, h2, h3, Bool.or_false, Bool.false_eq_true, if_false]
  refine wpAny_bind (iter_ok (s := { s with heap := s.heap.push (seqObj "list" #[] 0) }) J1 fun I h' d' vs fp wr Sd W hlen hI hge => ?_)
  have hS1 : (s.heap.push (seqObj "list" #[] 0)).get? s.heap.objs.size = some (seqObj "list" #[] 0) := Heap.get?_push_size _ rfl
  refine wpAny_bind (wpAny_holding (hint_ok (W.old _ _ ho1) hex1.1 ?_))
  refine wpAny_ite_split (fun _ => ?_) (fun hab => absurd rfl hab)
  refine wpAny_bind (wpAny_rule ?_)
  have hS2 := W.old _ _ hS1
  have hSf : s.heap.objs.size ∉ fp := fun hm => by
    rcases W.fpn _ hm with e | e
    · exact hsa e
    · rw [Heap.size_push] at e
      omega
  refine wpAny_bind ?_
  show wpAny _ _ (updateSeq s.heap.objs.size (·.push .none) >>= fun _ => updateSeq s.heap.objs.size (·.pop)) _ _ _
  refine wpAny_bind (wpAny_updateSeq hS2 rfl ?_)
  have hS3 := Heap.get?_update_self (Obj.mapSeq (·.push Value.none)) hS2 rfl
  refine wpAny_updateSeq (hz := by seq_fits) hS3 rfl ?_
  have hS4 := Heap.get?_update_self (Obj.mapSeq (·.pop)) hS3 rfl
  have oth : ∀ b o, b ≠ s.heap.objs.size → h'.get? b = some o → ((h'.update s.heap.objs.size (Obj.mapSeq (·.push Value.none))).update s.heap.objs.size (Obj.mapSeq (·.pop))).get? b = some o := fun b o hb e => (Heap.get?_update_other _ _ (Ne.symm hb)).trans ((Heap.get?_update_other _ _ (Ne.symm hb)).trans e)
  have Wk1 := W.walks A.in1 hh
  refine wpAny_pure ⟨plainId_quiet F.plain_extend_loop _, codeAny_extend_loopS Wk1.toS (by rw [hlen]; exact fits_of_scanBound J.small) s.heap.objs.size hSf _ vs.length 0 _ _ _ rfl (Nat.zero_le _) (Wk1.frame 0 _ _ W.st fun b hb o e => oth b o (fun z => hSf (z ▸ hb)) e) hS4 (ItemsOf.nil _) fun s' acc' c' hm hS' hacc => ?_⟩
  have ev := vs_eq hacc
  rw [Moved.eq_with hm]
  refine wpAny_bind (wpAny_load hS' ?_)
  try dsimp only
  refine wpAny_pure ?_
  rw [ev]
  have sz1 : (s.heap.push (seqObj "list" #[] 0)).objs.size = s.heap.objs.size + 1 := Heap.size_push ..
  have wl : ∀ b, b ∈ wr → s.heap.objs.size ≤ b := fun b hb => by
    have q : s.heap.objs.size + 1 ≤ b := sz1 ▸ W.wrn b hb
    exact Nat.le_of_succ_le q
  refine h vs _ _ _ W.perm W.isi (fun b o e => hm.heap b o (fun hmem => ?_) (oth b o (Nat.ne_of_lt (Heap.lt_size e)) (W.old b o (Heap.get?_push_of_some _ e)))) ?_
  · have lb := Heap.lt_size e
    rcases List.mem_cons.mp hmem with q | q
    · exact absurd q (Nat.ne_of_lt lb)
    · exact absurd (wl b q) (Nat.not_le_of_lt lb)
  · exact Nat.le_of_lt (Heap.lt_size hS')
/-- sorted(a set of ints) -/
theorem sorted_ok {Q : Value → Shared → Prop} (hh : A.handled = none) (J : At prog w s.heap a ks es ep t) (h64 : ks.length < 64)
    (h : ∀ (out : Array Value) (ns : List Int) l h' d' tk e, IntsAre out.toList ns → ns.Perm ks → ns.Pairwise (· ≤ ·) → (∀ b o, s.heap.get? b = some o → h'.get? b = some o) → s.heap.objs.size ≤ l → h'.get? l = some (seqObj "list" out e) → Q (.ref l) { s with heap := h', drawn := d', toks := tk }) :
    wpAny (model prog w) A (call (.builtin "sorted") [.ref a]) Q E s := by
  refine Calls.call_function_entry kind_sorted plain_sorted entry_sorted (args_sorted1 _) ?_
  unfold Builtin.«sorted»
  refine wpAny_bind (m := checkCount "sorted" 1 1 _) (wpAny_pure ?_)
  refine wpAny_bind (collect_ok (A := A.in1) hh J fun vs h' d' tk hp hi old hle => ?_)
  have hl : vs.length < 64 := by
    have q := hp.length_eq
    rw [List.length_map] at q
    omega
  refine wpAny_bind (wpAny_newList ?_ (by rw [sizeLine_eq]; omega))
  have hoL : (h'.push (seqObj "list" vs.toArray 0)).get? h'.objs.size = some (seqObj "list" vs.toArray 0) := Heap.get?_push_size _ rfl
  refine wpAny_bind (wpAny_holding (wpAny_call_entry slot_list_sort ⟨_, hoL, rfl⟩ entry_list_sort (list_sort_tree hoL hi hl fun out ns a1 a2 a3 => ⟨_, rfl, ?_⟩) (args_list_sort _)))
  obtain ⟨e, he⟩ := sortedHeap_at (vs := vs) (out := out) hoL
  refine wpAny_pure ⟨_, rfl, h out ns h'.objs.size _ d' tk e a1 (a2.trans hp) a3 (fun b o q => ?_) hle he⟩
  have lb : b < h'.objs.size := Heap.lt_size (old b o q)
  rw [sortedHeap_old (Nat.ne_of_lt lb) (by rw [Heap.size_push]; exact Nat.lt_succ_of_lt lb)]
  exact Heap.get?_push_of_some _ (old b o q)
end
end St
/-! ### sorted(set(a list of ints)) -/
namespace L2
open PySem PySem.Spec PyProof.Rows
section
variable {X : Cx} {K : PySem.W.Frag} {H H' : Hp} {Q : VK} {σ : St}
def rSset (K : PySem.W.Frag) : List V → Hp → VK → Prop := fun vs H1 Q => ∃ (a : Addr) (ns : List Int), vs = [.ref a] ∧ SqL K H1 a (ns.map V.int) ∧ (ns.length < 4000 ∧ ∀ ks : List Int, ks.Nodup → (∀ k, k ∈ ks ↔ k ∈ ns) → ks.length < 64) ∧ ∀ (l : Addr) (ks : List Int), H1 l = none → ks.Pairwise (· < ·) → (∀ k, k ∈ ks ↔ k ∈ ns) → Q (.ref l) (upd H1 l (.lst (ks.map V.int)))
def tSset (K : PySem.W.Frag) (ta : TA) : TE := fun σ H Q => ta σ H fun vs H1 => rSset K vs H1 Q
theorem rise : ∀ {ks : List Int}, ks.Pairwise (· ≤ ·) → ks.Nodup → ks.Pairwise (· < ·)
  | [], _, _ => .nil
  | k :: ks, h, n => by
    rw [List.pairwise_cons] at h ⊢
    rw [List.nodup_cons] at n
    refine ⟨fun x hx => ?_, rise h.2 n.2⟩
    have h1 := h.1 x hx
    have h2 : k ≠ x := fun e => n.1 (e ▸ hx)
    omega
theorem mem_getD {ns : List Int} {k : Int} : (∃ i, i < ns.length ∧ k = ns.getD i 0) ↔ k ∈ ns := by
  constructor
  · rintro ⟨i, hi, rfl⟩
    rw [List.getD_eq_getElem?_getD, List.getElem?_eq_getElem hi]
    exact List.getElem_mem hi
  · intro h
    obtain ⟨i, hi, e⟩ := List.getElem_of_mem h
    exact ⟨i, hi, by rw [List.getD_eq_getElem?_getD, List.getElem?_eq_getElem hi]; exact e.symm⟩
theorem pe_sset {e : Expr} {ta : TA} {p p2 pos pos2 : Pos} (hgl : Gl X "sorted") (hml : X.mg "sorted" = none) (hgr : Gl X "set") (hmr : X.mg "set" = none) (hh : X.A.handled = none) (ha : PA X [e] ta) (hs : starEach [e] X.env = [(false, eval e X.env)] := by rfl)
    (hs2 : starEach [Expr.Call (.Name "set" p2) [e] [] pos2] X.env = [(false, eval (.Call (.Name "set" p2) [e] [] pos2) X.env)] := by rfl) :
    PE X (.Call (.Name "sorted" p) [.Call (.Name "set" p2) [e] [] pos2] [] pos) (tSset X.K ta) := by
  intro pins s σ H Q I h
  refine wpAny_Call_Name_kw (ld_blt I hgl hml Boot.«sorted» ?_)
  refine PyProof.Rows.callWith_builtin1 ?_ hs2 rfl
  rw [hs2]
  refine Calls.spliced_cons (wpAny_Call_Name_kw (ld_blt I hgr hmr Boot.«set» (PyProof.Rows.callWith_type1 (thn (ha pos2 pins s σ H _ I h) fun us s1 ⟨vs, H1, I1, r1, q1⟩ => ?_) hs rfl)))
  obtain ⟨a, ns, e, hq, h64, q⟩ := q1
  subst e
  obtain ⟨u, rfl, rx⟩ := vals1 r1
  cases rx
  obtain ⟨its, rv, pl, hz⟩ := I1.list hq
  have hl := rv.length
  rw [List.length_map] at hl
  have hi : IntsAre its ns := intsAre_of rv
  refine St.call_set_ok (items := its.toArray) (ns := ns) hh pl.isList (by simpa using hi) (by rw [List.size_toArray]; unfold scanBound; have := h64.1; omega) fun h' tk es ep t J hzs old => ?_
  refine Calls.spliced_nil ?_
  have memA : ∀ k, k ∈ St.addAll (fun i => ns.getD i 0) its.toArray.size ↔ k ∈ ns := fun k => by
    rw [St.addAll_mem, List.size_toArray, ← hl]
    exact mem_getD
  have lk : (St.addAll (fun i => ns.getD i 0) its.toArray.size).length < 64 := h64.2 _ J.nd memA
  refine St.sorted_ok (s := { s1 with heap := h', toks := tk }) hh J lk fun out ks l h'' d' tk' c h1 h2 h3 old2 hge hg => ?_
  have up : ks.Pairwise (· < ·) := rise h3 (h2.nodup_iff.mpr J.nd)
  have mem : ∀ k, k ∈ ks ↔ k ∈ ns := fun k => by
    rw [h2.mem_iff]
    exact memA k
  have old3 : ∀ b o, s1.heap.get? b = some o → h''.get? b = some o := fun b o e => old2 b o (old b o (Heap.lt_size e) e)
  obtain ⟨o, ho, _⟩ := J.obj
  have le : s1.heap.objs.size ≤ l := Nat.le_trans (Nat.le_of_lt (Heap.lt_size ho)) hge
  have lo : ks.length ≤ sizeLine := by
    have := h2.length_eq
    rw [sizeLine_eq]
    omega
  have new : ObjOk X.prog X.w (upd H1 l (.lst (ks.map V.int))) h'' l (.lst (ks.map V.int)) := ⟨by rw [List.length_map]; exact lo, out.toList, c, vals_ints h1, hg⟩
  have I2 : Inv X pins σ (upd H1 l (.lst (ks.map V.int))) { s1 with heap := h'', gens := s1.gens, drawn := d', toks := tk' } := I1.call (ch := []) (Un.laid old3 le (I1.hok.fresh le)) (I1.hok.laid old3 le new) I1.bare (fun _ z => nomatch z)
  exact ⟨.ref l, _, I2, rfl, q l ks (I1.hok.fresh le) up mem⟩
theorem rd_sset {ta : TA} (h : ta σ H fun vs H1 => rSset K vs H1 Q) : tSset K ta σ H Q := h
theorem nodup_le : ∀ {ks ns : List Int}, ks.Nodup → (∀ k ∈ ks, k ∈ ns) → ks.length ≤ ns.length
  | [], _, _, _ => Nat.zero_le _
  | k :: ks, ns, h, m => by
    rw [List.nodup_cons] at h
    have hk := m k List.mem_cons_self
    have i := nodup_le (ks := ks) (ns := ns.erase k) h.2 fun x hx => by
      have ne : x ≠ k := fun e => h.1 (e ▸ hx)
      exact (List.mem_erase_of_ne ne).mpr (m x (List.mem_cons_of_mem _ hx))
    rw [List.length_erase_of_mem hk] at i
    have := List.length_pos_of_mem hk
    rw [List.length_cons]
    omega
theorem sset_many {a : Addr} {ns : List Int} (h : SqL K H a (ns.map V.int)) (hl : ns.length < 4000) (hd : ∀ ks : List Int, ks.Nodup → (∀ k, k ∈ ks ↔ k ∈ ns) → ks.length < 64) (q : ∀ (l : Addr) (H' : Hp) (ks : List Int), Same H H' → H l = none → ks.Pairwise (· < ·) → (∀ k, k ∈ ks ↔ k ∈ ns) → H' l = some (.lst (ks.map V.int)) → Q (.ref l) H') : rSset K [.ref a] H Q := ⟨a, ns, rfl, h, ⟨hl, hd⟩, fun l ks hn up mem => q l _ ks (Same.upd hn) hn up mem upd_same⟩
theorem sset_use {a : Addr} {ns : List Int} (h : SqL K H a (ns.map V.int)) (hl : ns.length < 64) (q : ∀ (l : Addr) (H' : Hp) (ks : List Int), Same H H' → H l = none → ks.Pairwise (· < ·) → (∀ k, k ∈ ks ↔ k ∈ ns) → H' l = some (.lst (ks.map V.int)) → Q (.ref l) H') : rSset K [.ref a] H Q := sset_many h (by omega) (fun ks nd mem => Nat.lt_of_le_of_lt (nodup_le nd fun k hk => (mem k).mp hk) hl) q
end
end L2
/-! ### two comparisons in one; the ahead part of a tuple -/
namespace L2
open PySem PySem.Spec PyProof.Rows
section
variable {K : PySem.W.Frag} {H : Hp} {Q : VK} {σ : St} {ta tb tc : TE} {r r' : R2}
def rNotN : R2 := fun x y H Q => y = .non ∧ Q (.bl (!decide (x = .non))) H
theorem op_notN' {X : Cx} : OpR X (compareOp .IsNot) rNotN := op_notN
theorem rNotN.ref {a : Addr} (q : Q (.bl true) H) : rNotN (.ref a) .non H Q := ⟨rfl, q⟩
theorem rNotN.non (q : Q (.bl false) H) : rNotN .non .non H Q := ⟨rfl, q⟩
end
end L2
namespace L2
open PySem PySem.Spec PyProof.Rows
section
variable {K : PySem.W.Frag} {H : Hp} {σ : St}
end
end L2
/-! ### what a spread brings to the middle rest, piece by piece -/
namespace Fx
end Fx
/-! ### loads together: all that is told of them adds up -/
namespace Fx
structure Lin (φ : Ld → Rat) : Prop where
  w : ∀ p y z : Int, φ (.w p (y + z)) = φ (.w p y) + φ (.w p z)
  wt : ∀ p z t : Int, φ (.w p (z * t)) = (t : Rat) * φ (.w p z)
  s : ∀ a m e k : Int, a < m → m < e → φ (.s a e k) = φ (.s a m k) + φ (.s m e k)
  st : ∀ a e k t : Int, a < e → φ (.s a e (k * t)) = (t : Rat) * φ (.s a e k)
def sm (φ : Ld → Rat) (Ls : List Ld) : Rat := (Ls.map φ).sum
theorem sm_cons (φ : Ld → Rat) (L : Ld) (Ls : List Ld) : sm φ (L :: Ls) = φ L + sm φ Ls := by
  unfold sm
  rw [List.map_cons, List.sum_cons]
theorem sm_nil (φ : Ld → Rat) : sm φ [] = 0 := rfl
theorem sm_app (φ : Ld → Rat) : ∀ A B : List Ld, sm φ (A ++ B) = sm φ A + sm φ B
  | [], B => by
    rw [List.nil_append, sm_nil]
    grind
  | L :: A, B => by
    rw [List.cons_append, sm_cons, sm_cons, sm_app φ A B]
    grind
theorem lin_left (x : Rat) : Lin (fun L => L.left x) := by
  refine ⟨fun p y z => ?_, fun p z t => ?_, fun a m e k _ _ => ?_, fun a e k t _ => ?_⟩
  · show lw p (y + z) x = lw p y x + lw p z x
    unfold lw
    push_cast
    grind
  · show lw p (z * t) x = (t : Rat) * lw p z x
    unfold lw
    push_cast
    grind
  · show ls a e k x = ls a m k x + ls m e k x
    unfold ls
    grind
  · show ls a e (k * t) x = (t : Rat) * ls a e k x
    unfold ls
    push_cast
    grind
def mulR (t : Int) (r : Ro) : Ro := ⟨r.a, r.b, r.k * t⟩
theorem mul_sm {φ : Ld → Rat} (l : Lin φ) (t : Int) : ∀ {rows : List Ro}, (∀ r ∈ rows, r.a ≤ r.b) → sm φ ((rows.map (mulR t)).map Ro.ld) = (t : Rat) * sm φ (rows.map Ro.ld)
  | [], _ => by
    show (0 : Rat) = _ * 0
    grind
  | r :: rows, h => by
    have e : φ (mulR t r).ld = (t : Rat) * φ r.ld := by
      have hr := h r List.mem_cons_self
      unfold mulR Ro.ld
      dsimp only
      by_cases e : r.a = r.b
      · rw [if_pos e, if_pos e]
        exact l.wt _ _ _
      · rw [if_neg e, if_neg e]
        exact l.st _ _ _ _ (by omega)
    rw [List.map_cons, List.map_cons, sm_cons, e, mul_sm l t fun t ht => h t (List.mem_cons_of_mem _ ht), List.map_cons, sm_cons]
    grind
end Fx
/-! ### the sum over the pieces between the outer rests -/
namespace Fx
section
variable {p q r a b c : Rat}
theorem ps_ge {x : Rat} (h : 0 ≤ x) : ps x = x := by
  unfold ps
  split <;> grind
theorem ps_le {x : Rat} (h : x ≤ 0) : ps x = 0 := by
  unfold ps
  split <;> grind
end
end Fx
namespace Fx
end Fx
namespace Fx
section
variable {p q r : Int}
end
end Fx
/-! ### point 12: over all pieces -/
namespace Fx
section
variable {p q r : Int} {l : List Int}
end
end Fx
/-! ### the same in whole numbers, at twice a place -/
namespace Fx
theorem sm_rep (φ : Ld → Rat) (A : List Ld) : ∀ k : Nat, sm φ (List.replicate k A).flatten = (k : Rat) * sm φ A
  | 0 => by
    rw [List.replicate_zero, List.flatten_nil, sm_nil]
    have : ((0 : Nat) : Rat) = 0 := rfl
    rw [this]
    grind
  | k + 1 => by
    rw [List.replicate_succ, List.flatten_cons, sm_app, sm_rep φ A k]
    have : ((k + 1 : Nat) : Rat) = (k : Rat) + 1 := by push_cast; rfl
    rw [this]
    grind
end Fx
/-! ### where the turning is greatest -/
namespace Fx
/-- between l and r f is a curve of second degree that bends by κ -/
def Quad (f : Rat → Rat) (l r κ : Rat) : Prop := ∀ y, l ≤ y → y ≤ r → (r - l) * f y = (r - y) * f l + (y - l) * f r + κ / 2 * (y - l) * (y - r) * (r - l)
theorem Quad.add {f g : Rat → Rat} {l r κ μ α : Rat} (hf : Quad f l r κ) (hg : Quad g l r μ) : Quad (fun y => α * f y + g y) l r (α * κ + μ) := fun y h1 h2 => by
  have e1 := hf y h1 h2
  have e2 := hg y h1 h2
  show (r - l) * (α * f y + g y) = (r - y) * (α * f l + g l) + (y - l) * (α * f r + g r) + (α * κ + μ) / 2 * (y - l) * (y - r) * (r - l)
  have e3 : (r - l) * (α * f y + g y) = α * ((r - l) * f y) + (r - l) * g y := by grind
  rw [e3, e1, e2]
  grind
theorem Quad.zero {l r : Rat} : Quad (fun _ => 0) l r 0 := fun y _ _ => by grind
theorem Quad.ext {f g : Rat → Rat} {l r κ : Rat} (e : ∀ y, f y = g y) (h : Quad f l r κ) : Quad g l r κ := by
  have : f = g := funext e
  rw [← this]
  exact h
theorem Quad.ps {a l r : Rat} (hlr : l ≤ r) (h : a ≤ l ∨ r ≤ a) : Quad (fun y => ps (y - a)) l r 0 := fun y h1 h2 => by
  show (r - l) * Fx.ps (y - a) = (r - y) * Fx.ps (l - a) + (y - l) * Fx.ps (r - a) + 0 / 2 * (y - l) * (y - r) * (r - l)
  rcases h with h | h
  · rw [ps_ge (show 0 ≤ y - a by grind), ps_ge (show 0 ≤ l - a by grind), ps_ge (show 0 ≤ r - a by grind)]
    grind
  · rw [ps_le (show y - a ≤ 0 by grind), ps_le (show l - a ≤ 0 by grind), ps_le (show r - a ≤ 0 by grind)]
    grind
theorem Quad.sq {a l r : Rat} (hlr : l ≤ r) (h : a ≤ l ∨ r ≤ a) : Quad (fun y => Fx.ps (y - a) * Fx.ps (y - a)) l r (if r ≤ a ∧ ¬ a ≤ l then 0 else 2) := fun y h1 h2 => by
  by_cases c : a ≤ l
  · rw [if_neg (by grind)]
    show (r - l) * (Fx.ps (y - a) * Fx.ps (y - a)) = (r - y) * (Fx.ps (l - a) * Fx.ps (l - a)) + (y - l) * (Fx.ps (r - a) * Fx.ps (r - a)) + 2 / 2 * (y - l) * (y - r) * (r - l)
    rw [ps_ge (show 0 ≤ y - a by grind), ps_ge (show 0 ≤ l - a by grind), ps_ge (show 0 ≤ r - a by grind)]
    grind
  · have c2 : r ≤ a := by
      rcases h with h | h
      · exact absurd h c
      · exact h
    rw [if_pos ⟨c2, c⟩]
    show (r - l) * (Fx.ps (y - a) * Fx.ps (y - a)) = (r - y) * (Fx.ps (l - a) * Fx.ps (l - a)) + (y - l) * (Fx.ps (r - a) * Fx.ps (r - a)) + 0 / 2 * (y - l) * (y - r) * (r - l)
    rw [ps_le (show y - a ≤ 0 by grind), ps_le (show l - a ≤ 0 by grind), ps_le (show r - a ≤ 0 by grind)]
    grind
/-- how much lies on each length from l to r -/
def Ld.over (l r : Rat) : Ld → Int
  | .w _ _ => 0
  | .s a e k => if l < (a : Rat) ∨ (e : Rat) < r then 0 else k
theorem Quad.left {L : Ld} {l r : Rat} (ok : L.ok) (hlr : l < r) (h : ∀ a ∈ L.edges, (a : Rat) ≤ l ∨ r ≤ (a : Rat)) : Quad (fun y => L.left y) l r (L.over l r) := by
  cases L with
  | w a z =>
    have q := Quad.add (α := z) (Quad.ps (a := a) (Rat.le_of_lt hlr) (h a (by simp [Ld.edges]))) (Quad.zero (l := l) (r := r))
    have e : (z : Rat) * 0 + 0 = ((Ld.over l r (.w a z) : Int) : Rat) := by
      show _ = ((0 : Int) : Rat)
      push_cast
      grind
    rw [e] at q
    exact q.ext fun y => by
      show (z : Rat) * Fx.ps (y - a) + 0 = lw a z y
      unfold lw
      grind
  | s a e k =>
    have ok' : (a : Rat) < e := by
      have : a < e := ok
      exact_mod_cast this
    have ha := h a (by simp [Ld.edges])
    have he := h e (by simp [Ld.edges])
    have q := Quad.add (α := (k : Rat) / 2) (Quad.sq (a := a) (Rat.le_of_lt hlr) ha) (Quad.add (α := -((k : Rat) / 2)) (Quad.sq (a := e) (Rat.le_of_lt hlr) he) (Quad.zero (l := l) (r := r)))
    have ek : (k : Rat) / 2 * (if r ≤ (a : Rat) ∧ ¬ (a : Rat) ≤ l then 0 else 2) + (-((k : Rat) / 2) * (if r ≤ (e : Rat) ∧ ¬ (e : Rat) ≤ l then 0 else 2) + 0) = ((Ld.over l r (.s a e k) : Int) : Rat) := by
      show _ = (((if l < (a : Rat) ∨ (e : Rat) < r then 0 else k) : Int) : Rat)
      by_cases c1 : (a : Rat) ≤ l
      · by_cases c2 : (e : Rat) ≤ l
        · rw [if_neg (by grind), if_neg (by grind), if_pos (by grind)]
          push_cast
          grind
        · rw [if_neg (by grind), if_pos (by grind), if_neg (by grind)]
          grind
      · rw [if_pos (by grind), if_pos (by grind), if_pos (by grind)]
        push_cast
        grind
    rw [ek] at q
    exact q.ext fun y => by
      show (k : Rat) / 2 * (Fx.ps (y - a) * Fx.ps (y - a)) + (-((k : Rat) / 2) * (Fx.ps (y - e) * Fx.ps (y - e)) + 0) = ls a e k y
      unfold ls
      grind
theorem Quad.lefts {l r : Rat} (hlr : l < r) : ∀ {Ls : List Ld}, (∀ L ∈ Ls, L.ok) → (∀ L ∈ Ls, ∀ a ∈ L.edges, (a : Rat) ≤ l ∨ r ≤ (a : Rat)) → Quad (fun y => lSum y Ls) l r (((Ls.map fun L => L.over l r).sum : Int) : Rat)
  | [], _, _ => Quad.zero
  | L :: Ls, ok, h => by
    have q := Quad.add (α := 1) (Quad.left (ok L List.mem_cons_self) hlr (h L List.mem_cons_self)) (Quad.lefts hlr (Ls := Ls) (fun M hM => ok M (List.mem_cons_of_mem _ hM)) fun M hM => h M (List.mem_cons_of_mem _ hM))
    have e : (1 : Rat) * ((L.over l r : Int) : Rat) + (((Ls.map fun L => L.over l r).sum : Int) : Rat) = ((((L :: Ls).map fun L => L.over l r).sum : Int) : Rat) := by
      rw [List.map_cons, List.sum_cons]
      push_cast
      grind
    rw [e] at q
    exact q.ext fun y => by
      have e2 : lSum y (L :: Ls) = L.left y + lSum y Ls := by unfold lSum; rw [List.map_cons, List.sum_cons]
      rw [e2]
      grind
theorem Quad.dots {l r : Rat} (hlr : l < r) : ∀ {rs : List Int} {qs : List Rat}, (∀ a ∈ rs, (a : Rat) ≤ l ∨ r ≤ (a : Rat)) → Quad (fun y => dotL y rs qs) l r 0
  | [], qs, _ => by cases qs <;> exact Quad.zero
  | _ :: _, [], _ => Quad.zero
  | a :: rs, q :: qs, h => by
    have z := Quad.add (α := q) (Quad.ps (a := a) (Rat.le_of_lt hlr) (h a List.mem_cons_self)) (Quad.dots hlr (rs := rs) (qs := qs) fun b hb => h b (List.mem_cons_of_mem _ hb))
    have e : q * 0 + 0 = (0 : Rat) := by grind
    rw [e] at z
    exact z
/-- the turning between two neighbouring cuts -/
theorem Quad.turn {l r : Rat} (hlr : l < r) {rs : List Int} {qs : List Rat} {Ls : List Ld} (ok : ∀ L ∈ Ls, L.ok) (h1 : ∀ a ∈ rs, (a : Rat) ≤ l ∨ r ≤ (a : Rat)) (h2 : ∀ L ∈ Ls, ∀ a ∈ L.edges, (a : Rat) ≤ l ∨ r ≤ (a : Rat)) : Quad (fun y => turnOf rs qs Ls y) l r (-(((Ls.map fun L => L.over l r).sum : Int) : Rat)) := by
  have q := Quad.add (α := -1) (Quad.lefts hlr ok h2) (Quad.dots (qs := qs) hlr h1)
  have e : (-1 : Rat) * (((Ls.map fun L => L.over l r).sum : Int) : Rat) + 0 = -(((Ls.map fun L => L.over l r).sum : Int) : Rat) := by grind
  rw [e] at q
  exact q.ext fun y => by
    unfold turnOf
    grind
/-- x is the leftmost of the greatest from s to e -/
structure Top (f : Rat → Rat) (s e x : Rat) : Prop where
  lo : s ≤ x
  hi : x ≤ e
  most : ∀ y, s ≤ y → y ≤ e → f y ≤ f x
  first : ∀ y, s ≤ y → y ≤ e → f y = f x → x ≤ y
theorem Top.self {f : Rat → Rat} {s : Rat} : Top f s s s := ⟨Rat.le_refl, Rat.le_refl, fun y h1 h2 => by
  have : y = s := by grind
  rw [this]
  exact Rat.le_refl, fun y h1 _ _ => h1⟩
/-- the better of both -/
def pickT (f : Rat → Rat) (x y : Rat) : Rat := if f x < f y then y else x
/-- inside of a piece no place is greater than both its ends, but the curve's top -/
theorem quad_in {f : Rat → Rat} {l r κ y : Rat} (q : Quad f l r κ) (h1 : l < y) (h2 : y < r) (hk : 0 ≤ κ) : f y ≤ f l ∨ f y < f r := by
  have e := q y (Rat.le_of_lt h1) (Rat.le_of_lt h2)
  rcases lt_or_le (f l) (f y) with c | c
  · right
    rcases lt_or_le (f y) (f r) with d | d
    · exact d
    · exfalso
      have a1 : 0 < (r - y) * (f y - f l) := Rat.mul_pos (by grind) (by grind)
      have a2 : 0 ≤ (y - l) * (f y - f r) := Rat.mul_nonneg (by grind) (by grind)
      have a3 : 0 ≤ κ / 2 * ((y - l) * (r - y) * (r - l)) := Rat.mul_nonneg (by grind) (Rat.mul_nonneg (Rat.mul_nonneg (by grind) (by grind)) (by grind))
      grind
  · exact .inl c
end Fx
namespace Fx
theorem top_step {f : Rat → Rat} {s l r x : Rat} (T : Top f s l x) (hlr : l < r) (h : ∀ y, l < y → y < r → f y ≤ f l ∨ f y < f r) : Top f s r (pickT f x r) := by
  have sl : s ≤ l := Rat.le_trans T.lo T.hi
  have ml := T.most l sl Rat.le_refl
  unfold pickT
  by_cases c : f x < f r
  · rw [if_pos c]
    have key : ∀ y, s ≤ y → y ≤ r → y = r ∨ f y < f r := fun y h1 h2 => by
      rcases lt_or_le l y with d | d
      · rcases lt_or_le y r with e | e
        · rcases h y d e with z | z
          · exact .inr (by grind)
          · exact .inr z
        · exact .inl (by grind)
      · have := T.most y h1 d
        exact .inr (by grind)
    refine ⟨by grind, Rat.le_refl, fun y h1 h2 => ?_, fun y h1 h2 e => ?_⟩
    · rcases key y h1 h2 with rfl | z
      · exact Rat.le_refl
      · exact Rat.le_of_lt z
    · rcases key y h1 h2 with rfl | z
      · exact Rat.le_refl
      · grind
  · rw [if_neg c]
    have xl := T.hi
    refine ⟨T.lo, by grind, fun y h1 h2 => ?_, fun y h1 h2 e => ?_⟩
    · rcases lt_or_le l y with d | d
      · rcases lt_or_le y r with e | e
        · rcases h y d e with z | z <;> grind
        · have : y = r := by grind
          rw [this]
          grind
      · exact T.most y h1 d
    · rcases lt_or_le l y with d | d
      · grind
      · exact T.first y h1 d e
theorem top_peak {f : Rat → Rat} {s l r x t : Rat} (T : Top f s l x) (h1 : l < t) (h2 : t < r) (h : ∀ y, l ≤ y → y ≤ r → y ≠ t → f y < f t) : Top f s r (pickT f (pickT f x t) r) := by
  have sl : s ≤ l := Rat.le_trans T.lo T.hi
  have rt := h r (by grind) Rat.le_refl (by grind)
  have xl := T.hi
  unfold pickT
  by_cases c : f x < f t
  · rw [if_pos c, if_neg (by grind)]
    have key : ∀ y, s ≤ y → y ≤ r → y = t ∨ f y < f t := fun y q1 q2 => by
      rcases lt_or_le l y with d | d
      · by_cases e : y = t
        · exact .inl e
        · exact .inr (h y (Rat.le_of_lt d) q2 e)
      · have := T.most y q1 d
        exact .inr (by grind)
    refine ⟨by grind, by grind, fun y q1 q2 => ?_, fun y q1 q2 e => ?_⟩
    · rcases key y q1 q2 with rfl | z
      · exact Rat.le_refl
      · exact Rat.le_of_lt z
    · rcases key y q1 q2 with rfl | z
      · exact Rat.le_refl
      · grind
  · rw [if_neg c, if_neg (by grind)]
    refine ⟨T.lo, by grind, fun y q1 q2 => ?_, fun y q1 q2 e => ?_⟩
    · rcases lt_or_le l y with d | d
      · by_cases e : y = t
        · rw [e]
          grind
        · have := h y (Rat.le_of_lt d) q2 e
          grind
      · exact T.most y q1 d
    · rcases lt_or_le l y with d | d
      · grind
      · exact T.first y q1 d e
theorem div_back {x E : Rat} (h : E ≠ 0) : x / E * E = x := by grind
/-- where the curve has its top -/
def topAt (f : Rat → Rat) (l r E : Rat) : Rat := (l + r) / 2 + (f r - f l) / (r - l) / E
theorem quad_dif {f : Rat → Rat} {l r E : Rat} (hlr : l < r) (hE : 0 < E) (q : Quad f l r (-E)) {y z : Rat} (y1 : l ≤ y) (y2 : y ≤ r) (z1 : l ≤ z) (z2 : z ≤ r) : f y - f z = E / 2 * ((z - topAt f l r E) * (z - topAt f l r E) - (y - topAt f l r E) * (y - topAt f l r E)) := by
  have ey := q y y1 y2
  have ez := q z z1 z2
  have d0 : r - l ≠ 0 := by grind
  obtain ⟨ρ, hρ⟩ : ∃ ρ, ρ = (f r - f l) / (r - l) := ⟨_, rfl⟩
  have hr : f r = f l + ρ * (r - l) := by
    rw [hρ]
    grind
  obtain ⟨u, hu⟩ : ∃ u, u = ρ / E := ⟨_, rfl⟩
  have hu' : u * E = ρ := by
    rw [hu]
    exact div_back (by grind)
  have ht : topAt f l r E = (l + r) / 2 + u := by
    unfold topAt
    rw [← hρ, ← hu]
  rw [ht]
  have fy : f y = f l + ρ * (y - l) - E / 2 * (y - l) * (y - r) := by
    have : (r - l) * f y = (r - l) * (f l + ρ * (y - l) - E / 2 * (y - l) * (y - r)) := by
      rw [ey, hr]
      grind
    grind
  have fz : f z = f l + ρ * (z - l) - E / 2 * (z - l) * (z - r) := by
    have : (r - l) * f z = (r - l) * (f l + ρ * (z - l) - E / 2 * (z - l) * (z - r)) := by
      rw [ez, hr]
      grind
    grind
  rw [fy, fz, ← hu']
  grind
theorem peak_in {f : Rat → Rat} {l r E : Rat} (hlr : l < r) (hE : 0 < E) (q : Quad f l r (-E)) (h1 : l < topAt f l r E) (h2 : topAt f l r E < r) : ∀ y, l ≤ y → y ≤ r → y ≠ topAt f l r E → f y < f (topAt f l r E) := fun y y1 y2 ne => by
  have d := quad_dif hlr hE q y1 y2 (Rat.le_of_lt h1) (Rat.le_of_lt h2)
  generalize topAt f l r E = t at *
  have a : 0 < (y - t) * (y - t) := by
    rcases lt_or_le y t with c | c
    · have := Rat.mul_pos (show 0 < t - y by grind) (show 0 < t - y by grind)
      grind
    · have := Rat.mul_pos (show 0 < y - t by grind) (show 0 < y - t by grind)
      grind
  have b := Rat.mul_pos (show 0 < E / 2 by grind) a
  grind
theorem peak_out {f : Rat → Rat} {l r E : Rat} (hlr : l < r) (hE : 0 < E) (q : Quad f l r (-E)) (h : ¬ (l < topAt f l r E ∧ topAt f l r E < r)) : ∀ y, l < y → y < r → f y ≤ f l ∨ f y < f r := fun y y1 y2 => by
  have dl := quad_dif hlr hE q (Rat.le_of_lt y1) (Rat.le_of_lt y2) Rat.le_refl (Rat.le_of_lt hlr)
  have dr := quad_dif hlr hE q (Rat.le_of_lt y1) (Rat.le_of_lt y2) (Rat.le_of_lt hlr) Rat.le_refl
  generalize topAt f l r E = t at *
  rcases lt_or_le l t with c | c
  · right
    have c2 : r ≤ t := by
      rcases lt_or_le t r with z | z
      · exact absurd ⟨c, z⟩ h
      · exact z
    have a := Rat.mul_pos (show 0 < r - y by grind) (show 0 < (t - y) + (t - r) by grind)
    have b := Rat.mul_pos (show 0 < E / 2 by grind) a
    grind
  · left
    have a := Rat.mul_pos (show 0 < y - l by grind) (show 0 < (y - t) + (l - t) by grind)
    have b := Rat.mul_pos (show 0 < E / 2 by grind) a
    grind
theorem flat_in {f : Rat → Rat} {l r : Rat} {E : Rat} (q : Quad f l r (-E)) (hE : E ≤ 0) : ∀ y, l < y → y < r → f y ≤ f l ∨ f y < f r := fun _ h1 h2 => quad_in q h1 h2 (by grind)
/-- neighbours of a rising list have none of its members between them -/
theorem nbr {L : List Rat} (up : L.Pairwise (· < ·)) {i : Nat} {l r : Rat} (hl : L[i]? = some l) (hr : L[i + 1]? = some r) : l < r ∧ ∀ a, a ∈ L → a ≤ l ∨ r ≤ a := by
  rw [List.pairwise_iff_getElem] at up
  obtain ⟨li, rfl⟩ := List.getElem?_eq_some_iff.mp hl
  obtain ⟨ri, rfl⟩ := List.getElem?_eq_some_iff.mp hr
  refine ⟨up i (i + 1) li ri (by omega), fun a ha => ?_⟩
  obtain ⟨j, hj, rfl⟩ := List.getElem_of_mem ha
  by_cases c : j ≤ i
  · left
    by_cases e : j = i
    · subst e
      exact Rat.le_refl
    · exact Rat.le_of_lt (up j i hj li (by omega))
  · right
    by_cases e : j = i + 1
    · subst e
      exact Rat.le_refl
    · exact Rat.le_of_lt (up (i + 1) j ri hj (by omega))
end Fx
/-! ### a weight on the first rest -/
namespace Fx
end Fx
/-! ### no place has more: in whole numbers -/
namespace Fx
theorem mxT {t b : Int} (hb : 0 < b) (r : Int) : (mx (t - r * b) : Rat) = b * ps ((t : Rat) / b - r) := by
  have hb' : (0 : Rat) < (b : Rat) := by exact_mod_cast hb
  have e : ((t - r * b : Int) : Rat) = b * ((t : Rat) / b - r) := by
    push_cast
    have : (t : Rat) / b * b = t := div_back (by grind)
    grind
  unfold mx ps
  by_cases h : t - r * b > 0
  · have h' : ((t - r * b : Int) : Rat) > 0 := by exact_mod_cast h
    rw [if_pos h, if_pos ?_, e]
    rw [e] at h'
    rcases lt_or_le 0 ((t : Rat) / b - r) with q | q
    · exact q
    · have := Rat.mul_le_mul_of_nonneg_left q (Rat.le_of_lt hb')
      grind
  · have h' : ¬ ((t - r * b : Int) : Rat) > 0 := fun z => h (by exact_mod_cast z)
    rw [if_neg h, if_neg ?_]
    · push_cast
      grind
    · rw [e] at h'
      intro z
      exact h' (Rat.mul_pos hb' z)
def dotT (cm t b : Int) : List Int → List Rat → Int
  | r :: rs, q :: qs => 2 * b * sh cm q * mx (t - r * b) + dotT cm t b rs qs
  | _, _ => 0
theorem dotT_snoc (cm t b : Int) {r : Int} {q : Rat} : ∀ {rs : List Int} {qs : List Rat}, rs.length = qs.length → dotT cm t b (rs ++ [r]) (qs ++ [q]) = dotT cm t b rs qs + 2 * b * sh cm q * mx (t - r * b)
  | [], [], _ => by simp [dotT]
  | a :: rs, c :: qs, h => by
    rw [List.cons_append, List.cons_append, dotT, dotT, dotT_snoc cm t b (by simpa using h), Int.add_assoc]
  | [], _ :: _, h => by simp at h
  | _ :: _, [], h => by simp at h
def rowT (cm t b : Int) (r : Ro) : Int := if r.a = r.b then cm * 2 * r.k * b * mx (t - r.a * b) else cm * r.k * (mx (t - r.a * b) * mx (t - r.a * b) - mx (t - r.b * b) * mx (t - r.b * b))
def rowsT' (cm t b : Int) : List Ro → Int
  | [] => 0
  | r :: rows => rowT cm t b r + rowsT' cm t b rows
theorem rowsT'_snoc (cm t b : Int) (r : Ro) : ∀ rows : List Ro, rowsT' cm t b (rows ++ [r]) = rowsT' cm t b rows + rowT cm t b r
  | [] => by simp [rowsT']
  | a :: rows => by rw [List.cons_append, rowsT', rowsT', rowsT'_snoc cm t b r rows, Int.add_assoc]
theorem dotT_eq {cm t b : Int} (hb : 0 < b) : ∀ {rs : List Int} {qs : List Rat}, (∀ q ∈ qs, (q.den : Int) ∣ cm) → (dotT cm t b rs qs : Rat) = 2 * b * b * cm * dotL ((t : Rat) / b) rs qs
  | [], qs, _ => by
    cases qs <;> (simp only [dotT, dotL]; push_cast; grind)
  | _ :: _, [], _ => by
    simp only [dotT, dotL]
    push_cast
    grind
  | r :: rs, q :: qs, h => by
    simp only [dotT, dotL]
    push_cast
    rw [sh_eq (h q List.mem_cons_self), dotT_eq hb fun p hp => h p (List.mem_cons_of_mem _ hp)]
    have e := mxT (t := t) hb r
    push_cast at e
    rw [e]
    grind
theorem rowT_eq {cm t b : Int} (hb : 0 < b) (r : Ro) : (rowT cm t b r : Rat) = 2 * b * b * cm * r.ld.left ((t : Rat) / b) := by
  have e1 := mxT (t := t) hb r.a
  have e2 := mxT (t := t) hb r.b
  push_cast at e1 e2
  unfold rowT Ro.ld
  split
  · show _ = 2 * (b : Rat) * b * cm * lw r.a r.k ((t : Rat) / b)
    unfold lw
    push_cast
    rw [e1]
    grind
  · show _ = 2 * (b : Rat) * b * cm * ls r.a r.b r.k ((t : Rat) / b)
    unfold ls
    push_cast
    rw [e1, e2]
    grind
theorem rowsT'_eq {cm t b : Int} (hb : 0 < b) : ∀ rows : List Ro, (rowsT' cm t b rows : Rat) = 2 * b * b * cm * lSum ((t : Rat) / b) (rows.map Ro.ld)
  | [] => by
    show ((0 : Int) : Rat) = _ * 0
    push_cast
    grind
  | r :: rows => by
    have e2 : lSum ((t : Rat) / b) (List.map Ro.ld (r :: rows)) = r.ld.left ((t : Rat) / b) + lSum ((t : Rat) / b) (rows.map Ro.ld) := by unfold lSum; rw [List.map_cons, List.map_cons, List.sum_cons]
    rw [e2, rowsT']
    push_cast
    rw [rowT_eq hb, rowsT'_eq hb rows]
    grind
def turnT (cm : Int) (rs : List Int) (qs : List Rat) (rows : List Ro) (t b : Int) : Int := dotT cm t b rs qs - rowsT' cm t b rows
theorem turnT_eq {cm t b : Int} {rs : List Int} {qs : List Rat} {rows : List Ro} (hb : 0 < b) (dv : ∀ q ∈ qs, (q.den : Int) ∣ cm) : (turnT cm rs qs rows t b : Rat) = 2 * b * b * cm * turnOf rs qs (rows.map Ro.ld) ((t : Rat) / b) := by
  unfold turnT turnOf
  push_cast
  rw [dotT_eq hb dv, rowsT'_eq hb]
  grind
theorem less_iff {t1 b1 t2 b2 : Int} (h1 : 0 < b1) (h2 : 0 < b2) : t1 * b2 < t2 * b1 ↔ (t1 : Rat) / b1 < (t2 : Rat) / b2 := by
  have p1 : (0 : Rat) < (b1 : Rat) := by exact_mod_cast h1
  have p2 : (0 : Rat) < (b2 : Rat) := by exact_mod_cast h2
  have e1 : (t1 : Rat) / b1 * b1 = t1 := div_back (by grind)
  have e2 : (t2 : Rat) / b2 * b2 = t2 := div_back (by grind)
  generalize (t1 : Rat) / b1 = x at *
  generalize (t2 : Rat) / b2 = y at *
  have pp := Rat.mul_pos p1 p2
  constructor
  · intro h
    have h' : (t1 : Rat) * b2 < (t2 : Rat) * b1 := by exact_mod_cast h
    rw [← e1, ← e2] at h'
    rcases lt_or_le x y with q | q
    · exact q
    · have := Rat.mul_le_mul_of_nonneg_right q (Rat.le_of_lt pp)
      clear e1 e2 h
      generalize (b1 : Rat) = c1 at *
      generalize (b2 : Rat) = c2 at *
      grind
  · intro h
    have := Rat.mul_pos (show 0 < y - x by grind) pp
    have h' : (t1 : Rat) * b2 < (t2 : Rat) * b1 := by
      rw [← e1, ← e2]
      clear e1 e2
      generalize (b1 : Rat) = c1 at *
      generalize (b2 : Rat) = c2 at *
      grind
    exact_mod_cast h'
/-- the curve by its three values -/
theorem quad_par {f : Rat → Rat} {l r κ : Rat} (hlr : l < r) (q : Quad f l r κ) {u : Rat} (u0 : 0 ≤ u) (u1 : u ≤ 1) : f (l + (r - l) * u) = f l + (4 * f ((l + r) / 2) - 3 * f l - f r) * u - (4 * f ((l + r) / 2) - 2 * f l - 2 * f r) * u * u := by
  have d : 0 < r - l := by grind
  have a1 := Rat.mul_nonneg (Rat.le_of_lt d) u0
  have a2 := Rat.mul_nonneg (Rat.le_of_lt d) (show 0 ≤ 1 - u by grind)
  have em := q ((l + r) / 2) (by grind) (by grind)
  have ey := q (l + (r - l) * u) (by grind) (by grind)
  generalize f ((l + r) / 2) = fm at *
  generalize f (l + (r - l) * u) = fy at *
  generalize f l = fl at *
  generalize f r = fr at *
  obtain ⟨w, hw⟩ : ∃ w, w = r - l := ⟨_, rfl⟩
  have er : r = l + w := by grind
  subst er
  have w0 : w ≠ 0 := by grind
  have em' : fm = (fl + fr) / 2 - κ * w * w / 8 := by
    have : w * fm = w * ((fl + fr) / 2 - κ * w * w / 8) := by grind
    grind
  have ey' : fy = (1 - u) * fl + u * fr + κ / 2 * w * w * u * (u - 1) := by
    have : w * fy = w * ((1 - u) * fl + u * fr + κ / 2 * w * w * u * (u - 1)) := by grind
    grind
  rw [ey', em']
  grind
/-- what a piece's three values ask, where none is greater than f x, and none left of x as great -/
theorem piece_top {f : Rat → Rat} {s e x l r κ : Rat} (T : Top f s e x) (sl : s ≤ l) (re : r ≤ e) (hlr : l < r) (q : Quad f l r κ) {A B : Rat} (hA : A = 4 * f ((l + r) / 2) - 3 * f l - f r) (hB : B = 4 * f ((l + r) / 2) - 2 * f l - 2 * f r) (b0 : 0 < B) (a0 : 0 < A) (ab : A < 2 * B) :
    A * A ≤ 4 * B * (f x - f l) ∧ (A * A = 4 * B * (f x - f l) → x ≤ l + (r - l) * (A / (2 * B))) := by
  have u0 : 0 ≤ A / (2 * B) := by
    rcases lt_or_le (A / (2 * B)) 0 with z | z
    · have e1 : A / (2 * B) * (2 * B) = A := div_back (by grind)
      have := Rat.mul_pos (show 0 < -(A / (2 * B)) by grind) (show 0 < 2 * B by grind)
      grind
    · exact z
  have u1 : A / (2 * B) ≤ 1 := by
    rcases lt_or_le 1 (A / (2 * B)) with z | z
    · have e1 : A / (2 * B) * (2 * B) = A := div_back (by grind)
      have := Rat.mul_pos (show 0 < A / (2 * B) - 1 by grind) (show 0 < 2 * B by grind)
      grind
    · exact z
  have e1 : A / (2 * B) * (2 * B) = A := div_back (by grind)
  have p := quad_par hlr q u0 u1
  rw [← hA, ← hB] at p
  generalize A / (2 * B) = u at *
  have d : 0 < r - l := by grind
  have a1 := Rat.mul_nonneg (Rat.le_of_lt d) u0
  have a2 := Rat.mul_nonneg (Rat.le_of_lt d) (show 0 ≤ 1 - u by grind)
  have hy1 : s ≤ l + (r - l) * u := by grind
  have hy2 : l + (r - l) * u ≤ e := by grind
  have m := T.most _ hy1 hy2
  have fs := T.first _ hy1 hy2
  have val : 4 * B * (f (l + (r - l) * u) - f l) = A * A := by
    rw [p, ← e1]
    grind
  generalize f (l + (r - l) * u) = fy at *
  constructor
  · have := Rat.mul_nonneg (show 0 ≤ 4 * B by grind) (show 0 ≤ f x - fy by grind)
    grind
  · intro h
    refine fs ?_
    have : 4 * B * (f x - fy) = 0 := by grind
    have b4 : 4 * B ≠ 0 := by grind
    grind
end Fx
/-! ### no place has more: what the whole numbers say -/
namespace Fx
theorem num_div (y : Rat) : (y.num : Rat) / ((y.den : Int) : Rat) = y := by
  have h := Rat.num_divInt_den y
  rw [Rat.divInt_eq_div] at h
  exact h
theorem num_eq (y : Rat) : (y.num : Rat) = y * ((y.den : Int) : Rat) := by
  have h : ((y.den : Int) : Rat) ≠ 0 := by
    have := dpos y
    exact_mod_cast (show (y.den : Int) ≠ 0 by omega)
  have := div_back (x := (y.num : Rat)) h
  rw [num_div y] at this
  exact this.symm
theorem cmp_gt {N S : Int} {g y : Rat} (hN : (N : Rat) = S * g) (hS : 0 < S) (h : N * y.den > y.num * S) : y < g := by
  have h' : (y.num : Rat) * S < (N : Rat) * ((y.den : Int) : Rat) := by exact_mod_cast h
  have s0 : (0 : Rat) < (S : Rat) := by exact_mod_cast hS
  have d0 : (0 : Rat) < ((y.den : Int) : Rat) := by exact_mod_cast dpos y
  rw [num_eq y, hN] at h'
  generalize ((y.den : Int) : Rat) = d at *
  generalize (S : Rat) = s at *
  have pp := Rat.mul_pos s0 d0
  rcases lt_or_le y g with q | q
  · exact q
  · have := Rat.mul_le_mul_of_nonneg_left q (Rat.le_of_lt pp)
    grind
theorem cmp_eq {N S : Int} {g y : Rat} (hN : (N : Rat) = S * g) (hS : 0 < S) (h : N * y.den = y.num * S) : g = y := by
  have h' : (N : Rat) * ((y.den : Int) : Rat) = (y.num : Rat) * S := by exact_mod_cast h
  have s0 : (0 : Rat) < (S : Rat) := by exact_mod_cast hS
  have d0 : (0 : Rat) < ((y.den : Int) : Rat) := by exact_mod_cast dpos y
  rw [num_eq y, hN] at h'
  generalize ((y.den : Int) : Rat) = d at *
  generalize (S : Rat) = s at *
  have pp := Rat.mul_pos s0 d0
  clear h hN
  rcases lt_or_le g y with q | q
  · have := Rat.mul_pos pp (show 0 < y - g by grind)
    grind
  · rcases lt_or_le y g with z | z
    · have := Rat.mul_pos pp (show 0 < g - y by grind)
      grind
    · grind
theorem cmp_is {N S : Int} {y : Rat} (hN : (N : Rat) = S * y) : y.num * S = N * y.den := by
  have h' : (y.num : Rat) * S = (N : Rat) * ((y.den : Int) : Rat) := by
    rw [num_eq y, hN]
    grind
  exact_mod_cast h'
theorem pos_of {c b : Rat} (hc : 0 < c) (h : 0 < c * b) : 0 < b := by
  rcases lt_or_le 0 b with q | q
  · exact q
  · have := Rat.mul_le_mul_of_nonneg_left q (Rat.le_of_lt hc)
    grind
theorem mul_can {c a b : Rat} (hc : 0 < c) (h : c * a = c * b) : a = b := by
  rcases lt_or_le a b with q | q
  · have := Rat.mul_pos hc (show 0 < b - a by grind)
    grind
  · rcases lt_or_le b a with z | z
    · have := Rat.mul_pos hc (show 0 < a - b by grind)
      grind
    · grind
theorem piece_num {f : Rat → Rat} {s e x l r : Rat} (T : Top f s e x) (sl : s ≤ l) (re : r ≤ e) (hlr : l ≤ r) (q : l < r → ∃ κ, Quad f l r κ) {S t0 t1 t2 fi la bt : Int} (hS : 0 < S) (h0 : (t0 : Rat) = S * f l) (h1 : (t1 : Rat) = S * f ((l + r) / 2)) (h2 : (t2 : Rat) = S * f r) (hb : 0 < bt) (hf : (fi : Rat) = l * bt) (hl : (la : Rat) = r * bt)
    {sp fa : Int} (esp : sp = 4 * (t1 * (f x).den) - 3 * (t0 * (f x).den) - t2 * (f x).den) (efa : fa = 4 * (t1 * (f x).den) - 2 * (t0 * (f x).den) - 2 * (t2 * (f x).den)) (c1 : 0 < fa) (c2 : 0 < sp) (c3 : sp < 2 * fa) :
    sp * sp ≤ 4 * fa * ((f x).num * S - t0 * (f x).den) ∧ (sp * sp = 4 * fa * ((f x).num * S - t0 * (f x).den) → ¬ ((fi * 2 * fa + (la - fi) * sp : Int) : Rat) / ((bt * 2 * fa : Int) : Rat) < x) := by
  have s0 : (0 : Rat) < (S : Rat) := by exact_mod_cast hS
  have d0 : (0 : Rat) < (((f x).den : Int) : Rat) := by exact_mod_cast dpos (f x)
  have b0 : (0 : Rat) < (bt : Rat) := by exact_mod_cast hb
  have ny := num_eq (f x)
  obtain ⟨A, hA⟩ : ∃ A, A = 4 * f ((l + r) / 2) - 3 * f l - f r := ⟨_, rfl⟩
  obtain ⟨B, hB⟩ : ∃ B, B = 4 * f ((l + r) / 2) - 2 * f l - 2 * f r := ⟨_, rfl⟩
  obtain ⟨c, hc⟩ : ∃ c : Rat, c = S * (((f x).den : Int) : Rat) := ⟨_, rfl⟩
  have c0 : 0 < c := by rw [hc]; exact Rat.mul_pos s0 d0
  have esp' : (sp : Rat) = c * A := by
    rw [esp, hc, hA]
    push_cast
    push_cast at h0 h1 h2
    rw [h0, h1, h2]
    grind
  have efa' : (fa : Rat) = c * B := by
    rw [efa, hc, hB]
    push_cast
    push_cast at h0 h1 h2
    rw [h0, h1, h2]
    grind
  have edu : (((f x).num * S - t0 * (f x).den : Int) : Rat) = c * (f x - f l) := by
    rw [hc]
    push_cast
    push_cast at ny
    rw [h0, ny]
    grind
  have B0 : 0 < B := pos_of c0 (by rw [← efa']; exact_mod_cast c1)
  have A0 : 0 < A := pos_of c0 (by rw [← esp']; exact_mod_cast c2)
  have AB : A < 2 * B := by
    have z : (sp : Rat) < 2 * fa := by exact_mod_cast c3
    have := pos_of (b := 2 * B - A) c0 (by rw [efa', esp'] at z; grind)
    grind
  have hlt : l < r := by
    rcases lt_or_le l r with z | z
    · exact z
    · have er : r = l := by grind
      have em : (l + r) / 2 = l := by grind
      rw [em, er] at hA
      grind
  obtain ⟨κ, qd⟩ := q hlt
  obtain ⟨p1, p2⟩ := piece_top T sl re hlt qd hA hB B0 A0 AB
  clear hA hB esp efa h0 h1 h2 ny
  have cc := Rat.mul_pos c0 c0
  constructor
  · have : ((sp * sp : Int) : Rat) ≤ ((4 * fa * ((f x).num * S - t0 * (f x).den) : Int) : Rat) := by
      have e1 : ((sp * sp : Int) : Rat) = c * c * (A * A) := by
        push_cast
        rw [esp']
        grind
      have e2 : ((4 * fa * ((f x).num * S - t0 * (f x).den) : Int) : Rat) = c * c * (4 * B * (f x - f l)) := by
        rw [Rat.intCast_mul, edu]
        push_cast
        rw [efa']
        grind
      rw [e1, e2]
      exact Rat.mul_le_mul_of_nonneg_left p1 (Rat.le_of_lt cc)
    exact_mod_cast this
  · intro h
    have h' : ((sp * sp : Int) : Rat) = ((4 * fa * ((f x).num * S - t0 * (f x).den) : Int) : Rat) := by rw [h]
    have e1 : ((sp * sp : Int) : Rat) = c * c * (A * A) := by
      push_cast
      rw [esp']
      grind
    have e2 : ((4 * fa * ((f x).num * S - t0 * (f x).den) : Int) : Rat) = c * c * (4 * B * (f x - f l)) := by
      rw [Rat.intCast_mul, edu]
      push_cast
      rw [efa']
      grind
    rw [e1, e2] at h'
    have z := p2 (mul_can cc h')
    have u : A / (2 * B) * (2 * B) = A := div_back (by grind)
    generalize A / (2 * B) = w at *
    have en : ((fi * 2 * fa + (la - fi) * sp : Int) : Rat) = (l + (r - l) * w) * ((bt * 2 * fa : Int) : Rat) := by
      push_cast
      rw [hf, hl, esp', efa', ← u]
      grind
    have dn : ((bt * 2 * fa : Int) : Rat) ≠ 0 := by
      have : 0 < bt * 2 * fa := Int.mul_pos (by omega) c1
      exact_mod_cast (show bt * 2 * fa ≠ 0 by omega)
    rw [en]
    generalize ((bt * 2 * fa : Int) : Rat) = dd at *
    have : (l + (r - l) * w) * dd / dd = l + (r - l) * w := by
      have := div_back (x := (l + (r - l) * w) * dd) dn
      grind
    rw [this]
    grind
end Fx
/-! ### a list is taken apart -/
namespace L2
open PySem PySem.Spec PyProof.Rows
section
variable {X : Cx}
/-- (a, b, ..) = a list of that length -/
def gLst (K : PySem.W.Frag) (n : Nat) (t : TGs) : TG := fun v σ H Q => ∃ a xs, v = .ref a ∧ SqL K H a xs ∧ xs.length = n ∧ t xs σ H Q
theorem pg_lst {es : List Expr} {k : Nat} {t : TGs} {n : Nat} {pos : Pos} (hc : X.calm = true) (h : PGs X es t)
    (hn : (assignEach es X.env).length = n := by rfl) (hst : (assignEach es X.env).findIdx? (·.1) = none := by rfl) : PG X (.Tuple es k pos) (gLst X.K n t) := by
  intro pins s σ H v u Q I r hw
  obtain ⟨a, xs, e1, hq, hl, hw⟩ := hw
  subst e1
  cases r
  obtain ⟨its, rv, ht, hz⟩ := I.list hq
  rw [assign_Tuple]
  refine wpAny_bind (wpAny_standAt ?_)
  unfold unpack
  have e : (assignEach es X.env).length = its.toArray.size := by simp [hn, ← hl, rv.length]
  rw [e, hst]
  refine wpAny_bind (wpAny_holding (PySem.W.kun_itemsOf (I.ok.hd hc) ht.isList fun h' hx => ?_))
  have I1 : Inv X pins σ H { s with heap := h' } := I.kept (t' := s.toks) fun b o e => hx b o (Nat.ne_of_lt (Heap.lt_size e)) e
  exact h pins _ σ H xs _ Q I1 (by simpa using rv) hw
theorem glst2 {K : PySem.W.Frag} {H : Hp} {σ : St} {t : TGs} {Q : St → Hp → Prop} {p : Addr} {x y : V} (h : H p = some (.lst [x, y])) (k : t [x, y] σ H Q) : gLst K 2 t (.ref p) σ H Q := ⟨p, _, rfl, SqL.of h, rfl, k⟩
end
end L2
seal Fx.Bi Fx.Bq
local macro_rules | `(tactic| walk_at "bi") => `(tactic| first
  | assumption
  | exact Fx.Bq.n (by assumption)
  | exact Fx.Bq.d (by assumption)
  | ((with_reducible apply Fx.Bi.mul); (· walk_at "bi"); (· walk_at "bi"))
  | ((with_reducible apply Fx.Bi.add'); (· walk_at "bi"); (· walk_at "bi"))
  | ((with_reducible apply Fx.Bi.sub'); (· walk_at "bi"); (· walk_at "bi"))
  | ((with_reducible apply Fx.Bi.neg); (· walk_at "bi"))
  | ((with_reducible apply Fx.Bi.ite); (· walk_at "bi"); (· walk_at "bi"))
  | exact Fx.Bi.lit (by decide))
local macro_rules | `(tactic| walk_at "mo") => `(tactic| ((with_reducible apply L2.mulOk); (· walk_at "bi"); (· walk_at "bi"); (· omega)))
local macro_rules | `(tactic| walk_at "bm") => `(tactic| (apply Fx.Bi.mono; (· walk_at "bi"); (· omega)))
local macro_rules | `(tactic| walk_at "li") => `(tactic| first
  | assumption
  | ((with_reducible apply L2.IsFr.same'); (· assumption); (· walk_at "li"))
  | ((with_reducible apply L2.IsLd.same'); (· assumption); (· walk_at "li"))
  | ((with_reducible apply L2.SqL.of); (· walk_at "li"))
  | ((with_reducible apply L2.Same.seq'); (· assumption); (· walk_at "li"))
  | ((with_reducible apply L2.IsRow.same'); (· assumption); (· walk_at "li"))
  | ((with_reducible apply L2.IsRows.same'); (· assumption); (· walk_at "li"))
  | ((with_reducible apply L2.IsFrs.same'); (· assumption); (· walk_at "li"))
  | ((with_reducible apply L2.IsLds.same'); (· assumption); (· walk_at "li"))
  | ((with_reducible apply L2.IsBm.same'); (· assumption); (· walk_at "li"))
  | ((with_reducible apply L2.SqL.of); (· walk_at "li"))
  | ((with_reducible apply L2.SqT.of); (· walk_at "li"))
  | ((with_reducible apply L2.at_same); (· assumption); (· walk_at "li")))
local macro_rules | `(tactic| walk_at "side") => `(tactic| first
  | decide
  | exact ⟨by decide, by decide, by decide⟩
  | walk_at "mo"
  | assumption
  | omega)
local macro_rules | `(tactic| walk_at "bnd") => `(tactic| first | decide | omega | (simp only [List.length_map, List.length_cons, List.length_nil]; omega))
local macro_rules | `(tactic| walk_at "rdc") => `(tactic| fail)
local macro_rules | `(tactic| walk_at "rd1") => `(tactic| first
  | ((with_reducible apply L2.rd_var); (· exact rfl))
  | with_reducible refine L2.rd_c ?_
  | with_reducible refine L2.rd_op ?_
  | with_reducible refine L2.rd_rI0 ?_
  | ((with_reducible refine L2.rd_rI ?_ ?_); (· walk_at "side"))
  | with_reducible refine L2.rd_cons ?_
  | with_reducible refine L2.rd_nil ?_
  | with_reducible refine L2.rd_def ?_
  | with_reducible refine L2.rd_seq ?_
  | with_reducible refine L2.rd_asg ?_
  | ((with_reducible apply L2.rd_gname'); (· (simp only [List.set_cons_zero, List.set_cons_succ]; exact rfl)))
  | with_reducible refine L2.rd_ret ?_
  | with_reducible refine L2.rd_if ?_
  | with_reducible refine L2.rd_test ?_
  | with_reducible refine L2.rd_bl ?_
  | with_reducible refine L2.rd_tB ?_
  | with_reducible refine L2.rd_eqI ?_
  | with_reducible refine L2.rd_neI ?_
  | with_reducible refine L2.rd_fld ?_
  | ((with_reducible apply L2.IsFr.i0); (· walk_at "li"))
  | ((with_reducible apply L2.IsFr.i1); (· walk_at "li"))
  | with_reducible refine L2.rd_cb ?_
  | with_reducible refine L2.rd_ex1 ?_
  | with_reducible refine L2.rd_ex2 ?_
  | with_reducible refine L2.rd_un ?_
  | with_reducible refine L2.rd_rU ?_
  | with_reducible refine L2.rd_tup ?_
  | with_reducible refine L2.rd_lst ?_
  | with_reducible refine L2.rd_mth ?_
  | with_reducible refine L2.rd_and ?_
  | with_reducible refine L2.rd_or ?_
  | with_reducible refine L2.rd_not ?_
  | with_reducible refine L2.rd_andV ?_
  | with_reducible refine L2.rd_orV ?_
  | with_reducible refine L2.rd_notV ?_
  | with_reducible refine L2.rd_ifE ?_
  | with_reducible refine L2.rd_next ?_
  | with_reducible refine L2.rd_retN ?_
  | with_reducible refine L2.rd_drop ?_
  | with_reducible refine L2.rd_gcons ?_
  | with_reducible refine L2.rd_gnil ?_
  | with_reducible refine L2.rd_par ?_
  | with_reducible refine L2.rd_exv ?_
  | ((with_reducible apply L2.rd_aug); (· exact rfl))
  | with_reducible refine L2.rd_ipI ?_
  | with_reducible refine L2.rd_cont ?_
  | with_reducible refine L2.isi_ii ?_
  | with_reducible refine L2.isi_ib ?_
  | ((with_reducible apply L2.isi_fr); (· walk_at "li"))
  | ((with_reducible apply L2.isi_tup); (· walk_at "li"))
  | ((with_reducible apply L2.isi_lst); (· walk_at "li"))
  | ((with_reducible apply L2.len_fr); (· walk_at "li"))
  | ((with_reducible apply L2.len_sq); (· walk_at "li"))
  | ((with_reducible apply L2.len_lst); (· walk_at "li"))
  | ((with_reducible apply L2.len_tup); (· walk_at "li"))
  | with_reducible refine L2.iteT ?_
  | with_reducible refine L2.iteF ?_
  | with_reducible refine L2.iteN1 ?_
  | with_reducible refine L2.iteN0 ?_
  | ((with_reducible apply L2.rTup.fr); intro _ _ _ _)
  | ((with_reducible apply L2.rd_lm); (· exact rfl); (· walk_at "li"))
  | ((with_reducible apply L2.IsFr.tup2); (· walk_at "li"))
  | with_reducible refine L2.rd_for ?_
  | with_reducible refine L2.rd_ilist ?_
  | with_reducible refine L2.rd_itup ?_
  | ((with_reducible apply L2.rItl.sq); (· walk_at "li"))
  | ((with_reducible apply L2.rItl.at); (· walk_at "li"))
  | ((with_reducible apply L2.rItt.at); (· walk_at "li"))
  | with_reducible refine L2.rd_rng2 ?_
  | with_reducible refine L2.rd_mak ?_
  | with_reducible refine L2.rd_raise ?_
  | ((with_reducible apply L2.IsRow.i0); (· walk_at "li"))
  | ((with_reducible apply L2.IsRow.i1); (· walk_at "li"))
  | ((with_reducible apply L2.IsRow.i2); (· walk_at "li"))
  | ((with_reducible apply L2.ixl); (· walk_at "li"); (· exact rfl))
  | ((with_reducible apply L2.ixt); (· walk_at "li"); (· exact rfl))
  | with_reducible refine L2.rd_lc ?_
  | with_reducible refine L2.rd_izip ?_
  | with_reducible refine L2.rd_irev ?_
  | with_reducible refine L2.rd_irng1 ?_
  | with_reducible refine L2.rd_irng3 ?_
  | ((with_reducible apply L2.rSum.use); (· walk_at "li"))
  | with_reducible refine L2.rd_ex3 ?_
  | ((with_reducible apply L2.gtup2); (· walk_at "li"))
  | ((with_reducible apply L2.gtup3); (· walk_at "li"))
  | with_reducible refine L2.rd_izipT ?_
  | with_reducible refine L2.rd_izip3 ?_
  | with_reducible refine L2.rd_ienum ?_
  | with_reducible refine L2.rd_bm ?_
  | with_reducible refine L2.rd_bm0 ?_
  | with_reducible refine L2.rd_gsub ?_
  | ((with_reducible refine And.intro ?_ ?_); (· exact L2.tyV_l (by walk_at "li")))
  | ((with_reducible refine And.intro ?_ ?_); (· (refine ⟨?_, ?_, ?_, ?_⟩ <;> walk_at "bnd")))
  | ((with_reducible refine And.intro ?_ ?_); (· (refine ⟨?_, ?_, ?_, ?_, ?_⟩ <;> walk_at "bnd")))
  | ((with_reducible refine And.intro ?_ (And.intro ?_ ?_)); (· walk_at "bnd"); (· walk_at "bnd"))
  | walk_at "rdc")
local macro_rules | `(tactic| walk_at "rds") => `(tactic| ((with_reducible apply L2.rd_start); (· (simp only [L2.start, List.map_cons, List.map_nil, List.length_cons, List.length_nil, Nat.reduceAdd, Nat.reduceSub, List.replicate_succ, List.replicate_zero, List.cons_append, List.nil_append, Nat.zero_add, Nat.sub_self]; exact rfl)); walk_at "rd"))
local macro_rules | `(tactic| walk_at "rd") => `(tactic| repeat walk_at "rd1")
namespace B
open PySem L2 Fx
def top (i : Nat) : Stmt := PySem.Challenge.pw_beamload_k09_whole_no_place_has_more.main.body.getD i (.Pass ⟨0, 0, 0, 0⟩)
abbrev s_wall : Stmt := top 0
abbrev s_greatest_share : Stmt := top 8
abbrev s_fraction : Stmt := top 10
abbrev s_plus : Stmt := top 11
abbrev s_minus : Stmt := top 12
abbrev s_under : Stmt := top 13
abbrev s_times : Stmt := top 14
abbrev s_over : Stmt := top 15
abbrev s_turn_scale : Stmt := top 17
abbrev s_Load_from_left : Stmt := inClass (top 18) 0
abbrev s_Load_from_right : Stmt := inClass (top 18) 1
abbrev s_Load_about : Stmt := inClass (top 18) 2
abbrev s_Weight___init : Stmt := inClass (top 19) 0
abbrev s_Weight_total : Stmt := inClass (top 19) 1
abbrev s_Weight_edges : Stmt := inClass (top 19) 2
abbrev s_Weight_each_over : Stmt := inClass (top 19) 3
abbrev s_Weight_scaled_left : Stmt := inClass (top 19) 4
abbrev s_Weight_scaled_right : Stmt := inClass (top 19) 5
abbrev s_Spread___init : Stmt := inClass (top 20) 0
abbrev s_Spread_total : Stmt := inClass (top 20) 1
abbrev s_Spread_edges : Stmt := inClass (top 20) 2
abbrev s_Spread_each_over : Stmt := inClass (top 20) 3
abbrev s_Spread_scaled_left : Stmt := inClass (top 20) 4
abbrev s_Spread_scaled_right : Stmt := inClass (top 20) 5
abbrev s_greatest : Stmt := top 22
abbrev s_check_stretch : Stmt := top 23
abbrev s_turning_at : Stmt := top 24
abbrev s_cuts_after : Stmt := top 25
abbrev s_top_between : Stmt := top 26
abbrev s_greater : Stmt := top 27
abbrev s_Beam___init : Stmt := inClass (top 29) 0
abbrev s_Beam_bears : Stmt := inClass (top 29) 1
abbrev s_check_beam : Stmt := top 30
abbrev s_check_loads : Stmt := top 31
abbrev s_weight_of : Stmt := top 32
abbrev s_turned_about : Stmt := top 33
abbrev s_two_bear : Stmt := top 34
abbrev s_three_bear : Stmt := top 35
abbrev s_middle_bears : Stmt := top 36
abbrev s_middle_part : Stmt := top 37
abbrev s_spread_part : Stmt := top 38
abbrev s_piece_part : Stmt := top 39
abbrev s_share_scale : Stmt := top 40
abbrev s_middle_share : Stmt := top 41
abbrev s_Lcell_at : Stmt := top 43
abbrev s_Lwhole : Stmt := top 44
abbrev s_Ldivisor : Stmt := top 45
abbrev s_Llowest : Stmt := top 46
abbrev s_Lis_fraction : Stmt := top 47
abbrev s_Lless : Stmt := top 48
abbrev s_Lnumber : Stmt := top 49
abbrev s_Lgap : Stmt := top 50
abbrev s_Lbeam : Stmt := top 51
abbrev s_Lspot : Stmt := top 52
abbrev s_Lrows : Stmt := top 53
abbrev s_Lmade : Stmt := top 54
abbrev s_Lplace : Stmt := top 55
abbrev s_Lstretch : Stmt := top 56
abbrev s_Lturned : Stmt := top 57
abbrev s_Llooks : Stmt := top 58
abbrev s_Lis_most : Stmt := top 59
abbrev s_Lpiece_holds : Stmt := top 60
abbrev s_Lno_more : Stmt := top 61
abbrev s_Lholds : Stmt := top 62
abbrev s_law : Stmt := top 63
theorem sc_greatest_share : FnScope ["one", "other", "share", "smaller", "left_over"] ["one", "other"] (defScope s_greatest_share) := ⟨rfl, rfl, rfl, by decide +kernel, rfl, by decide +kernel, by decide +kernel⟩
theorem sc_fraction : FnScope ["top", "bottom", "share"] ["top", "bottom"] (defScope s_fraction) := ⟨rfl, rfl, rfl, by decide +kernel, rfl, by decide +kernel, by decide +kernel⟩
theorem sc_plus : FnScope ["one", "other"] ["one", "other"] (defScope s_plus) := ⟨rfl, rfl, rfl, by decide +kernel, rfl, by decide +kernel, by decide +kernel⟩
theorem sc_minus : FnScope ["one", "other"] ["one", "other"] (defScope s_minus) := ⟨rfl, rfl, rfl, by decide +kernel, rfl, by decide +kernel, by decide +kernel⟩
theorem sc_under : FnScope ["one", "other"] ["one", "other"] (defScope s_under) := ⟨rfl, rfl, rfl, by decide +kernel, rfl, by decide +kernel, by decide +kernel⟩
theorem sc_times : FnScope ["one", "other"] ["one", "other"] (defScope s_times) := ⟨rfl, rfl, rfl, by decide +kernel, rfl, by decide +kernel, by decide +kernel⟩
theorem sc_over : FnScope ["one", "other"] ["one", "other"] (defScope s_over) := ⟨rfl, rfl, rfl, by decide +kernel, rfl, by decide +kernel, by decide +kernel⟩
theorem sc_turn_scale : FnScope ["x"] ["x"] (defScope s_turn_scale) := ⟨rfl, rfl, rfl, by decide +kernel, rfl, by decide +kernel, by decide +kernel⟩
theorem sc_Load_about : FnScope ["self", "x"] ["self", "x"] (defScope s_Load_about) := ⟨rfl, rfl, rfl, by decide +kernel, rfl, by decide +kernel, by decide +kernel⟩
theorem sc_Weight___init : FnScope ["self", "place", "size"] ["self", "place", "size"] (defScope s_Weight___init) := ⟨rfl, rfl, rfl, by decide +kernel, rfl, by decide +kernel, by decide +kernel⟩
theorem sc_Weight_total : FnScope ["self"] ["self"] (defScope s_Weight_total) := ⟨rfl, rfl, rfl, by decide +kernel, rfl, by decide +kernel, by decide +kernel⟩
theorem sc_Weight_edges : FnScope ["self"] ["self"] (defScope s_Weight_edges) := ⟨rfl, rfl, rfl, by decide +kernel, rfl, by decide +kernel, by decide +kernel⟩
theorem sc_Weight_each_over : FnScope ["self", "left", "right"] ["self", "left", "right"] (defScope s_Weight_each_over) := ⟨rfl, rfl, rfl, by decide +kernel, rfl, by decide +kernel, by decide +kernel⟩
theorem sc_Weight_scaled_left : FnScope ["self", "x", "arm"] ["self", "x"] (defScope s_Weight_scaled_left) := ⟨rfl, rfl, rfl, by decide +kernel, rfl, by decide +kernel, by decide +kernel⟩
theorem sc_Weight_scaled_right : FnScope ["self", "x", "arm"] ["self", "x"] (defScope s_Weight_scaled_right) := ⟨rfl, rfl, rfl, by decide +kernel, rfl, by decide +kernel, by decide +kernel⟩
theorem sc_Spread___init : FnScope ["self", "start", "end", "each"] ["self", "start", "end", "each"] (defScope s_Spread___init) := ⟨rfl, rfl, rfl, by decide +kernel, rfl, by decide +kernel, by decide +kernel⟩
theorem sc_Spread_total : FnScope ["self"] ["self"] (defScope s_Spread_total) := ⟨rfl, rfl, rfl, by decide +kernel, rfl, by decide +kernel, by decide +kernel⟩
theorem sc_Spread_edges : FnScope ["self"] ["self"] (defScope s_Spread_edges) := ⟨rfl, rfl, rfl, by decide +kernel, rfl, by decide +kernel, by decide +kernel⟩
theorem sc_Spread_each_over : FnScope ["self", "left", "right"] ["self", "left", "right"] (defScope s_Spread_each_over) := ⟨rfl, rfl, rfl, by decide +kernel, rfl, by decide +kernel, by decide +kernel⟩
theorem sc_Spread_scaled_left : FnScope ["self", "x", "start", "cut"] ["self", "x"] (defScope s_Spread_scaled_left) := ⟨rfl, rfl, rfl, by decide +kernel, rfl, by decide +kernel, by decide +kernel⟩
theorem sc_Spread_scaled_right : FnScope ["self", "x", "end", "cut"] ["self", "x"] (defScope s_Spread_scaled_right) := ⟨rfl, rfl, rfl, by decide +kernel, rfl, by decide +kernel, by decide +kernel⟩
theorem sc_greatest : FnScope ["beam", "loads", "start", "end", "borne", "best", "last", "cut", "here", "top"] ["beam", "loads", "start", "end"] (defScope s_greatest) := ⟨rfl, rfl, rfl, by decide +kernel, rfl, by decide +kernel, by decide +kernel⟩
theorem sc_check_stretch : FnScope ["beam", "start", "end"] ["beam", "start", "end"] (defScope s_check_stretch) := ⟨rfl, rfl, rfl, by decide +kernel, rfl, by decide +kernel, by decide +kernel⟩
theorem sc_turning_at : FnScope ["rests", "borne", "loads", "x", "turned", "rest", "part", "arm"] ["rests", "borne", "loads", "x"] (defScope s_turning_at) := ⟨rfl, rfl, rfl, by decide +kernel, rfl, by decide +kernel, by decide +kernel⟩
theorem sc_cuts_after : FnScope ["rests", "loads", "start", "end", "places", "load", "inner"] ["rests", "loads", "start", "end"] (defScope s_cuts_after) := ⟨rfl, rfl, rfl, by decide +kernel, rfl, by decide +kernel, by decide +kernel⟩
theorem sc_top_between : FnScope ["left", "right", "loads", "each", "halfway", "rise", "top"] ["left", "right", "loads"] (defScope s_top_between) := ⟨rfl, rfl, rfl, by decide +kernel, rfl, by decide +kernel, by decide +kernel⟩
theorem sc_greater : FnScope ["best", "other"] ["best", "other"] (defScope s_greater) := ⟨rfl, rfl, rfl, by decide +kernel, rfl, by decide +kernel, by decide +kernel⟩
theorem sc_Beam___init : FnScope ["self", "length", "rests"] ["self", "length", "rests"] (defScope s_Beam___init) := ⟨rfl, rfl, rfl, by decide +kernel, rfl, by decide +kernel, by decide +kernel⟩
theorem sc_Beam_bears : FnScope ["self", "loads"] ["self", "loads"] (defScope s_Beam_bears) := ⟨rfl, rfl, rfl, by decide +kernel, rfl, by decide +kernel, by decide +kernel⟩
theorem sc_check_beam : FnScope ["length", "rests", "k"] ["length", "rests"] (defScope s_check_beam) := ⟨rfl, rfl, rfl, by decide +kernel, rfl, by decide +kernel, by decide +kernel⟩
theorem sc_check_loads : FnScope ["length", "loads", "load", "edge"] ["length", "loads"] (defScope s_check_loads) := ⟨rfl, rfl, rfl, by decide +kernel, rfl, by decide +kernel, by decide +kernel⟩
theorem sc_weight_of : FnScope ["loads"] ["loads"] (defScope s_weight_of) := ⟨rfl, rfl, rfl, by decide +kernel, rfl, by decide +kernel, by decide +kernel⟩
theorem sc_turned_about : FnScope ["loads", "place", "turned", "load"] ["loads", "place"] (defScope s_turned_about) := ⟨rfl, rfl, rfl, by decide +kernel, rfl, by decide +kernel, by decide +kernel⟩
theorem sc_two_bear : FnScope ["rests", "loads", "last"] ["rests", "loads"] (defScope s_two_bear) := ⟨rfl, rfl, rfl, by decide +kernel, rfl, by decide +kernel, by decide +kernel⟩
theorem sc_three_bear : FnScope ["rests", "loads", "middle", "turned", "left_to_last", "last", "first"] ["rests", "loads"] (defScope s_three_bear) := ⟨rfl, rfl, rfl, by decide +kernel, rfl, by decide +kernel, by decide +kernel⟩
theorem sc_middle_bears : FnScope ["rests", "loads", "doubled", "parts"] ["rests", "loads"] (defScope s_middle_bears) := ⟨rfl, rfl, rfl, by decide +kernel, rfl, by decide +kernel, by decide +kernel⟩
theorem sc_middle_part : FnScope ["doubled", "load"] ["doubled", "load"] (defScope s_middle_part) := ⟨rfl, rfl, rfl, by decide +kernel, rfl, by decide +kernel, by decide +kernel⟩
theorem sc_spread_part : FnScope ["doubled", "spread", "start", "end", "cuts", "part", "k"] ["doubled", "spread"] (defScope s_spread_part) := ⟨rfl, rfl, rfl, by decide +kernel, rfl, by decide +kernel, by decide +kernel⟩
theorem sc_piece_part : FnScope ["doubled", "left", "right", "each", "halfway", "width", "shares"] ["doubled", "left", "right", "each"] (defScope s_piece_part) := ⟨rfl, rfl, rfl, by decide +kernel, rfl, by decide +kernel, by decide +kernel⟩
theorem sc_share_scale : FnScope ["rests", "g", "h"] ["rests"] (defScope s_share_scale) := ⟨rfl, rfl, rfl, by decide +kernel, rfl, by decide +kernel, by decide +kernel⟩
theorem sc_middle_share : FnScope ["rests", "place", "g", "h", "u", "v"] ["rests", "place"] (defScope s_middle_share) := ⟨rfl, rfl, rfl, by decide +kernel, rfl, by decide +kernel, by decide +kernel⟩
theorem sc_Lcell_at : FnScope ["_law_script", "_law_k"] ["_law_script", "_law_k"] (defScope s_Lcell_at) := ⟨rfl, rfl, rfl, by decide +kernel, rfl, by decide +kernel, by decide +kernel⟩
theorem sc_Lwhole : FnScope ["_law_found"] ["_law_found"] (defScope s_Lwhole) := ⟨rfl, rfl, rfl, by decide +kernel, rfl, by decide +kernel, by decide +kernel⟩
theorem sc_Ldivisor : FnScope ["_law_one", "_law_other"] ["_law_one", "_law_other"] (defScope s_Ldivisor) := ⟨rfl, rfl, rfl, by decide +kernel, rfl, by decide +kernel, by decide +kernel⟩
theorem sc_Llowest : FnScope ["_law_top", "_law_bottom", "_law_by"] ["_law_top", "_law_bottom"] (defScope s_Llowest) := ⟨rfl, rfl, rfl, by decide +kernel, rfl, by decide +kernel, by decide +kernel⟩
theorem sc_Lis_fraction : FnScope ["_law_found"] ["_law_found"] (defScope s_Lis_fraction) := ⟨rfl, rfl, rfl, by decide +kernel, rfl, by decide +kernel, by decide +kernel⟩
theorem sc_Lless : FnScope ["_law_one", "_law_other"] ["_law_one", "_law_other"] (defScope s_Lless) := ⟨rfl, rfl, rfl, by decide +kernel, rfl, by decide +kernel, by decide +kernel⟩
theorem sc_Lnumber : FnScope ["_law_cell"] ["_law_cell"] (defScope s_Lnumber) := ⟨rfl, rfl, rfl, by decide +kernel, rfl, by decide +kernel, by decide +kernel⟩
theorem sc_Lgap : FnScope ["_law_cell"] ["_law_cell"] (defScope s_Lgap) := ⟨rfl, rfl, rfl, by decide +kernel, rfl, by decide +kernel, by decide +kernel⟩
theorem sc_Lbeam : FnScope ["_law_script", "_law_even", "_law_gaps", "_law_rests"] ["_law_script", "_law_even"] (defScope s_Lbeam) := ⟨rfl, rfl, rfl, by decide +kernel, rfl, by decide +kernel, by decide +kernel⟩
theorem sc_Lspot : FnScope ["_law_cell", "_law_rests", "_law_length", "_law_edges"] ["_law_cell", "_law_rests", "_law_length"] (defScope s_Lspot) := ⟨rfl, rfl, rfl, by decide +kernel, rfl, by decide +kernel, by decide +kernel⟩
theorem sc_Lrows : FnScope ["_law_script", "_law_begin", "_law_many", "_law_rests", "_law_length", "_law_rows_here", "_law_k", "_law_one", "_law_other", "_law_cell"] ["_law_script", "_law_begin", "_law_many", "_law_rests", "_law_length"] (defScope s_Lrows) := ⟨rfl, rfl, rfl, by decide +kernel, rfl, by decide +kernel, by decide +kernel⟩
theorem sc_Lmade : FnScope ["_law_row"] ["_law_row"] (defScope s_Lmade) := ⟨rfl, rfl, rfl, by decide +kernel, rfl, by decide +kernel, by decide +kernel⟩
theorem sc_Lplace : FnScope ["_law_one", "_law_other", "_law_length", "_law_bottom", "_law_top"] ["_law_one", "_law_other", "_law_length"] (defScope s_Lplace) := ⟨rfl, rfl, rfl, by decide +kernel, rfl, by decide +kernel, by decide +kernel⟩
theorem sc_Lstretch : FnScope ["_law_script", "_law_length", "_law_one", "_law_other", "_law_way"] ["_law_script", "_law_length"] (defScope s_Lstretch) := ⟨rfl, rfl, rfl, by decide +kernel, rfl, by decide +kernel, by decide +kernel⟩
theorem sc_Lturned : FnScope ["_law_rests", "_law_parts", "_law_common", "_law_rows_here", "_law_x", "_law_t", "_law_b", "_law_found", "_law_rest", "_law_part", "_law_row", "_law_far", "_law_near"] ["_law_rests", "_law_parts", "_law_common", "_law_rows_here", "_law_x"] (defScope s_Lturned) := ⟨rfl, rfl, rfl, by decide +kernel, rfl, by decide +kernel, by decide +kernel⟩
theorem sc_Llooks : FnScope ["_law_script", "_law_length", "_law_stretch_here", "_law_some", "_law_k"] ["_law_script", "_law_length", "_law_stretch_here"] (defScope s_Llooks) := ⟨rfl, rfl, rfl, by decide +kernel, rfl, by decide +kernel, by decide +kernel⟩
theorem sc_Lis_most : FnScope ["_law_rests", "_law_parts", "_law_common", "_law_rows_here", "_law_looks_here", "_law_found", "_law_place_here", "_law_most", "_law_square", "_law_x", "_law_here", "_law_there"] ["_law_rests", "_law_parts", "_law_common", "_law_rows_here", "_law_looks_here", "_law_found"] (defScope s_Lis_most) := ⟨rfl, rfl, rfl, by decide +kernel, rfl, by decide +kernel, by decide +kernel⟩
theorem sc_Lpiece_holds : FnScope ["_law_rests", "_law_parts", "_law_common", "_law_rows_here", "_law_one", "_law_other", "_law_found", "_law_place_here", "_law_most", "_law_bottom", "_law_first", "_law_last", "_law_middle", "_law_tops", "_law_due", "_law_t", "_law_here", "_law_slope", "_law_fall", "_law_high", "_law_top"] ["_law_rests", "_law_parts", "_law_common", "_law_rows_here", "_law_one", "_law_other", "_law_found"] (defScope s_Lpiece_holds) := ⟨rfl, rfl, rfl, by decide +kernel, rfl, by decide +kernel, by decide +kernel⟩
theorem sc_Lno_more : FnScope ["_law_rests", "_law_parts", "_law_common", "_law_rows_here", "_law_stretch_here", "_law_found", "_law_start", "_law_end", "_law_some", "_law_row", "_law_between", "_law_one", "_law_other"] ["_law_rests", "_law_parts", "_law_common", "_law_rows_here", "_law_stretch_here", "_law_found"] (defScope s_Lno_more) := ⟨rfl, rfl, rfl, by decide +kernel, rfl, by decide +kernel, by decide +kernel⟩
theorem sc_Lholds : FnScope ["_law_script", "_law_length", "_law_rests", "_law_borne", "_law_rows_here", "_law_stretch_here", "_law_found", "_law_common", "_law_one", "_law_parts"] ["_law_script", "_law_length", "_law_rests", "_law_borne", "_law_rows_here", "_law_stretch_here", "_law_found"] (defScope s_Lholds) := ⟨rfl, rfl, rfl, by decide +kernel, rfl, by decide +kernel, by decide +kernel⟩
theorem sc_law : FnScope ["_law_script", "_law_even", "_law_length", "_law_rests", "_law_rows_here", "_law_often", "_law_loads", "_law_half", "_law_beam_here", "_law_stretch_here", "_law_handed", "_law_ahead", "_law_found", "_law_borne"] ["_law_script"] (defScope s_law) := ⟨rfl, rfl, rfl, by decide +kernel, rfl, by decide +kernel, by decide +kernel⟩
abbrev bs_turning_at_c0 : Scope := { kind := .function, names := [(".0", .local), ("load", .local), ("x", .free)], isGenerator := false, isCoroutine := false, more := [] }
theorem nd_turning_at_c0 : (["load", "x"] : List Str).Nodup := by decide +kernel
theorem cs_turning_at_c0 : CompSc ["rests", "borne", "loads", "x", "turned", "rest", "part", "arm"] (defScope s_turning_at) ["load", "x"] [none, some 3] bs_turning_at_c0 := ⟨rfl, by decide +kernel, by decide +kernel, by decide +kernel, rfl, comp_once (by decide +kernel), comp_cap (by decide +kernel)⟩
abbrev bs_cuts_after_c0 : Scope := { kind := .function, names := [(".0", .local), ("place", .local), ("under", .globalImplicit), ("end", .free), ("start", .free)], isGenerator := false, isCoroutine := false, more := [] }
theorem nd_cuts_after_c0 : (["place", "end", "start"] : List Str).Nodup := by decide +kernel
theorem cs_cuts_after_c0 : CompSc ["rests", "loads", "start", "end", "places", "load", "inner"] (defScope s_cuts_after) ["place", "end", "start"] [none, some 3, some 2] bs_cuts_after_c0 := ⟨rfl, by decide +kernel, by decide +kernel, by decide +kernel, rfl, comp_once (by decide +kernel), comp_cap (by decide +kernel)⟩
abbrev bs_top_between_c0 : Scope := { kind := .function, names := [(".0", .local), ("load", .local), ("left", .free), ("right", .free)], isGenerator := false, isCoroutine := false, more := [] }
theorem nd_top_between_c0 : (["load", "left", "right"] : List Str).Nodup := by decide +kernel
theorem cs_top_between_c0 : CompSc ["left", "right", "loads", "each", "halfway", "rise", "top"] (defScope s_top_between) ["load", "left", "right"] [none, some 0, some 1] bs_top_between_c0 := ⟨rfl, by decide +kernel, by decide +kernel, by decide +kernel, rfl, comp_once (by decide +kernel), comp_cap (by decide +kernel)⟩
abbrev bs_weight_of_c0 : Scope := { kind := .function, names := [(".0", .local), ("load", .local)], isGenerator := false, isCoroutine := false, more := [] }
theorem nd_weight_of_c0 : (["load"] : List Str).Nodup := by decide +kernel
theorem cs_weight_of_c0 : CompSc ["loads"] (defScope s_weight_of) ["load"] [none] bs_weight_of_c0 := ⟨rfl, by decide +kernel, by decide +kernel, by decide +kernel, rfl, comp_once (by decide +kernel), comp_cap (by decide +kernel)⟩
abbrev bs_middle_bears_c0 : Scope := { kind := .function, names := [(".0", .local), ("rest", .local)], isGenerator := false, isCoroutine := false, more := [] }
theorem nd_middle_bears_c0 : (["rest"] : List Str).Nodup := by decide +kernel
theorem cs_middle_bears_c0 : CompSc ["rests", "loads", "doubled", "parts"] (defScope s_middle_bears) ["rest"] [none] bs_middle_bears_c0 := ⟨rfl, by decide +kernel, by decide +kernel, by decide +kernel, rfl, comp_once (by decide +kernel), comp_cap (by decide +kernel)⟩
abbrev bs_middle_bears_c1 : Scope := { kind := .function, names := [(".0", .local), ("load", .local), ("middle_part", .globalImplicit), ("doubled", .free)], isGenerator := false, isCoroutine := false, more := [] }
theorem nd_middle_bears_c1 : (["load", "doubled"] : List Str).Nodup := by decide +kernel
theorem cs_middle_bears_c1 : CompSc ["rests", "loads", "doubled", "parts"] (defScope s_middle_bears) ["load", "doubled"] [none, some 2] bs_middle_bears_c1 := ⟨rfl, by decide +kernel, by decide +kernel, by decide +kernel, rfl, comp_once (by decide +kernel), comp_cap (by decide +kernel)⟩
abbrev bs_spread_part_c0 : Scope := { kind := .function, names := [(".0", .local), ("rest", .local), ("end", .free), ("start", .free)], isGenerator := false, isCoroutine := false, more := [] }
theorem nd_spread_part_c0 : (["rest", "end", "start"] : List Str).Nodup := by decide +kernel
theorem cs_spread_part_c0 : CompSc ["doubled", "spread", "start", "end", "cuts", "part", "k"] (defScope s_spread_part) ["rest", "end", "start"] [none, some 3, some 2] bs_spread_part_c0 := ⟨rfl, by decide +kernel, by decide +kernel, by decide +kernel, rfl, comp_once (by decide +kernel), comp_cap (by decide +kernel)⟩
abbrev bs_Lbeam_c0 : Scope := { kind := .function, names := [(".0", .local), ("_law_k", .local), ("_law_gap", .globalImplicit), ("_law_cell_at", .globalImplicit), ("_law_script", .free)], isGenerator := false, isCoroutine := false, more := [] }
theorem nd_Lbeam_c0 : (["_law_k", "_law_script"] : List Str).Nodup := by decide +kernel
theorem cs_Lbeam_c0 : CompSc ["_law_script", "_law_even", "_law_gaps", "_law_rests"] (defScope s_Lbeam) ["_law_k", "_law_script"] [none, some 0] bs_Lbeam_c0 := ⟨rfl, by decide +kernel, by decide +kernel, by decide +kernel, rfl, comp_once (by decide +kernel), comp_cap (by decide +kernel)⟩
abbrev bs_Llooks_c0 : Scope := { kind := .function, names := [(".0", .local), ("_law_x", .local), ("_law_less", .globalImplicit), ("_law_stretch_here", .free)], isGenerator := false, isCoroutine := false, more := [] }
theorem nd_Llooks_c0 : (["_law_x", "_law_stretch_here"] : List Str).Nodup := by decide +kernel
theorem cs_Llooks_c0 : CompSc ["_law_script", "_law_length", "_law_stretch_here", "_law_some", "_law_k"] (defScope s_Llooks) ["_law_x", "_law_stretch_here"] [none, some 2] bs_Llooks_c0 := ⟨rfl, by decide +kernel, by decide +kernel, by decide +kernel, rfl, comp_once (by decide +kernel), comp_cap (by decide +kernel)⟩
abbrev bs_Lpiece_holds_c0 : Scope := { kind := .function, names := [(".0", .local), ("_law_t", .local), ("_law_turned", .globalImplicit), ("_law_bottom", .free), ("_law_common", .free), ("_law_most", .free), ("_law_parts", .free), ("_law_rests", .free), ("_law_rows_here", .free)], isGenerator := false, isCoroutine := false, more := [] }
theorem nd_Lpiece_holds_c0 : (["_law_t", "_law_bottom", "_law_common", "_law_most", "_law_parts", "_law_rests", "_law_rows_here"] : List Str).Nodup := by decide +kernel
theorem cs_Lpiece_holds_c0 : CompSc ["_law_rests", "_law_parts", "_law_common", "_law_rows_here", "_law_one", "_law_other", "_law_found", "_law_place_here", "_law_most", "_law_bottom", "_law_first", "_law_last", "_law_middle", "_law_tops", "_law_due", "_law_t", "_law_here", "_law_slope", "_law_fall", "_law_high", "_law_top"] (defScope s_Lpiece_holds) ["_law_t", "_law_bottom", "_law_common", "_law_most", "_law_parts", "_law_rests", "_law_rows_here"] [none, some 9, some 2, some 8, some 1, some 0, some 3] bs_Lpiece_holds_c0 := ⟨rfl, by decide +kernel, by decide +kernel, by decide +kernel, rfl, comp_once (by decide +kernel), comp_cap (by decide +kernel)⟩
abbrev bs_Lno_more_c0 : Scope := { kind := .function, names := [(".0", .local), ("_law_at", .local), ("_law_less", .globalImplicit), ("_law_end", .free), ("_law_start", .free)], isGenerator := false, isCoroutine := false, more := [] }
theorem nd_Lno_more_c0 : (["_law_at", "_law_end", "_law_start"] : List Str).Nodup := by decide +kernel
theorem cs_Lno_more_c0 : CompSc ["_law_rests", "_law_parts", "_law_common", "_law_rows_here", "_law_stretch_here", "_law_found", "_law_start", "_law_end", "_law_some", "_law_row", "_law_between", "_law_one", "_law_other"] (defScope s_Lno_more) ["_law_at", "_law_end", "_law_start"] [none, some 7, some 6] bs_Lno_more_c0 := ⟨rfl, by decide +kernel, by decide +kernel, by decide +kernel, rfl, comp_once (by decide +kernel), comp_cap (by decide +kernel)⟩
abbrev bs_Lholds_c0 : Scope := { kind := .function, names := [(".0", .local), ("_law_one", .local), ("_law_common", .free)], isGenerator := false, isCoroutine := false, more := [] }
theorem nd_Lholds_c0 : (["_law_one", "_law_common"] : List Str).Nodup := by decide +kernel
theorem cs_Lholds_c0 : CompSc ["_law_script", "_law_length", "_law_rests", "_law_borne", "_law_rows_here", "_law_stretch_here", "_law_found", "_law_common", "_law_one", "_law_parts"] (defScope s_Lholds) ["_law_one", "_law_common"] [none, some 7] bs_Lholds_c0 := ⟨rfl, by decide +kernel, by decide +kernel, by decide +kernel, rfl, comp_once (by decide +kernel), comp_cap (by decide +kernel)⟩
abbrev bs_law_c0 : Scope := { kind := .function, names := [(".0", .local), ("_law_row", .local), ("_law_made", .globalImplicit)], isGenerator := false, isCoroutine := false, more := [] }
theorem nd_law_c0 : (["_law_row"] : List Str).Nodup := by decide +kernel
theorem cs_law_c0 : CompSc ["_law_script", "_law_even", "_law_length", "_law_rests", "_law_rows_here", "_law_often", "_law_loads", "_law_half", "_law_beam_here", "_law_stretch_here", "_law_handed", "_law_ahead", "_law_found", "_law_borne"] (defScope s_law) ["_law_row"] [none] bs_law_c0 := ⟨rfl, by decide +kernel, by decide +kernel, by decide +kernel, rfl, comp_once (by decide +kernel), comp_cap (by decide +kernel)⟩
abbrev bs_law_c1 : Scope := { kind := .function, names := [(".0", .local), ("_law_row", .local), ("_law_often", .free)], isGenerator := false, isCoroutine := false, more := [] }
theorem nd_law_c1 : (["_law_row", "_law_often"] : List Str).Nodup := by decide +kernel
theorem cs_law_c1 : CompSc ["_law_script", "_law_even", "_law_length", "_law_rests", "_law_rows_here", "_law_often", "_law_loads", "_law_half", "_law_beam_here", "_law_stretch_here", "_law_handed", "_law_ahead", "_law_found", "_law_borne"] (defScope s_law) ["_law_row", "_law_often"] [none, some 5] bs_law_c1 := ⟨rfl, by decide +kernel, by decide +kernel, by decide +kernel, rfl, comp_once (by decide +kernel), comp_cap (by decide +kernel)⟩
abbrev bs_law_c2 : Scope := { kind := .function, names := [(".0", .local), ("_law_row", .local), ("_law_length", .free)], isGenerator := false, isCoroutine := false, more := [] }
theorem nd_law_c2 : (["_law_row", "_law_length"] : List Str).Nodup := by decide +kernel
theorem cs_law_c2 : CompSc ["_law_script", "_law_even", "_law_length", "_law_rests", "_law_rows_here", "_law_often", "_law_loads", "_law_half", "_law_beam_here", "_law_stretch_here", "_law_handed", "_law_ahead", "_law_found", "_law_borne"] (defScope s_law) ["_law_row", "_law_length"] [none, some 2] bs_law_c2 := ⟨rfl, by decide +kernel, by decide +kernel, by decide +kernel, rfl, comp_once (by decide +kernel), comp_cap (by decide +kernel)⟩
structure Adr where
  c_NoNumber : Addr
  c_NoLoad : Addr
  c_NoBeam : Addr
  c_OffBeam : Addr
  c_Weight : Addr
  c_Spread : Addr
  c_Beam : Addr
structure Txt (K : PySem.W.Frag) (mg : Str → Option Value) (ad : Adr) : Prop where
  f_greatest_share : DefAt K mg "greatest_share" s_greatest_share ["one", "other"]
  f_fraction : DefAt K mg "fraction" s_fraction ["top", "bottom"]
  f_plus : DefAt K mg "plus" s_plus ["one", "other"]
  f_minus : DefAt K mg "minus" s_minus ["one", "other"]
  f_under : DefAt K mg "under" s_under ["one", "other"]
  f_times : DefAt K mg "times" s_times ["one", "other"]
  f_over : DefAt K mg "over" s_over ["one", "other"]
  f_turn_scale : DefAt K mg "turn_scale" s_turn_scale ["x"]
  f_greatest : DefAt K mg "greatest" s_greatest ["beam", "loads", "start", "end"]
  f_check_stretch : DefAt K mg "check_stretch" s_check_stretch ["beam", "start", "end"]
  f_turning_at : DefAt K mg "turning_at" s_turning_at ["rests", "borne", "loads", "x"]
  f_cuts_after : DefAt K mg "cuts_after" s_cuts_after ["rests", "loads", "start", "end"]
  f_top_between : DefAt K mg "top_between" s_top_between ["left", "right", "loads"]
  f_greater : DefAt K mg "greater" s_greater ["best", "other"]
  f_check_beam : DefAt K mg "check_beam" s_check_beam ["length", "rests"]
  f_check_loads : DefAt K mg "check_loads" s_check_loads ["length", "loads"]
  f_weight_of : DefAt K mg "weight_of" s_weight_of ["loads"]
  f_turned_about : DefAt K mg "turned_about" s_turned_about ["loads", "place"]
  f_two_bear : DefAt K mg "two_bear" s_two_bear ["rests", "loads"]
  f_three_bear : DefAt K mg "three_bear" s_three_bear ["rests", "loads"]
  f_middle_bears : DefAt K mg "middle_bears" s_middle_bears ["rests", "loads"]
  f_middle_part : DefAt K mg "middle_part" s_middle_part ["doubled", "load"]
  f_spread_part : DefAt K mg "spread_part" s_spread_part ["doubled", "spread"]
  f_piece_part : DefAt K mg "piece_part" s_piece_part ["doubled", "left", "right", "each"]
  f_share_scale : DefAt K mg "share_scale" s_share_scale ["rests"]
  f_middle_share : DefAt K mg "middle_share" s_middle_share ["rests", "place"]
  f_Lcell_at : DefAt K mg "_law_cell_at" s_Lcell_at ["_law_script", "_law_k"]
  f_Lwhole : DefAt K mg "_law_whole" s_Lwhole ["_law_found"]
  f_Ldivisor : DefAt K mg "_law_divisor" s_Ldivisor ["_law_one", "_law_other"]
  f_Llowest : DefAt K mg "_law_lowest" s_Llowest ["_law_top", "_law_bottom"]
  f_Lis_fraction : DefAt K mg "_law_is_fraction" s_Lis_fraction ["_law_found"]
  f_Lless : DefAt K mg "_law_less" s_Lless ["_law_one", "_law_other"]
  f_Lnumber : DefAt K mg "_law_number" s_Lnumber ["_law_cell"]
  f_Lgap : DefAt K mg "_law_gap" s_Lgap ["_law_cell"]
  f_Lbeam : DefAt K mg "_law_beam" s_Lbeam ["_law_script", "_law_even"]
  f_Lspot : DefAt K mg "_law_spot" s_Lspot ["_law_cell", "_law_rests", "_law_length"]
  f_Lrows : DefAt K mg "_law_rows" s_Lrows ["_law_script", "_law_begin", "_law_many", "_law_rests", "_law_length"]
  f_Lmade : DefAt K mg "_law_made" s_Lmade ["_law_row"]
  f_Lplace : DefAt K mg "_law_place" s_Lplace ["_law_one", "_law_other", "_law_length"]
  f_Lstretch : DefAt K mg "_law_stretch" s_Lstretch ["_law_script", "_law_length"]
  f_Lturned : DefAt K mg "_law_turned" s_Lturned ["_law_rests", "_law_parts", "_law_common", "_law_rows_here", "_law_x"]
  f_Llooks : DefAt K mg "_law_looks" s_Llooks ["_law_script", "_law_length", "_law_stretch_here"]
  f_Lis_most : DefAt K mg "_law_is_most" s_Lis_most ["_law_rests", "_law_parts", "_law_common", "_law_rows_here", "_law_looks_here", "_law_found"]
  f_Lpiece_holds : DefAt K mg "_law_piece_holds" s_Lpiece_holds ["_law_rests", "_law_parts", "_law_common", "_law_rows_here", "_law_one", "_law_other", "_law_found"]
  f_Lno_more : DefAt K mg "_law_no_more" s_Lno_more ["_law_rests", "_law_parts", "_law_common", "_law_rows_here", "_law_stretch_here", "_law_found"]
  f_Lholds : DefAt K mg "_law_holds" s_Lholds ["_law_script", "_law_length", "_law_rests", "_law_borne", "_law_rows_here", "_law_stretch_here", "_law_found"]
  f_law : DefAt K mg "law" s_law ["_law_script"]
  b_abs : mg "abs" = none
  b_zip : mg "zip" = none
  b_list : mg "list" = none
  b_sum : mg "sum" = none
  b_range : mg "range" = none
  b_isinstance : mg "isinstance" = none
  b_max : mg "max" = none
  b_min : mg "min" = none
  b_tuple : mg "tuple" = none
  b_len : mg "len" = none
  b_int : mg "int" = none
  b_sorted : mg "sorted" = none
  b_bool : mg "bool" = none
  b_set : mg "set" = none
  g_NoNumber : mg "NoNumber" = some (.ref ad.c_NoNumber)
  x_NoNumber : PySem.W.excIn K ad.c_NoNumber excMro "ValueError.__new__" = true
  g_NoLoad : mg "NoLoad" = some (.ref ad.c_NoLoad)
  x_NoLoad : PySem.W.excIn K ad.c_NoLoad excMro "ValueError.__new__" = true
  g_NoBeam : mg "NoBeam" = some (.ref ad.c_NoBeam)
  x_NoBeam : PySem.W.excIn K ad.c_NoBeam excMro "ValueError.__new__" = true
  g_OffBeam : mg "OffBeam" = some (.ref ad.c_OffBeam)
  x_OffBeam : PySem.W.excIn K ad.c_OffBeam excMro "ValueError.__new__" = true
  n_Weight : InsCls K ad.c_Weight
  mk_Weight : MakAt K mg "Weight" ad.c_Weight "Weight.__init__" s_Weight___init ["self", "place", "size"]
  g_Spread : mg "Spread" = some (.ref ad.c_Spread)
  n_Spread : InsCls K ad.c_Spread
  mk_Spread : MakAt K mg "Spread" ad.c_Spread "Spread.__init__" s_Spread___init ["self", "start", "end", "each"]
  n_Beam : InsCls K ad.c_Beam
  mk_Beam : MakAt K mg "Beam" ad.c_Beam "Beam.__init__" s_Beam___init ["self", "length", "rests"]
  h_Weight_total : MthAt K ad.c_Weight "total" "Weight.total" s_Weight_total ["self"]
  h_Weight_edges : MthAt K ad.c_Weight "edges" "Weight.edges" s_Weight_edges ["self"]
  h_Weight_each_over : MthAt K ad.c_Weight "each_over" "Weight.each_over" s_Weight_each_over ["self", "left", "right"]
  h_Weight_scaled_left : MthAt K ad.c_Weight "scaled_left" "Weight.scaled_left" s_Weight_scaled_left ["self", "x"]
  h_Weight_scaled_right : MthAt K ad.c_Weight "scaled_right" "Weight.scaled_right" s_Weight_scaled_right ["self", "x"]
  h_Weight_about : MthAt K ad.c_Weight "about" "Load.about" s_Load_about ["self", "x"]
  h_Spread_total : MthAt K ad.c_Spread "total" "Spread.total" s_Spread_total ["self"]
  h_Spread_edges : MthAt K ad.c_Spread "edges" "Spread.edges" s_Spread_edges ["self"]
  h_Spread_each_over : MthAt K ad.c_Spread "each_over" "Spread.each_over" s_Spread_each_over ["self", "left", "right"]
  h_Spread_scaled_left : MthAt K ad.c_Spread "scaled_left" "Spread.scaled_left" s_Spread_scaled_left ["self", "x"]
  h_Spread_scaled_right : MthAt K ad.c_Spread "scaled_right" "Spread.scaled_right" s_Spread_scaled_right ["self", "x"]
  h_Spread_about : MthAt K ad.c_Spread "about" "Load.about" s_Load_about ["self", "x"]
  h_Beam_bears : MthAt K ad.c_Beam "bears" "Beam.bears" s_Beam_bears ["self", "loads"]
  na_Weight_place : NoAttr K ad.c_Weight "place"
  na_Weight_size : NoAttr K ad.c_Weight "size"
  na_Spread_start : NoAttr K ad.c_Spread "start"
  na_Spread_end : NoAttr K ad.c_Spread "end"
  na_Spread_each : NoAttr K ad.c_Spread "each"
  na_Beam_length : NoAttr K ad.c_Beam "length"
  na_Beam_rests : NoAttr K ad.c_Beam "rests"
  i_Weight_Spread : PySem.W.kitOne K (.ref ad.c_Weight) (.ref ad.c_Spread) = some false
  i_Spread_Spread : PySem.W.kitOne K (.ref ad.c_Spread) (.ref ad.c_Spread) = some true
section
variable {P : Program} {w : World} {K : PySem.W.Frag} {mg : Str → Option Value} {base : Heap} {ad : Adr}
/-! ### the program's own defs: ratios, loads -/
def spG : Sp := fun vs H Q _ => ∃ a b, vs = [.int a, .int b] ∧ Q (.int (G a b)) H
theorem ok_greatest_share (T : Txt K mg ad) : Def P w K mg base CX0 41 "greatest_share" ["one", "other"] spG := by
  refine T.f_greatest_share.ok sc_greatest_share (fun vs H Q E h => ?_) (fun f cdv A outer s H vs Q E hr h => ?_)
  · obtain ⟨a, b, rfl, _⟩ := h
    rfl
  · obtain ⟨a, b, rfl, k⟩ := h
    refine ⟨_, (pss_cons (ps_set (i := 2) sc_greatest_share.nd rfl (Or.inl rfl) (pe_callB call_abs (by rfl) T.b_abs PyProof.Rows.Boot.«abs» (pa_cons (pv 0) pa_nil)))
      (pss_cons (ps_set (i := 3) sc_greatest_share.nd rfl (Or.inl rfl) (pe_callB call_abs (by rfl) T.b_abs PyProof.Rows.Boot.«abs» (pa_cons (pv 1) pa_nil)))
      (pss_cons (ps_while PassesOwn.never (pt_cmpR op_ne (pv 3) pe_int (nomark _)) (pss_cons (ps_set (i := 4) sc_greatest_share.nd rfl (Or.inl rfl) (pe_op op_mod (pv 2) (pv 3)))
        (pss_cons (ps_set (i := 2) sc_greatest_share.nd rfl (Or.inl rfl) (pv 3))
        (pss_one (ps_set (i := 3) sc_greatest_share.nd rfl (Or.inl rfl) (pv 4))))))
      (pss_one (ps_ret (pv 2)))))), ?_⟩
    refine ⟨_, rfl, _, rfl, _, rfl, _, rfl, ?_⟩
    refine while_by (fun σ H' => H' = H ∧ ∃ s m lo, σ = [some (.int a), some (.int b), some (.int s), some (.int m), lo] ∧ 0 ≤ s ∧ 0 ≤ m ∧ G s m = G a b)
      (fun σ _ => match σ with | [_, _, _, some (.int m), _] => m.toNat | _ => 0) ⟨rfl, _, _, _, rfl, abs_nn a, abs_nn b, G_abs a b⟩ ?_ (fun σ H Q Q' hq ⟨v, e, h1, k, e2, q⟩ => ⟨v, e, h1, k, e2, hq _ _ q⟩)
    rintro σ H' ⟨rfl, s, m, lo, rfl, hs, hm, hg⟩
    refine ⟨_, rfl, rfl, _, rfl, neI (fun hne => ?_) (fun he => ?_)⟩
    · refine ⟨_, rfl, _, rfl, _, _, rfl, rfl, (by show (0 : Int) < m; omega), _, rfl, _, rfl, ⟨rfl, m, s % m, _, rfl, hm, Int.emod_nonneg s hne, (G_step s m).trans hg⟩, ?_⟩
      have := Int.emod_lt_of_pos s (show 0 < m by omega)
      show (s % m).toNat < m.toNat
      omega
    · refine ⟨_, rfl, ?_⟩
      rw [he, G_zero hs] at hg
      rw [hg]
      exact k
/-- a fraction of two ints; none where the bottom is 0 -/
def spFr (c : Addr) : Sp := fun vs H Q E => ∃ a b, vs = [.int a, .int b] ∧ ((b ≠ 0 ∧ ∀ v H', Same H H' → IsFr H' v (Rat.divInt a b) → Q v H') ∨ (b = 0 ∧ E (.ref c) none H))
theorem spFr.use {c : Addr} {a b : Int} {H : Hp} {Q : VK} {E : XK} (hb : b ≠ 0) (k : ∀ v H', Same H H' → IsFr H' v (Rat.divInt a b) → Q v H') : spFr c [.int a, .int b] H Q E := ⟨a, b, rfl, .inl ⟨hb, k⟩⟩
theorem ok_fraction (T : Txt K mg ad) (M : Md P base) : Def P w K mg base (CXE P w) 42 "fraction" ["top", "bottom"] (spFr ad.c_NoNumber) := by
  have D_greatest_share := ok_greatest_share (P := P) (w := w) (base := base) T
  refine T.f_fraction.okE sc_fraction (fun vs H Q E h => ?_) (fun f cdv A outer s H vs Q E hr h => ?_)
  · obtain ⟨a, b, rfl, _⟩ := h
    rfl
  · obtain ⟨a, b, rfl, k⟩ := h
    have hD : DivOk (cxOf (CXE P w) P w K mg base ["top", "bottom", "share"] "fraction" (defScope s_fraction) f cdv A outer s H E) := divOk_of M.seer M.tree (hr.mono (by decide)) rfl rfl rfl
    refine ⟨_, (pss_cons (ps_if (pt_cmpR op_eq (pv 1) pe_int (nomark _))
        (pss_one (ps_raise hr.hd T.x_NoNumber T.g_NoNumber rfl (pa_cons pe_str pa_nil)))
        pss_nil)
      (pss_cons (ps_set (i := 2) sc_fraction.nd rfl (Or.inl rfl) (pe_def D_greatest_share (hr.mono (by decide)) rfl pass0 (pa_cons (pv 0) (pa_cons (pv 1) pa_nil))))
      (pss_cons (ps_if (pt_cmpR op_lt (pv 1) pe_int (nomark _))
        (pss_one (ps_set (i := 2) sc_fraction.nd rfl (Or.inl rfl) (pe_un un_neg (pv 2))))
        pss_nil)
      (pss_one (ps_ret (pe_tup (pa_cons (pe_op (op_fdivA hD) (pv 0) (pv 2)) (pa_cons (pe_op (op_fdivA hD) (pv 1) (pv 2)) pa_nil)))))))), ?_⟩
    refine ⟨_, rfl, rfl, _, rfl, eqI (fun z => ?_) (fun hb => ?_)⟩
    · rcases k with ⟨hb, _⟩ | ⟨_, hE⟩
      · exact absurd z hb
      · exact ⟨(by show 1 ≤ sizeLine; decide), hE⟩
    rcases k with ⟨_, k⟩ | ⟨z, _⟩
    case inr => exact absurd z hb
    have e := frac_eq (a := a) hb
    refine ⟨_, rfl, _, rfl, a, b, rfl, ?_⟩
    have fin : ∀ g : Int, g = S a b → (tRet (tTup (tCons (tOp (rI (fun _ j => j ≠ 0) fun i j => .int (i.fdiv j)) (tVar 0) (tVar 2)) (tCons (tOp (rI (fun _ j => j ≠ 0) fun i j => .int (i.fdiv j)) (tVar 1) (tVar 2)) tNil)))) { nx := fun _ H' => Q .non H', rt := Q } [some (.int a), some (.int b), some (.int g)] H := by
      rintro g rfl
      refine ⟨_, rfl, _, rfl, _, _, rfl, rfl, S_ne hb, _, rfl, _, rfl, _, _, rfl, rfl, S_ne hb, (by show 2 ≤ sizeLine; decide), fun p hp => ?_⟩
      refine k _ _ (Same.upd hp) ⟨p, rfl, ?_⟩
      rw [upd_same]
      show some (HO.tup [V.int (a.fdiv (S a b)), V.int (b.fdiv (S a b))]) = _
      rw [e.1, e.2]
    refine ⟨_, rfl, _, _, rfl, rfl, _, rfl, decI (fun hn => ?_) (fun hn => ?_)⟩
    · refine ⟨_, rfl, _, rfl, ?_⟩
      exact fin (-G a b) (by unfold S; rw [if_pos hn])
    · exact fin (G a b) (by unfold S; rw [if_neg hn])
local macro_rules | `(tactic| walk_at "rdc") => `(tactic| first
  | ((with_reducible refine spFr.use ?_ ?_); (· first | assumption | exact two_den_ne _ | exact den_mul_ne _ _)))
def spScale : Sp := fun vs H Q _ => ∃ x q n, vs = [x] ∧ IsFr H x q ∧ Bq n q ∧ n ≤ 10000000 ∧ Q (.int (2 * q.den * q.den)) H
theorem spScale.use {H : Hp} {Q : VK} {E : XK} {x : V} {q : Rat} {n : Nat} (h : IsFr H x q) (b : Bq n q) (hn : n ≤ 10000000) (k : Q (.int (2 * q.den * q.den)) H) : spScale [x] H Q E := ⟨x, q, n, rfl, h, b, hn, k⟩
theorem ok_turn_scale (T : Txt K mg ad) : Def P w K mg base CX0 41 "turn_scale" ["x"] spScale := by
  refine T.f_turn_scale.ok sc_turn_scale (fun vs H Q E h => ?_) (fun f cdv A outer s H vs Q E hr h => ?_)
  · obtain ⟨x, q, n, rfl, _⟩ := h
    rfl
  · obtain ⟨x, q, n, rfl, hx, bq, hn, k⟩ := h
    refine ⟨_, (pss_one (ps_ret (pe_op op_mulB (pe_op op_mulB pe_int (pe_ix ix_tup (pv 0) pe_int (fun _ _ => rfl))) (pe_ix ix_tup (pv 0) pe_int (fun _ _ => rfl))))), ?_⟩
    walk_at "rds"
    exact k
local macro_rules | `(tactic| walk_at "rdc") => `(tactic| first
  | ((with_reducible apply spScale.use); (· walk_at "li"); (· assumption); (· omega)))
def spInit (CW CS c : Addr) (b : Bool) : Sp := fun vs H Q E => ∃ a dx L, vs = .ref a :: (match L with | Ld.w p z => [.int p, .int z] | Ld.s s e k => [.int s, .int e, .int k]) ∧ L.isW = b ∧ H a = some (.ins (if L.isW then CW else CS) dx []) ∧
  ((L.ok ∧ ∀ H', (∀ b o, b ≠ a → H b = some o → H' b = some o) → IsLd CW CS H' (.ref a) L → Q .non H') ∨ (¬ L.ok ∧ E (.ref c) none H))
theorem mk_weight (T : Txt K mg ad) : Mak P w K mg base CX0 41 "Weight" ad.c_Weight ["self", "place", "size"] (spInit ad.c_Weight ad.c_Spread ad.c_NoLoad true) := by
  refine T.mk_Weight.ok sc_Weight___init (fun vs H Q E h => ?_) (fun f cdv A outer s H vs Q E hr h => ?_)
  · obtain ⟨a, dx, L, rfl, e, _⟩ := h
    cases L with
    | w p z => rfl
    | s a e k => cases e
  · obtain ⟨a, dx, L, rfl, e, ha, k⟩ := h
    cases L with
    | s a e k => cases e
    | w p z =>
    rcases k with ⟨_, k⟩ | ⟨k, _⟩
    case inr => exact absurd trivial k
    refine ⟨_, (pss_cons (ps_fld (pv 0) (pv 1) rfl)
      (pss_one (ps_fld (pv 0) (pv 2) rfl))), ?_⟩
    refine ⟨_, rfl, _, rfl, a, _, dx, _, rfl, ha, T.n_Weight.cl, T.na_Weight_place, (by show 0 < 1000; decide), ?_⟩
    refine ⟨_, rfl, _, rfl, a, _, dx, _, rfl, upd_same, T.n_Weight.cl, T.na_Weight_size, (by show 1 < 1000; decide), ?_⟩
    exact k _ (fun b o hb e => by rw [upd_ne hb, upd_ne hb]; exact e) ⟨trivial, a, dx, rfl, upd_same⟩
theorem mk_spread (T : Txt K mg ad) : Mak P w K mg base (CXE P w) 41 "Spread" ad.c_Spread ["self", "start", "end", "each"] (spInit ad.c_Weight ad.c_Spread ad.c_NoLoad false) := by
  refine T.mk_Spread.okE sc_Spread___init (fun vs H Q E h => ?_) (fun f cdv A outer s H vs Q E hr h => ?_)
  · obtain ⟨a, dx, L, rfl, e, _⟩ := h
    cases L with
    | w p z => cases e
    | s a e k => rfl
  · obtain ⟨a, dx, L, rfl, e, ha, k⟩ := h
    cases L with
    | w p z => cases e
    | s s1 e1 k1 =>
    refine ⟨_, (pss_cons (ps_if (pt_cmpR op_le (pv 2) (pv 1) (nomark _))
        (pss_one (ps_raise hr.hd T.x_NoLoad T.g_NoLoad rfl (pa_cons pe_str pa_nil)))
        pss_nil)
      (pss_cons (ps_fld (pv 0) (pv 1) rfl)
      (pss_cons (ps_fld (pv 0) (pv 2) rfl)
      (pss_one (ps_fld (pv 0) (pv 3) rfl))))), ?_⟩
    refine ⟨_, rfl, _, rfl, _, _, rfl, rfl, _, rfl, decI (fun z => ?_) (fun z => ?_)⟩
    · rcases k with ⟨y, _⟩ | ⟨_, hE⟩
      · exact absurd (show s1 < e1 from y) (by omega)
      · exact ⟨(by show 1 ≤ sizeLine; decide), hE⟩
    rcases k with ⟨ok, k⟩ | ⟨y, _⟩
    case inr => exact absurd (show s1 < e1 by omega) y
    refine ⟨_, rfl, _, rfl, a, _, dx, _, rfl, ha, T.n_Spread.cl, T.na_Spread_start, (by show 0 < 1000; decide), ?_⟩
    refine ⟨_, rfl, _, rfl, a, _, dx, _, rfl, upd_same, T.n_Spread.cl, T.na_Spread_end, (by show 1 < 1000; decide), ?_⟩
    have l2 : (putF ("end" : Str) (V.int e1) (putF ("start" : Str) (V.int s1) [])).length < 1000 := by
      have i1 := length_putF ("end" : Str) (V.int e1) (putF ("start" : Str) (V.int s1) [])
      have i2 := length_putF ("start" : Str) (V.int s1) []
      simp only [List.length_nil] at i2
      omega
    refine ⟨_, rfl, _, rfl, a, _, dx, _, rfl, upd_same, T.n_Spread.cl, T.na_Spread_each, l2, ?_⟩
    exact k _ (fun b o hb e => by rw [upd_ne hb, upd_ne hb, upd_ne hb]; exact e) ⟨ok, a, dx, rfl, upd_same⟩
theorem r_mkW {CW CS c : Addr} {E : XK} {H : Hp} {Q : VK} {p z : Int} (k : ∀ v H', Same H H' → IsLd CW CS H' v (.w p z) → Q v H') : rMak CW (spInit CW CS c true) E [.int p, .int z] H Q :=
  fun x dx nx ndx ne => ⟨x, dx, .w p z, rfl, rfl, upd_same, .inl ⟨trivial, fun H' st hL => ⟨rfl, k _ H' (Same.made nx ndx st) hL⟩⟩⟩
theorem r_mkS {CW CS c : Addr} {E : XK} {H : Hp} {Q : VK} {a e j : Int} (h : a < e) (k : ∀ v H', Same H H' → IsLd CW CS H' v (.s a e j) → Q v H') : rMak CS (spInit CW CS c false) E [.int a, .int e, .int j] H Q :=
  fun x dx nx ndx ne => ⟨x, dx, .s a e j, rfl, rfl, upd_same, .inl ⟨h, fun H' st hL => ⟨rfl, k _ H' (Same.made nx ndx st) hL⟩⟩⟩
local macro_rules | `(tactic| walk_at "rdc") => `(tactic| first
  | with_reducible refine r_mkW ?_
  | ((with_reducible refine r_mkS ?_ ?_); (· first | assumption | omega)))
theorem r_place (T : Txt K mg ad) {H : Hp} {v : V} {Q : VK} {p z : Int} (h : IsLd ad.c_Weight ad.c_Spread H v (.w p z)) (q : Q (.int p) H) : rFld K "place" v H Q := h.place T.n_Weight.cl T.na_Weight_place q
theorem r_size (T : Txt K mg ad) {H : Hp} {v : V} {Q : VK} {p z : Int} (h : IsLd ad.c_Weight ad.c_Spread H v (.w p z)) (q : Q (.int z) H) : rFld K "size" v H Q := h.size T.n_Weight.cl T.na_Weight_size q
theorem r_start (T : Txt K mg ad) {H : Hp} {v : V} {Q : VK} {a e k : Int} (h : IsLd ad.c_Weight ad.c_Spread H v (.s a e k)) (q : Q (.int a) H) : rFld K "start" v H Q := h.start T.n_Spread.cl T.na_Spread_start q
theorem r_end (T : Txt K mg ad) {H : Hp} {v : V} {Q : VK} {a e k : Int} (h : IsLd ad.c_Weight ad.c_Spread H v (.s a e k)) (q : Q (.int e) H) : rFld K "end" v H Q := h.end_ T.n_Spread.cl T.na_Spread_end q
theorem r_each (T : Txt K mg ad) {H : Hp} {v : V} {Q : VK} {a e k : Int} (h : IsLd ad.c_Weight ad.c_Spread H v (.s a e k)) (q : Q (.int k) H) : rFld K "each" v H Q := h.each T.n_Spread.cl T.na_Spread_each q
local macro_rules | `(tactic| walk_at "rdc") => `(tactic| first
  | ((with_reducible apply r_place); (· assumption); (· walk_at "li"))
  | ((with_reducible apply r_size); (· assumption); (· walk_at "li"))
  | ((with_reducible apply r_start); (· assumption); (· walk_at "li"))
  | ((with_reducible apply r_end); (· assumption); (· walk_at "li"))
  | ((with_reducible apply r_each); (· assumption); (· walk_at "li")))
/-- what a load weighs -/
def spTot (CW CS : Addr) (b : Bool) : Sp := fun vs H Q _ => ∃ v L n, vs = [v] ∧ IsLd CW CS H v L ∧ L.isW = b ∧ L.b n ∧ n ≤ 100000 ∧ Q (.int L.total) H
theorem spTot.use {CW CS : Addr} {H : Hp} {Q : VK} {E : XK} {v : V} {L : Ld} {n : Nat} (h : IsLd CW CS H v L) (bL : L.b n) (hn : n ≤ 100000) (k : Q (.int L.total) H) : spTot CW CS L.isW [v] H Q E := ⟨v, L, n, rfl, h, rfl, bL, hn, k⟩
theorem ok_w_total (T : Txt K mg ad) : Mth P w K mg base CX0 41 ad.c_Weight "total" ["self"] (spTot ad.c_Weight ad.c_Spread true) := by
  refine T.h_Weight_total.ok sc_Weight_total (fun vs H Q E h => ?_) (fun f cdv A outer s H vs Q E hr h => ?_)
  · obtain ⟨v, L, n, rfl, _⟩ := h
    rfl
  · obtain ⟨v, L, n, rfl, hL, e, bL, hn, k⟩ := h
    cases L with
    | s a e k => cases e
    | w p z =>
    refine ⟨_, (pss_one (ps_ret (pe_fld (pv 0) rfl))), ?_⟩
    walk_at "rds"
    exact k
theorem ok_s_total (T : Txt K mg ad) : Mth P w K mg base CX0 41 ad.c_Spread "total" ["self"] (spTot ad.c_Weight ad.c_Spread false) := by
  refine T.h_Spread_total.ok sc_Spread_total (fun vs H Q E h => ?_) (fun f cdv A outer s H vs Q E hr h => ?_)
  · obtain ⟨v, L, n, rfl, _⟩ := h
    rfl
  · obtain ⟨v, L, n, rfl, hL, e, bL, hn, k⟩ := h
    cases L with
    | w p z => cases e
    | s a e1 k1 =>
    obtain ⟨b1, b2, b3⟩ := bL
    refine ⟨_, (pss_one (ps_ret (pe_op op_mulB (pe_fld (pv 0) rfl) (pe_op op_sub (pe_fld (pv 0) rfl) (pe_fld (pv 0) rfl))))), ?_⟩
    walk_at "rds"
    exact k
/-- what it turns about x, by parts of twice the bottom's square -/
def spSc (CW CS : Addr) (g : Ld → Rat → Rat) (b : Bool) : Sp := fun vs H Q _ => ∃ v x L q n, vs = [v, x] ∧ IsLd CW CS H v L ∧ L.isW = b ∧ IsFr H x q ∧ Bq n q ∧ L.b n ∧ n ≤ 1000000 ∧ ∀ N : Int, (N : Rat) = g L q * (2 * q.den * q.den) → Bi (20 * n + 1000) N → Q (.int N) H
theorem spSc.use {CW CS : Addr} {g : Ld → Rat → Rat} {H : Hp} {Q : VK} {E : XK} {v x : V} {L : Ld} {q : Rat} {n : Nat} (h : IsLd CW CS H v L) (hx : IsFr H x q) (bq : Bq n q) (bL : L.b n) (hn : n ≤ 1000000) (k : ∀ N : Int, (N : Rat) = g L q * (2 * q.den * q.den) → Bi (20 * n + 1000) N → Q (.int N) H) :
    spSc CW CS g L.isW [v, x] H Q E := ⟨v, x, L, q, n, rfl, h, rfl, hx, bq, bL, hn, k⟩
local macro_rules | `(tactic| walk_at "rdc") => `(tactic| first
  | ((with_reducible apply spTot.use); (· walk_at "li"); (· assumption); (· omega))
  | ((with_reducible apply spSc.use); (· walk_at "li"); (· walk_at "li"); (· assumption); (· assumption); (· omega)))
theorem max_comm0 (x : Int) : (if 0 > x then 0 else x) = (if x > 0 then x else 0) := by
  split <;> split <;> omega
theorem ok_w_sl (T : Txt K mg ad) : Mth P w K mg base CX0 41 ad.c_Weight "scaled_left" ["self", "x"] (spSc ad.c_Weight ad.c_Spread Ld.left true) := by
  refine T.h_Weight_scaled_left.ok sc_Weight_scaled_left (fun vs H Q E h => ?_) (fun f cdv A outer s H vs Q E hr h => ?_)
  · obtain ⟨v, x, L, q, n, rfl, _⟩ := h
    rfl
  · obtain ⟨v, x, L, q, n, rfl, hL, e, hx, bq, bL, hn, k⟩ := h
    cases L with
    | s a e k => cases e
    | w p z =>
    obtain ⟨b1, b2⟩ := bL
    refine ⟨_, (pss_cons (ps_set (i := 2) sc_Weight_scaled_left.nd rfl (Or.inl rfl) (pe_callB (call_max2 rfl) (by rfl) T.b_max PyProof.Rows.Boot.«max» (pa_cons (pe_op op_sub (pe_ix ix_tup (pv 1) pe_int (fun _ _ => rfl)) (pe_op op_mulB (pe_fld (pv 0) rfl) (pe_ix ix_tup (pv 1) pe_int (fun _ _ => rfl)))) (pa_cons pe_int pa_nil))))
      (pss_one (ps_ret (pe_op op_mulB (pe_op op_mulB (pe_op op_mulB pe_int (pe_ix ix_tup (pv 1) pe_int (fun _ _ => rfl))) (pe_fld (pv 0) rfl)) (pv 2))))), ?_⟩
    walk_at "rds"
    refine k _ ?_ (by walk_at "bm")
    rw [Int.mul_assoc, max_comm0]
    exact unscaled1 (lw_law p z q)
theorem ok_w_sr (T : Txt K mg ad) : Mth P w K mg base CX0 41 ad.c_Weight "scaled_right" ["self", "x"] (spSc ad.c_Weight ad.c_Spread Ld.right true) := by
  refine T.h_Weight_scaled_right.ok sc_Weight_scaled_right (fun vs H Q E h => ?_) (fun f cdv A outer s H vs Q E hr h => ?_)
  · obtain ⟨v, x, L, q, n, rfl, _⟩ := h
    rfl
  · obtain ⟨v, x, L, q, n, rfl, hL, e, hx, bq, bL, hn, k⟩ := h
    cases L with
    | s a e k => cases e
    | w p z =>
    obtain ⟨b1, b2⟩ := bL
    refine ⟨_, (pss_cons (ps_set (i := 2) sc_Weight_scaled_right.nd rfl (Or.inl rfl) (pe_callB (call_max2 rfl) (by rfl) T.b_max PyProof.Rows.Boot.«max» (pa_cons (pe_op op_sub (pe_op op_mulB (pe_fld (pv 0) rfl) (pe_ix ix_tup (pv 1) pe_int (fun _ _ => rfl))) (pe_ix ix_tup (pv 1) pe_int (fun _ _ => rfl))) (pa_cons pe_int pa_nil))))
      (pss_one (ps_ret (pe_op op_mulB (pe_op op_mulB (pe_op op_mulB pe_int (pe_ix ix_tup (pv 1) pe_int (fun _ _ => rfl))) (pe_fld (pv 0) rfl)) (pv 2))))), ?_⟩
    walk_at "rds"
    refine k _ ?_ (by walk_at "bm")
    rw [Int.mul_assoc, max_comm0]
    exact unscaled1 (rw_law p z q)
theorem ok_s_sl (T : Txt K mg ad) : Mth P w K mg base CX0 41 ad.c_Spread "scaled_left" ["self", "x"] (spSc ad.c_Weight ad.c_Spread Ld.left false) := by
  refine T.h_Spread_scaled_left.ok sc_Spread_scaled_left (fun vs H Q E h => ?_) (fun f cdv A outer s H vs Q E hr h => ?_)
  · obtain ⟨v, x, L, q, n, rfl, _⟩ := h
    rfl
  · obtain ⟨v, x, L, q, n, rfl, hL, e, hx, bq, bL, hn, k⟩ := h
    cases L with
    | w p z => cases e
    | s s1 e1 k1 =>
    obtain ⟨b1, b2, b3⟩ := bL
    have law := unscaled (ls_law s1 e1 k1 q hL.1)
    refine ⟨_, (pss_cons (ps_set (i := 2) sc_Spread_scaled_left.nd rfl (Or.inl rfl) (pe_op op_mulB (pe_fld (pv 0) rfl) (pe_ix ix_tup (pv 1) pe_int (fun _ _ => rfl))))
      (pss_cons (ps_if (pt_cmpR op_ge (pv 2) (pe_ix ix_tup (pv 1) pe_int (fun _ _ => rfl)) (nomark _))
        (pss_one (ps_ret pe_int))
        pss_nil)
      (pss_cons (ps_set (i := 3) sc_Spread_scaled_left.nd rfl (Or.inl rfl) (pe_callB (call_min2 rfl) (by rfl) T.b_min PyProof.Rows.Boot.«min» (pa_cons (pe_ix ix_tup (pv 1) pe_int (fun _ _ => rfl)) (pa_cons (pe_op op_mulB (pe_fld (pv 0) rfl) (pe_ix ix_tup (pv 1) pe_int (fun _ _ => rfl))) pa_nil))))
      (pss_one (ps_ret (pe_op op_mulB (pe_op op_mulB (pe_fld (pv 0) rfl) (pe_op op_sub (pv 3) (pv 2))) (pe_op op_sub (pe_op op_sub (pe_op op_mulB pe_int (pe_ix ix_tup (pv 1) pe_int (fun _ _ => rfl))) (pv 2)) (pv 3)))))))), ?_⟩
    walk_at "rds"
    refine decI (fun z => ?_) (fun z => ?_)
    · walk_at "rd"
      rw [if_neg (by omega)] at law
      exact k _ law (by unfold Bi; exact Nat.two_pow_pos _)
    · walk_at "rd"
      rw [if_pos (by omega)] at law
      exact k _ law (by walk_at "bm")
theorem ok_s_sr (T : Txt K mg ad) : Mth P w K mg base CX0 41 ad.c_Spread "scaled_right" ["self", "x"] (spSc ad.c_Weight ad.c_Spread Ld.right false) := by
  refine T.h_Spread_scaled_right.ok sc_Spread_scaled_right (fun vs H Q E h => ?_) (fun f cdv A outer s H vs Q E hr h => ?_)
  · obtain ⟨v, x, L, q, n, rfl, _⟩ := h
    rfl
  · obtain ⟨v, x, L, q, n, rfl, hL, e, hx, bq, bL, hn, k⟩ := h
    cases L with
    | w p z => cases e
    | s s1 e1 k1 =>
    obtain ⟨b1, b2, b3⟩ := bL
    have law := unscaled (rs_law s1 e1 k1 q hL.1)
    refine ⟨_, (pss_cons (ps_set (i := 2) sc_Spread_scaled_right.nd rfl (Or.inl rfl) (pe_op op_mulB (pe_fld (pv 0) rfl) (pe_ix ix_tup (pv 1) pe_int (fun _ _ => rfl))))
      (pss_cons (ps_if (pt_cmpR op_le (pv 2) (pe_ix ix_tup (pv 1) pe_int (fun _ _ => rfl)) (nomark _))
        (pss_one (ps_ret pe_int))
        pss_nil)
      (pss_cons (ps_set (i := 3) sc_Spread_scaled_right.nd rfl (Or.inl rfl) (pe_callB (call_max2 rfl) (by rfl) T.b_max PyProof.Rows.Boot.«max» (pa_cons (pe_ix ix_tup (pv 1) pe_int (fun _ _ => rfl)) (pa_cons (pe_op op_mulB (pe_fld (pv 0) rfl) (pe_ix ix_tup (pv 1) pe_int (fun _ _ => rfl))) pa_nil))))
      (pss_one (ps_ret (pe_op op_mulB (pe_op op_mulB (pe_fld (pv 0) rfl) (pe_op op_sub (pv 2) (pv 3))) (pe_op op_sub (pe_op op_add (pv 3) (pv 2)) (pe_op op_mulB pe_int (pe_ix ix_tup (pv 1) pe_int (fun _ _ => rfl)))))))))), ?_⟩
    walk_at "rds"
    refine decI (fun z => ?_) (fun z => ?_)
    · walk_at "rd"
      rw [if_neg (by omega)] at law
      exact k _ law (by unfold Bi; exact Nat.two_pow_pos _)
    · walk_at "rd"
      rw [if_pos (by omega)] at law
      exact k _ law (by walk_at "bm")
/-- a fraction that a load turns -/
def spTurn (CW CS : Addr) (g : Ld → Rat → Rat) (b : Bool) : Sp := fun vs H Q _ => ∃ v x L q n, vs = [v, x] ∧ IsLd CW CS H v L ∧ L.isW = b ∧ IsFr H x q ∧ Bq n q ∧ L.b n ∧ n ≤ 100000 ∧ ∀ v' H', Same H H' → IsFr H' v' (g L q) → Bq (50 * n + 3000) (g L q) → Q v' H'
theorem spTurn.use {CW CS : Addr} {g : Ld → Rat → Rat} {H : Hp} {Q : VK} {E : XK} {v x : V} {L : Ld} {q : Rat} {n : Nat} (h : IsLd CW CS H v L) (hx : IsFr H x q) (bq : Bq n q) (bL : L.b n) (hn : n ≤ 100000) (k : ∀ v' H', Same H H' → IsFr H' v' (g L q) → Bq (50 * n + 3000) (g L q) → Q v' H') :
    spTurn CW CS g L.isW [v, x] H Q E := ⟨v, x, L, q, n, rfl, h, rfl, hx, bq, bL, hn, k⟩
local macro_rules | `(tactic| walk_at "rdc") => `(tactic| first
  | ((with_reducible apply spTurn.use); (· walk_at "li"); (· walk_at "li"); (· assumption); (· assumption); (· omega)))
theorem bq_scaled {n : Nat} {q g : Rat} {N : Int} (bq : Bq n q) (bN : Bi (50 * n + 3000) N) (e : (N : Rat) = g * (2 * q.den * q.den)) : Bq (50 * n + 3000) g := by
  rw [← scaled e]
  refine Bq.divInt bN ?_ (two_den_ne q)
  walk_at "bm"
theorem ok_about_Weight (T : Txt K mg ad) (M : Md P base) : Mth P w K mg base CX0 43 ad.c_Weight "about" ["self", "x"] (spTurn ad.c_Weight ad.c_Spread Ld.abt true) := by
  have D_fraction := ok_fraction (w := w) T M
  have D_turn_scale := ok_turn_scale (P := P) (w := w) (base := base) T
  have M_Weight_scaled_left := ok_w_sl (P := P) (w := w) (base := base) T
  have M_Spread_scaled_left := ok_s_sl (P := P) (w := w) (base := base) T
  have M_Weight_scaled_right := ok_w_sr (P := P) (w := w) (base := base) T
  have M_Spread_scaled_right := ok_s_sr (P := P) (w := w) (base := base) T
  refine T.h_Weight_about.ok sc_Load_about (fun vs H Q E h => ?_) (fun f cdv A outer s H vs Q E hr h => ?_)
  · obtain ⟨v, x, L, q, n, rfl, _⟩ := h
    rfl
  · obtain ⟨v, x, L, q, n, rfl, hL, e, hx, bq, bL, hn, k⟩ := h
    refine ⟨_, (pss_one (ps_ret (pe_def D_fraction (hr.mono (by decide)) rfl passE0 (pa_cons (pe_op op_sub (pe_lm (pv 0) T.n_Weight.cl T.n_Spread.cl M_Weight_scaled_right M_Spread_scaled_right (hr.mono (by decide)) (hr.mono (by decide)) pass0 (pa_cons (pv 1) pa_nil)) (pe_lm (pv 0) T.n_Weight.cl T.n_Spread.cl M_Weight_scaled_left M_Spread_scaled_left (hr.mono (by decide)) (hr.mono (by decide)) pass0 (pa_cons (pv 1) pa_nil))) (pa_cons (pe_def D_turn_scale (hr.mono (by decide)) rfl pass0 (pa_cons (pv 1) pa_nil)) pa_nil))))), ?_⟩
    walk_at "rds"
    intro N eN bN
    walk_at "rd"
    intro N' eN' bN'
    walk_at "rd"
    intro v' H' sm hv
    have ee : ((N - N' : Int) : Rat) = L.abt q * (2 * q.den * q.den) := by
      rw [← L.abt_eq]
      push_cast
      rw [eN, eN']
      grind
    rw [scaled ee] at hv
    exact k v' H' sm hv (bq_scaled bq ((bN.sub' bN').mono (by omega)) ee)
theorem ok_about_Spread (T : Txt K mg ad) (M : Md P base) : Mth P w K mg base CX0 43 ad.c_Spread "about" ["self", "x"] (spTurn ad.c_Weight ad.c_Spread Ld.abt false) := by
  have D_fraction := ok_fraction (w := w) T M
  have D_turn_scale := ok_turn_scale (P := P) (w := w) (base := base) T
  have M_Weight_scaled_left := ok_w_sl (P := P) (w := w) (base := base) T
  have M_Spread_scaled_left := ok_s_sl (P := P) (w := w) (base := base) T
  have M_Weight_scaled_right := ok_w_sr (P := P) (w := w) (base := base) T
  have M_Spread_scaled_right := ok_s_sr (P := P) (w := w) (base := base) T
  refine T.h_Spread_about.ok sc_Load_about (fun vs H Q E h => ?_) (fun f cdv A outer s H vs Q E hr h => ?_)
  · obtain ⟨v, x, L, q, n, rfl, _⟩ := h
    rfl
  · obtain ⟨v, x, L, q, n, rfl, hL, e, hx, bq, bL, hn, k⟩ := h
    refine ⟨_, (pss_one (ps_ret (pe_def D_fraction (hr.mono (by decide)) rfl passE0 (pa_cons (pe_op op_sub (pe_lm (pv 0) T.n_Weight.cl T.n_Spread.cl M_Weight_scaled_right M_Spread_scaled_right (hr.mono (by decide)) (hr.mono (by decide)) pass0 (pa_cons (pv 1) pa_nil)) (pe_lm (pv 0) T.n_Weight.cl T.n_Spread.cl M_Weight_scaled_left M_Spread_scaled_left (hr.mono (by decide)) (hr.mono (by decide)) pass0 (pa_cons (pv 1) pa_nil))) (pa_cons (pe_def D_turn_scale (hr.mono (by decide)) rfl pass0 (pa_cons (pv 1) pa_nil)) pa_nil))))), ?_⟩
    walk_at "rds"
    intro N eN bN
    walk_at "rd"
    intro N' eN' bN'
    walk_at "rd"
    intro v' H' sm hv
    have ee : ((N - N' : Int) : Rat) = L.abt q * (2 * q.den * q.den) := by
      rw [← L.abt_eq]
      push_cast
      rw [eN, eN']
      grind
    rw [scaled ee] at hv
    exact k v' H' sm hv (bq_scaled bq ((bN.sub' bN').mono (by omega)) ee)
/-! ### beams: fractions -/
def spRat2 (g : Rat → Rat → Rat) (ok : Rat → Prop) : Sp := fun vs H Q _ => ∃ v1 v2 q1 q2 n1 n2, vs = [v1, v2] ∧ IsFr H v1 q1 ∧ IsFr H v2 q2 ∧ Bq n1 q1 ∧ Bq n2 q2 ∧ n1 + n2 ≤ 10000000 ∧ ok q2 ∧ ∀ v H', Same H H' → IsFr H' v (g q1 q2) → Bq (n1 + n2 + 1) (g q1 q2) → Q v H'
theorem spRat2.use {g : Rat → Rat → Rat} {ok : Rat → Prop} {H : Hp} {Q : VK} {E : XK} {v1 v2 : V} {q1 q2 : Rat} {n1 n2 : Nat} (h1 : IsFr H v1 q1) (h2 : IsFr H v2 q2) (b1 : Bq n1 q1) (b2 : Bq n2 q2) (hn : n1 + n2 ≤ 10000000) (o : ok q2)
    (k : ∀ v H', Same H H' → IsFr H' v (g q1 q2) → Bq (n1 + n2 + 1) (g q1 q2) → Q v H') : spRat2 g ok [v1, v2] H Q E := ⟨v1, v2, q1, q2, n1, n2, rfl, h1, h2, b1, b2, hn, o, k⟩
theorem ok_plus (T : Txt K mg ad) (M : Md P base) : Def P w K mg base CX0 43 "plus" ["one", "other"] (spRat2 (fun p q => p + q) fun _ => True) := by
  have D_fraction := ok_fraction (w := w) T M
  refine T.f_plus.ok sc_plus (fun vs H Q E h => ?_) (fun f cdv A outer s H vs Q E hr h => ?_)
  · obtain ⟨a, b, _, _, _, _, rfl, _⟩ := h
    rfl
  · obtain ⟨v1, v2, q1, q2, n1, n2, rfl, h1, h2, b1, b2, hn, _, k⟩ := h
    refine ⟨_, (pss_one (ps_ret (pe_def D_fraction (hr.mono (by decide)) rfl passE0 (pa_cons (pe_op op_add (pe_op op_mulB (pe_ix ix_tup (pv 0) pe_int (fun _ _ => rfl)) (pe_ix ix_tup (pv 1) pe_int (fun _ _ => rfl))) (pe_op op_mulB (pe_ix ix_tup (pv 1) pe_int (fun _ _ => rfl)) (pe_ix ix_tup (pv 0) pe_int (fun _ _ => rfl)))) (pa_cons (pe_op op_mulB (pe_ix ix_tup (pv 0) pe_int (fun _ _ => rfl)) (pe_ix ix_tup (pv 1) pe_int (fun _ _ => rfl))) pa_nil))))), ?_⟩
    walk_at "rds"
    intro v H' sm hv
    rw [add_eq] at hv
    exact k v H' sm hv ((b1.add b2).mono (by omega))
theorem ok_minus (T : Txt K mg ad) (M : Md P base) : Def P w K mg base CX0 43 "minus" ["one", "other"] (spRat2 (fun p q => p - q) fun _ => True) := by
  have D_fraction := ok_fraction (w := w) T M
  refine T.f_minus.ok sc_minus (fun vs H Q E h => ?_) (fun f cdv A outer s H vs Q E hr h => ?_)
  · obtain ⟨a, b, _, _, _, _, rfl, _⟩ := h
    rfl
  · obtain ⟨v1, v2, q1, q2, n1, n2, rfl, h1, h2, b1, b2, hn, _, k⟩ := h
    refine ⟨_, (pss_one (ps_ret (pe_def D_fraction (hr.mono (by decide)) rfl passE0 (pa_cons (pe_op op_sub (pe_op op_mulB (pe_ix ix_tup (pv 0) pe_int (fun _ _ => rfl)) (pe_ix ix_tup (pv 1) pe_int (fun _ _ => rfl))) (pe_op op_mulB (pe_ix ix_tup (pv 1) pe_int (fun _ _ => rfl)) (pe_ix ix_tup (pv 0) pe_int (fun _ _ => rfl)))) (pa_cons (pe_op op_mulB (pe_ix ix_tup (pv 0) pe_int (fun _ _ => rfl)) (pe_ix ix_tup (pv 1) pe_int (fun _ _ => rfl))) pa_nil))))), ?_⟩
    walk_at "rds"
    intro v H' sm hv
    rw [sub_eq] at hv
    exact k v H' sm hv ((b1.sub b2).mono (by omega))
theorem ok_times (T : Txt K mg ad) (M : Md P base) : Def P w K mg base CX0 43 "times" ["one", "other"] (spRat2 (fun p q => p * q) fun _ => True) := by
  have D_fraction := ok_fraction (w := w) T M
  refine T.f_times.ok sc_times (fun vs H Q E h => ?_) (fun f cdv A outer s H vs Q E hr h => ?_)
  · obtain ⟨a, b, _, _, _, _, rfl, _⟩ := h
    rfl
  · obtain ⟨v1, v2, q1, q2, n1, n2, rfl, h1, h2, b1, b2, hn, _, k⟩ := h
    refine ⟨_, (pss_one (ps_ret (pe_def D_fraction (hr.mono (by decide)) rfl passE0 (pa_cons (pe_op op_mulB (pe_ix ix_tup (pv 0) pe_int (fun _ _ => rfl)) (pe_ix ix_tup (pv 1) pe_int (fun _ _ => rfl))) (pa_cons (pe_op op_mulB (pe_ix ix_tup (pv 0) pe_int (fun _ _ => rfl)) (pe_ix ix_tup (pv 1) pe_int (fun _ _ => rfl))) pa_nil))))), ?_⟩
    walk_at "rds"
    intro v H' sm hv
    rw [mul_eq] at hv
    exact k v H' sm hv ((b1.mul b2).mono (by omega))
theorem ok_over (T : Txt K mg ad) (M : Md P base) : Def P w K mg base CX0 43 "over" ["one", "other"] (spRat2 (fun p q => p / q) fun q => q ≠ 0) := by
  have D_fraction := ok_fraction (w := w) T M
  refine T.f_over.ok sc_over (fun vs H Q E h => ?_) (fun f cdv A outer s H vs Q E hr h => ?_)
  · obtain ⟨a, b, _, _, _, _, rfl, _⟩ := h
    rfl
  · obtain ⟨v1, v2, q1, q2, n1, n2, rfl, h1, h2, b1, b2, hn, o, k⟩ := h
    obtain ⟨ne, ee⟩ := div_eq (p := q1) o
    refine ⟨_, (pss_one (ps_ret (pe_def D_fraction (hr.mono (by decide)) rfl passE0 (pa_cons (pe_op op_mulB (pe_ix ix_tup (pv 0) pe_int (fun _ _ => rfl)) (pe_ix ix_tup (pv 1) pe_int (fun _ _ => rfl))) (pa_cons (pe_op op_mulB (pe_ix ix_tup (pv 0) pe_int (fun _ _ => rfl)) (pe_ix ix_tup (pv 1) pe_int (fun _ _ => rfl))) pa_nil))))), ?_⟩
    walk_at "rds"
    intro v H' sm hv
    rw [ee] at hv
    exact k v H' sm hv ((Bq.div o b1 b2).mono (by omega))
local macro_rules | `(tactic| walk_at "rdc") => `(tactic| first
  | ((with_reducible apply spRat2.use); (· walk_at "li"); (· walk_at "li"); (· assumption); (· first | assumption | exact Bq.int (by assumption)); (· omega); (· first | exact trivial | assumption)))
/-! ### which loads lie on a beam -/
def spEdges (CW CS : Addr) (b : Bool) : Sp := fun vs H Q _ => ∃ v L, vs = [v] ∧ IsLd CW CS H v L ∧ L.isW = b ∧ ∀ l H', Same H H' → H l = none → H' l = some (.lst (L.edges.map V.int)) → Q (.ref l) H'
theorem spEdges.use {CW CS : Addr} {H : Hp} {Q : VK} {E : XK} {v : V} {L : Ld} (h : IsLd CW CS H v L) (k : ∀ l H', Same H H' → H l = none → H' l = some (.lst (L.edges.map V.int)) → Q (.ref l) H') : spEdges CW CS L.isW [v] H Q E := ⟨v, L, rfl, h, rfl, k⟩
theorem ok_w_edges (T : Txt K mg ad) : Mth P w K mg base CX0 41 ad.c_Weight "edges" ["self"] (spEdges ad.c_Weight ad.c_Spread true) := by
  refine T.h_Weight_edges.ok sc_Weight_edges (fun vs H Q E h => ?_) (fun f cdv A outer s H vs Q E hr h => ?_)
  · obtain ⟨v, L, rfl, _⟩ := h
    rfl
  · obtain ⟨v, L, rfl, hL, e, k⟩ := h
    cases L with
    | s a e k => cases e
    | w p z =>
    refine ⟨_, (pss_one (ps_ret (pe_lst (pa_cons (pe_fld (pv 0) rfl) pa_nil)))), ?_⟩
    walk_at "rds"
    exact rLst.mk' (by show 1 ≤ sizeLine; decide) fun l H' sm hl h => k l H' sm hl h
theorem ok_s_edges (T : Txt K mg ad) : Mth P w K mg base CX0 41 ad.c_Spread "edges" ["self"] (spEdges ad.c_Weight ad.c_Spread false) := by
  refine T.h_Spread_edges.ok sc_Spread_edges (fun vs H Q E h => ?_) (fun f cdv A outer s H vs Q E hr h => ?_)
  · obtain ⟨v, L, rfl, _⟩ := h
    rfl
  · obtain ⟨v, L, rfl, hL, e, k⟩ := h
    cases L with
    | w p z => cases e
    | s a e1 k1 =>
    refine ⟨_, (pss_one (ps_ret (pe_lst (pa_cons (pe_fld (pv 0) rfl) (pa_cons (pe_fld (pv 0) rfl) pa_nil))))), ?_⟩
    walk_at "rds"
    exact rLst.mk' (by show 2 ≤ sizeLine; decide) fun l H' sm hl h => k l H' sm hl h
local macro_rules | `(tactic| walk_at "rdc") => `(tactic| first
  | ((with_reducible apply spEdges.use); (· walk_at "li")))
def spCheck (CW CS c : Addr) (K : PySem.W.Frag) : Sp := fun vs H Q E => ∃ len l Ls, vs = [.int len, .ref l] ∧ IsLds K CW CS H l Ls ∧ (((∀ L ∈ Ls, L.on len) ∧ ∀ H', Same H H' → Q .non H') ∨ ((∃ L ∈ Ls, ¬ L.on len) ∧ ∀ H', Same H H' → E (.ref c) none H'))
theorem ok_check_loads (T : Txt K mg ad) : Def P w K mg base (CXE P w) 43 "check_loads" ["length", "loads"] (spCheck ad.c_Weight ad.c_Spread ad.c_OffBeam K) := by
  have M_Weight_edges := ok_w_edges (P := P) (w := w) (base := base) T
  have M_Spread_edges := ok_s_edges (P := P) (w := w) (base := base) T
  refine T.f_check_loads.okE sc_check_loads (fun vs H Q E h => ?_) (fun f cdv A outer s H vs Q E hr h => ?_)
  · obtain ⟨_, _, _, rfl, _⟩ := h
    rfl
  · obtain ⟨len, l, Ls, rfl, ⟨vs, hl, pr⟩, k⟩ := h
    refine ⟨_, (pss_one (ps_for PassesOwn.leaving rfl (pi_list (pv 1)) (pg_name (i := 2) sc_check_loads.nd rfl (Or.inl rfl))
        (pss_one (ps_for PassesOwn.leaving rfl (pi_list (pe_lm0 (pv 2) T.n_Weight.cl T.n_Spread.cl M_Weight_edges M_Spread_edges (hr.mono (by decide)) (hr.mono (by decide)) pass0)) (pg_name (i := 3) sc_check_loads.nd rfl (Or.inl rfl))
          (pss_one (ps_if (PW.pt (pw_or (pt_cmpR op_lt (pv 3) pe_int (nomark _)) (pw_or1 (pt_cmpR op_gt (pv 3) (pv 0) (nomark _)))))
            (pss_one (ps_raise hr.hd T.x_OffBeam T.g_OffBeam rfl (pa_cons pe_str pa_nil)))
            pss_nil)))))), ?_⟩
    walk_at "rds"
    have bad : ∀ L ∈ Ls, ¬ L.on len → ∀ H', Same H H' → E (.ref ad.c_OffBeam) none H' := fun L hL hn H' sm => by
      rcases k with ⟨g, _⟩ | ⟨_, k⟩
      · exact absurd (g L hL) hn
      · exact k H' sm
    refine rFor.over (Over.list hl) (fun i σ H' => Same H H' ∧ (∀ j L, j < i → Ls[j]? = some L → L.on len) ∧ ∃ a b, σ = [some (.int len), some (.ref l), a, b]) ⟨Same.refl _, fun j L hj => by omega, _, _, rfl⟩ (fun i σ H' p => p.1) ?_ ?_
    · rintro i v σ H' H2 hi ⟨sm, don, a, b, rfl⟩ s2 hv
      obtain ⟨L, hL, isL⟩ := Paired.get pr hv
      have isL2 := isL.same' (sm.trans s2)
      have mem : L ∈ Ls := List.mem_of_getElem? hL
      walk_at "rd"
      intro l2 H3 s3 _ hl2
      walk_at "rd"
      refine rFor.over (Over.list (SqL.of hl2)) (fun j σ H' => Same H3 H' ∧ (∀ m e, m < j → L.edges[m]? = some e → 0 ≤ e ∧ e ≤ len) ∧ ∃ b, σ = [some (.int len), some (.ref l), some v, b]) ⟨Same.refl _, fun m e hm => by omega, _, rfl⟩ (fun i σ H' p => p.1) ?_ ?_
      · rintro j x σ H4 H5 hj ⟨sm4, don4, b, rfl⟩ s5 hx
        rw [List.getElem?_map] at hx
        cases he : L.edges[j]? with
        | none => rw [he] at hx; cases hx
        | some e =>
        rw [he] at hx
        cases hx
        have all := ((sm.trans s2).trans s3).trans (sm4.trans s5)
        have no : ¬ (0 ≤ e ∧ e ≤ len) → E (.ref ad.c_OffBeam) none H5 := fun z => bad L mem (fun g => z (g e (List.mem_of_getElem? he))) H5 all
        walk_at "rd"
        refine decI (fun z => ?_) (fun z => ?_)
        · walk_at "rd"
          exact rRaise.one (no (by omega))
        walk_at "rd"
        refine decI (fun z2 => ?_) (fun z2 => ?_)
        · walk_at "rd"
          exact rRaise.one (no (by omega))
        walk_at "rd"
        refine ⟨sm4.trans s5, fun m e' hm hm' => ?_, _, rfl⟩
        rcases Nat.lt_succ_iff_lt_or_eq.mp hm with q | q
        · exact don4 m e' q hm'
        · subst q
          rw [he] at hm'
          cases hm'
          omega
      · rintro σ H4 ⟨sm4, don4, b, rfl⟩
        refine ⟨((sm.trans s2).trans s3).trans sm4, fun j L' hj hL' => ?_, _, _, rfl⟩
        rcases Nat.lt_succ_iff_lt_or_eq.mp hj with q | q
        · exact don j L' q hL'
        · subst q
          rw [hL] at hL'
          cases hL'
          intro e he
          obtain ⟨m, hm, e2⟩ := List.getElem_of_mem he
          refine don4 m e ?_ (by rw [List.getElem?_eq_getElem hm, e2])
          rw [List.length_map]
          exact hm
    · rintro σ H' ⟨sm, don, a, b, rfl⟩
      rcases k with ⟨_, k⟩ | ⟨⟨L, hL, hn⟩, _⟩
      · exact k H' sm
      · obtain ⟨j, hj, e⟩ := List.getElem_of_mem hL
        exact absurd (don j L (by rw [pr.length]; exact hj) (by rw [List.getElem?_eq_getElem hj, e])) hn
/-! ### what is a beam -/
def goodR (len : Int) (rs : List Int) : Prop := 1 ≤ len ∧ ((∃ p q, rs = [p, q] ∧ 0 ≤ p ∧ p < q ∧ q ≤ len) ∨ ∃ p q r, rs = [p, q, r] ∧ 0 ≤ p ∧ p < q ∧ q < r ∧ r ≤ len)
def spCheckB (c : Addr) (K : PySem.W.Frag) : Sp := fun vs H Q E => ∃ (len : Int) (a : Addr) (rs : List Int), vs = [.int len, .ref a] ∧ SqL K H a (rs.map V.int) ∧ ((goodR len rs ∧ Q .non H) ∨ (¬ goodR len rs ∧ E (.ref c) none H))
theorem ok_check_beam (T : Txt K mg ad) : Def P w K mg base (CXE P w) 41 "check_beam" ["length", "rests"] (spCheckB ad.c_NoBeam K) := by
  refine T.f_check_beam.okE sc_check_beam (fun vs H Q E h => ?_) (fun f cdv A outer s H vs Q E hr h => ?_)
  · obtain ⟨_, _, _, rfl, _⟩ := h
    rfl
  · obtain ⟨len, a, rs, rfl, hS, k⟩ := h
    have bad : ¬ goodR len rs → E (.ref ad.c_NoBeam) none H := fun z => by
      rcases k with ⟨g, _⟩ | ⟨_, k⟩
      · exact absurd g z
      · exact k
    refine ⟨_, (pss_cons (ps_if (pt_cmpR op_lt (pv 0) pe_int (nomark _))
        (pss_one (ps_raise hr.hd T.x_NoBeam T.g_NoBeam rfl (pa_cons pe_str pa_nil)))
        pss_nil)
      (pss_cons (ps_if (PW.pt (pw_and (pt_cmpR op_ne (pe_callB call_len' (by rfl) T.b_len PyProof.Rows.Boot.«len» (pa_cons (pv 1) pa_nil)) pe_int (nomark _)) (pw_and1 (pt_cmpR op_ne (pe_callB call_len' (by rfl) T.b_len PyProof.Rows.Boot.«len» (pa_cons (pv 1) pa_nil)) pe_int (nomark _)))))
        (pss_one (ps_raise hr.hd T.x_NoBeam T.g_NoBeam rfl (pa_cons pe_str pa_nil)))
        pss_nil)
      (pss_cons (ps_if (PW.pt (pw_or (pt_cmpR op_lt (pe_ix ix_list (pv 1) pe_int (fun _ _ => rfl)) pe_int (nomark _)) (pw_or1 (pt_cmpR op_gt (pe_ix ix_list (pv 1) (pe_un un_neg pe_int) (fun _ _ => rfl)) (pv 0) (nomark _)))))
        (pss_one (ps_raise hr.hd T.x_NoBeam T.g_NoBeam rfl (pa_cons pe_str pa_nil)))
        pss_nil)
      (pss_one (ps_for PassesOwn.leaving rfl (pi_range2 rfl T.b_range (pa_cons pe_int (pa_cons (pe_callB call_len' (by rfl) T.b_len PyProof.Rows.Boot.«len» (pa_cons (pv 1) pa_nil)) pa_nil))) (pg_name (i := 2) sc_check_beam.nd rfl (Or.inl rfl))
        (pss_one (ps_if (pt_cmpR op_le (pe_ix ix_list (pv 1) (pv 2) (fun _ _ => rfl)) (pe_ix ix_list (pv 1) (pe_op op_sub (pv 2) pe_int) (fun _ _ => rfl)) (nomark _))
          (pss_one (ps_raise hr.hd T.x_NoBeam T.g_NoBeam rfl (pa_cons pe_str pa_nil)))
          pss_nil))))))), ?_⟩
    walk_at "rds"
    refine decI (fun z => ?_) (fun z => ?_)
    · walk_at "rd"
      exact rRaise.one (bad fun g => by have := g.1; omega)
    walk_at "rd"
    match rs, hS, k, bad with
    | [], hS, k, bad =>
      refine ite_nt (by show ¬ ((0 : Int) = 2); decide) ?_
      walk_at "rd"
      refine ite_nt (by show ¬ ((0 : Int) = 3); decide) ?_
      walk_at "rd"
      exact rRaise.one (bad fun g => by rcases g.2 with ⟨p, q, e, _⟩ | ⟨p, q, r, e, _⟩ <;> cases e)
    | [_], hS, k, bad =>
      refine ite_nt (by show ¬ ((1 : Int) = 2); decide) ?_
      walk_at "rd"
      refine ite_nt (by show ¬ ((1 : Int) = 3); decide) ?_
      walk_at "rd"
      exact rRaise.one (bad fun g => by rcases g.2 with ⟨p, q, e, _⟩ | ⟨p, q, r, e, _⟩ <;> cases e)
    | _ :: _ :: _ :: _ :: t, hS, k, bad =>
      refine ite_nt (by simp only [List.length_map, List.length_cons]; omega) ?_
      walk_at "rd"
      refine ite_nt (by simp only [List.length_map, List.length_cons]; omega) ?_
      walk_at "rd"
      exact rRaise.one (bad fun g => by rcases g.2 with ⟨p, q, e, _⟩ | ⟨p, q, r, e, _⟩ <;> cases e)
    | [p, q], hS, k, bad =>
      have bad : ¬ (0 ≤ p ∧ p < q ∧ q ≤ len) → E (.ref ad.c_NoBeam) none H := fun z => bad fun g => by
        rcases g.2 with ⟨p, q, e, g⟩ | ⟨p, q, r, e, _⟩
        · cases e; exact z g
        · cases e
      refine ite_nf (by show (2 : Int) = 2; rfl) ?_
      walk_at "rd"
      refine decI (fun z2 => ?_) (fun z2 => ?_)
      · walk_at "rd"
        exact rRaise.one (bad (by omega))
      walk_at "rd"
      refine decI (fun z3 => ?_) (fun z3 => ?_)
      · walk_at "rd"
        exact rRaise.one (bad (by omega))
      walk_at "rd"
      refine rFor.rng (n := 1) (fun i σ H' => H' = H ∧ (1 ≤ i → p < q) ∧ ∃ c, σ = [some (.int len), some (.ref a), c]) ⟨rfl, fun z => by omega, _, rfl⟩ ?_ ?_
      · rintro i σ H' hi ⟨rfl, _, c, rfl⟩
        have e : i = 0 := by omega
        subst e
        walk_at "rd"
        refine decI (fun z4 => ?_) (fun z4 => ?_)
        · walk_at "rd"
          exact rRaise.one (bad (by omega))
        · walk_at "rd"
          exact ⟨rfl, fun _ => by omega, _, rfl⟩
      · rintro σ H' ⟨rfl, lt, c, rfl⟩
        have lt := lt (Nat.le_refl _)
        rcases k with ⟨_, k⟩ | ⟨z4, _⟩
        · exact k
        · exact absurd ⟨by omega, .inl ⟨p, q, rfl, by omega, lt, by omega⟩⟩ z4
    | [p, q, r], hS, k, bad =>
      have bad : ¬ (0 ≤ p ∧ p < q ∧ q < r ∧ r ≤ len) → E (.ref ad.c_NoBeam) none H := fun z => bad fun g => by
        rcases g.2 with ⟨p, q, e, g⟩ | ⟨p, q, r, e, g⟩
        · cases e
        · cases e; exact z g
      refine ite_nt (by show ¬ ((3 : Int) = 2); decide) ?_
      walk_at "rd"
      refine ite_nf (by show (3 : Int) = 3; rfl) ?_
      walk_at "rd"
      refine decI (fun z2 => ?_) (fun z2 => ?_)
      · walk_at "rd"
        exact rRaise.one (bad (by omega))
      walk_at "rd"
      refine decI (fun z3 => ?_) (fun z3 => ?_)
      · walk_at "rd"
        exact rRaise.one (bad (by omega))
      walk_at "rd"
      refine rFor.rng (n := 2) (fun i σ H' => H' = H ∧ (1 ≤ i → p < q) ∧ (2 ≤ i → q < r) ∧ ∃ c, σ = [some (.int len), some (.ref a), c]) ⟨rfl, fun z => by omega, fun z => by omega, _, rfl⟩ ?_ ?_
      · rintro i σ H' hi ⟨rfl, lt, _, c, rfl⟩
        have e : i = 0 ∨ i = 1 := by omega
        rcases e with rfl | rfl
        · walk_at "rd"
          refine decI (fun z4 => ?_) (fun z4 => ?_)
          · walk_at "rd"
            exact rRaise.one (bad (by omega))
          · walk_at "rd"
            exact ⟨rfl, fun _ => by omega, fun z => by omega, _, rfl⟩
        · have lt := lt (Nat.le_refl _)
          walk_at "rd"
          refine decI (fun z4 => ?_) (fun z4 => ?_)
          · walk_at "rd"
            exact rRaise.one (bad (by omega))
          · walk_at "rd"
            exact ⟨rfl, fun _ => lt, fun z => by omega, _, rfl⟩
      · rintro σ H' ⟨rfl, lt, lt2, c, rfl⟩
        have lt := lt (by omega)
        have lt2 := lt2 (Nat.le_refl _)
        rcases k with ⟨_, k⟩ | ⟨z4, _⟩
        · exact k
        · exact absurd ⟨by omega, .inr ⟨p, q, r, rfl, by omega, lt, lt2, by omega⟩⟩ z4
def spInitB (CB c : Addr) (K : PySem.W.Frag) : Sp := fun vs H Q E => ∃ (x dx : Addr) (len : Int) (a : Addr) (rs : List Int), vs = [.ref x, .int len, .ref a] ∧ H x = some (.ins CB dx []) ∧ SqL K H a (rs.map V.int) ∧
  ((goodR len rs ∧ ∀ H', (∀ b o, b ≠ x → H b = some o → H' b = some o) → IsBm CB H' (.ref x) len rs → Q .non H') ∨ (¬ goodR len rs ∧ E (.ref c) none H))
theorem mk_beam (T : Txt K mg ad) : Mak P w K mg base (CXE P w) 43 "Beam" ad.c_Beam ["self", "length", "rests"] (spInitB ad.c_Beam ad.c_NoBeam K) := by
  have D_check_beam := ok_check_beam (P := P) (w := w) (base := base) T
  refine T.mk_Beam.okE sc_Beam___init (fun vs H Q E h => ?_) (fun f cdv A outer s H vs Q E hr h => ?_)
  · obtain ⟨_, _, _, _, _, rfl, _⟩ := h
    rfl
  · obtain ⟨x, dx, len, a, rs, rfl, hx, hS, k⟩ := h
    refine ⟨_, (pss_cons (ps_expr (pe_def D_check_beam (hr.mono (by decide)) rfl (passE (fun _ _ _ z => z)) (pa_cons (pv 1) (pa_cons (pv 2) pa_nil))))
      (pss_cons (ps_fld (pv 0) (pv 1) rfl)
      (pss_one (ps_fld (pv 0) (pe_callTy call_tuple' (by rfl) T.b_tuple PyProof.Rows.Boot.«tuple» (pa_cons (pv 2) pa_nil)) rfl)))), ?_⟩
    walk_at "rds"
    refine ⟨len, a, rs, rfl, hS, ?_⟩
    rcases k with ⟨g, k⟩ | ⟨b, k⟩
    case inr => exact .inr ⟨b, k⟩
    refine .inl ⟨g, ?_⟩
    refine ⟨_, rfl, _, rfl, x, _, dx, _, rfl, hx, T.n_Beam.cl, T.na_Beam_length, (by show 0 < 1000; decide), ?_⟩
    have hS2 : SqL K (upd H x (.ins ad.c_Beam dx (putF "length" (.int len) []))) a (rs.map V.int) := by
      rcases hS with (h | ⟨o, h⟩) | h
      · exact .inl (.inl (by rw [upd_ne (ne_of h hx (by intro z; cases z))]; exact h))
      · exact .inl (.inr ⟨o, by rw [upd_ne (ne_of h hx (by intro z; cases z))]; exact h⟩)
      · exact .inr h
    refine ⟨_, rfl, a, _, rfl, .inl ⟨hS2, fun p hp => ?_⟩⟩
    have hpx : x ≠ p := ne_of_none upd_same hp
    refine ⟨_, rfl, x, _, dx, _, rfl, (by rw [upd_ne hpx]; exact upd_same), T.n_Beam.cl, T.na_Beam_rests, (by show 1 < 1000; decide), ?_⟩
    refine k _ (fun b o hb e => ?_) ⟨x, dx, p, rfl, upd_same, ?_⟩
    · have hp' : H p = none := by rw [upd_ne (Ne.symm hpx)] at hp; exact hp
      rw [upd_ne hb, upd_ne (ne_of_none e hp'), upd_ne hb]
      exact e
    · rw [upd_ne (Ne.symm hpx), upd_same]
theorem r_mkB {CB c : Addr} {E : XK} {H : Hp} {Q : VK} {len : Int} {a : Addr} {rs : List Int} (h : SqL K H a (rs.map V.int)) (g : goodR len rs) (k : ∀ v H', Same H H' → IsBm CB H' v len rs → Q v H') : rMak CB (spInitB CB c K) E [.int len, .ref a] H Q :=
  fun x dx nx ndx ne => ⟨x, dx, len, a, rs, rfl, upd_same, (by
    rcases h with (h | ⟨o, h⟩) | h
    · exact .inl (.inl (by rw [upd_ne (ne_of_none h nx), upd_ne (ne_of_none h ndx)]; exact h))
    · exact .inl (.inr ⟨o, by rw [upd_ne (ne_of_none h nx), upd_ne (ne_of_none h ndx)]; exact h⟩)
    · exact .inr h), .inl ⟨g, fun H' st hL => ⟨rfl, k _ H' (Same.made nx ndx st) hL⟩⟩⟩
theorem r_length (T : Txt K mg ad) {H : Hp} {v : V} {Q : VK} {len : Int} {rs : List Int} (h : IsBm ad.c_Beam H v len rs) (q : Q (.int len) H) : rFld K "length" v H Q := h.length T.n_Beam.cl T.na_Beam_length q
theorem r_rests (T : Txt K mg ad) {H : Hp} {v : V} {Q : VK} {len : Int} {rs : List Int} (h : IsBm ad.c_Beam H v len rs) (q : ∀ p, H p = some (.tup (rs.map V.int)) → Q (.ref p) H) : rFld K "rests" v H Q := h.rests T.n_Beam.cl T.na_Beam_rests q
local macro_rules | `(tactic| walk_at "rdc") => `(tactic| first
  | ((with_reducible apply r_length); (· assumption); (· walk_at "li"))
  | ((with_reducible apply r_rests); (· assumption); (· walk_at "li"); intro _ _))
/-! ### what loads weigh and turn, all together -/
def BLs (n : Nat) (Ls : List Ld) : Prop := ∀ L ∈ Ls, L.b n
theorem bi_total {n : Nat} {L : Ld} (h : L.b n) : Bi (3 * n + 3) L.total := by
  cases L with
  | w p z => exact h.2.mono (by omega)
  | s a e k =>
    obtain ⟨h1, h2, h3⟩ := h
    show Bi _ (k * (e - a))
    walk_at "bm"
/-- a method of loads, by lists -/
def spLoads (K : PySem.W.Frag) (CW CS : Addr) (F : List Ld → Nat → VK → Hp → Prop) : Sp := fun vs H Q _ => ∃ l Ls n, vs = [.ref l] ∧ IsLds K CW CS H l Ls ∧ BLs n Ls ∧ n ≤ 300 ∧ Ls.length ≤ 100 ∧ F Ls n Q H
def spWeight (K : PySem.W.Frag) (CW CS : Addr) : Sp := spLoads K CW CS fun Ls n Q H => ∀ v H', Same H H' → IsFr H' v (wOf Ls : Rat) → Bq 10000 (wOf Ls : Rat) → Q v H'
theorem spWeight.use {CW CS : Addr} {H : Hp} {Q : VK} {E : XK} {l : Addr} {Ls : List Ld} (h : IsLds K CW CS H l Ls) (b : BLs 300 Ls) (hl : Ls.length ≤ 100) (k : ∀ v H', Same H H' → IsFr H' v (wOf Ls : Rat) → Bq 10000 (wOf Ls : Rat) → Q v H') : spWeight K CW CS [.ref l] H Q E := ⟨l, Ls, 300, rfl, h, b, Nat.le_refl _, hl, k⟩
theorem ok_weight_of (T : Txt K mg ad) : Def P w K mg base CX0 42 "weight_of" ["loads"] (spWeight K ad.c_Weight ad.c_Spread) := by
  have M_Weight_total := ok_w_total (P := P) (w := w) (base := base) T
  have M_Spread_total := ok_s_total (P := P) (w := w) (base := base) T
  refine T.f_weight_of.ok sc_weight_of (fun vs H Q E h => ?_) (fun f cdv A outer s H vs Q E hr h => ?_)
  · obtain ⟨_, _, _, rfl, _⟩ := h
    rfl
  · obtain ⟨l, Ls, n, rfl, ⟨vs, hl, pr⟩, bL, hn, hlen, k⟩ := h
    refine ⟨_, (pss_one (ps_ret (pe_tup (pa_cons (pe_callB (call_sum rfl) (by rfl) T.b_sum PyProof.Rows.Boot.«sum» (pa_cons (pe_lc cs_weight_of_c0 rfl (pi_list (pv 0)) (fun C ex s2 H2 => (pg_name (i := 0) nd_weight_of_c0 rfl (Or.inl rfl) (Or.inr rfl))) (fun C ex s2 H2 => pts_nil) (fun C ex s2 H2 => (pe_lm0 (pv 0) T.n_Weight.cl T.n_Spread.cl M_Weight_total M_Spread_total (hr.mono (by decide)) (hr.mono (by decide)) pass0))) pa_nil)) (pa_cons pe_int pa_nil))))), ?_⟩
    walk_at "rds"
    refine rLc.for pr (Over.list hl) (IsLds.len pr (by omega)) (fun σ => ∃ c, σ = [c]) (fun L H' y => y = .int L.total) (fun _ _ _ _ _ e => e) ⟨_, rfl⟩ ?_ ?_
    · rintro L v σ' H2 C1 mem isL s2 ⟨c, rfl⟩ k1
      have isL2 := isL.same' s2
      have b := bL L mem
      walk_at "rd"
      exact k1 _ _ _ ⟨_, rfl⟩ (Same.refl _) rfl
    · intro D ys H' sm _ hD p
      rw [paired_ints p] at hD
      walk_at "rd"
      refine k _ _ (by first | exact sm.trans (by assumption) | assumption) (by assumption) ?_
      have b := bi_sum (n := 3 * n + 3) (l := Ls.map Ld.total) (fun x hx => by
        obtain ⟨L, hL, rfl⟩ := List.mem_map.mp hx
        exact bi_total (bL L hL))
      rw [List.length_map] at b
      exact (Bq.int b).mono (by omega)
local macro_rules | `(tactic| walk_at "rdc") => `(tactic| first
  | ((with_reducible apply spWeight.use); (· walk_at "li"); (· assumption); (· assumption)))
def spTurned (K : PySem.W.Frag) (CW CS : Addr) : Sp := fun vs H Q _ => ∃ l Ls p, vs = [.ref l, .int p] ∧ IsLds K CW CS H l Ls ∧ BLs 300 Ls ∧ Ls.length ≤ 100 ∧ Bi 300 p ∧ ∀ v H', Same H H' → IsFr H' v (tOf p Ls) → Bq 1900000 (tOf p Ls) → Q v H'
theorem spTurned.use {CW CS : Addr} {H : Hp} {Q : VK} {E : XK} {l : Addr} {Ls : List Ld} {p : Int} (h : IsLds K CW CS H l Ls) (b : BLs 300 Ls) (hl : Ls.length ≤ 100) (bp : Bi 300 p) (k : ∀ v H', Same H H' → IsFr H' v (tOf p Ls) → Bq 1900000 (tOf p Ls) → Q v H') : spTurned K CW CS [.ref l, .int p] H Q E := ⟨l, Ls, p, rfl, h, b, hl, bp, k⟩
theorem bq_abt {n : Nat} {L : Ld} {q : Rat} (o : L.ok) (b : L.b n) (bq : Bq n q) : Bq (10 * n + 1000) (L.abt q) := by
  have d0 := dpos q
  cases L with
  | w p z =>
    obtain ⟨b1, b2⟩ := b
    show Bq _ (aw p z q)
    rw [aw_law]
    exact Bq.divInt (by walk_at "bm") (by walk_at "bm") (by omega)
  | s a e k =>
    obtain ⟨b1, b2, b3⟩ := b
    show Bq _ (as' a e k q)
    rw [as_law]
    exact Bq.divInt (by walk_at "bm") (by walk_at "bm") (by omega)
theorem ok_turned_about (T : Txt K mg ad) (M : Md P base) : Def P w K mg base CX0 44 "turned_about" ["loads", "place"] (spTurned K ad.c_Weight ad.c_Spread) := by
  have D_plus := ok_plus (w := w) T M
  have M_Weight_about := ok_about_Weight (w := w) T M
  have M_Spread_about := ok_about_Spread (w := w) T M
  refine T.f_turned_about.ok sc_turned_about (fun vs H Q E h => ?_) (fun f cdv A outer s H vs Q E hr h => ?_)
  · obtain ⟨_, _, _, rfl, _⟩ := h
    rfl
  · obtain ⟨l, Ls, p, rfl, ⟨vs, hl, pr⟩, bL, hlen, bp, k⟩ := h
    have bpq : Bq 301 (p : Rat) := Bq.int bp
    have bpre : ∀ i, i ≤ 100 → Bq 1900000 (((Ls.map fun L => L.abt (p : Rat)).take i).sum) := fun i hi => by
      have b := bq_sum (n := 4010) (l := (Ls.map fun L => L.abt (p : Rat)).take i) (fun x hx => by
        obtain ⟨L, hL, rfl⟩ := List.mem_map.mp (List.mem_of_mem_take hx)
        obtain ⟨j, hj, e⟩ := List.getElem_of_mem hL
        have hok : L.ok := by
          have : ∃ v, IsLd ad.c_Weight ad.c_Spread H v L := by
            have hv : j < vs.length := by rw [pr.length]; exact hj
            obtain ⟨L', hL', isL⟩ := Paired.get pr (List.getElem?_eq_getElem hv)
            rw [List.getElem?_eq_getElem hj] at hL'
            cases hL'
            exact ⟨_, e ▸ isL⟩
          obtain ⟨v, isL⟩ := this
          exact isL.1
        exact bq_abt hok ((bL L hL).mono (by omega)) bpq)
      refine b.mono ?_
      have hl' : ((Ls.map fun L => L.abt (p : Rat)).take i).length ≤ i := List.length_take_le _ _
      have := Nat.mul_le_mul_left 4011 (Nat.le_trans hl' hi)
      omega
    refine ⟨_, (pss_cons (ps_set (i := 2) sc_turned_about.nd rfl (Or.inl rfl) (pe_tup (pa_cons pe_int (pa_cons pe_int pa_nil))))
      (pss_cons (ps_for PassesOwn.never rfl (pi_list (pv 0)) (pg_name (i := 3) sc_turned_about.nd rfl (Or.inl rfl))
        (pss_one (ps_set (i := 2) sc_turned_about.nd rfl (Or.inl rfl) (pe_def D_plus (hr.mono (by decide)) rfl pass0 (pa_cons (pv 2) (pa_cons (pe_lm (pv 3) T.n_Weight.cl T.n_Spread.cl M_Weight_about M_Spread_about (hr.mono (by decide)) (hr.mono (by decide)) pass0 (pa_cons (pe_tup (pa_cons (pv 1) (pa_cons pe_int pa_nil))) pa_nil)) pa_nil))))))
      (pss_one (ps_ret (pv 2))))), ?_⟩
    walk_at "rds"
    rename_i v0 H0 s0 f0
    refine rFor.over (Over.list (s0.seq hl)) (fun i σ H' => Same H0 H' ∧ ∃ a v, σ = [some (.ref l), some (.int p), some v, a] ∧ IsFr H' v (((Ls.map fun L => L.abt (p : Rat)).take i).sum)) ⟨Same.refl _, _, _, rfl, f0⟩ (fun i σ H' p => p.1) ?_ ?_
    · rintro i v σ H' H2 hi ⟨sm, a, vt, rfl, ft⟩ s2 hv
      obtain ⟨L, hL, isL⟩ := Paired.get pr hv
      have isL2 := isL.same' (s0.trans (sm.trans s2))
      have mem : L ∈ Ls := List.mem_of_getElem? hL
      have bL1 := (bL L mem).mono (show 300 ≤ 301 by omega)
      have hi' : i ≤ 100 := by have := pr.length; omega
      have bt := bpre i hi'
      walk_at "rd"
      intro v' H' sm' hv' bv'
      walk_at "rd"
      intro v3 H3 s3 f3 b3
      walk_at "rd"
      refine ⟨?_, _, _, rfl, ?_⟩
      · rename_i s4 _
        exact (sm.trans s2).trans ((s4.trans sm').trans s3)
      · rw [List.take_succ, List.getElem?_map, hL, List.sum_append]
        have e : ([(fun L : Ld => L.abt (p : Rat)) L] : List Rat).sum = L.abt p := by simp [Rat.add_zero]
        show IsFr H3 v3 (_ + ([(fun L : Ld => L.abt (p : Rat)) L] : List Rat).sum)
        rw [e]
        exact f3
    · rintro σ H' ⟨sm, a, vt, rfl, ft⟩
      walk_at "rd"
      have e : ((Ls.map fun L => L.abt (p : Rat)).take vs.length).sum = tOf p Ls := by
        rw [List.take_of_length_le (by rw [List.length_map, pr.length]; exact Nat.le_refl _)]
        rfl
      have bt := bpre vs.length (by rw [pr.length]; exact hlen)
      rw [e] at ft bt
      exact k _ _ (s0.trans sm) ft bt
local macro_rules | `(tactic| walk_at "rdc") => `(tactic| first
  | ((with_reducible apply spTurned.use); (· walk_at "li"); (· assumption); (· assumption); (· assumption)))
def spScale3 (K : PySem.W.Frag) : Sp := fun vs H Q _ => ∃ l a b c, vs = [.ref l] ∧ SqL K H l [.int a, .int b, .int c] ∧ Bi 302 a ∧ Bi 302 b ∧ Bi 302 c ∧ Q (.int (scaleOf a b c)) H
theorem spScale3.use {H : Hp} {Q : VK} {E : XK} {l : Addr} {a b c : Int} (h : SqL K H l [.int a, .int b, .int c]) (b1 : Bi 302 a) (b2 : Bi 302 b) (b3 : Bi 302 c) (k : Q (.int (scaleOf a b c)) H) : spScale3 K [.ref l] H Q E := ⟨l, a, b, c, rfl, h, b1, b2, b3, k⟩
theorem ok_share_scale (T : Txt K mg ad) : Def P w K mg base CX0 41 "share_scale" ["rests"] (spScale3 K) := by
  refine T.f_share_scale.ok sc_share_scale (fun vs H Q E h => ?_) (fun f cdv A outer s H vs Q E hr h => ?_)
  · obtain ⟨_, _, _, _, rfl, _⟩ := h
    rfl
  · obtain ⟨l, a, b, c, rfl, hl, b1, b2, b3, k⟩ := h
    refine ⟨_, (pss_cons (ps_set (i := 1) sc_share_scale.nd rfl (Or.inl rfl) (pe_op op_sub (pe_ix ix_list (pv 0) pe_int (fun _ _ => rfl)) (pe_ix ix_list (pv 0) pe_int (fun _ _ => rfl))))
      (pss_cons (ps_set (i := 2) sc_share_scale.nd rfl (Or.inl rfl) (pe_op op_sub (pe_ix ix_list (pv 0) pe_int (fun _ _ => rfl)) (pe_ix ix_list (pv 0) pe_int (fun _ _ => rfl))))
      (pss_one (ps_ret (pe_op op_mulB (pe_op op_mulB (pe_op op_mulB (pe_op op_mulB pe_int (pv 1)) (pv 1)) (pv 2)) (pv 2)))))), ?_⟩
    walk_at "rds"
    exact k
def spShare (K : PySem.W.Frag) : Sp := fun vs H Q _ => ∃ l a b c x, vs = [.ref l, .int x] ∧ SqL K H l [.int a, .int b, .int c] ∧ Bi 302 a ∧ Bi 302 b ∧ Bi 302 c ∧ Bi 400 x ∧ (Bi 5000 (mshare a b c x) → Q (.int (mshare a b c x)) H)
theorem spShare.use {H : Hp} {Q : VK} {E : XK} {l : Addr} {a b c x : Int} (h : SqL K H l [.int a, .int b, .int c]) (b1 : Bi 302 a) (b2 : Bi 302 b) (b3 : Bi 302 c) (bx : Bi 400 x) (k : Bi 5000 (mshare a b c x) → Q (.int (mshare a b c x)) H) : spShare K [.ref l, .int x] H Q E := ⟨l, a, b, c, x, rfl, h, b1, b2, b3, bx, k⟩
theorem ok_middle_share (T : Txt K mg ad) : Def P w K mg base CX0 41 "middle_share" ["rests", "place"] (spShare K) := by
  refine T.f_middle_share.ok sc_middle_share (fun vs H Q E h => ?_) (fun f cdv A outer s H vs Q E hr h => ?_)
  · obtain ⟨_, _, _, _, _, rfl, _⟩ := h
    rfl
  · obtain ⟨l, a, b, c, x, rfl, hl, b1, b2, b3, bx, k⟩ := h
    refine ⟨_, (pss_cons (ps_set (i := 2) sc_middle_share.nd rfl (Or.inl rfl) (pe_op op_sub (pe_ix ix_list (pv 0) pe_int (fun _ _ => rfl)) (pe_ix ix_list (pv 0) pe_int (fun _ _ => rfl))))
      (pss_cons (ps_set (i := 3) sc_middle_share.nd rfl (Or.inl rfl) (pe_op op_sub (pe_ix ix_list (pv 0) pe_int (fun _ _ => rfl)) (pe_ix ix_list (pv 0) pe_int (fun _ _ => rfl))))
      (pss_cons (ps_set (i := 4) sc_middle_share.nd rfl (Or.inl rfl) (pe_op op_sub (pv 1) (pe_ix ix_list (pv 0) pe_int (fun _ _ => rfl))))
      (pss_cons (ps_set (i := 5) sc_middle_share.nd rfl (Or.inl rfl) (pe_op op_sub (pe_ix ix_list (pv 0) pe_int (fun _ _ => rfl)) (pv 1)))
      (pss_cons (ps_if (pt_cmpR op_le (pv 4) pe_int (nomark _))
        (pss_one (ps_ret (pe_op op_mulB (pe_op op_mulB (pe_op op_mulB (pv 4) (pe_op op_add (pv 2) (pe_op op_mulB pe_int (pv 3)))) (pv 2)) (pv 3))))
        pss_nil)
      (pss_cons (ps_if (pt_cmpR op_le (pv 1) (pe_ix ix_list (pv 0) pe_int (fun _ _ => rfl)) (nomark _))
        (pss_one (ps_ret (pe_op op_mulB (pe_op op_mulB (pv 4) (pe_op op_sub (pe_op op_add (pe_op op_mulB (pv 2) (pv 2)) (pe_op op_mulB (pe_op op_mulB pe_int (pv 2)) (pv 3))) (pe_op op_mulB (pv 4) (pv 4)))) (pv 3))))
        pss_nil)
      (pss_cons (ps_if (pt_cmpR op_ge (pv 5) pe_int (nomark _))
        (pss_one (ps_ret (pe_op op_mulB (pe_op op_mulB (pv 5) (pe_op op_sub (pe_op op_add (pe_op op_mulB (pv 3) (pv 3)) (pe_op op_mulB (pe_op op_mulB pe_int (pv 2)) (pv 3))) (pe_op op_mulB (pv 5) (pv 5)))) (pv 2))))
        pss_nil)
      (pss_one (ps_ret (pe_op op_mulB (pe_op op_mulB (pe_op op_mulB (pv 5) (pe_op op_add (pv 3) (pe_op op_mulB pe_int (pv 2)))) (pv 2)) (pv 3))))))))))), ?_⟩
    unfold mshare at k
    walk_at "rds"
    refine decI (fun h1 => ?_) (fun h1 => ?_)
    · rw [if_pos h1] at k
      walk_at "rd"
      exact k (by walk_at "bm")
    rw [if_neg h1] at k
    walk_at "rd"
    refine decI (fun h2 => ?_) (fun h2 => ?_)
    · rw [if_pos h2] at k
      walk_at "rd"
      exact k (by walk_at "bm")
    rw [if_neg h2] at k
    walk_at "rd"
    refine decI (fun h3 => ?_) (fun h3 => ?_)
    · rw [if_pos h3] at k
      walk_at "rd"
      exact k (by walk_at "bm")
    · rw [if_neg h3] at k
      walk_at "rd"
      exact k (by walk_at "bm")
theorem Bi_div {n : Nat} {x m : Int} (hm : 0 < m) (h : Bi n x) : Bi (n + 1) (x / m) := by
  unfold Bi at *
  have : (x / m).natAbs ≤ x.natAbs + 1 := by
    rcases Int.lt_or_le x 0 with hx | hx
    · have h1 : x / m ≤ 0 := by
        exact Int.le_of_lt (Int.ediv_neg_of_neg_of_pos hx hm)
      have h2 : x ≤ x / m := by
        have := Int.le_ediv_of_mul_le hm (a := x) (b := x) (by
          have : x * m ≤ x * 1 := Int.mul_le_mul_of_nonpos_left (by omega) (by omega)
          omega)
        exact this
      omega
    · have h1 := Int.ediv_nonneg hx (show 0 ≤ m by omega)
      have h2 := Int.ediv_le_self m hx
      omega
  rw [Nat.pow_succ]
  have := Nat.two_pow_pos n
  omega
local macro_rules | `(tactic| walk_at "bi") => `(tactic| ((with_reducible apply Bi_div); (· decide); (· walk_at "bi")))
local macro_rules | `(tactic| walk_at "rdc") => `(tactic| first
  | ((with_reducible apply spScale3.use); (· walk_at "li"); (· assumption); (· assumption); (· assumption))
  | ((with_reducible apply spShare.use); (· walk_at "li"); (· assumption); (· assumption); (· assumption); (· walk_at "bm"); intro _))
def spPiece (K : PySem.W.Frag) : Sp := fun vs H Q _ => ∃ l a b c x y k, vs = [.ref l, .int x, .int y, .int k] ∧ SqL K H l [.int a, .int b, .int c] ∧ Bi 302 a ∧ Bi 302 b ∧ Bi 302 c ∧ Bi 302 x ∧ Bi 302 y ∧ Bi 300 k ∧ (Bi 20000 (pieceP a b c k x y) → Q (.int (pieceP a b c k x y)) H)
theorem spPiece.use {H : Hp} {Q : VK} {E : XK} {l : Addr} {a b c x y k : Int} (h : SqL K H l [.int a, .int b, .int c]) (b1 : Bi 302 a) (b2 : Bi 302 b) (b3 : Bi 302 c) (bx : Bi 302 x) (b_y : Bi 302 y) (bk : Bi 300 k) (q : Bi 20000 (pieceP a b c k x y) → Q (.int (pieceP a b c k x y)) H) : spPiece K [.ref l, .int x, .int y, .int k] H Q E := ⟨l, a, b, c, x, y, k, rfl, h, b1, b2, b3, bx, b_y, bk, q⟩
theorem ok_piece_part (T : Txt K mg ad) (M : Md P base) : Def P w K mg base CX0 42 "piece_part" ["doubled", "left", "right", "each"] (spPiece K) := by
  have D_middle_share := ok_middle_share (P := P) (w := w) (base := base) T
  refine T.f_piece_part.ok sc_piece_part (fun vs H Q E h => ?_) (fun f cdv A outer s H vs Q E hr h => ?_)
  · obtain ⟨_, _, _, _, _, _, _, rfl, _⟩ := h
    rfl
  · obtain ⟨l, a, b, c, x, y, k1, rfl, hl, b1, b2, b3, bx, b_y, bk, k⟩ := h
    have hD : DivOk (cxOf CX0 P w K mg base ["doubled", "left", "right", "each", "halfway", "width", "shares"] "piece_part" (defScope s_piece_part) f cdv A outer s H E).nox := divOk_of M.seer M.tree (hr.mono (by decide)) rfl rfl rfl
    refine ⟨_, (pss_cons (ps_set (i := 4) sc_piece_part.nd rfl (Or.inl rfl) (pe_op (op_fdivP hD) (pe_op op_add (pv 1) (pv 2)) pe_int))
      (pss_cons (ps_set (i := 5) sc_piece_part.nd rfl (Or.inl rfl) (pe_op (op_fdivP hD) (pe_op op_sub (pv 2) (pv 1)) pe_int))
      (pss_cons (ps_set (i := 6) sc_piece_part.nd rfl (Or.inl rfl) (pe_op op_add (pe_op op_add (pe_def D_middle_share (hr.mono (by decide)) rfl pass0 (pa_cons (pv 0) (pa_cons (pv 1) pa_nil))) (pe_op op_mulB pe_int (pe_def D_middle_share (hr.mono (by decide)) rfl pass0 (pa_cons (pv 0) (pa_cons (pv 4) pa_nil))))) (pe_def D_middle_share (hr.mono (by decide)) rfl pass0 (pa_cons (pv 0) (pa_cons (pv 2) pa_nil)))))
      (pss_one (ps_ret (pe_op op_mulB (pe_op op_mulB (pv 3) (pv 5)) (pv 6))))))), ?_⟩
    walk_at "rds"
    refine k ?_
    unfold pieceP
    walk_at "bm"
local macro_rules | `(tactic| walk_at "rdc") => `(tactic| first
  | ((with_reducible apply spPiece.use); (· walk_at "li"); (· assumption); (· assumption); (· assumption); (· assumption); (· assumption); (· assumption)))
theorem cat2 {H : Hp} {Q : VK} {l b : Addr} {xs zs : List V} (h1 : H l = some (.lst xs)) (h2 : H b = some (.lst zs)) (hl : xs.length + zs.length ≤ 1000) (q : ∀ p H', Same H H' → H p = none → H' p = some (.lst (xs ++ zs)) → Q (.ref p) H') : rCat (.ref l) (.ref b) H Q :=
  cat_use h1 h2 (Nat.le_of_lt (small1000 hl)) q
theorem paired_self {p : V → Bool} : ∀ {xs ys : List V}, Paired (fun x y => y = x) (xs.filter p) ys → ys = xs.filter p
  | xs, ys, h => by
    generalize xs.filter p = zs at h
    induction h with
    | nil => rfl
    | cons e _ ih => rw [e, ih]
def spPart (K : PySem.W.Frag) (CW CS : Addr) (b : Bool) : Sp := fun vs H Q _ => ∃ l v a b' c L, vs = [.ref l, v] ∧ IsLd CW CS H v L ∧ (b = false → L.isW = false) ∧ SqL K H l [.int a, .int b', .int c] ∧ Bi 302 a ∧ Bi 302 b' ∧ Bi 302 c ∧ L.b 300 ∧ ∀ H', Same H H' → Bi 20100 (partOf a b' c L) → Q (.int (partOf a b' c L)) H'
theorem spPart.use {CW CS : Addr} {b : Bool} {H : Hp} {Q : VK} {E : XK} {l : Addr} {v : V} {a b' c : Int} {L : Ld} (hL : IsLd CW CS H v L) (hb : b = false → L.isW = false) (h : SqL K H l [.int a, .int b', .int c]) (b1 : Bi 302 a) (b2 : Bi 302 b') (b3 : Bi 302 c) (bL : L.b 300) (k : ∀ H', Same H H' → Bi 20100 (partOf a b' c L) → Q (.int (partOf a b' c L)) H') :
    spPart K CW CS b [.ref l, v] H Q E := ⟨l, v, a, b', c, L, rfl, hL, hb, h, b1, b2, b3, bL, k⟩
theorem cuts_mem {a b c s e x : Int} (h : x ∈ cutsOf a b c s e) : x = s ∨ x = e ∨ x = a ∨ x = b ∨ x = c := by
  unfold cutsOf at h
  simp only [List.mem_append, List.mem_cons, List.not_mem_nil, or_false, List.mem_filter] at h
  rcases h with (h | ⟨h, _⟩) | h
  · exact .inl h
  · rcases h with h | h | h
    · exact .inr (.inr (.inl h))
    · exact .inr (.inr (.inr (.inl h)))
    · exact .inr (.inr (.inr (.inr h)))
  · exact .inr (.inl h)
theorem cuts_len (a b c s e : Int) : (cutsOf a b c s e).length ≤ 5 ∧ 2 ≤ (cutsOf a b c s e).length := by
  unfold cutsOf
  have h := List.length_filter_le (fun r => decide (s < r) && decide (r < e)) [a, b, c]
  simp only [List.length_append, List.length_cons, List.length_nil] at h ⊢
  omega
theorem pieces_bi' {n : Nat} {f : Int → Int → Int} : ∀ (l : List Int), (∀ x ∈ l, ∀ y ∈ l, Bi n (f x y)) → Bi (n + l.length + 1) (piecesP f l)
  | [], _ => by unfold piecesP; unfold Bi; exact Nat.two_pow_pos _
  | [_], _ => by unfold piecesP; unfold Bi; exact Nat.two_pow_pos _
  | x :: y :: r, hf => by
    rw [piecesP]
    have := pieces_bi' (y :: r) fun u hu v hv => hf u (List.mem_cons_of_mem _ hu) v (List.mem_cons_of_mem _ hv)
    simp only [List.length_cons] at this ⊢
    exact (((hf x List.mem_cons_self y (List.mem_cons_of_mem _ List.mem_cons_self)).mono (by omega)).add this).mono (by omega)
theorem bi_mshare {a b c x : Int} (b1 : Bi 302 a) (b2 : Bi 302 b) (b3 : Bi 302 c) (bx : Bi 400 x) : Bi 5000 (mshare a b c x) := by
  unfold mshare
  walk_at "bm"
theorem bi_piece {a b c k x y : Int} (b1 : Bi 302 a) (b2 : Bi 302 b) (b3 : Bi 302 c) (bx : Bi 302 x) (b_y : Bi 302 y) (bk : Bi 300 k) : Bi 20000 (pieceP a b c k x y) := by
  have m1 := bi_mshare b1 b2 b3 (bx.mono (show 302 ≤ 400 by omega))
  have m2 := bi_mshare b1 b2 b3 (b_y.mono (show 302 ≤ 400 by omega))
  have m3 := bi_mshare b1 b2 b3 (x := (x + y) / 2) (by walk_at "bm")
  unfold pieceP
  walk_at "bm"
theorem ok_spread_part (T : Txt K mg ad) (M : Md P base) : Def P w K mg base CX0 43 "spread_part" ["doubled", "spread"] (spPart K ad.c_Weight ad.c_Spread false) := by
  have D_piece_part := ok_piece_part (w := w) T M
  refine T.f_spread_part.ok sc_spread_part (fun vs H Q E h => ?_) (fun f cdv A outer s H vs Q E hr h => ?_)
  · obtain ⟨_, _, _, _, _, _, rfl, _⟩ := h
    rfl
  · obtain ⟨l, v, a, b, c, L, rfl, hL, hw, hl, b1, b2, b3, bL, k⟩ := h
    cases L with
    | w p z => cases hw rfl
    | s s1 e1 k1 =>
    obtain ⟨bs, be, bk⟩ := bL
    have bs2 : Bi 302 (2 * s1) := by
      have := Bi.mul (m := 2) (x := 2) (by unfold Bi; decide) bs
      exact this.mono (by omega)
    have be2 : Bi 302 (2 * e1) := by
      have := Bi.mul (m := 2) (x := 2) (by unfold Bi; decide) be
      exact this.mono (by omega)
    have bc : ∀ x ∈ cutsOf a b c (2 * s1) (2 * e1), Bi 302 x := fun x hx => by
      rcases cuts_mem hx with rfl | rfl | rfl | rfl | rfl <;> assumption
    have cl := cuts_len a b c (2 * s1) (2 * e1)
    refine ⟨_, (pss_cons (ps_set (i := 2) sc_spread_part.nd rfl (Or.inr rfl) (pe_op op_mulB pe_int (pe_fld (pv 1) rfl)))
      (pss_cons (ps_set (i := 3) sc_spread_part.nd rfl (Or.inr rfl) (pe_op op_mulB pe_int (pe_fld (pv 1) rfl)))
      (pss_cons (ps_set (i := 4) sc_spread_part.nd rfl (Or.inl rfl) (pe_op op_cat (pe_op op_cat (pe_lst (pa_cons (pv 2) pa_nil)) (pe_lc cs_spread_part_c0 rfl (pi_list (pv 0)) (fun C ex s2 H2 => (pg_name (i := 0) nd_spread_part_c0 rfl (Or.inl rfl) (Or.inr rfl))) (fun C ex s2 H2 => pts_one (PW.pt (pw_and (pt_cmpR op_lt (pv 2) (pv 0) (nomark _)) (pw_and1 (pt_cmpR op_lt (pv 0) (pv 1) (nomark _)))))) (fun C ex s2 H2 => (pv 0)))) (pe_lst (pa_cons (pv 3) pa_nil))))
      (pss_cons (ps_set (i := 5) sc_spread_part.nd rfl (Or.inl rfl) pe_int)
      (pss_cons (ps_for PassesOwn.never rfl (pi_range2 rfl T.b_range (pa_cons pe_int (pa_cons (pe_callB call_len' (by rfl) T.b_len PyProof.Rows.Boot.«len» (pa_cons (pv 4) pa_nil)) pa_nil))) (pg_name (i := 6) sc_spread_part.nd rfl (Or.inl rfl))
        (pss_one (ps_aug (i := 5) sc_spread_part.nd rfl (Or.inl rfl) (pe_def D_piece_part (hr.mono (by decide)) rfl pass0 (pa_cons (pv 0) (pa_cons (pe_ix ix_list (pv 4) (pe_op op_sub (pv 6) pe_int) (fun _ _ => rfl)) (pa_cons (pe_ix ix_list (pv 4) (pv 6) (fun _ _ => rfl)) (pa_cons (pe_fld (pv 1) rfl) pa_nil))))) ip_add)))
      (pss_one (ps_ret (pv 5)))))))), ?_⟩
    walk_at "rds"
    refine rLst.mk' (by show 1 ≤ sizeLine; decide) fun l1 H1 s1' _ h1 => ?_
    walk_at "rd"
    refine rLc.things (xs := [.int a, .int b, .int c]) (Over.list (by walk_at "li")) (by show 3 ≤ sizeLine; decide) (fun σ => ∃ x, σ = [x, some (.int (2 * e1)), some (.int (2 * s1))]) (fun x _ y => y = x) (fun x => match x with | .int r => decide (2 * s1 < r) && decide (r < 2 * e1) | _ => false) (fun _ _ _ _ _ e => e) ⟨_, rfl⟩ ?_ ?_
    · rintro x σ' H2 C1 C2 hx s2 ⟨o, rfl⟩ k1' k2'
      have hx' : ∃ r : Int, x = .int r := by
        simp only [List.mem_cons, List.not_mem_nil, or_false] at hx
        rcases hx with rfl | rfl | rfl <;> exact ⟨_, rfl⟩
      obtain ⟨r, rfl⟩ := hx'
      walk_at "rd"
      refine decI (fun c1 => ?_) (fun c1 => ?_)
      · walk_at "rd"
        refine decI (fun c2 => ?_) (fun c2 => ?_)
        · walk_at "rd"
          exact k1' _ _ _ ⟨_, rfl⟩ (Same.refl _) (by simp [c1, c2]) rfl
        · exact k2' _ _ ⟨_, rfl⟩ (Same.refl _) (by simp [c2])
      · exact k2' _ _ ⟨_, rfl⟩ (Same.refl _) (by simp [c1])
    · intro D ys H2 s2 _ hD p
      have ey := paired_self p
      subst ey
      walk_at "rd"
      refine cat2 (by walk_at "li") hD (by
        have := List.length_filter_le (fun x : V => match x with | .int r => decide (2 * s1 < r) && decide (r < 2 * e1) | _ => false) [.int a, .int b, .int c]
        simp only [List.length_cons, List.length_nil] at this ⊢
        omega) fun l3 H3 s3 _ h3 => ?_
      walk_at "rd"
      refine rLst.mk' (by show 1 ≤ sizeLine; decide) fun l4 H4 s4 _ h4 => ?_
      walk_at "rd"
      refine cat2 (by walk_at "li") h4 (by
        have := List.length_filter_le (fun x : V => match x with | .int r => decide (2 * s1 < r) && decide (r < 2 * e1) | _ => false) [.int a, .int b, .int c]
        simp only [List.length_cons, List.length_nil, List.length_append] at this ⊢
        omega) fun l5 H5 s5 _ h5 => ?_
      have ec : [V.int (2 * s1)] ++ ([V.int a, V.int b, V.int c].filter fun x : V => match x with | .int r => decide (2 * s1 < r) && decide (r < 2 * e1) | _ => false) ++ [V.int (2 * e1)] = (cutsOf a b c (2 * s1) (2 * e1)).map V.int := by
        unfold cutsOf
        rw [List.map_append, List.map_append, show [V.int a, V.int b, V.int c] = [a, b, c].map V.int from rfl, List.filter_map]
        rfl
      rw [ec] at h5
      generalize hcu : cutsOf a b c (2 * s1) (2 * e1) = cu at *
      walk_at "rd"
      have rd : ((cu.map V.int).length : Int) - 1 = ((cu.length - 1 : Nat) : Int) := by
        rw [List.length_map]
        omega
      rw [rd, Int.toNat_natCast]
      refine rFor.rng (fun i σ H' => H' = H5 ∧ ∃ x, σ = [some (.ref l), some v, some (.int (2 * s1)), some (.int (2 * e1)), some (.ref l5), some (.int (piecesP (pieceP a b c k1) (cu.take (i + 1)))), x]) ⟨rfl, none, ?_⟩ ?_ ?_
      · have : piecesP (pieceP a b c k1) (cu.take (0 + 1)) = 0 := by
          cases cu with
          | nil => rfl
          | cons x r => simp [piecesP]
        rw [this]
      · rintro i σ H' hi ⟨rfl, x, rfl⟩
        have g1 : cu[i]? = some (cu[i]'(by omega)) := List.getElem?_eq_getElem _
        have g2 : cu[i + 1]? = some (cu[i + 1]'(by omega)) := List.getElem?_eq_getElem _
        have step := piecesP_take (pieceP a b c k1) g1 g2
        have m1 := bc _ (List.mem_of_getElem? g1)
        have m2 := bc _ (List.mem_of_getElem? g2)
        generalize cu[i]'(by omega) = x1 at *
        generalize cu[i + 1]'(by omega) = x2 at *
        walk_at "rd"
        refine ixl (SqL.of h5) (v := .int x1) ?_ ?_
        · have e : (1 + (i : Int)) - 1 = ((i : Nat) : Int) := by omega
          rw [e]
          refine atI_nat ?_
          rw [List.getElem?_map, g1]
          rfl
        walk_at "rd"
        refine ixl (SqL.of h5) (v := .int x2) ?_ ?_
        · have e : (1 + (i : Int)) = ((i + 1 : Nat) : Int) := by omega
          rw [e]
          refine atI_nat ?_
          rw [List.getElem?_map, g2]
          rfl
        walk_at "rd"
        intro _
        walk_at "rd"
        refine ⟨rfl, some (.int (1 + (i : Int))), ?_⟩
        have step' : piecesP (pieceP a b c k1) (cu.take (i + 1 + 1)) = _ := step
        rw [step']
        rfl
      · rintro σ H' ⟨rfl, x, rfl⟩
        walk_at "rd"
        have e : cu.take (cu.length - 1 + 1) = cu := List.take_of_length_le (by omega)
        rw [e]
        subst hcu
        refine k _ (by first | exact ((s1'.trans s2).trans s3).trans (s4.trans s5)) ?_
        have := pieces_bi' (n := 20000) (f := pieceP a b c k1) (cutsOf a b c (2 * s1) (2 * e1)) fun x hx y hy => bi_piece b1 b2 b3 (bc x hx) (bc y hy) bk
        exact this.mono (by omega)
theorem isiWS (T : Txt K mg ad) {H : Hp} {Q : VK} {v : V} {L : Ld} (h : IsLd ad.c_Weight ad.c_Spread H v L) (q : Q (.bl (!L.isW)) H) : rIsiC K [v, .ref ad.c_Spread] H Q := by
  obtain ⟨_, a, dx, rfl, h⟩ := h
  cases L with
  | w p z => exact ⟨_, _, _, _, rfl, T.n_Weight.ty h, T.i_Weight_Spread, q⟩
  | s s e j => exact ⟨_, _, _, _, rfl, T.n_Spread.ty h, T.i_Spread_Spread, q⟩
theorem ok_middle_part (T : Txt K mg ad) (M : Md P base) : Def P w K mg base CX0 44 "middle_part" ["doubled", "load"] (spPart K ad.c_Weight ad.c_Spread true) := by
  have D_spread_part := ok_spread_part (w := w) T M
  have D_middle_share := ok_middle_share (P := P) (w := w) (base := base) T
  refine T.f_middle_part.ok sc_middle_part (fun vs H Q E h => ?_) (fun f cdv A outer s H vs Q E hr h => ?_)
  · obtain ⟨_, _, _, _, _, _, rfl, _⟩ := h
    rfl
  · obtain ⟨l, v, a, b, c, L, rfl, hL, _, hl, b1, b2, b3, bL, k⟩ := h
    refine ⟨_, (pss_cons (ps_if (pt_val (pe_callB call_isiC' (by rfl) T.b_isinstance PyProof.Rows.Boot.«isinstance» (pa_cons (pv 1) (pa_cons (pe_glob (v := .ref ad.c_Spread) rfl T.g_Spread rfl) pa_nil))))
        (pss_one (ps_ret (pe_def D_spread_part (hr.mono (by decide)) rfl pass0 (pa_cons (pv 0) (pa_cons (pv 1) pa_nil)))))
        pss_nil)
      (pss_one (ps_ret (pe_op op_mulB (pe_op op_mulB pe_int (pe_fld (pv 1) rfl)) (pe_def D_middle_share (hr.mono (by decide)) rfl pass0 (pa_cons (pv 0) (pa_cons (pe_op op_mulB pe_int (pe_fld (pv 1) rfl)) pa_nil))))))), ?_⟩
    walk_at "rds"
    refine isiWS T hL ?_
    cases L with
    | s s1 e1 k1 =>
      walk_at "rd"
      refine iteT ?_
      walk_at "rd"
      exact spPart.use hL (fun _ => rfl) hl b1 b2 b3 bL k
    | w p z =>
      obtain ⟨bp, bz⟩ := bL
      walk_at "rd"
      refine iteF ?_
      walk_at "rd"
      refine k _ (Same.refl _) ?_
      have := bi_mshare b1 b2 b3 (x := 2 * p) (by walk_at "bm")
      show Bi _ (6 * z * mshare a b c (2 * p))
      walk_at "bm"
def spMiddle (K : PySem.W.Frag) (CW CS : Addr) : Sp := fun vs H Q _ => ∃ t l Ls p q r, vs = [.ref t, .ref l] ∧ H t = some (.tup [.int p, .int q, .int r]) ∧ p < q ∧ q < r ∧ Bi 300 p ∧ Bi 300 q ∧ Bi 300 r ∧ IsLds K CW CS H l Ls ∧ BLs 300 Ls ∧ Ls.length ≤ 100 ∧ ∀ v H', Same H H' → IsFr H' v (mOf p q r Ls) → Bq 30000 (mOf p q r Ls) → Q v H'
theorem spMiddle.use {CW CS : Addr} {H : Hp} {Q : VK} {E : XK} {t l : Addr} {Ls : List Ld} {p q r : Int} (ht : H t = some (.tup [.int p, .int q, .int r])) (h1 : p < q) (h2 : q < r) (b1 : Bi 300 p) (b2 : Bi 300 q) (b3 : Bi 300 r) (h : IsLds K CW CS H l Ls) (b : BLs 300 Ls) (hl : Ls.length ≤ 100)
    (k : ∀ v H', Same H H' → IsFr H' v (mOf p q r Ls) → Bq 30000 (mOf p q r Ls) → Q v H') : spMiddle K CW CS [.ref t, .ref l] H Q E := ⟨t, l, Ls, p, q, r, rfl, ht, h1, h2, b1, b2, b3, h, b, hl, k⟩
theorem bi_two {x : Int} (h : Bi 300 x) : Bi 302 (2 * x) := by
  have := Bi.mul (m := 2) (x := 2) (by unfold Bi; decide) h
  exact this.mono (by omega)
theorem ok_middle_bears (T : Txt K mg ad) (M : Md P base) : Def P w K mg base CX0 45 "middle_bears" ["rests", "loads"] (spMiddle K ad.c_Weight ad.c_Spread) := by
  have D_middle_part := ok_middle_part (w := w) T M
  have D_share_scale := ok_share_scale (P := P) (w := w) (base := base) T
  have D_fraction := ok_fraction (w := w) T M
  refine T.f_middle_bears.ok sc_middle_bears (fun vs H Q E h => ?_) (fun f cdv A outer s H vs Q E hr h => ?_)
  · obtain ⟨_, _, _, _, _, _, rfl, _⟩ := h
    rfl
  · obtain ⟨t, l, Ls, p, q, r, rfl, ht, pq, qr, bp, bq, br, ⟨vs, hl, pr⟩, bL, hlen, k⟩ := h
    have bp2 := bi_two bp
    have bq2 := bi_two bq
    have br2 := bi_two br
    refine ⟨_, (pss_cons (ps_set (i := 2) sc_middle_bears.nd rfl (Or.inr rfl) (pe_lc cs_middle_bears_c0 rfl (pi_tup (pv 0)) (fun C ex s2 H2 => (pg_name (i := 0) nd_middle_bears_c0 rfl (Or.inl rfl) (Or.inr rfl))) (fun C ex s2 H2 => pts_nil) (fun C ex s2 H2 => (pe_op op_mulB pe_int (pv 0)))))
      (pss_cons (ps_set (i := 3) sc_middle_bears.nd rfl (Or.inl rfl) (pe_callB (call_sum rfl) (by rfl) T.b_sum PyProof.Rows.Boot.«sum» (pa_cons (pe_lc cs_middle_bears_c1 rfl (pi_list (pv 1)) (fun C ex s2 H2 => (pg_name (i := 0) nd_middle_bears_c1 rfl (Or.inl rfl) (Or.inr rfl))) (fun C ex s2 H2 => pts_nil) (fun C ex s2 H2 => (pe_def D_middle_part (hr.mono (by decide)) rfl pass0 (pa_cons (pv 1) (pa_cons (pv 0) pa_nil))))) pa_nil)))
      (pss_one (ps_ret (pe_def D_fraction (hr.mono (by decide)) rfl passE0 (pa_cons (pv 3) (pa_cons (pe_op op_mulB pe_int (pe_def D_share_scale (hr.mono (by decide)) rfl pass0 (pa_cons (pv 2) pa_nil))) pa_nil))))))), ?_⟩
    walk_at "rds"
    refine rLc.map (xs := [.int p, .int q, .int r]) (Over.tup (SqT.of ht)) (by show 3 ≤ sizeLine; decide) (fun σ => ∃ x, σ = [x]) (fun x _ y => ∃ i : Int, x = .int i ∧ y = .int (2 * i)) (fun _ _ _ _ _ e => e) ⟨_, rfl⟩ ?_ ?_
    · rintro x σ' H2 C1 hx s2 ⟨o, rfl⟩ k1
      have hx' : ∃ i : Int, x = .int i ∧ Bi 300 i := by
        simp only [List.mem_cons, List.not_mem_nil, or_false] at hx
        rcases hx with rfl | rfl | rfl
        · exact ⟨_, rfl, bp⟩
        · exact ⟨_, rfl, bq⟩
        · exact ⟨_, rfl, br⟩
      obtain ⟨i, rfl, bi⟩ := hx'
      walk_at "rd"
      exact k1 _ _ _ ⟨_, rfl⟩ (Same.refl _) ⟨i, rfl, rfl⟩
    intro D ys H2 s2 _ hD pp
    have ey : ys = [.int (2 * p), .int (2 * q), .int (2 * r)] := by
      cases pp with
      | cons h1 pp =>
      cases pp with
      | cons h2 pp =>
      cases pp with
      | cons h3 pp =>
      cases pp
      obtain ⟨i1, e1, rfl⟩ := h1
      obtain ⟨i2, e2, rfl⟩ := h2
      obtain ⟨i3, e3, rfl⟩ := h3
      cases e1
      cases e2
      cases e3
      rfl
    subst ey
    walk_at "rd"
    refine rLc.for pr (Over.list (s2.seq hl)) (IsLds.len pr (by omega)) (fun σ => ∃ x, σ = [x, some (.ref D)]) (fun L _ y => y = .int (partOf (2 * p) (2 * q) (2 * r) L) ∧ Bi 20100 (partOf (2 * p) (2 * q) (2 * r) L)) (fun _ _ _ _ _ e => e) ⟨_, rfl⟩ ?_ ?_
    · rintro L v σ' H3 C1 mem isL s3 ⟨o, rfl⟩ k1
      have isL3 := isL.same' (s2.trans s3)
      have hD3 := s3 _ _ hD
      have b := bL L mem
      walk_at "rd"
      refine spPart.use isL3 (fun z => by cases z) (SqL.of hD3) bp2 bq2 br2 b fun H4 s4 b4 => ?_
      exact k1 _ _ _ ⟨_, rfl⟩ s4 ⟨rfl, b4⟩
    · intro D2 ys H3 s3 _ hD2 pp
      have bs : ∀ x ∈ Ls.map (partOf (2 * p) (2 * q) (2 * r)), Bi 20100 x := fun x hx => by
        obtain ⟨L, hL, rfl⟩ := List.mem_map.mp hx
        obtain ⟨j, hj, e⟩ := List.getElem_of_mem hL
        obtain ⟨y, _, _, b⟩ := Paired.get pp (List.getElem?_eq_getElem hj)
        rw [← e]
        exact b
      have ey := paired_ints (Paired.imp' (fun L y z => z.1) pp)
      subst ey
      have b := bi_sum bs
      rw [List.length_map] at b
      have b' : Bi 21000 (Ls.map (partOf (2 * p) (2 * q) (2 * r))).sum := b.mono (by omega)
      have sne := scale_ne pq qr
      have bsc : Bi 2000 (scaleOf (2 * p) (2 * q) (2 * r)) := by
        unfold scaleOf
        walk_at "bm"
      have hD3 := s3 _ _ hD
      walk_at "rd"
      intro v H4 s4 f4
      exact k v H4 ((s2.trans s3).trans s4) f4 (Bq.divInt (b'.mono (by omega)) (by walk_at "bm") sne)
/-- what the rests are told to bear -/
def spBear (K : PySem.W.Frag) (CW CS : Addr) (rs : List Int → Prop) : Sp := fun vs H Q _ => ∃ t l Ls r, vs = [.ref t, .ref l] ∧ rs r ∧ H t = some (.tup (r.map V.int)) ∧ (∃ len, goodR len r) ∧ (∀ x ∈ r, Bi 300 x) ∧ IsLds K CW CS H l Ls ∧ BLs 300 Ls ∧ Ls.length ≤ 100 ∧
  ∀ a H', Same H H' → H a = none → IsFrs H' a (bearsOf r Ls) → (∀ q ∈ bearsOf r Ls, Bq 2000000 q) → Q (.ref a) H'
theorem spBear.use {CW CS : Addr} {rs : List Int → Prop} {H : Hp} {Q : VK} {E : XK} {t l : Addr} {Ls : List Ld} {r : List Int} (hr : rs r) (ht : H t = some (.tup (r.map V.int))) (g : ∃ len, goodR len r) (br : ∀ x ∈ r, Bi 300 x) (h : IsLds K CW CS H l Ls) (b : BLs 300 Ls) (hl : Ls.length ≤ 100)
    (k : ∀ a H', Same H H' → H a = none → IsFrs H' a (bearsOf r Ls) → (∀ q ∈ bearsOf r Ls, Bq 2000000 q) → Q (.ref a) H') : spBear K CW CS rs [.ref t, .ref l] H Q E := ⟨t, l, Ls, r, rfl, hr, ht, g, br, h, b, hl, k⟩
theorem ok_two_bear (T : Txt K mg ad) (M : Md P base) : Def P w K mg base CX0 46 "two_bear" ["rests", "loads"] (spBear K ad.c_Weight ad.c_Spread fun r => r.length = 2) := by
  have D_turned_about := ok_turned_about (w := w) T M
  have D_weight_of := ok_weight_of (P := P) (w := w) (base := base) T
  have D_over := ok_over (w := w) T M
  have D_minus := ok_minus (w := w) T M
  refine T.f_two_bear.ok sc_two_bear (fun vs H Q E h => ?_) (fun f cdv A outer s H vs Q E hr h => ?_)
  · obtain ⟨_, _, _, _, rfl, _⟩ := h
    rfl
  · obtain ⟨t, l, Ls, rs, rfl, h2, ht, ⟨len, _, g⟩, br, hl, bL, hlen, k⟩ := h
    rcases g with ⟨p, q, rfl, _, pq, _⟩ | ⟨p, q, r, rfl, _⟩
    case inr => cases h2
    have bp := br p (by simp)
    have bq := br q (by simp)
    have ne := int_ne pq
    have bd : Bi 301 (q - p) := (bq.sub bp).mono (by omega)
    refine ⟨_, (pss_cons (ps_set (i := 2) sc_two_bear.nd rfl (Or.inl rfl) (pe_def D_over (hr.mono (by decide)) rfl pass0 (pa_cons (pe_def D_turned_about (hr.mono (by decide)) rfl pass0 (pa_cons (pv 1) (pa_cons (pe_ix ix_tup (pv 0) pe_int (fun _ _ => rfl)) pa_nil))) (pa_cons (pe_tup (pa_cons (pe_op op_sub (pe_ix ix_tup (pv 0) pe_int (fun _ _ => rfl)) (pe_ix ix_tup (pv 0) pe_int (fun _ _ => rfl))) (pa_cons pe_int pa_nil))) pa_nil))))
      (pss_one (ps_ret (pe_lst (pa_cons (pe_def D_minus (hr.mono (by decide)) rfl pass0 (pa_cons (pe_def D_weight_of (hr.mono (by decide)) rfl pass0 (pa_cons (pv 1) pa_nil)) (pa_cons (pv 2) pa_nil))) (pa_cons (pv 2) pa_nil)))))), ?_⟩
    walk_at "rds"
    intro v1 H1 s1 f1 b1
    walk_at "rd"
    rename_i vd Hd sd fd
    intro v2 H2 s2 f2 b2
    walk_at "rd"
    intro v3 H3 s3 f3 b3
    walk_at "rd"
    intro v4 H4 s4 f4 b4
    walk_at "rd"
    refine rLst.mk' (by show 2 ≤ sizeLine; decide) fun a H5 s5 ha h5 => ?_
    have all := ((((s1.trans sd).trans s2).trans s3).trans s4)
    refine k a H5 (all.trans s5) (all.free ha) ⟨_, h5, .cons (f4.same s5) (.cons (f2.same ((s3.trans s4).trans s5)) .nil)⟩ ?_
    intro x hx
    simp only [bearsOf, List.mem_cons, List.not_mem_nil, or_false] at hx
    rcases hx with rfl | rfl
    · exact b4.mono (by omega)
    · exact b2.mono (by omega)
theorem ok_three_bear (T : Txt K mg ad) (M : Md P base) : Def P w K mg base CX0 47 "three_bear" ["rests", "loads"] (spBear K ad.c_Weight ad.c_Spread fun r => r.length = 3) := by
  have D_turned_about := ok_turned_about (w := w) T M
  have D_weight_of := ok_weight_of (P := P) (w := w) (base := base) T
  have D_over := ok_over (w := w) T M
  have D_minus := ok_minus (w := w) T M
  have D_times := ok_times (w := w) T M
  have D_middle_bears := ok_middle_bears (w := w) T M
  refine T.f_three_bear.ok sc_three_bear (fun vs H Q E h => ?_) (fun f cdv A outer s H vs Q E hr h => ?_)
  · obtain ⟨_, _, _, _, rfl, _⟩ := h
    rfl
  · obtain ⟨t, l, Ls, rs, rfl, h2, ht, ⟨len, _, g⟩, br, hl, bL, hlen, k⟩ := h
    rcases g with ⟨p, q, rfl, _, pq, _⟩ | ⟨p, q, r, rfl, _, pq, qr, _⟩
    case inl => cases h2
    have bp := br p (by simp)
    have bq := br q (by simp)
    have br' := br r (by simp)
    have ne := int_ne (show p < r by omega)
    have bd : Bi 301 (q - p) := (bq.sub bp).mono (by omega)
    have be : Bi 301 (r - p) := (br'.sub bp).mono (by omega)
    refine ⟨_, (pss_cons (ps_set (i := 2) sc_three_bear.nd rfl (Or.inl rfl) (pe_def D_middle_bears (hr.mono (by decide)) rfl pass0 (pa_cons (pv 0) (pa_cons (pv 1) pa_nil))))
      (pss_cons (ps_set (i := 3) sc_three_bear.nd rfl (Or.inl rfl) (pe_def D_turned_about (hr.mono (by decide)) rfl pass0 (pa_cons (pv 1) (pa_cons (pe_ix ix_tup (pv 0) pe_int (fun _ _ => rfl)) pa_nil))))
      (pss_cons (ps_set (i := 4) sc_three_bear.nd rfl (Or.inl rfl) (pe_def D_minus (hr.mono (by decide)) rfl pass0 (pa_cons (pv 3) (pa_cons (pe_def D_times (hr.mono (by decide)) rfl pass0 (pa_cons (pv 2) (pa_cons (pe_tup (pa_cons (pe_op op_sub (pe_ix ix_tup (pv 0) pe_int (fun _ _ => rfl)) (pe_ix ix_tup (pv 0) pe_int (fun _ _ => rfl))) (pa_cons pe_int pa_nil))) pa_nil))) pa_nil))))
      (pss_cons (ps_set (i := 5) sc_three_bear.nd rfl (Or.inl rfl) (pe_def D_over (hr.mono (by decide)) rfl pass0 (pa_cons (pv 4) (pa_cons (pe_tup (pa_cons (pe_op op_sub (pe_ix ix_tup (pv 0) pe_int (fun _ _ => rfl)) (pe_ix ix_tup (pv 0) pe_int (fun _ _ => rfl))) (pa_cons pe_int pa_nil))) pa_nil))))
      (pss_cons (ps_set (i := 6) sc_three_bear.nd rfl (Or.inl rfl) (pe_def D_minus (hr.mono (by decide)) rfl pass0 (pa_cons (pe_def D_minus (hr.mono (by decide)) rfl pass0 (pa_cons (pe_def D_weight_of (hr.mono (by decide)) rfl pass0 (pa_cons (pv 1) pa_nil)) (pa_cons (pv 2) pa_nil))) (pa_cons (pv 5) pa_nil))))
      (pss_one (ps_ret (pe_lst (pa_cons (pv 6) (pa_cons (pv 2) (pa_cons (pv 5) pa_nil))))))))))), ?_⟩
    walk_at "rds"
    refine spMiddle.use ht pq qr bp bq br' hl bL hlen fun v1 H1 s1 f1 b1 => ?_
    walk_at "rd"
    intro v2 H2 s2 f2 b2
    walk_at "rd"
    rename_i vd Hd sd fd
    intro v3 H3 s3 f3 b3
    walk_at "rd"
    intro v4 H4 s4 f4 b4
    walk_at "rd"
    rename_i ve He se fe
    intro v5 H5 s5 f5 b5
    walk_at "rd"
    intro v6 H6 s6 f6 b6
    walk_at "rd"
    intro v7 H7 s7 f7 b7
    walk_at "rd"
    intro v8 H8 s8 f8 b8
    walk_at "rd"
    refine rLst.mk' (by show 3 ≤ sizeLine; decide) fun a H9 s9 ha h9 => ?_
    have all := ((((((((s1.trans s2).trans sd).trans s3).trans s4).trans se).trans s5).trans s6).trans s7).trans s8
    refine k a H9 (all.trans s9) (all.free ha) ⟨_, h9, .cons (f8.same s9) (.cons (f1.same ((((((((s2.trans sd).trans s3).trans s4).trans se).trans s5).trans s6).trans s7).trans (s8.trans s9))) (.cons (f5.same ((s6.trans s7).trans (s8.trans s9))) .nil))⟩ ?_
    intro x hx
    simp only [bearsOf, List.mem_cons, List.not_mem_nil, or_false] at hx
    rcases hx with rfl | rfl | rfl
    · exact b8.mono (by omega)
    · exact b1.mono (by omega)
    · exact b5.mono (by omega)
/-- bears: what each rest bears, or OffBeam -/
def spBears (K : PySem.W.Frag) (CW CS CB c : Addr) : Sp := fun vs H Q E => ∃ v l Ls len r, vs = [v, .ref l] ∧ IsBm CB H v len r ∧ goodR len r ∧ (∀ x ∈ r, Bi 300 x) ∧ IsLds K CW CS H l Ls ∧ BLs 300 Ls ∧ Ls.length ≤ 100 ∧
  (((∀ L ∈ Ls, L.on len) ∧ ∀ a H', Same H H' → H a = none → IsFrs H' a (bearsOf r Ls) → (∀ q ∈ bearsOf r Ls, Bq 2000000 q) → Q (.ref a) H') ∨ ((∃ L ∈ Ls, ¬ L.on len) ∧ ∀ H', Same H H' → E (.ref c) none H'))
theorem spBears.use {CW CS CB c : Addr} {H : Hp} {Q : VK} {E : XK} {v : V} {l : Addr} {Ls : List Ld} {len : Int} {r : List Int} (hb : IsBm CB H v len r) (g : goodR len r) (br : ∀ x ∈ r, Bi 300 x) (h : IsLds K CW CS H l Ls) (b : BLs 300 Ls) (hl : Ls.length ≤ 100) (on : ∀ L ∈ Ls, L.on len)
    (k : ∀ a H', Same H H' → H a = none → IsFrs H' a (bearsOf r Ls) → (∀ q ∈ bearsOf r Ls, Bq 2000000 q) → Q (.ref a) H') : spBears K CW CS CB c [v, .ref l] H Q E := ⟨v, l, Ls, len, r, rfl, hb, g, br, h, b, hl, .inl ⟨on, k⟩⟩
theorem ok_bears (T : Txt K mg ad) (M : Md P base) : Mth P w K mg base (CXE P w) 48 ad.c_Beam "bears" ["self", "loads"] (spBears K ad.c_Weight ad.c_Spread ad.c_Beam ad.c_OffBeam) := by
  have D_check_loads := ok_check_loads (P := P) (w := w) (base := base) T
  have D_two_bear := ok_two_bear (w := w) T M
  have D_three_bear := ok_three_bear (w := w) T M
  refine T.h_Beam_bears.okE sc_Beam_bears (fun vs H Q E h => ?_) (fun f cdv A outer s H vs Q E hr h => ?_)
  · obtain ⟨_, _, _, _, _, rfl, _⟩ := h
    rfl
  · obtain ⟨v, l, Ls, len, rs, rfl, hb, g, br, hl, bL, hlen, k⟩ := h
    refine ⟨_, (pss_cons (ps_expr (pe_def D_check_loads (hr.mono (by decide)) rfl (passE (fun _ _ _ z => z)) (pa_cons (pe_fld (pv 0) rfl) (pa_cons (pv 1) pa_nil))))
      (pss_cons (ps_if (pt_cmpR op_eq (pe_callB call_len' (by rfl) T.b_len PyProof.Rows.Boot.«len» (pa_cons (pe_fld (pv 0) rfl) pa_nil)) pe_int (nomark _))
        (pss_one (ps_ret (pe_def D_two_bear (hr.mono (by decide)) rfl pass0 (pa_cons (pe_fld (pv 0) rfl) (pa_cons (pv 1) pa_nil)))))
        pss_nil)
      (pss_one (ps_ret (pe_def D_three_bear (hr.mono (by decide)) rfl pass0 (pa_cons (pe_fld (pv 0) rfl) (pa_cons (pv 1) pa_nil))))))), ?_⟩
    walk_at "rds"
    refine ⟨len, l, Ls, rfl, hl, ?_⟩
    rcases k with ⟨on, k⟩ | ⟨off, k⟩
    case inr => exact .inr ⟨off, k⟩
    refine .inl ⟨on, fun H1 s1 => ?_⟩
    walk_at "rd"
    rename_i p hp
    rcases g.2 with ⟨p1, q1, rfl, g1⟩ | ⟨p1, q1, r1, rfl, g1⟩
    · refine ite_t (by show (2 : Int) = 2; rfl) ?_
      walk_at "rd"
      rename_i p' hp'
      refine spBear.use rfl hp' ⟨len, g⟩ br (by walk_at "li") bL hlen fun a H' sm ha fr bf => k a H' (s1.trans sm) (s1.free ha) fr bf
    · refine ite_f (by show ¬ ((3 : Int) = 2); decide) ?_
      walk_at "rd"
      rename_i p' hp'
      refine spBear.use rfl hp' ⟨len, g⟩ br (by walk_at "li") bL hlen fun a H' sm ha fr bf => k a H' (s1.trans sm) (s1.free ha) fr bf
/-! ### what turns a beam at a place -/
def spUnder : Sp := fun vs H Q _ => ∃ v1 v2 q1 q2 n1 n2, vs = [v1, v2] ∧ IsFr H v1 q1 ∧ IsFr H v2 q2 ∧ Bq n1 q1 ∧ Bq n2 q2 ∧ n1 + n2 ≤ 100000000 ∧ Q (.bl (decide (q1 < q2))) H
theorem spUnder.use {H : Hp} {Q : VK} {E : XK} {v1 v2 : V} {q1 q2 : Rat} {n1 n2 : Nat} (h1 : IsFr H v1 q1) (h2 : IsFr H v2 q2) (b1 : Bq n1 q1) (b2 : Bq n2 q2) (hn : n1 + n2 ≤ 100000000) (k : Q (.bl (decide (q1 < q2))) H) : spUnder [v1, v2] H Q E := ⟨v1, v2, q1, q2, n1, n2, rfl, h1, h2, b1, b2, hn, k⟩
theorem ok_under (T : Txt K mg ad) : Def P w K mg base CX0 41 "under" ["one", "other"] spUnder := by
  refine T.f_under.ok sc_under (fun vs H Q E h => ?_) (fun f cdv A outer s H vs Q E hr h => ?_)
  · obtain ⟨a, b, _, _, _, _, rfl, _⟩ := h
    rfl
  · obtain ⟨v1, v2, q1, q2, n1, n2, rfl, h1, h2, b1, b2, hn, k⟩ := h
    refine ⟨_, (pss_one (ps_ret (pe_cmpR op_lt (pe_op op_mulB (pe_ix ix_tup (pv 0) pe_int (fun _ _ => rfl)) (pe_ix ix_tup (pv 1) pe_int (fun _ _ => rfl))) (pe_op op_mulB (pe_ix ix_tup (pv 1) pe_int (fun _ _ => rfl)) (pe_ix ix_tup (pv 0) pe_int (fun _ _ => rfl))) (nomark _)))), ?_⟩
    walk_at "rds"
    rw [lt_rat]
    exact k
local macro_rules | `(tactic| walk_at "rdc") => `(tactic| first
  | ((with_reducible apply spUnder.use); (· walk_at "li"); (· walk_at "li"); (· first | assumption | exact Bq.int (by assumption) | exact bq_zero); (· first | assumption | exact Bq.int (by assumption) | exact bq_zero); (· omega)))
/-- a stretch that lies on the beam -/
def onS (len : Int) (p q : Rat) : Prop := 0 ≤ p ∧ q ≤ (len : Rat) ∧ p ≤ q
def spStretch (CB c : Addr) : Sp := fun vs H Q E => ∃ v x y len rs p q n1 n2, vs = [v, x, y] ∧ IsBm CB H v len rs ∧ IsFr H x p ∧ IsFr H y q ∧ Bq n1 p ∧ Bq n2 q ∧ n1 + n2 ≤ 90000000 ∧ Bi 300 len ∧
  ((onS len p q ∧ ∀ H', Same H H' → Q .non H') ∨ (¬ onS len p q ∧ ∀ H', Same H H' → E (.ref c) none H'))
theorem ok_check_stretch (T : Txt K mg ad) : Def P w K mg base (CXE P w) 42 "check_stretch" ["beam", "start", "end"] (spStretch ad.c_Beam ad.c_OffBeam) := by
  have D_under := ok_under (P := P) (w := w) (base := base) T
  refine T.f_check_stretch.okE sc_check_stretch (fun vs H Q E h => ?_) (fun f cdv A outer s H vs Q E hr h => ?_)
  · obtain ⟨_, _, _, _, _, _, _, _, _, rfl, _⟩ := h
    rfl
  · obtain ⟨v, x, y, len, rs, p, q, n1, n2, rfl, hb, hx, hy, b1, b2, hn, bl, k⟩ := h
    have bad : ∀ H', Same H H' → ¬ onS len p q → E (.ref ad.c_OffBeam) none H' := fun H' s z => by
      rcases k with ⟨o, _⟩ | ⟨_, k⟩
      · exact absurd o z
      · exact k H' s
    refine ⟨_, (pss_one (ps_if (PW.pt (pw_or (pt_val (pe_def D_under (hr.mono (by decide)) rfl pass0 (pa_cons (pv 1) (pa_cons (pe_tup (pa_cons pe_int (pa_cons pe_int pa_nil))) pa_nil)))) (pw_or (pt_val (pe_def D_under (hr.mono (by decide)) rfl pass0 (pa_cons (pe_tup (pa_cons (pe_fld (pv 0) rfl) (pa_cons pe_int pa_nil))) (pa_cons (pv 2) pa_nil)))) (pw_or1 (pt_val (pe_def D_under (hr.mono (by decide)) rfl pass0 (pa_cons (pv 2) (pa_cons (pv 1) pa_nil))))))))
        (pss_one (ps_raise hr.hd T.x_OffBeam T.g_OffBeam rfl (pa_cons pe_str pa_nil)))
        pss_nil)), ?_⟩
    walk_at "rds"
    rename_i v0 H0 s0 f0
    refine decI (fun z => ?_) (fun z => ?_)
    · walk_at "rd"
      refine rRaise.one (bad _ s0 fun o => ?_)
      have := o.1
      push_cast at z
      grind
    walk_at "rd"
    rename_i v1 H1 s1 f1
    refine decI (fun z2 => ?_) (fun z2 => ?_)
    · walk_at "rd"
      refine rRaise.one (bad _ (s0.trans s1) fun o => ?_)
      have := o.2.1
      grind
    walk_at "rd"
    refine decI (fun z3 => ?_) (fun z3 => ?_)
    · walk_at "rd"
      refine rRaise.one (bad _ (s0.trans s1) fun o => ?_)
      have := o.2.2
      grind
    · walk_at "rd"
      rcases k with ⟨_, k⟩ | ⟨z4, _⟩
      · exact k _ (s0.trans s1)
      · refine absurd ⟨?_, ?_, ?_⟩ z4
        · push_cast at z
          grind
        · grind
        · grind
theorem bi_part {a b c : Int} {L : Ld} (b1 : Bi 302 a) (b2 : Bi 302 b) (b3 : Bi 302 c) (bL : L.b 300) : Bi 20100 (partOf a b c L) := by
  cases L with
  | w p z =>
    obtain ⟨bp, bz⟩ := bL
    have := bi_mshare b1 b2 b3 (x := 2 * p) (by walk_at "bm")
    show Bi _ (6 * z * mshare a b c (2 * p))
    walk_at "bm"
  | s s1 e1 k1 =>
    obtain ⟨bs, be, bk⟩ := bL
    have c1 : Bi 302 (2 * s1) := by
      unfold Bi at *
      omega
    have c2 : Bi 302 (2 * e1) := by
      unfold Bi at *
      omega
    have bc : ∀ x ∈ cutsOf a b c (2 * s1) (2 * e1), Bi 302 x := fun x hx => by
      rcases cuts_mem hx with rfl | rfl | rfl | rfl | rfl <;> assumption
    have cl := cuts_len a b c (2 * s1) (2 * e1)
    exact (pieces_bi' (cutsOf a b c (2 * s1) (2 * e1)) fun u hu v hv => bi_piece (k := k1) b1 b2 b3 (bc u hu) (bc v hv) bk).mono (by omega)
def abt2 (p : Int) : Ld → Int
  | .w a z => 2 * (z * (a - p))
  | .s a e k => k * (e - a) * ((a + e) - 2 * p)
theorem abt2_eq (p : Int) (L : Ld) : (abt2 p L : Rat) = 2 * L.abt p := by
  cases L with
  | w a z =>
    show ((2 * (z * (a - p)) : Int) : Rat) = 2 * aw a z p
    unfold aw
    push_cast
    grind
  | s a e k =>
    show ((k * (e - a) * ((a + e) - 2 * p) : Int) : Rat) = 2 * as' a e k p
    unfold as'
    push_cast
    grind
theorem tOf_half (p : Int) : ∀ Ls : List Ld, tOf p Ls = Rat.divInt (Ls.map (abt2 p)).sum 2 := fun Ls => by
  refine divInt_of (by decide) ?_
  induction Ls with
  | nil =>
    show (0 : Rat) * _ = ((0 : Int) : Rat)
    push_cast
    grind
  | cons L Ls ih =>
    rw [tOf_cons, List.map_cons, List.sum_cons]
    push_cast at ih ⊢
    rw [← ih, abt2_eq]
    grind
/-- what rests bear has few figures -/
theorem bears_small {len : Int} {rs : List Int} {Ls : List Ld} (g : goodR len rs) (br : ∀ x ∈ rs, Bi 300 x) (bL : BLs 300 Ls) (hl : Ls.length ≤ 100) : ∀ x ∈ bearsOf rs Ls, Bq 50000 x := by
  have bW : Bq 1200 (wOf Ls : Rat) := by
    refine Bq.int ?_
    unfold wOf
    refine (bi_sum (n := 1000) fun x hx => ?_).mono (by rw [List.length_map]; omega)
    obtain ⟨L, hL, rfl⟩ := List.mem_map.mp hx
    have b := bL L hL
    cases L with
    | w a z => exact b.2.mono (by decide)
    | s a e k =>
      obtain ⟨b1, b2, b3⟩ := b
      show Bi 1000 (k * (e - a))
      walk_at "bm"
  have bT : ∀ p : Int, Bi 300 p → Bq 1500 (tOf p Ls) := fun p bp => by
    rw [tOf_half]
    refine (Bq.divInt (n := 1400) ?_ ((Bi.lit (by decide)).mono (by decide)) (by decide)).mono (by decide)
    refine (bi_sum (n := 1200) fun x hx => ?_).mono (by rw [List.length_map]; omega)
    obtain ⟨L, hL, rfl⟩ := List.mem_map.mp hx
    have b := bL L hL
    cases L with
    | w a z =>
      obtain ⟨b1, b2⟩ := b
      show Bi 1200 (2 * (z * (a - p)))
      walk_at "bm"
    | s a e k =>
      obtain ⟨b1, b2, b3⟩ := b
      show Bi 1200 (k * (e - a) * ((a + e) - 2 * p))
      walk_at "bm"
  rcases g.2 with ⟨p, q, rfl, h0, h1, h2⟩ | ⟨p, q, r, rfl, h0, h1, h2, h3⟩
  · have bp := br p (by simp)
    have bq := br q (by simp)
    have bd : Bq 400 ((q - p : Int) : Rat) := (Bq.int (n := 305) (by walk_at "bm")).mono (by decide)
    have t := (bT p bp).div (int_ne h1) bd
    intro x hx
    simp only [bearsOf, List.mem_cons, List.not_mem_nil, or_false] at hx
    rcases hx with rfl | rfl
    · exact (bW.sub t).mono (by decide)
    · exact t.mono (by decide)
  · have bp := br p (by simp)
    have bq := br q (by simp)
    have br' := br r (by simp)
    have bd : Bq 400 ((q - p : Int) : Rat) := (Bq.int (n := 305) (by walk_at "bm")).mono (by decide)
    have bd2 : Bq 400 ((r - p : Int) : Rat) := (Bq.int (n := 305) (by walk_at "bm")).mono (by decide)
    have c1 : Bi 302 (2 * p) := by
      unfold Bi at *
      omega
    have c2 : Bi 302 (2 * q) := by
      unfold Bi at *
      omega
    have c3 : Bi 302 (2 * r) := by
      unfold Bi at *
      omega
    have bm : Bq 21000 (mOf p q r Ls) := by
      unfold mOf
      refine (Bq.divInt (n := 20900) ?_ ?_ (scale_ne h1 h2)).mono (by decide)
      · refine (bi_sum (n := 20100) fun x hx => ?_).mono (by rw [List.length_map]; omega)
        obtain ⟨L, hL, rfl⟩ := List.mem_map.mp hx
        exact bi_part c1 c2 c3 (bL L hL)
      · unfold scaleOf
        walk_at "bm"
    have l1 := (bT p bp).sub (bm.mul bd)
    have l2 := l1.div (int_ne (show p < r by omega)) bd2
    intro x hx
    simp only [bearsOf, List.mem_cons, List.not_mem_nil, or_false] at hx
    rcases hx with rfl | rfl | rfl
    · exact ((bW.sub bm).sub l2).mono (by decide)
    · exact bm.mono (by decide)
    · exact l2.mono (by decide)
/-- turning_at -/
def spTurnAt (K : PySem.W.Frag) (CW CS : Addr) : Sp := fun vs H Q _ => ∃ (t b l : Addr) (x : V) (rs : List Int) (qs : List Rat) (Ls : List Ld) (q : Rat) (n m : Nat), vs = [.ref t, .ref b, .ref l, x] ∧ H t = some (.tup (rs.map V.int)) ∧ IsFrs H b qs ∧ IsLds K CW CS H l Ls ∧ IsFr H x q ∧ qs.length = rs.length ∧ rs.length ≤ 3 ∧ (∀ x ∈ rs, Bi 300 x) ∧ (∀ q ∈ qs, Bq m q) ∧ BLs 300 Ls ∧ Ls.length ≤ 100 ∧ Bq n q ∧ 300 ≤ n ∧ n ≤ 380000 ∧ m ≤ 100000 ∧
  ∀ v H', Same H H' → IsFr H' v (turnOf rs qs Ls q) → Bq (23 * n + 3 * m + 5000) (turnOf rs qs Ls q) → Q v H'
theorem spTurnAt.use {CW CS : Addr} {H : Hp} {Q : VK} {E : XK} {t b l : Addr} {x : V} {rs : List Int} {qs : List Rat} {Ls : List Ld} {q : Rat} {n m : Nat} (ht : H t = some (.tup (rs.map V.int))) (hb : IsFrs H b qs) (hl : IsLds K CW CS H l Ls) (hx : IsFr H x q) (e1 : qs.length = rs.length) (e2 : rs.length ≤ 3) (b1 : ∀ x ∈ rs, Bi 300 x) (b2 : ∀ q ∈ qs, Bq m q) (b3 : BLs 300 Ls) (e3 : Ls.length ≤ 100) (b4 : Bq n q) (hn1 : 300 ≤ n) (hn2 : n ≤ 380000) (hm : m ≤ 100000)
    (k : ∀ v H', Same H H' → IsFr H' v (turnOf rs qs Ls q) → Bq (23 * n + 3 * m + 5000) (turnOf rs qs Ls q) → Q v H') : spTurnAt K CW CS [.ref t, .ref b, .ref l, x] H Q E := ⟨t, b, l, x, rs, qs, Ls, q, n, m, rfl, ht, hb, hl, hx, e1, e2, b1, b2, b3, e3, b4, hn1, hn2, hm, k⟩
theorem ok_turning_at (T : Txt K mg ad) (M : Md P base) : Def P w K mg base CX0 44 "turning_at" ["rests", "borne", "loads", "x"] (spTurnAt K ad.c_Weight ad.c_Spread) := by
  have D_fraction := ok_fraction (w := w) T M
  have D_turn_scale := ok_turn_scale (P := P) (w := w) (base := base) T
  have D_under := ok_under (P := P) (w := w) (base := base) T
  have D_plus := ok_plus (w := w) T M
  have D_minus := ok_minus (w := w) T M
  have D_times := ok_times (w := w) T M
  have M_Weight_scaled_left := ok_w_sl (P := P) (w := w) (base := base) T
  have M_Spread_scaled_left := ok_s_sl (P := P) (w := w) (base := base) T
  refine T.f_turning_at.ok sc_turning_at (fun vs H Q E h => ?_) (fun f cdv A outer s H vs Q E hr h => ?_)
  · obtain ⟨_, _, _, _, _, _, _, _, _, _, rfl, _⟩ := h
    rfl
  · obtain ⟨t, b, l, x, rs, qs, Ls, q, n, m, rfl, ht, ⟨vf, hf, pf⟩, ⟨vs, hl, pr⟩, hx, e1, e2, brs, bqs, bL, hlen, bq, hn1, hn2, hm, k⟩ := h
    refine ⟨_, (pss_cons (ps_set (i := 4) sc_turning_at.nd rfl (Or.inl rfl) (pe_def D_fraction (hr.mono (by decide)) rfl passE0 (pa_cons (pe_un un_neg (pe_callB (call_sum rfl) (by rfl) T.b_sum PyProof.Rows.Boot.«sum» (pa_cons (pe_lc cs_turning_at_c0 rfl (pi_list (pv 2)) (fun C ex s2 H2 => (pg_name (i := 0) nd_turning_at_c0 rfl (Or.inl rfl) (Or.inr rfl))) (fun C ex s2 H2 => pts_nil) (fun C ex s2 H2 => (pe_lm (pv 0) T.n_Weight.cl T.n_Spread.cl M_Weight_scaled_left M_Spread_scaled_left (hr.mono (by decide)) (hr.mono (by decide)) pass0 (pa_cons (pv 1) pa_nil)))) pa_nil))) (pa_cons (pe_def D_turn_scale (hr.mono (by decide)) rfl pass0 (pa_cons (pv 3) pa_nil)) pa_nil))))
      (pss_cons (ps_for PassesOwn.never rfl (pi_zipT rfl T.b_zip (pa_cons (pv 0) (pa_cons (pv 1) pa_nil))) (pg_tup (n := 2) rfl (pgs_cons (pg_name (i := 5) sc_turning_at.nd rfl (Or.inl rfl)) (pgs_cons (pg_name (i := 6) sc_turning_at.nd rfl (Or.inl rfl)) pgs_nil)))
        (pss_cons (ps_set (i := 7) sc_turning_at.nd rfl (Or.inl rfl) (pe_def D_minus (hr.mono (by decide)) rfl pass0 (pa_cons (pv 3) (pa_cons (pe_tup (pa_cons (pv 5) (pa_cons pe_int pa_nil))) pa_nil))))
        (pss_one (ps_if (pt_val (pe_def D_under (hr.mono (by decide)) rfl pass0 (pa_cons (pe_tup (pa_cons pe_int (pa_cons pe_int pa_nil))) (pa_cons (pv 7) pa_nil))))
          (pss_one (ps_set (i := 4) sc_turning_at.nd rfl (Or.inl rfl) (pe_def D_plus (hr.mono (by decide)) rfl pass0 (pa_cons (pv 4) (pa_cons (pe_def D_times (hr.mono (by decide)) rfl pass0 (pa_cons (pv 6) (pa_cons (pv 7) pa_nil))) pa_nil)))))
          pss_nil))))
      (pss_one (ps_ret (pv 4))))), ?_⟩
    walk_at "rds"
    refine rLc.for pr (Over.list hl) (IsLds.len pr (by omega)) (fun σ => ∃ c, σ = [c, some x]) (fun L H' y => ∃ N : Int, y = .int N ∧ (N : Rat) = L.left q * (2 * q.den * q.den) ∧ Bi (20 * n + 1000) N) (fun _ _ _ _ _ e => e) ⟨_, rfl⟩ ?_ ?_
    · rintro L v σ' H2 C1 mem isL s2 ⟨c, rfl⟩ k1
      have isL2 := isL.same' s2
      have bl := (bL L mem).mono hn1
      walk_at "rd"
      intro N eN bN
      exact k1 _ _ _ ⟨_, rfl⟩ (Same.refl _) ⟨N, rfl, eN, bN⟩
    intro D ys H1 s1 _ hD pp
    obtain ⟨ns, ey, pn, bn⟩ : ∃ ns : List Int, ys = ns.map V.int ∧ Paired (fun (L : Ld) (n : Int) => (n : Rat) = L.left q * (2 * q.den * q.den)) Ls ns ∧ ∀ z ∈ ns, Bi (20 * n + 1000) z := by
      clear hD hlen bL hl pr s1 k
      induction pp with
      | nil => exact ⟨[], rfl, .nil, fun z hn => by cases hn⟩
      | cons h _ ih =>
        obtain ⟨ns, e1, e2, e3⟩ := ih
        obtain ⟨N, rfl, eN, bN⟩ := h
        refine ⟨N :: ns, by rw [e1]; rfl, .cons eN e2, fun z hn => ?_⟩
        rcases List.mem_cons.mp hn with rfl | hn
        · exact bN
        · exact e3 z hn
    rw [ey] at hD
    have es := lsum_scaled pn
    have bs := bi_sum bn
    rw [← pn.length] at bs
    have bs' : Bi (20 * n + 1200) (-ns.sum) := (bs.mono (by omega)).neg
    walk_at "rd"
    intro v2 H2 s2 f2
    have ev : Rat.divInt (-ns.sum) (2 * q.den * q.den) = -lSum q Ls := by
      refine scaled ?_
      push_cast
      rw [es]
      grind
    have bv : Bq (20 * n + 1200) (-lSum q Ls) := by
      rw [← ev]
      exact Bq.divInt bs' (by walk_at "bm") (two_den_ne q)
    rw [ev] at f2
    obtain ⟨c, hc⟩ : ∃ c, c = n + m + 1000 := ⟨_, rfl⟩
    walk_at "rd"
    have ht2 := s2 _ _ (s1 _ _ ht)
    have hf2 := s2 _ _ (s1 _ _ hf)
    refine ⟨t, b, _, _, rfl, SqT.of ht2, SqL.of hf2, ?_⟩
    refine rFor.over (Over.zipT (SqT.of ht2) (SqL.of hf2)) (fun i σ H' => Same H2 H' ∧ ∃ x1 x2 x3 v, σ = [some (.ref t), some (.ref b), some (.ref l), some x, some v, x1, x2, x3] ∧ IsFr H' v (dotL q (rs.take i) (qs.take i) - lSum q Ls) ∧ Bq (20 * n + 1200 + c * i) (dotL q (rs.take i) (qs.take i) - lSum q Ls)) ⟨Same.refl _, none, none, none, v2, rfl, ?_, ?_⟩ (fun i σ H' p => p.1) ?_ ?_
    · have e : dotL q (rs.take 0) (qs.take 0) - lSum q Ls = -lSum q Ls := by
        simp only [List.take_zero, dotL]
        grind
      rw [e]
      exact f2
    · have e : dotL q (rs.take 0) (qs.take 0) - lSum q Ls = -lSum q Ls := by
        simp only [List.take_zero, dotL]
        grind
      rw [e]
      exact bv.mono (by omega)
    · rintro i vz σ H3 H4 hi ⟨sm3, x1, x2, x3, v, rfl, fv, bv3⟩ s4 ⟨p, xr, yq, rfl, hr, hq, hp⟩
      rw [List.length_map] at hi
      rw [List.getElem?_map] at hr
      cases hr' : rs[i]? with
      | none => rw [hr'] at hr; cases hr
      | some r =>
      rw [hr'] at hr
      cases hr
      obtain ⟨qi, hqi, fq⟩ := Paired.get pf hq
      have all := ((s1.trans s2).trans sm3).trans s4
      have fq4 := fq.same all
      have fx4 := hx.same all
      have fv4 := fv.same s4
      have bqi := bqs qi (List.mem_of_getElem? hqi)
      have bri := brs r (List.mem_of_getElem? hr')
      have eD : dotL q (rs.take (i + 1)) (qs.take (i + 1)) = dotL q (rs.take i) (qs.take i) + qi * ps (q - r) := by
        rw [List.take_succ, List.take_succ, hr', hqi]
        exact dotL_snoc q (by rw [List.length_take, List.length_take]; omega)
      have hi3 : i < 3 := by omega
      have ci : c * (i + 1) = c * i + c := Nat.mul_succ c i
      have c3 : c * i ≤ c * 3 := Nat.mul_le_mul_left c (by omega)
      rw [ci]
      generalize c * i = cc at *
      walk_at "rd"
      rename_i vr Hr sr fr
      intro va Ha sa fa ba
      have ba' : Bq (n + 400) (q - (r : Rat)) := ba.mono (by omega)
      walk_at "rd"
      rename_i vz Hz sz fz
      refine decI (fun z => ?_) (fun z => ?_)
      · walk_at "rd"
        intro vt Ht st ft bt
        have bt' : Bq (n + m + 500) (qi * (q - (r : Rat))) := bt.mono (by omega)
        walk_at "rd"
        intro vp Hp sp fp bp
        have e : dotL q (rs.take (i + 1)) (qs.take (i + 1)) - lSum q Ls = dotL q (rs.take i) (qs.take i) - lSum q Ls + qi * (q - (r : Rat)) := by
          rw [eD, ps_pos (by push_cast at z; exact z)]
          grind
        refine ⟨(((((sm3.trans s4).trans sr).trans sa).trans sz).trans st).trans sp, _, _, _, vp, rfl, ?_, ?_⟩
        · rw [e]
          exact fp
        · rw [e]
          exact bp.mono (by omega)
      · walk_at "rd"
        have e : dotL q (rs.take (i + 1)) (qs.take (i + 1)) - lSum q Ls = dotL q (rs.take i) (qs.take i) - lSum q Ls := by
          rw [eD, ps_neg (by push_cast at z; exact z)]
          grind
        refine ⟨((((sm3.trans s4).trans sr).trans sa).trans sz), _, _, _, v, rfl, ?_, ?_⟩
        · rw [e]
          exact (fv4.same sr).same (sa.trans sz)
        · rw [e]
          exact bv3.mono (by omega)
    · rintro σ H3 ⟨sm3, x1, x2, x3, v, rfl, fv, bv3⟩
      have en : min (rs.map V.int).length vf.length = rs.length := by rw [List.length_map, pf.length]; omega
      rw [en, List.take_length, List.take_of_length_le (by omega)] at fv bv3
      rw [en] at *
      walk_at "rd"
      have c3 : c * rs.length ≤ c * 3 := Nat.mul_le_mul_left c e2
      generalize c * rs.length = cc at *
      exact k v H3 ((s1.trans s2).trans sm3) fv (bv3.mono (by omega))
theorem good_len {len : Int} {r : List Int} (g : goodR len r) (Ls : List Ld) : (bearsOf r Ls).length = r.length ∧ r.length ≤ 3 := by
  rcases g.2 with ⟨p, q, rfl, _⟩ | ⟨p, q, r, rfl, _⟩
  · exact ⟨rfl, by simp⟩
  · exact ⟨rfl, by simp⟩
-- IMPORT SqJ
-- IMPORT BmN
-- IMPORT BmE
local macro_rules | `(tactic| walk_at "rdc") => `(tactic| first
  | with_reducible refine L2.rd_sl ?_
  | with_reducible refine L2.rd_nopart ?_
  | with_reducible refine L2.rd_part ?_
  | with_reducible refine L2.rd_exi ?_
  | with_reducible refine L2.rd_chain ?_
  | with_reducible refine L2.rd_exb ?_
  | with_reducible refine L2.rd_sset ?_
  | with_reducible refine L2.rIsN.ref ?_
  | with_reducible refine L2.rIsN.non ?_
  | with_reducible refine L2.rNotN.ref ?_
  | with_reducible refine L2.rNotN.non ?_)
local macro_rules | `(tactic| walk_at "rdj") => `(tactic| repeat ((fail_if_success (with_reducible refine L2.stop_if ?_)); walk_at "rd1"))
/-- how much of a load lies on each length between two places -/
def spEach (CW CS : Addr) (b : Bool) : Sp := fun vs H Q _ => ∃ (v x y : V) (L : Ld) (l r : Rat) (n : Nat), vs = [v, x, y] ∧ IsLd CW CS H v L ∧ L.isW = b ∧ IsFr H x l ∧ IsFr H y r ∧ Bq n l ∧ Bq n r ∧ n ≤ 1000000 ∧ L.b 300 ∧ ∀ H', Same H H' → Q (.int (L.over l r)) H'
theorem spEach.use {CW CS : Addr} {H : Hp} {Q : VK} {E : XK} {v x y : V} {L : Ld} {l r : Rat} {n : Nat} (h : IsLd CW CS H v L) (hx : IsFr H x l) (hy : IsFr H y r) (b1 : Bq n l) (b2 : Bq n r) (hn : n ≤ 1000000) (bL : L.b 300) (k : ∀ H', Same H H' → Q (.int (L.over l r)) H') : spEach CW CS L.isW [v, x, y] H Q E := ⟨v, x, y, L, l, r, n, rfl, h, rfl, hx, hy, b1, b2, hn, bL, k⟩
theorem ok_w_each (T : Txt K mg ad) : Mth P w K mg base CX0 42 ad.c_Weight "each_over" ["self", "left", "right"] (spEach ad.c_Weight ad.c_Spread true) := by
  refine T.h_Weight_each_over.ok sc_Weight_each_over (fun vs H Q E h => ?_) (fun f cdv A outer s H vs Q E hr h => ?_)
  · obtain ⟨_, _, _, _, _, _, _, rfl, _⟩ := h
    rfl
  · obtain ⟨v, x, y, L, l, r, n, rfl, hL, e, hx, hy, b1, b2, hn, bL, k⟩ := h
    cases L with
    | s a e k => cases e
    | w p z =>
    refine ⟨_, (pss_one (ps_ret pe_int)), ?_⟩
    walk_at "rds"
    exact k H (Same.refl _)
theorem ok_s_each (T : Txt K mg ad) : Mth P w K mg base CX0 42 ad.c_Spread "each_over" ["self", "left", "right"] (spEach ad.c_Weight ad.c_Spread false) := by
  have D_under := ok_under (P := P) (w := w) (base := base) T
  refine T.h_Spread_each_over.ok sc_Spread_each_over (fun vs H Q E h => ?_) (fun f cdv A outer s H vs Q E hr h => ?_)
  · obtain ⟨_, _, _, _, _, _, _, rfl, _⟩ := h
    rfl
  · obtain ⟨v, x, y, L, l, r, n, rfl, hL, e, hx, hy, b1, b2, hn, bL, k⟩ := h
    cases L with
    | w p z => cases e
    | s s1 e1 k1 =>
    obtain ⟨bs, be, bk⟩ := bL
    have k : ∀ H', Same H H' → Q (.int (if l < (s1 : Rat) ∨ (e1 : Rat) < r then 0 else k1)) H' := k
    refine ⟨_, (pss_cons (ps_if (PW.pt (pw_or (pt_val (pe_def D_under (hr.mono (by decide)) rfl pass0 (pa_cons (pv 1) (pa_cons (pe_tup (pa_cons (pe_fld (pv 0) rfl) (pa_cons pe_int pa_nil))) pa_nil)))) (pw_or1 (pt_val (pe_def D_under (hr.mono (by decide)) rfl pass0 (pa_cons (pe_tup (pa_cons (pe_fld (pv 0) rfl) (pa_cons pe_int pa_nil))) (pa_cons (pv 2) pa_nil)))))))
        (pss_one (ps_ret pe_int))
        pss_nil)
      (pss_one (ps_ret (pe_fld (pv 0) rfl)))), ?_⟩
    walk_at "rds"
    rename_i v0 H0 s0 f0
    refine decI (fun z => ?_) (fun z => ?_)
    · walk_at "rd"
      have k := k H0 s0
      rw [if_pos (.inl z)] at k
      exact k
    walk_at "rd"
    rename_i v1 H1 s1' f1
    refine decI (fun z2 => ?_) (fun z2 => ?_)
    · walk_at "rd"
      have k := k H1 (s0.trans s1')
      rw [if_pos (.inr z2)] at k
      exact k
    · walk_at "rd"
      have k := k H1 (s0.trans s1')
      rw [if_neg (fun q => q.elim z z2)] at k
      exact k
/-- a place, and what turns there -/
def IsPt (H : Hp) (v : V) (x m : Rat) : Prop := ∃ p v1 v2, v = .ref p ∧ H p = some (.tup [v1, v2]) ∧ IsFr H v1 x ∧ IsFr H v2 m
theorem IsPt.same {H H' : Hp} {v : V} {x m : Rat} (h : IsPt H v x m) (s : Same H H') : IsPt H' v x m := by
  obtain ⟨p, v1, v2, e, h1, h2, h3⟩ := h
  exact ⟨p, v1, v2, e, s _ _ h1, h2.same s, h3.same s⟩
theorem IsPt.nl {H H' : Hp} {v : V} {x m : Rat} (h : IsPt H v x m) (n : NL H H') : IsPt H' v x m := by
  obtain ⟨p, v1, v2, e, h1, h2, h3⟩ := h
  exact ⟨p, v1, v2, e, n _ _ (fun _ z => by cases z) h1, h2.nl n, h3.nl n⟩
def spGreater : Sp := fun vs H Q _ => ∃ (v1 v2 : V) (x1 m1 x2 m2 : Rat) (n1 n2 : Nat), vs = [v1, v2] ∧ IsPt H v1 x1 m1 ∧ IsPt H v2 x2 m2 ∧ Bq n1 m1 ∧ Bq n2 m2 ∧ n1 + n2 ≤ 90000000 ∧ Q (if m1 < m2 then v2 else v1) H
theorem spGreater.use {H : Hp} {Q : VK} {E : XK} {v1 v2 : V} {x1 m1 x2 m2 : Rat} {n1 n2 : Nat} (h1 : IsPt H v1 x1 m1) (h2 : IsPt H v2 x2 m2) (b1 : Bq n1 m1) (b2 : Bq n2 m2) (hn : n1 + n2 ≤ 90000000) (k : Q (if m1 < m2 then v2 else v1) H) : spGreater [v1, v2] H Q E := ⟨v1, v2, x1, m1, x2, m2, n1, n2, rfl, h1, h2, b1, b2, hn, k⟩
theorem ok_greater (T : Txt K mg ad) : Def P w K mg base CX0 43 "greater" ["best", "other"] spGreater := by
  have D_under := ok_under (P := P) (w := w) (base := base) T
  refine T.f_greater.ok sc_greater (fun vs H Q E h => ?_) (fun f cdv A outer s H vs Q E hr h => ?_)
  · obtain ⟨_, _, _, _, _, _, _, _, rfl, _⟩ := h
    rfl
  · obtain ⟨_, _, x1, m1, x2, m2, n1, n2, rfl, ⟨p1, a1, b1', rfl, h1, f1, g1⟩, ⟨p2, a2, b2', rfl, h2, f2, g2⟩, b1, b2, hn, k⟩ := h
    refine ⟨_, (pss_cons (ps_if (pt_val (pe_def D_under (hr.mono (by decide)) rfl pass0 (pa_cons (pe_ix ix_tup (pv 0) pe_int (fun _ _ => rfl)) (pa_cons (pe_ix ix_tup (pv 1) pe_int (fun _ _ => rfl)) pa_nil))))
        (pss_one (ps_ret (pv 1)))
        pss_nil)
      (pss_one (ps_ret (pv 0)))), ?_⟩
    walk_at "rds"
    refine decI (fun z => ?_) (fun z => ?_)
    · walk_at "rd"
      rw [if_pos z] at k
      exact k
    · walk_at "rd"
      rw [if_neg z] at k
      exact k
/-- the top of a curve between two places, or None -/
def spTop (K : PySem.W.Frag) (CW CS : Addr) : Sp := fun vs H Q _ => ∃ (v1 v2 : V) (a : Addr) (l ml r mr : Rat) (Ls : List Ld), vs = [v1, v2, .ref a] ∧ IsPt H v1 l ml ∧ IsPt H v2 r mr ∧ IsLds K CW CS H a Ls ∧ BLs 300 Ls ∧ Ls.length ≤ 100 ∧ l < r ∧ Bq 1000 l ∧ Bq 1000 r ∧ Bq 180000 ml ∧ Bq 180000 mr ∧
  ∀ H', Same H H' → ((((Ls.map (Ld.over l r)).sum : Int) ≤ 0 ∨ ¬ (l < (l + r) / 2 + (mr - ml) / (r - l) / (((Ls.map (Ld.over l r)).sum : Int) : Rat) ∧ (l + r) / 2 + (mr - ml) / (r - l) / (((Ls.map (Ld.over l r)).sum : Int) : Rat) < r)) → Q .non H') ∧
    (0 < ((Ls.map (Ld.over l r)).sum : Int) → l < (l + r) / 2 + (mr - ml) / (r - l) / (((Ls.map (Ld.over l r)).sum : Int) : Rat) → (l + r) / 2 + (mr - ml) / (r - l) / (((Ls.map (Ld.over l r)).sum : Int) : Rat) < r → ∀ v, IsFr H' v ((l + r) / 2 + (mr - ml) / (r - l) / (((Ls.map (Ld.over l r)).sum : Int) : Rat)) → Bq 370000 ((l + r) / 2 + (mr - ml) / (r - l) / (((Ls.map (Ld.over l r)).sum : Int) : Rat)) → Q v H')
theorem bi_over {l r : Rat} {L : Ld} (h : L.b 300) : Bi 300 (L.over l r) := by
  cases L with
  | w p z => exact bi_zero 300
  | s a e k =>
    show Bi 300 (if l < (a : Rat) ∨ (e : Rat) < r then 0 else k)
    split
    · exact bi_zero 300
    · exact h.2.2
theorem ok_top_between (T : Txt K mg ad) (M : Md P base) : Def P w K mg base CX0 45 "top_between" ["left", "right", "loads"] (spTop K ad.c_Weight ad.c_Spread) := by
  have D_under := ok_under (P := P) (w := w) (base := base) T
  have D_plus := ok_plus (w := w) T M
  have D_minus := ok_minus (w := w) T M
  have D_over := ok_over (w := w) T M
  have M_Weight_each_over := ok_w_each (P := P) (w := w) (base := base) T
  have M_Spread_each_over := ok_s_each (P := P) (w := w) (base := base) T
  refine T.f_top_between.ok sc_top_between (fun vs H Q E h => ?_) (fun f cdv A outer s H vs Q E hr h => ?_)
  · obtain ⟨_, _, _, _, _, _, _, _, rfl, _⟩ := h
    rfl
  · obtain ⟨_, _, a, l, ml, r, mr, Ls, rfl, ⟨p1, a1, c1, rfl, h1, f1, g1⟩, ⟨p2, a2, c2, rfl, h2, f2, g2⟩, ⟨vs, hl, pr⟩, bL, hlen, hlr, bl, br, bml, bmr, k⟩ := h
    refine ⟨_, (pss_cons (ps_set (i := 3) sc_top_between.nd rfl (Or.inl rfl) (pe_callB (call_sum rfl) (by rfl) T.b_sum PyProof.Rows.Boot.«sum» (pa_cons (pe_lc cs_top_between_c0 rfl (pi_list (pv 2)) (fun C ex s2 H2 => (pg_name (i := 0) nd_top_between_c0 rfl (Or.inl rfl) (Or.inr rfl))) (fun C ex s2 H2 => pts_nil) (fun C ex s2 H2 => (pe_lm (pv 0) T.n_Weight.cl T.n_Spread.cl M_Weight_each_over M_Spread_each_over (hr.mono (by decide)) (hr.mono (by decide)) pass0 (pa_cons (pe_ix (ix_tupK (K := K) rfl) (pv 1) pe_int (fun _ _ => rfl)) (pa_cons (pe_ix (ix_tupK (K := K) rfl) (pv 2) pe_int (fun _ _ => rfl)) pa_nil))))) pa_nil)))
      (pss_cons (ps_if (pt_cmpR op_le (pv 3) pe_int (nomark _))
        (pss_one (ps_ret pe_non))
        pss_nil)
      (pss_cons (ps_set (i := 4) sc_top_between.nd rfl (Or.inl rfl) (pe_def D_over (hr.mono (by decide)) rfl pass0 (pa_cons (pe_def D_plus (hr.mono (by decide)) rfl pass0 (pa_cons (pe_ix ix_tup (pv 0) pe_int (fun _ _ => rfl)) (pa_cons (pe_ix ix_tup (pv 1) pe_int (fun _ _ => rfl)) pa_nil))) (pa_cons (pe_tup (pa_cons pe_int (pa_cons pe_int pa_nil))) pa_nil))))
      (pss_cons (ps_set (i := 5) sc_top_between.nd rfl (Or.inl rfl) (pe_def D_over (hr.mono (by decide)) rfl pass0 (pa_cons (pe_def D_minus (hr.mono (by decide)) rfl pass0 (pa_cons (pe_ix ix_tup (pv 1) pe_int (fun _ _ => rfl)) (pa_cons (pe_ix ix_tup (pv 0) pe_int (fun _ _ => rfl)) pa_nil))) (pa_cons (pe_def D_minus (hr.mono (by decide)) rfl pass0 (pa_cons (pe_ix ix_tup (pv 1) pe_int (fun _ _ => rfl)) (pa_cons (pe_ix ix_tup (pv 0) pe_int (fun _ _ => rfl)) pa_nil))) pa_nil))))
      (pss_cons (ps_set (i := 6) sc_top_between.nd rfl (Or.inl rfl) (pe_def D_plus (hr.mono (by decide)) rfl pass0 (pa_cons (pv 4) (pa_cons (pe_def D_over (hr.mono (by decide)) rfl pass0 (pa_cons (pv 5) (pa_cons (pe_tup (pa_cons (pv 3) (pa_cons pe_int pa_nil))) pa_nil))) pa_nil))))
      (pss_cons (ps_if (PW.pt (pw_and (pt_val (pe_def D_under (hr.mono (by decide)) rfl pass0 (pa_cons (pe_ix ix_tup (pv 0) pe_int (fun _ _ => rfl)) (pa_cons (pv 6) pa_nil)))) (pw_and1 (pt_val (pe_def D_under (hr.mono (by decide)) rfl pass0 (pa_cons (pv 6) (pa_cons (pe_ix ix_tup (pv 1) pe_int (fun _ _ => rfl)) pa_nil)))))))
        (pss_one (ps_ret (pv 6)))
        pss_nil)
      (pss_one (ps_ret pe_non)))))))), ?_⟩
    walk_at "rds"
    refine rLc.for pr (Over.list hl) (IsLds.len pr (by omega)) (fun σ => ∃ c, σ = [c, some (.ref p1), some (.ref p2)]) (fun L _ y => y = .int (L.over l r)) (fun _ _ _ _ _ e => e) ⟨_, rfl⟩ ?_ ?_
    · rintro L v σ' H2 C1 mem isL s2 ⟨c, rfl⟩ k1
      have isL2 := isL.same' s2
      have bLL := bL L mem
      have h12 := s2 _ _ h1
      have h22 := s2 _ _ h2
      have f12 := f1.same s2
      have f22 := f2.same s2
      walk_at "rd"
      refine spEach.use isL2 f12 f22 bl br (by decide) bLL fun H3 s3 => ?_
      exact k1 _ _ _ ⟨_, rfl⟩ s3 rfl
    intro D ys H1 s1 _ hD1 pp
    have ey := paired_ints pp
    subst ey
    have bE : Bi 500 (Ls.map (Ld.over l r)).sum := (bi_sum (n := 300) fun x hx => by
      obtain ⟨L, hL, rfl⟩ := List.mem_map.mp hx
      exact bi_over (bL L hL)).mono (by rw [List.length_map]; omega)
    have bEq : Bq 501 (((Ls.map (Ld.over l r)).sum : Int) : Rat) := Bq.int bE
    have h11 := s1 _ _ h1
    have h21 := s1 _ _ h2
    have f11 := f1.same s1
    have f21 := f2.same s1
    have g11 := g1.same s1
    have g21 := g2.same s1
    have d0 : r - l ≠ 0 := by grind
    have two : Bq 65 ((2 : Int) : Rat) := Bq.int (n := 64) (Bi.lit (by decide))
    have two0 : ((2 : Int) : Rat) ≠ 0 := by decide
    walk_at "rd"
    generalize (List.map (Ld.over l r) Ls).sum = E' at *
    refine decI (fun z => ?_) (fun z => ?_)
    · walk_at "rd"
      exact (k H1 s1).1 (.inl z)
    have e0 : (E' : Rat) ≠ 0 := by
      have : E' ≠ 0 := by omega
      exact_mod_cast this
    walk_at "rd"
    intro va Ha sa fa ba
    walk_at "rd"
    rename_i w2 Hb sb fb
    intro vh Hh sh' fh bh
    have c2 : ((2 : Int) : Rat) = 2 := rfl
    rw [c2] at fh bh
    have h1h := (sa.trans (sb.trans sh')) _ _ h11
    have h2h := (sa.trans (sb.trans sh')) _ _ h21
    walk_at "rd"
    intro vd1 Hd1 sd1 fd1 bd1
    have h1d := sd1 _ _ h1h
    have h2d := sd1 _ _ h2h
    walk_at "rd"
    intro vd2 Hd2 sd2 fd2 bd2
    walk_at "rd"
    intro vr Hr sr fr' br'
    walk_at "rd"
    rename_i we Hc sc fc
    intro vq Hq sq fq bq
    walk_at "rd"
    intro vt Ht st ft bt
    have bt' := bt.mono (show _ ≤ 370000 by omega)
    have sAll := (((s1.trans sa).trans (sb.trans sh')).trans (sd1.trans sd2)).trans (((sr.trans sc).trans sq).trans st)
    have sAll1 := ((sa.trans (sb.trans sh')).trans (sd1.trans sd2)).trans (((sr.trans sc).trans sq).trans st)
    have h1t := sAll1 _ _ h11
    have h2t := sAll1 _ _ h21
    have f1t := f11.same sAll1
    have f2t := f21.same sAll1
    walk_at "rd"
    refine decI (fun z1 => ?_) (fun z1 => ?_)
    · walk_at "rd"
      refine decI (fun z2 => ?_) (fun z2 => ?_)
      · walk_at "rd"
        exact (k Ht sAll).2 (by omega) z1 z2 vt ft bt'
      · walk_at "rd"
        exact (k Ht sAll).1 (.inr fun q => z2 q.2)
    · walk_at "rd"
      exact (k Ht sAll).1 (.inr fun q => z1 q.1)
/-- the places at which the turning is cut -/
def cutsFor (s e : Rat) (rs : List Int) (Ls : List Ld) (cs : List Rat) : Prop := (¬ s < e → cs = []) ∧ (s < e → (s :: cs).Pairwise (· < ·) ∧ (∃ ini, cs = ini ++ [e]) ∧ ∀ p : Int, (p ∈ rs ∨ ∃ L ∈ Ls, p ∈ L.edges) → (p : Rat) ∈ s :: cs ∨ (p : Rat) ≤ s ∨ e ≤ (p : Rat))
def spCuts (K : PySem.W.Frag) (CW CS : Addr) : Sp := fun vs H Q _ => ∃ (t l : Addr) (x y : V) (rs : List Int) (Ls : List Ld) (s e : Rat), vs = [.ref t, .ref l, x, y] ∧ H t = some (.tup (rs.map V.int)) ∧ IsLds K CW CS H l Ls ∧ IsFr H x s ∧ IsFr H y e ∧ Bq 1000 s ∧ Bq 1000 e ∧ rs.length ≤ 3 ∧ Ls.length ≤ 100 ∧ (∀ x ∈ rs, Bi 300 x) ∧ BLs 300 Ls ∧ (∀ ks : List Int, ks.Nodup → (∀ k ∈ ks, k ∈ rs ∨ ∃ L ∈ Ls, k ∈ L.edges) → ks.length < 64) ∧
  ∀ a H' cs, Same H H' → H a = none → IsFrs H' a cs → cutsFor s e rs Ls cs → (∀ c ∈ cs, Bq 1000 c) → Q (.ref a) H'
theorem spCuts.use {CW CS : Addr} {H : Hp} {Q : VK} {E : XK} {t l : Addr} {x y : V} {rs : List Int} {Ls : List Ld} {s e : Rat} (h1 : H t = some (.tup (rs.map V.int))) (h2 : IsLds K CW CS H l Ls) (h3 : IsFr H x s) (h4 : IsFr H y e) (b1 : Bq 1000 s) (b2 : Bq 1000 e) (e1 : rs.length ≤ 3) (e2 : Ls.length ≤ 100) (b3 : ∀ x ∈ rs, Bi 300 x) (b4 : BLs 300 Ls) (few : ∀ ks : List Int, ks.Nodup → (∀ k ∈ ks, k ∈ rs ∨ ∃ L ∈ Ls, k ∈ L.edges) → ks.length < 64)
    (k : ∀ a H' cs, Same H H' → H a = none → IsFrs H' a cs → cutsFor s e rs Ls cs → (∀ c ∈ cs, Bq 1000 c) → Q (.ref a) H') : spCuts K CW CS [.ref t, .ref l, x, y] H Q E := ⟨t, l, x, y, rs, Ls, s, e, rfl, h1, h2, h3, h4, b1, b2, e1, e2, b3, b4, few, k⟩
theorem filt_int {s e : Rat} : ∀ ks : List Int, List.filter (fun x : V => match x with | .int z => decide (s < (z : Rat)) && decide ((z : Rat) < e) | _ => false) (ks.map V.int) = (ks.filter fun (z : Int) => decide (s < (z : Rat)) && decide ((z : Rat) < e)).map V.int
  | [] => rfl
  | k :: ks => by
    rw [List.map_cons, List.filter_cons, List.filter_cons, filt_int ks]
    show (if (decide (s < (k : Rat)) && decide ((k : Rat) < e)) = true then _ else _) = _
    split <;> rfl
theorem paired_fr {H : Hp} : ∀ {zs : List Int} {ys : List V}, Paired (fun (x : V) y => ∃ z : Int, x = .int z ∧ IsFr H y (z : Rat)) (zs.map V.int) ys → Paired (IsFr H) ys (zs.map fun (z : Int) => (z : Rat))
  | [], _, .nil => .nil
  | z :: zs, _, .cons ⟨z', e, h⟩ t => by
    cases e
    exact .cons h (paired_fr t)
theorem edges_len (L : Ld) : L.edges.length ≤ 2 := by
  cases L <;> simp [Ld.edges]
theorem bi_edge {L : Ld} (h : L.b 300) : ∀ p ∈ L.edges, Bi 300 p := fun p hp => by
  cases L with
  | w a z =>
    simp only [Ld.edges, List.mem_cons, List.not_mem_nil, or_false] at hp
    rw [hp]
    exact h.1
  | s a e k =>
    simp only [Ld.edges, List.mem_cons, List.not_mem_nil, or_false] at hp
    rcases hp with rfl | rfl
    · exact h.1
    · exact h.2.1
theorem ok_cuts_after (T : Txt K mg ad) : Def P w K mg base CX0 43 "cuts_after" ["rests", "loads", "start", "end"] (spCuts K ad.c_Weight ad.c_Spread) := by
  have D_under := ok_under (P := P) (w := w) (base := base) T
  have M_Weight_edges := ok_w_edges (P := P) (w := w) (base := base) T
  have M_Spread_edges := ok_s_edges (P := P) (w := w) (base := base) T
  refine T.f_cuts_after.ok sc_cuts_after (fun vs H Q E h => ?_) (fun f cdv A outer s H vs Q E hr h => ?_)
  · obtain ⟨_, _, _, _, _, _, _, _, rfl, _⟩ := h
    rfl
  · obtain ⟨t, l, x, y, rs, Ls, s0, e0, rfl, ht, ⟨vs, hl, pr⟩, hx, hy, bs, be, hrs, hlen, brs, bL, few, k⟩ := h
    refine ⟨_, (pss_cons (ps_if (pt_not (pt_val (pe_def D_under (hr.mono (by decide)) rfl pass0 (pa_cons (pv 2) (pa_cons (pv 3) pa_nil)))))
        (pss_one (ps_ret (pe_lst pa_nil)))
        pss_nil)
      (pss_cons (ps_set (i := 4) sc_cuts_after.nd rfl (Or.inl rfl) (pe_callTy call_list' (by rfl) T.b_list PyProof.Rows.Boot.«list» (pa_cons (pv 0) pa_nil)))
      (pss_cons (ps_for PassesOwn.never rfl (pi_list (pv 1)) (pg_name (i := 5) sc_cuts_after.nd rfl (Or.inl rfl))
        (pss_one (ps_expr (pe_bm PySem.F.plainAttrs_list PySem.F.slot_list_extend PySem.F.type_list_extend mt_extend (pv 4) (pa_cons (pe_lm0 (pv 5) T.n_Weight.cl T.n_Spread.cl M_Weight_edges M_Spread_edges (hr.mono (by decide)) (hr.mono (by decide)) pass0) pa_nil)))))
      (pss_cons (ps_lc (i := 6) cs_cuts_after_c0 rfl (pi_list (pe_sset rfl T.b_sorted rfl T.b_set hr.hd (pa_cons (pv 4) pa_nil))) (fun C ex s2 H2 => (pg_name (i := 0) nd_cuts_after_c0 rfl (Or.inl rfl) (Or.inr rfl))) (fun C ex s2 H2 => pts_one (PW.pt (pw_and (pt_val (pe_def D_under (hr.mono (by decide)) rfl pass0 (pa_cons (pv 2) (pa_cons (pe_tup (pa_cons (pv 0) (pa_cons pe_int pa_nil))) pa_nil)))) (pw_and1 (pt_val (pe_def D_under (hr.mono (by decide)) rfl pass0 (pa_cons (pe_tup (pa_cons (pv 0) (pa_cons pe_int pa_nil))) (pa_cons (pv 1) pa_nil)))))))) (fun C ex s2 H2 => (pe_tup (pa_cons (pv 0) (pa_cons pe_int pa_nil)))) sc_cuts_after.nd rfl rfl)
      (pss_one (ps_ret (pe_op op_cat (pv 6) (pe_lst (pa_cons (pv 3) pa_nil))))))))), ?_⟩
    walk_at "rds"
    by_cases c : s0 < e0
    case neg =>
      refine ite_nt c ?_
      walk_at "rd"
      refine rLst.mk' (by show 0 ≤ sizeLine; decide) fun b H1 s1 n1 h1 => ?_
      exact k b H1 [] s1 n1 ⟨[], h1, .nil⟩ ⟨fun _ => rfl, fun z => absurd z c⟩ (fun c hc => by cases hc)
    refine ite_nf c ?_
    walk_at "rd"
    refine rListOf.t ht fun b H1 s1 n1 h1 => ?_
    walk_at "rd"
    refine rFor.over (H0 := H) (Over.list hl) (fun i σ H' => Same H H' ∧ ∃ xs x1, σ = [some (.ref t), some (.ref l), some x, some y, some (.ref b), x1, none] ∧ H' b = some (.lst (xs.map V.int)) ∧ xs.length ≤ 3 + 2 * i ∧ ∀ p, p ∈ xs ↔ p ∈ rs ∨ ∃ L ∈ Ls.take i, p ∈ L.edges) ⟨s1, rs, none, rfl, h1, by omega, fun p => by simp⟩ (fun i σ H' p => p.1) ?_ ?_
    · rintro i v σ H2 H3 hi ⟨sm, xs, x1, rfl, hb, lx, mem⟩ s3 hv
      obtain ⟨L, hL, isL⟩ := Paired.get pr hv
      have isL3 := isL.same' (sm.trans s3)
      have hb3 := s3 _ _ hb
      rw [pr.length] at hi
      walk_at "rd"
      intro l2 H4 s4 _ h4
      walk_at "rd"
      have el := edges_len L
      refine rExtend.use (s4 _ _ hb3) h4 (by rw [List.length_map, List.length_map]; omega) fun H5 k5 h5 => ?_
      rw [← List.map_append] at h5
      refine ⟨((sm.trans s3).trans s4).past n1 k5, xs ++ L.edges, _, rfl, h5, by rw [List.length_append]; omega, fun p => ?_⟩
      rw [List.mem_append, mem p, List.take_succ, hL]
      constructor
      · rintro ((q | ⟨M, hM, q⟩) | q)
        · exact .inl q
        · exact .inr ⟨M, List.mem_append_left _ hM, q⟩
        · exact .inr ⟨L, List.mem_append_right _ (by simp), q⟩
      · rintro (q | ⟨M, hM, q⟩)
        · exact .inl (.inl q)
        · rcases List.mem_append.mp hM with hM | hM
          · exact .inl (.inr ⟨M, hM, q⟩)
          · simp at hM
            subst hM
            exact .inr q
    rintro σ H2 ⟨sm, xs, x1, rfl, hb, lx, mem⟩
    rw [pr.length] at lx mem
    rw [List.take_length] at mem
    walk_at "rd"
    refine sset_many (SqL.of hb) (by omega) (fun ks nd mk => few ks nd fun q hq => (mem q).mp ((mk q).mp hq)) fun lk H3 ks s3 n3 up mk h3 => ?_
    have s03 := sm.trans s3
    have hx3 := hx.same s03
    have hy3 := hy.same s03
    have bk : ∀ z ∈ ks, Bi 300 z := fun z hz => by
      rcases (mem z).mp ((mk z).mp hz) with q | ⟨L, hL, q⟩
      · exact brs z q
      · exact bi_edge (bL L hL) z q
    have lk64 := few ks (up.imp fun h => Int.ne_of_lt h) fun q hq => (mem q).mp ((mk q).mp hq)
    walk_at "rd"
    refine rLc.things (xs := ks.map V.int) (Over.list (SqL.of h3)) (by rw [List.length_map]; exact Nat.le_of_lt (small1000 (by omega))) (fun σ => ∃ c, σ = [c, some y, some x]) (fun x' H' y' => ∃ z : Int, x' = .int z ∧ IsFr H' y' (z : Rat)) (fun x' => match x' with | .int z => decide (s0 < (z : Rat)) && decide ((z : Rat) < e0) | _ => false) (fun _ _ _ _ n ⟨z, e, f⟩ => ⟨z, e, f.nl n⟩) ⟨_, rfl⟩ ?_ ?_
    · rintro x' σ' H5 C1 C2 hx' s5 ⟨o, rfl⟩ k1' k2'
      obtain ⟨z, hz, rfl⟩ := List.mem_map.mp hx'
      have bz := bk z hz
      have hx5 := hx3.same s5
      have hy5 := hy3.same s5
      walk_at "rd"
      rename_i va Ha sa fa
      refine decI (fun c1 => ?_) (fun c1 => ?_)
      · walk_at "rd"
        rename_i vb Hb sb fb
        refine decI (fun c2 => ?_) (fun c2 => ?_)
        · walk_at "rd"
          rename_i vc Hc sc fc
          exact k1' _ _ _ ⟨_, rfl⟩ ((sa.trans sb).trans sc) (by simp [c1, c2]) ⟨z, rfl, fc⟩
        · exact k2' _ _ ⟨_, rfl⟩ (sa.trans sb) (by simp [c2])
      · exact k2' _ _ ⟨_, rfl⟩ sa (by simp [c1])
    intro D ys H4 s4 _ h4 py
    rw [filt_int] at py
    have pf := paired_fr py
    walk_at "rd"
    refine rLst.mk' (by show 1 ≤ sizeLine; decide) fun l1 H5 s5 _ h5 => ?_
    walk_at "rd"
    have ly : ys.length ≤ 64 := by
      rw [pf.length, List.length_map]
      exact Nat.le_trans (List.length_filter_le _ _) (by omega)
    refine cat_use (s5 _ _ h4) h5 (Nat.le_of_lt (small1000 (by simp only [List.length_cons, List.length_nil]; omega))) fun l2 H6 s6 n6 h6 => ?_
    have s35 := (s03.trans s4).trans s5
    have hz : ∀ q, q ∈ (ks.filter fun (z : Int) => decide (s0 < (z : Rat)) && decide ((z : Rat) < e0)) ↔ q ∈ ks ∧ s0 < (q : Rat) ∧ (q : Rat) < e0 := fun q => by
      rw [List.mem_filter]
      simp
    have upz : (ks.filter fun (z : Int) => decide (s0 < (z : Rat)) && decide ((z : Rat) < e0)).Pairwise (· < ·) := up.sublist List.filter_sublist
    generalize (ks.filter fun (z : Int) => decide (s0 < (z : Rat)) && decide ((z : Rat) < e0)) = zs at *
    refine k l2 H6 (zs.map (fun (z : Int) => (z : Rat)) ++ [e0]) (s35.trans s6) (s35.free n6) ⟨_, h6, (Paired.imp' (fun _ _ x => x.same (s5.trans s6)) pf).snoc ((hy3.same s4).same (s5.trans s6))⟩ ⟨fun z => absurd c z, fun _ => ⟨?_, ⟨_, rfl⟩, fun p hp => ?_⟩⟩ fun q hq => ?_
    · rw [List.pairwise_cons]
      refine ⟨fun a ha => ?_, ?_⟩
      · rcases List.mem_append.mp ha with ha | ha
        · obtain ⟨z, hz', rfl⟩ := List.mem_map.mp ha
          exact ((hz z).mp hz').2.1
        · rw [List.mem_singleton.mp ha]
          exact c
      · rw [List.pairwise_append]
        refine ⟨?_, by simp, fun a ha b hb => ?_⟩
        · rw [List.pairwise_map]
          exact upz.imp fun h => by exact_mod_cast h
        · obtain ⟨z, hz', rfl⟩ := List.mem_map.mp ha
          rw [List.mem_singleton.mp hb]
          exact ((hz z).mp hz').2.2
    · have hk : p ∈ ks := (mk p).mpr ((mem p).mpr hp)
      rcases lt_or_le s0 (p : Rat) with q1 | q1
      · rcases lt_or_le (p : Rat) e0 with q2 | q2
        · exact .inl (List.mem_cons_of_mem _ (List.mem_append_left _ (List.mem_map.mpr ⟨p, (hz p).mpr ⟨hk, q1, q2⟩, rfl⟩)))
        · exact .inr (.inr q2)
      · exact .inr (.inl q1)
    · rcases List.mem_append.mp hq with hq | hq
      · obtain ⟨z, hz', rfl⟩ := List.mem_map.mp hq
        exact (Bq.int (bk z ((hz z).mp hz').1)).mono (by decide)
      · rw [List.mem_singleton.mp hq]
        exact be
/-- where the turning is greatest, or OffBeam -/
def fewE (rs : List Int) (Ls : List Ld) : Prop := ∀ ks : List Int, ks.Nodup → (∀ k ∈ ks, k ∈ rs ∨ ∃ L ∈ Ls, k ∈ L.edges) → ks.length < 64
def spGreatest (K : PySem.W.Frag) (CW CS CB c : Addr) : Sp := fun vs H Q E => ∃ (v : V) (l : Addr) (x y : V) (Ls : List Ld) (len : Int) (r : List Int) (p q : Rat), vs = [v, .ref l, x, y] ∧ IsBm CB H v len r ∧ goodR len r ∧ Bi 300 len ∧ (∀ x ∈ r, Bi 300 x) ∧ IsLds K CW CS H l Ls ∧ BLs 300 Ls ∧ Ls.length ≤ 100 ∧ fewE r Ls ∧ (∀ L ∈ Ls, L.ok) ∧ IsFr H x p ∧ IsFr H y q ∧ Bq 1000 p ∧ Bq 1000 q ∧
  (((∀ L ∈ Ls, L.on len) ∧ onS len p q ∧ ∀ v' H' t, Same H H' → IsPt H' v' t (turnOf r (bearsOf r Ls) Ls t) → Top (fun t => turnOf r (bearsOf r Ls) Ls t) p q t → Bq 370000 t → Bq 9000000 (turnOf r (bearsOf r Ls) Ls t) → Q v' H') ∨ (¬ ((∀ L ∈ Ls, L.on len) ∧ onS len p q) ∧ ∀ H', Same H H' → E (.ref c) none H'))
theorem spGreatest.use {CW CS CB c : Addr} {H : Hp} {Q : VK} {E : XK} {v x y : V} {l : Addr} {Ls : List Ld} {len : Int} {r : List Int} {p q : Rat} (hb : IsBm CB H v len r) (g : goodR len r) (bl : Bi 300 len) (br : ∀ x ∈ r, Bi 300 x) (h : IsLds K CW CS H l Ls) (b : BLs 300 Ls) (hl : Ls.length ≤ 100) (few : fewE r Ls) (ok : ∀ L ∈ Ls, L.ok) (hx : IsFr H x p) (hy : IsFr H y q) (bp : Bq 1000 p) (bq : Bq 1000 q) (on : ∀ L ∈ Ls, L.on len) (o : onS len p q)
    (k : ∀ v' H' t, Same H H' → IsPt H' v' t (turnOf r (bearsOf r Ls) Ls t) → Top (fun t => turnOf r (bearsOf r Ls) Ls t) p q t → Bq 370000 t → Bq 9000000 (turnOf r (bearsOf r Ls) Ls t) → Q v' H') : spGreatest K CW CS CB c [v, .ref l, x, y] H Q E := ⟨v, l, x, y, Ls, len, r, p, q, rfl, hb, g, bl, br, h, b, hl, few, ok, hx, hy, bp, bq, .inl ⟨on, o, k⟩⟩
theorem IsPt.pick {F : Rat → Rat} {H : Hp} {v1 v2 : V} {x y : Rat} (h1 : IsPt H v1 x (F x)) (h2 : IsPt H v2 y (F y)) : IsPt H (if F x < F y then v2 else v1) (pickT F x y) (F (pickT F x y)) := by
  unfold pickT
  split
  · exact h2
  · exact h1
theorem bq_pick {F : Rat → Rat} {n m : Nat} {x y : Rat} (h1 : Bq n x ∧ Bq m (F x)) (h2 : Bq n y ∧ Bq m (F y)) : Bq n (pickT F x y) ∧ Bq m (F (pickT F x y)) := by
  unfold pickT
  split
  · exact h2
  · exact h1
theorem ok_greatest (T : Txt K mg ad) (M : Md P base) : Def P w K mg base (CXE P w) 50 "greatest" ["beam", "loads", "start", "end"] (spGreatest K ad.c_Weight ad.c_Spread ad.c_Beam ad.c_OffBeam) := by
  have M_Beam_bears := ok_bears (w := w) T M
  have D_check_stretch := ok_check_stretch (P := P) (w := w) (base := base) T
  have D_turning_at := ok_turning_at (w := w) T M
  have D_cuts_after := ok_cuts_after (P := P) (w := w) (base := base) T
  have D_top_between := ok_top_between (w := w) T M
  have D_greater := ok_greater (P := P) (w := w) (base := base) T
  refine T.f_greatest.okE sc_greatest (fun vs H Q E h => ?_) (fun f cdv A outer s H vs Q E hr h => ?_)
  · obtain ⟨_, _, _, _, _, _, _, _, _, rfl, _⟩ := h
    rfl
  · obtain ⟨v, l, x, y, Ls, len, rs, p, q, rfl, hb, g, bl, br, hl, bL, hlen, few, okL, hx, hy, bp, bq, k⟩ := h
    refine ⟨_, (pss_cons (ps_set (i := 4) sc_greatest.nd rfl (Or.inl rfl) (pe_mth (pv 0) T.n_Beam.cl M_Beam_bears (hr.mono (by decide)) (passE (fun _ _ _ z => z)) (pa_cons (pv 1) pa_nil)))
      (pss_cons (ps_expr (pe_def D_check_stretch (hr.mono (by decide)) rfl (passE (fun _ _ _ z => z)) (pa_cons (pv 0) (pa_cons (pv 2) (pa_cons (pv 3) pa_nil)))))
      (pss_cons (ps_set (i := 5) sc_greatest.nd rfl (Or.inl rfl) (pe_tup (pa_cons (pv 2) (pa_cons (pe_def D_turning_at (hr.mono (by decide)) rfl pass0 (pa_cons (pe_fld (pv 0) rfl) (pa_cons (pv 4) (pa_cons (pv 1) (pa_cons (pv 2) pa_nil))))) pa_nil))))
      (pss_cons (ps_set (i := 6) sc_greatest.nd rfl (Or.inl rfl) (pv 5))
      (pss_cons (ps_for PassesOwn.leaving rfl (pi_list (pe_def D_cuts_after (hr.mono (by decide)) rfl pass0 (pa_cons (pe_fld (pv 0) rfl) (pa_cons (pv 1) (pa_cons (pv 2) (pa_cons (pv 3) pa_nil)))))) (pg_name (i := 7) sc_greatest.nd rfl (Or.inl rfl))
        (pss_cons (ps_set (i := 8) sc_greatest.nd rfl (Or.inl rfl) (pe_tup (pa_cons (pv 7) (pa_cons (pe_def D_turning_at (hr.mono (by decide)) rfl pass0 (pa_cons (pe_fld (pv 0) rfl) (pa_cons (pv 4) (pa_cons (pv 1) (pa_cons (pv 7) pa_nil))))) pa_nil))))
        (pss_cons (ps_set (i := 9) sc_greatest.nd rfl (Or.inl rfl) (pe_def D_top_between (hr.mono (by decide)) rfl pass0 (pa_cons (pv 6) (pa_cons (pv 8) (pa_cons (pv 1) pa_nil)))))
        (pss_cons (ps_if (pt_cmpR op_notN' (pv 9) pe_non (nomark _))
          (pss_one (ps_set (i := 5) sc_greatest.nd rfl (Or.inl rfl) (pe_def D_greater (hr.mono (by decide)) rfl pass0 (pa_cons (pv 5) (pa_cons (pe_tup (pa_cons (pv 9) (pa_cons (pe_def D_turning_at (hr.mono (by decide)) rfl pass0 (pa_cons (pe_fld (pv 0) rfl) (pa_cons (pv 4) (pa_cons (pv 1) (pa_cons (pv 9) pa_nil))))) pa_nil))) pa_nil)))))
          pss_nil)
        (pss_cons (ps_set (i := 5) sc_greatest.nd rfl (Or.inl rfl) (pe_def D_greater (hr.mono (by decide)) rfl pass0 (pa_cons (pv 5) (pa_cons (pv 8) pa_nil))))
        (pss_one (ps_set (i := 6) sc_greatest.nd rfl (Or.inl rfl) (pv 8))))))))
      (pss_one (ps_ret (pv 5)))))))), ?_⟩
    walk_at "rds"
    refine hb.mth ?_
    walk_at "rd"
    refine ⟨v, l, Ls, len, rs, rfl, hb, g, br, hl, bL, hlen, ?_⟩
    by_cases on : ∀ L ∈ Ls, L.on len
    case neg =>
      have off : ∃ L ∈ Ls, ¬ L.on len := by
        have := on
        simp only [Classical.not_forall] at this
        obtain ⟨L, hL, hn⟩ := this
        exact ⟨L, hL, hn⟩
      rcases k with ⟨on', _⟩ | ⟨_, k⟩
      · exact absurd on' on
      · exact .inr ⟨off, k⟩
    refine .inl ⟨on, fun a H1 s1 _ fr bf => ?_⟩
    walk_at "rd"
    have hb1 := hb.same' s1
    have hx1 := hx.same s1
    have hy1 := hy.same s1
    refine ⟨v, x, y, len, rs, p, q, 1000, 1000, rfl, hb1, hx1, hy1, bp, bq, by decide, bl, ?_⟩
    by_cases o : onS len p q
    case neg =>
      rcases k with ⟨_, o', _⟩ | ⟨_, k⟩
      · exact absurd o' o
      · exact .inr ⟨o, fun H' s => k H' (s1.trans s)⟩
    refine .inl ⟨o, fun H2 s2 => ?_⟩
    rcases k with ⟨_, _, k⟩ | ⟨z, _⟩
    case inr => exact absurd ⟨on, o⟩ z
    have bsm := bears_small g br bL hlen
    obtain ⟨e1, e2⟩ := good_len g Ls
    generalize hqs : bearsOf rs Ls = qs at *
    obtain ⟨F, eF⟩ : ∃ F : Rat → Rat, F = fun t => turnOf rs qs Ls t := ⟨_, rfl⟩
    have eF' : ∀ t, turnOf rs qs Ls t = F t := fun t => by rw [eF]
    have hb2 := hb1.same' s2
    have fr2 := fr.same' s2
    have hl2 := hl.same' (s1.trans s2)
    have hx2 := hx1.same s2
    have hy2 := hy1.same s2
    walk_at "rd"
    rename_i pt hpt
    refine spTurnAt.use hpt fr2 hl2 hx2 e1 e2 br bsm bL hlen bp (by decide) (by decide) (by decide) fun v3 H3 s3 f3 b3 => ?_
    rw [eF'] at f3 b3
    walk_at "rd"
    refine rTup.mk' (by show 2 ≤ sizeLine; decide) fun t4 H4 s4 n4 h4 => ?_
    have hb4 := hb2.same' (s3.trans s4)
    walk_at "rd"
    rename_i pt2 hpt2
    have s24 := s3.trans s4
    refine spCuts.use hpt2 (hl2.same' s24) (hx2.same s24) (hy2.same s24) bp bq e2 hlen br bL few fun ca H5 cs s5 n5 frc cf bc => ?_
    obtain ⟨vc, hc, pc⟩ := frc
    have s25 := s24.trans s5
    have pt5 : IsPt H5 (.ref t4) p (F p) := ⟨t4, x, v3, rfl, s5 _ _ h4, hx2.same s25, f3.same (s4.trans s5)⟩
    have b3' : Bq 180000 (F p) := b3.mono (by decide)
    walk_at "rd"
    refine rFor.over (Over.list (SqL.of hc)) (fun i σ H' => Same H5 H' ∧ ∃ vb vl x1 x2 x3 t, σ = [some v, some (.ref l), some x, some y, some (.ref a), some vb, some vl, x1, x2, x3] ∧ IsPt H' vb t (F t) ∧ Top F p ((p :: cs).getD i p) t ∧ (Bq 370000 t ∧ Bq 9000000 (F t)) ∧ IsPt H' vl ((p :: cs).getD i p) (F ((p :: cs).getD i p)) ∧ Bq 180000 (F ((p :: cs).getD i p))) ⟨Same.refl _, _, _, none, none, none, p, rfl, pt5, Top.self, ⟨bp.mono (by decide), b3'.mono (by decide)⟩, pt5, b3'⟩ (fun i σ H' p => p.1) ?_ ?_
    · rintro i vcut σ H6 H7 hi ⟨sm, vb, vl, x1, x2, x3, t, rfl, ptb, top, btt, ptl, bll⟩ s7 hv
      obtain ⟨r, hr, fr7⟩ := Paired.get pc hv
      have hic : i < cs.length := (List.getElem?_eq_some_iff.mp hr).1
      have hlt : p < q := Classical.byContradiction fun z => by
        have := cf.1 z
        rw [this] at hic
        simp at hic
      obtain ⟨up, ⟨ini, ecs⟩, mem⟩ := cf.2 hlt
      obtain ⟨lq, hlq, elq⟩ : ∃ lq, (p :: cs)[i]? = some lq ∧ (p :: cs).getD i p = lq := by
        have h1 : i < (p :: cs).length := by simp; omega
        exact ⟨_, List.getElem?_eq_getElem h1, by rw [List.getD_eq_getElem?_getD, List.getElem?_eq_getElem h1]; rfl⟩
      have hr' : (p :: cs)[i + 1]? = some r := by rw [List.getElem?_cons_succ]; exact hr
      have er : (p :: cs).getD (i + 1) p = r := by rw [List.getD_eq_getElem?_getD, hr']; rfl
      rw [elq] at top ptl bll
      rw [er]
      obtain ⟨hlr, nb⟩ := nbr up hlq hr'
      have mlq : lq ∈ p :: cs := List.mem_of_getElem? hlq
      have mr : r ∈ cs := List.mem_of_getElem? hr
      rw [List.pairwise_cons] at up
      have ple : p ≤ lq := by
        rcases List.mem_cons.mp mlq with e | e
        · rw [e]
          exact Rat.le_refl
        · exact Rat.le_of_lt (up.1 lq e)
      have rle : r ≤ q := by
        have u2 := up.2
        rw [ecs] at u2 mr
        rw [List.pairwise_append] at u2
        rcases List.mem_append.mp mr with e | e
        · exact Rat.le_of_lt (u2.2.2 r e q (by simp))
        · rw [List.mem_singleton.mp e]
          exact Rat.le_refl
      have blq : Bq 1000 lq := by
        rcases List.mem_cons.mp mlq with e | e
        · rw [e]
          exact bp
        · exact bc lq e
      have brr := bc r mr
      have side : ∀ z : Int, (z ∈ rs ∨ ∃ L ∈ Ls, z ∈ L.edges) → (z : Rat) ≤ lq ∨ r ≤ (z : Rat) := fun z hz => by
        rcases mem z hz with e | e | e
        · exact nb _ e
        · exact .inl (Rat.le_trans e ple)
        · exact .inr (Rat.le_trans rle e)
      have quad : Quad F lq r (-(((Ls.map (Ld.over lq r)).sum : Int) : Rat)) := by
        rw [eF]
        exact Quad.turn hlr okL (fun z hz => side z (.inl hz)) (fun L hL z hz => side z (.inr ⟨L, hL, hz⟩))
      have s57 := sm.trans s7
      have s27 := s25.trans s57
      have hb7 := hb2.same' s27
      walk_at "rd"
      rename_i pt3 hpt3
      refine spTurnAt.use hpt3 (fr2.same' s27) (hl2.same' s27) (fr7.same s57) e1 e2 br bsm bL hlen brr (by decide) (by decide) (by decide) fun v8 H8 s8 f8 b8 => ?_
      rw [eF'] at f8 b8
      have b8' : Bq 180000 (F r) := b8.mono (by decide)
      walk_at "rd"
      refine rTup.mk' (by show 2 ≤ sizeLine; decide) fun t9 H9 s9 n9 h9 => ?_
      have s79 := s8.trans s9
      have s29 := s27.trans s79
      have pth : IsPt H9 (.ref t9) r (F r) := ⟨t9, vcut, v8, rfl, h9, (fr7.same s57).same s79, f8.same s9⟩
      have ptl9 := ptl.same (s7.trans s79)
      have ptb9 := ptb.same (s7.trans s79)
      walk_at "rd"
      refine ⟨vl, .ref t9, l, lq, F lq, r, F r, Ls, rfl, ptl9, pth, hl2.same' s29, bL, hlen, hlr, blq, brr, bll, b8', fun H10 s10 => ⟨fun hn => ?_, fun hE h1 h2 vt ft bt => ?_⟩⟩
      · walk_at "rd"
        refine spGreater.use (ptb9.same s10) (pth.same s10) btt.2 b8' (by decide) ?_
        walk_at "rd"
        refine ⟨(s57.trans s79).trans s10, _, _, _, _, _, pickT F t r, rfl, (ptb9.same s10).pick (pth.same s10), ?_, bq_pick btt ⟨brr.mono (by decide), b8'.mono (by decide)⟩, pth.same s10, b8'⟩
        refine top_step top hlr ?_
        rcases lt_or_le 0 (((Ls.map (Ld.over lq r)).sum : Int) : Rat) with c | c
        · refine peak_out hlr c quad ?_
          rcases hn with z | z
          · have : (((Ls.map (Ld.over lq r)).sum : Int) : Rat) ≤ 0 := by exact_mod_cast z
            grind
          · exact z
        · exact flat_in quad c
      · obtain ⟨pv, rfl, _⟩ := id ft
        have hb10 := hb7.same' (s79.trans s10)
        walk_at "rd"
        rename_i pt4 hpt4
        have s210 := s29.trans s10
        refine spTurnAt.use hpt4 (fr2.same' s210) (hl2.same' s210) ft e1 e2 br bsm bL hlen bt (by decide) (by decide) (by decide) fun v11 H11 s11 f11 b11 => ?_
        rw [eF'] at f11 b11
        walk_at "rd"
        refine rTup.mk' (by show 2 ≤ sizeLine; decide) fun t12 H12 s12 n12 h12 => ?_
        have s1012 := s11.trans s12
        have ptt : IsPt H12 (.ref t12) _ _ := ⟨t12, _, v11, rfl, h12, ft.same s1012, f11.same s12⟩
        have bT : Bq 9000000 (F ((lq + r) / 2 + (F r - F lq) / (r - lq) / (((Ls.map (Ld.over lq r)).sum : Int) : Rat))) := b11.mono (by decide)
        walk_at "rd"
        refine spGreater.use ((ptb9.same s10).same s1012) ptt btt.2 bT (by decide) ?_
        walk_at "rd"
        have ptb12 := ((ptb9.same s10).same s1012).pick ptt
        have bb12 := bq_pick btt ⟨bt, bT⟩
        refine spGreater.use ptb12 ((pth.same s10).same s1012) bb12.2 b8' (by decide) ?_
        walk_at "rd"
        refine ⟨((s57.trans s79).trans s10).trans s1012, _, _, _, _, _, _, rfl, ptb12.pick ((pth.same s10).same s1012), ?_, bq_pick bb12 ⟨brr.mono (by decide), b8'.mono (by decide)⟩, (pth.same s10).same s1012, b8'⟩
        have c : (0 : Rat) < (((Ls.map (Ld.over lq r)).sum : Int) : Rat) := by exact_mod_cast hE
        exact top_peak top h1 h2 (peak_in hlr c quad h1 h2)
    · rintro σ H6 ⟨sm, vb, vl, x1, x2, x3, t, rfl, ptb, top, btt, ptl, bll⟩
      rw [pc.length] at top
      have eq : (p :: cs).getD cs.length p = q := by
        by_cases hlt : p < q
        · obtain ⟨up, ⟨ini, ecs⟩, mem⟩ := cf.2 hlt
          rw [ecs, List.getD_eq_getElem?_getD]
          simp
        · have e := cf.1 hlt
          rw [e]
          have := o.2.2
          show p = q
          grind
      rw [eq] at top
      walk_at "rd"
      have kk := k vb H6 t (((s1.trans s2).trans s25).trans sm)
      rw [eF'] at kk
      refine kk ptb ?_ btt.1 btt.2
      rw [← eF]
      exact top
/-! ### the law's defs that all laws share -/
def cell (ns : List Int) (k : Nat) : Int := ns.getD k 0
def spCell (K : PySem.W.Frag) : Sp := fun vs H Q _ => ∃ (a : Addr) (ns : List Int) (k : Int), vs = [.ref a, .int k] ∧ 0 ≤ k ∧ SqL K H a (ns.map V.int) ∧ Q (.int (cell ns k.toNat)) H
theorem spCell.use {H : Hp} {Q : VK} {E : XK} {a : Addr} {ns : List Int} {k : Int} (h : SqL K H a (ns.map V.int)) (h0 : 0 ≤ k) (q : Q (.int (cell ns k.toNat)) H) : spCell K [.ref a, .int k] H Q E := ⟨a, ns, k, rfl, h0, h, q⟩
theorem ok_cell (T : Txt K mg ad) : Def P w K mg base CX0 41 "_law_cell_at" ["_law_script", "_law_k"] (spCell K) := by
  refine T.f_Lcell_at.ok sc_Lcell_at (fun vs H Q E h => ?_) (fun f cdv A outer s H vs Q E hr h => ?_)
  · obtain ⟨a, b, _, rfl, _⟩ := h
    rfl
  · obtain ⟨a, ns, i, rfl, h0, hS, k⟩ := h
    refine ⟨_, (pss_cons (ps_if (pt_cmpR op_lt (pv 1) (pe_callB call_len' (by rfl) T.b_len PyProof.Rows.Boot.«len» (pa_cons (pv 0) pa_nil)) (nomark _))
        (pss_one (ps_ret (pe_ix ix_list (pv 0) (pv 1) (fun _ _ => rfl))))
        pss_nil)
      (pss_one (ps_ret pe_int))), ?_⟩
    walk_at "rds"
    refine decI (fun hl => ?_) (fun hl => ?_)
    · rw [List.length_map] at hl
      have hl' : i.toNat < ns.length := by omega
      refine ⟨_, rfl, _, rfl, a, _, _, .int (cell ns i.toNat), rfl, rfl, hS, ?_, k⟩
      have e : i = ((i.toNat : Nat) : Int) := by omega
      rw [e]
      refine atI_nat ?_
      unfold cell
      rw [List.getElem?_map, List.getElem?_eq_getElem hl', List.getD_eq_getElem?_getD, Int.toNat_natCast, List.getElem?_eq_getElem hl']
      rfl
    · rw [List.length_map] at hl
      have e : cell ns i.toNat = 0 := by
        unfold cell
        rw [List.getD_eq_getElem?_getD, List.getElem?_eq_none (by omega)]
        rfl
      rw [e] at k
      walk_at "rd"
      exact k
local macro_rules | `(tactic| walk_at "rdc") => `(tactic| first
  | ((with_reducible apply spCell.use); (· walk_at "li"); (· first | decide | omega)))
def spWhole : Sp := fun vs H Q _ => ∃ i, vs = [.int i] ∧ Q (.bl true) H
theorem spWhole.use {H : Hp} {Q : VK} {E : XK} {i : Int} (q : Q (.bl true) H) : spWhole [.int i] H Q E := ⟨i, rfl, q⟩
theorem ok_whole (T : Txt K mg ad) : Def P w K mg base CX0 41 "_law_whole" ["_law_found"] spWhole := by
  refine T.f_Lwhole.ok sc_Lwhole (fun vs H Q E h => ?_) (fun f cdv A outer s H vs Q E hr h => ?_)
  · obtain ⟨a, rfl, _⟩ := h
    rfl
  · obtain ⟨i, rfl, k⟩ := h
    refine ⟨_, (pss_one (ps_ret (pe_and (pe_callB call_isiT' (by rfl) T.b_isinstance PyProof.Rows.Boot.«isinstance» (pa_cons (pv 0) (pa_cons (pe_bltn (v := .ty "int") rfl T.b_int PyProof.Rows.Boot.«int» rfl) pa_nil))) (pe_one (pe_not (pe_callB call_isiT' (by rfl) T.b_isinstance PyProof.Rows.Boot.«isinstance» (pa_cons (pv 0) (pa_cons (pe_bltn (v := .ty "bool") rfl T.b_bool PyProof.Rows.Boot.«bool» rfl) pa_nil)))))))), ?_⟩
    walk_at "rds"
    exact k
local macro_rules | `(tactic| walk_at "rdc") => `(tactic| first
  | with_reducible refine spWhole.use ?_)
theorem ok_divisor (T : Txt K mg ad) : Def P w K mg base CX0 41 "_law_divisor" ["_law_one", "_law_other"] spG := by
  refine T.f_Ldivisor.ok sc_Ldivisor (fun vs H Q E h => ?_) (fun f cdv A outer s H vs Q E hr h => ?_)
  · obtain ⟨a, b, rfl, _⟩ := h
    rfl
  · obtain ⟨a, b, rfl, k⟩ := h
    refine ⟨_, (pss_cons (ps_set (i := 0) sc_Ldivisor.nd rfl (Or.inl rfl) (pe_callB call_abs (by rfl) T.b_abs PyProof.Rows.Boot.«abs» (pa_cons (pv 0) pa_nil)))
      (pss_cons (ps_set (i := 1) sc_Ldivisor.nd rfl (Or.inl rfl) (pe_callB call_abs (by rfl) T.b_abs PyProof.Rows.Boot.«abs» (pa_cons (pv 1) pa_nil)))
      (pss_cons (ps_while PassesOwn.never (pt_cmpR op_gt (pv 1) pe_int (nomark _)) (pss_one (ps_par (i := 0) (j := 1) rfl sc_Ldivisor.nd rfl rfl (by decide) rfl rfl (pa_cons (pv 1) (pa_cons (pe_op op_mod (pv 0) (pv 1)) pa_nil)) rfl)))
      (pss_one (ps_ret (pv 0)))))), ?_⟩
    refine ⟨_, rfl, _, rfl, _, rfl, _, rfl, ?_⟩
    refine while_by (fun σ H' => H' = H ∧ ∃ s m, σ = [some (.int s), some (.int m)] ∧ 0 ≤ s ∧ 0 ≤ m ∧ G s m = G a b)
      (fun σ _ => match σ with | [_, some (.int m)] => m.toNat | _ => 0) ⟨rfl, _, _, rfl, abs_nn a, abs_nn b, G_abs a b⟩ ?_ (fun σ H Q Q' hq ⟨v, e, i, j, e1, e2, k, e3, q⟩ => ⟨v, e, i, j, e1, e2, k, e3, hq _ _ q⟩)
    rintro σ H' ⟨rfl, s, m, rfl, hs, hm, hg⟩
    refine ⟨_, rfl, _, _, rfl, rfl, _, rfl, decI (fun hp => ?_) (fun hp => ?_)⟩
    · refine ⟨_, rfl, _, rfl, _, rfl, _, _, rfl, rfl, hp, _, _, rfl, ⟨rfl, m, s % m, rfl, hm, Int.emod_nonneg s (by omega), (G_step s m).trans hg⟩, ?_⟩
      have := Int.emod_lt_of_pos s hp
      show (s % m).toNat < m.toNat
      omega
    · refine ⟨_, rfl, ?_⟩
      have he : m = 0 := by omega
      rw [he, G_zero hs] at hg
      rw [hg]
      exact k
theorem spG.use {H : Hp} {Q : VK} {E : XK} {a b : Int} (q : Q (.int (G a b)) H) : spG [.int a, .int b] H Q E := ⟨a, b, rfl, q⟩
local macro_rules | `(tactic| walk_at "rdc") => `(tactic| first
  | with_reducible refine spG.use ?_)
/-- a number that is drawn -/
def spNumb : Sp := fun vs H Q _ => ∃ c, vs = [.int c] ∧ ∀ i, Bi 200 i → Q (.int i) H
theorem spNumb.use {H : Hp} {Q : VK} {E : XK} {c : Int} (q : ∀ i, Bi 200 i → Q (.int i) H) : spNumb [.int c] H Q E := ⟨c, rfl, q⟩
theorem Bi_mod {x m : Int} (hm : 0 < m) (h : m.natAbs < 2 ^ 200) : Bi 200 (x % m) := by
  have h0 := Int.emod_nonneg x (b := m) (by omega)
  have h1 := Int.emod_lt_of_pos x hm
  unfold Bi
  omega
local macro_rules | `(tactic| walk_at "bi") => `(tactic| ((with_reducible apply Bi_mod); (· decide); (· decide)))
theorem ok_number (T : Txt K mg ad) (M : Md P base) : Def P w K mg base CX0 41 "_law_number" ["_law_cell"] spNumb := by
  refine T.f_Lnumber.ok sc_Lnumber (fun vs H Q E h => ?_) (fun f cdv A outer s H vs Q E hr h => ?_)
  · obtain ⟨c, rfl, _⟩ := h
    rfl
  · obtain ⟨c, rfl, k⟩ := h
    have hD : DivOk (cxOf CX0 P w K mg base ["_law_cell"] "_law_number" (defScope s_Lnumber) f cdv A outer s H E).nox := divOk_of M.seer M.tree (hr.mono (by decide)) rfl rfl rfl
    refine ⟨_, (pss_cons (ps_if (pt_cmpR op_eq (pe_op op_mod (pv 0) pe_int) pe_int (nomark _))
        (pss_one (ps_ret (pe_op op_mulB (pe_op op_mod (pe_op (op_fdivP hD) (pv 0) pe_int) (pe_op op_pow pe_int pe_int)) (pe_op op_sub pe_int (pe_op op_mulB pe_int (pe_op op_mod (pe_op (op_fdivP hD) (pv 0) pe_int) pe_int))))))
        pss_nil)
      (pss_one (ps_ret (pe_op op_sub (pe_op op_mod (pe_op (op_fdivP hD) (pv 0) pe_int) pe_int) pe_int)))), ?_⟩
    walk_at "rds"
    refine decI (fun h4 => ?_) (fun h4 => ?_)
    · walk_at "rd"
      refine k _ ?_
      have h2 : c / 4 % 2 = 0 ∨ c / 4 % 2 = 1 := by omega
      rcases h2 with e | e
      · rw [e]
        first
          | (refine Bi.le (x := c / 8 % 10 ^ (60 : Int).toNat) (by walk_at "bi") ?_; omega)
          | (refine Bi.le (x := c / 8 % 10 ^ (20 : Int).toNat) (by walk_at "bi") ?_; omega)
      · rw [e]
        first
          | (refine Bi.le (x := c / 8 % 10 ^ (60 : Int).toNat) (by walk_at "bi") ?_; omega)
          | (refine Bi.le (x := c / 8 % 10 ^ (20 : Int).toNat) (by walk_at "bi") ?_; omega)
    · walk_at "rd"
      refine k _ ?_
      refine Bi.mono (m := 64) ?_ (by decide)
      unfold Bi
      omega
local macro_rules | `(tactic| walk_at "rdc") => `(tactic| first
  | ((with_reducible refine spNumb.use ?_); intro _ _))
def spLow : Sp := fun vs H Q _ => ∃ t b, vs = [.int t, .int b] ∧ 0 < b ∧ ∀ v H', Same H H' → IsFr H' v (Rat.divInt t b) → Q v H'
theorem spLow.use {H : Hp} {Q : VK} {E : XK} {t b : Int} (hb : 0 < b) (q : ∀ v H', Same H H' → IsFr H' v (Rat.divInt t b) → Q v H') : spLow [.int t, .int b] H Q E := ⟨t, b, rfl, hb, q⟩
theorem ok_lowest (T : Txt K mg ad) (M : Md P base) : Def P w K mg base CX0 42 "_law_lowest" ["_law_top", "_law_bottom"] spLow := by
  have D_Ldivisor := ok_divisor (P := P) (w := w) (base := base) T
  refine T.f_Llowest.ok sc_Llowest (fun vs H Q E h => ?_) (fun f cdv A outer s H vs Q E hr h => ?_)
  · obtain ⟨c, e, rfl, _⟩ := h
    rfl
  · obtain ⟨t, b, rfl, hb, k⟩ := h
    have hD : DivOk (cxOf CX0 P w K mg base ["_law_top", "_law_bottom", "_law_by"] "_law_lowest" (defScope s_Llowest) f cdv A outer s H E).nox := divOk_of M.seer M.tree (hr.mono (by decide)) rfl rfl rfl
    refine ⟨_, (pss_cons (ps_set (i := 2) sc_Llowest.nd rfl (Or.inl rfl) (pe_def D_Ldivisor (hr.mono (by decide)) rfl pass0 (pa_cons (pv 0) (pa_cons (pv 1) pa_nil))))
      (pss_one (ps_ret (pe_tup (pa_cons (pe_op (op_fdivP hD) (pv 0) (pv 2)) (pa_cons (pe_op (op_fdivP hD) (pv 1) (pv 2)) pa_nil)))))), ?_⟩
    have hg := G_pos (a := t) (b := b) (by omega)
    have ee := frac_pos (a := t) hb
    walk_at "rds"
    rw [ee.1, ee.2]
    refine rTup.mk' (by show 2 ≤ sizeLine; decide) fun p H' sm _ hp => k _ _ sm ⟨p, rfl, hp⟩
local macro_rules | `(tactic| walk_at "rdc") => `(tactic| first
  | ((with_reducible refine spLow.use ?_ ?_); (· first | assumption | omega)))
/-! ### the law's defs: rests, rows -/
def spIsFr : Sp := fun vs H Q _ => ∃ v q, vs = [v] ∧ IsFr H v q ∧ Q (.bl true) H
theorem spIsFr.use {H : Hp} {Q : VK} {E : XK} {v : V} {q : Rat} (h : IsFr H v q) (k : Q (.bl true) H) : spIsFr [v] H Q E := ⟨v, q, rfl, h, k⟩
theorem ok_is_fraction (T : Txt K mg ad) : Def P w K mg base CX0 42 "_law_is_fraction" ["_law_found"] spIsFr := by
  have D_Lwhole := ok_whole (P := P) (w := w) (base := base) T
  have D_Ldivisor := ok_divisor (P := P) (w := w) (base := base) T
  refine T.f_Lis_fraction.ok sc_Lis_fraction (fun vs H Q E h => ?_) (fun f cdv A outer s H vs Q E hr h => ?_)
  · obtain ⟨v, q, rfl, _⟩ := h
    rfl
  · obtain ⟨v, q, rfl, hv, k⟩ := h
    have d0 := dpos q
    refine ⟨_, (pss_cons (ps_if (PW.pt (pw_or (pt_not (pt_val (pe_callB call_isiT' (by rfl) T.b_isinstance PyProof.Rows.Boot.«isinstance» (pa_cons (pv 0) (pa_cons (pe_bltn (v := .ty "tuple") rfl T.b_tuple PyProof.Rows.Boot.«tuple» rfl) pa_nil))))) (pw_or1 (pt_cmpR op_ne (pe_callB call_len' (by rfl) T.b_len PyProof.Rows.Boot.«len» (pa_cons (pv 0) pa_nil)) pe_int (nomark _)))))
        (pss_one (ps_ret pe_bl))
        pss_nil)
      (pss_cons (ps_if (PW.pt (pw_or (pt_not (pt_val (pe_def D_Lwhole (hr.mono (by decide)) rfl pass0 (pa_cons (pe_ix ix_tup (pv 0) pe_int (fun _ _ => rfl)) pa_nil)))) (pw_or (pt_not (pt_val (pe_def D_Lwhole (hr.mono (by decide)) rfl pass0 (pa_cons (pe_ix ix_tup (pv 0) pe_int (fun _ _ => rfl)) pa_nil)))) (pw_or1 (pt_cmpR op_lt (pe_ix ix_tup (pv 0) pe_int (fun _ _ => rfl)) pe_int (nomark _))))))
        (pss_one (ps_ret pe_bl))
        pss_nil)
      (pss_one (ps_ret (pe_cmpR op_eq (pe_def D_Ldivisor (hr.mono (by decide)) rfl pass0 (pa_cons (pe_ix ix_tup (pv 0) pe_int (fun _ _ => rfl)) (pa_cons (pe_ix ix_tup (pv 0) pe_int (fun _ _ => rfl)) pa_nil))) pe_int (nomark _)))))), ?_⟩
    walk_at "rds"
    refine ite_nf rfl ?_
    walk_at "rd"
    refine ite_f (by omega) ?_
    walk_at "rd"
    rw [red q, decide_eq_true rfl]
    exact k
def spGap : Sp := fun vs H Q _ => ∃ c, vs = [.int c] ∧ ∀ i, 0 ≤ i → Bi 200 i → Q (.int i) H
theorem spGap.use {H : Hp} {Q : VK} {E : XK} {c : Int} (q : ∀ i, 0 ≤ i → Bi 200 i → Q (.int i) H) : spGap [.int c] H Q E := ⟨c, rfl, q⟩
theorem ok_gap (T : Txt K mg ad) (M : Md P base) : Def P w K mg base CX0 41 "_law_gap" ["_law_cell"] spGap := by
  refine T.f_Lgap.ok sc_Lgap (fun vs H Q E h => ?_) (fun f cdv A outer s H vs Q E hr h => ?_)
  · obtain ⟨c, rfl, _⟩ := h
    rfl
  · obtain ⟨c, rfl, k⟩ := h
    have hD : DivOk (cxOf CX0 P w K mg base ["_law_cell"] "_law_gap" (defScope s_Lgap) f cdv A outer s H E).nox := divOk_of M.seer M.tree (hr.mono (by decide)) rfl rfl rfl
    refine ⟨_, (pss_cons (ps_if (pt_cmpR op_eq (pe_op op_mod (pv 0) pe_int) pe_int (nomark _))
        (pss_one (ps_ret (pe_op op_mod (pe_op (op_fdivP hD) (pv 0) pe_int) (pe_op op_pow pe_int pe_int))))
        pss_nil)
      (pss_one (ps_ret (pe_op op_mod (pe_op (op_fdivP hD) (pv 0) pe_int) pe_int)))), ?_⟩
    walk_at "rds"
    refine decI (fun h4 => ?_) (fun h4 => ?_)
    · walk_at "rd"
      exact k _ (Int.emod_nonneg _ (by decide)) (by walk_at "bm")
    · walk_at "rd"
      exact k _ (by omega) (by walk_at "bm")
local macro_rules | `(tactic| walk_at "rdc") => `(tactic| first
  | ((with_reducible refine spGap.use ?_); intro _ _ _)
  | ((with_reducible apply spIsFr.use); (· walk_at "li")))
/-- rests as they are drawn -/
def restsOk (rs : List Int) : Prop := (∀ x ∈ rs, Bi 205 x) ∧ ((∃ p q, rs = [p, q] ∧ 0 ≤ p ∧ p < q) ∨ ∃ p q r, rs = [p, q, r] ∧ 0 ≤ p ∧ p < q ∧ q < r)
def spSpot : Sp := fun vs H Q _ => ∃ (c : Int) (l : Addr) (rs : List Int) (len : Int), vs = [.int c, .ref l, .int len] ∧ H l = some (.lst (rs.map V.int)) ∧ rs.length ≤ 10 ∧ 0 ≤ len ∧ Bi 300 len ∧ (∀ x ∈ rs, 0 ≤ x ∧ x ≤ len) ∧ ∀ x H', Same H H' → 0 ≤ x → x ≤ len → Q (.int x) H'
theorem spSpot.use {H : Hp} {Q : VK} {E : XK} {c : Int} {l : Addr} {rs : List Int} {len : Int} (h : H l = some (.lst (rs.map V.int))) (hl : rs.length ≤ 10) (h0 : 0 ≤ len) (bl : Bi 300 len) (hx : ∀ x ∈ rs, 0 ≤ x ∧ x ≤ len) (k : ∀ x H', Same H H' → 0 ≤ x → x ≤ len → Q (.int x) H') : spSpot [.int c, .ref l, .int len] H Q E := ⟨c, l, rs, len, rfl, h, hl, h0, bl, hx, k⟩
theorem ok_spot (T : Txt K mg ad) (M : Md P base) : Def P w K mg base CX0 41 "_law_spot" ["_law_cell", "_law_rests", "_law_length"] spSpot := by
  refine T.f_Lspot.ok sc_Lspot (fun vs H Q E h => ?_) (fun f cdv A outer s H vs Q E hr h => ?_)
  · obtain ⟨_, _, _, _, rfl, _⟩ := h
    rfl
  · obtain ⟨c, l, rs, len, rfl, hl, hlen, l0, bl, hx, k⟩ := h
    have hD : DivOk (cxOf CX0 P w K mg base ["_law_cell", "_law_rests", "_law_length", "_law_edges"] "_law_spot" (defScope s_Lspot) f cdv A outer s H E).nox := divOk_of M.seer M.tree (hr.mono (by decide)) rfl rfl rfl
    refine ⟨_, (pss_cons (ps_if (pt_cmpR op_eq (pe_op op_mod (pv 0) pe_int) pe_int (nomark _))
        (pss_cons (ps_set (i := 3) sc_Lspot.nd rfl (Or.inl rfl) (pe_op op_cat (pe_lst (pa_cons pe_int (pa_cons (pv 2) pa_nil))) (pv 1)))
        (pss_one (ps_ret (pe_ix ix_list (pv 3) (pe_op op_mod (pe_op (op_fdivP hD) (pv 0) pe_int) (pe_callB call_len' (by rfl) T.b_len PyProof.Rows.Boot.«len» (pa_cons (pv 3) pa_nil))) (fun _ _ => rfl)))))
        pss_nil)
      (pss_cons (ps_if (pt_cmpR op_eq (pe_op op_mod (pv 0) pe_int) pe_int (nomark _))
        (pss_one (ps_ret (pe_op (op_fdivP hD) (pe_op op_mulB (pv 2) (pe_op op_mod (pe_op (op_fdivP hD) (pv 0) pe_int) pe_int)) pe_int)))
        pss_nil)
      (pss_one (ps_ret (pe_op op_mod (pe_op (op_fdivP hD) (pv 0) pe_int) (pe_op op_add (pv 2) pe_int)))))), ?_⟩
    walk_at "rds"
    refine decI (fun h1 => ?_) (fun h1 => ?_)
    · walk_at "rd"
      refine rLst.mk' (by show 2 ≤ sizeLine; decide) fun l1 H1 s1 _ h1' => ?_
      walk_at "rd"
      refine cat_use h1' (s1 _ _ hl) (Nat.le_of_lt (small1000 (by rw [List.length_map]; simp only [List.length_cons, List.length_nil]; omega))) fun l2 H2 s2 _ h2 => ?_
      walk_at "rd"
      have el : [V.int 0, V.int len] ++ rs.map V.int = (0 :: len :: rs).map V.int := rfl
      rw [el] at h2
      rw [el, List.length_map]
      have hn : (0 : Int) < (((0 :: len :: rs).length : Nat) : Int) := by simp only [List.length_cons]; omega
      refine rd_rI hn ?_
      have m0 := Int.emod_nonneg (c / 4) (b := (((0 :: len :: rs).length : Nat) : Int)) (by omega)
      have m1 := Int.emod_lt_of_pos (c / 4) hn
      have hj : (c / 4 % (((0 :: len :: rs).length : Nat) : Int)).toNat < (0 :: len :: rs).length := by omega
      refine ixl (SqL.of h2) (v := .int ((0 :: len :: rs)[(c / 4 % (((0 :: len :: rs).length : Nat) : Int)).toNat]'hj)) ?_ ?_
      · have e : c / 4 % (((0 :: len :: rs).length : Nat) : Int) = (((c / 4 % (((0 :: len :: rs).length : Nat) : Int)).toNat : Nat) : Int) := by omega
        conv => lhs; rw [e]
        refine atI_nat ?_
        rw [List.getElem?_map, List.getElem?_eq_getElem hj]
        rfl
      · have mem := List.getElem_mem hj
        generalize (0 :: len :: rs)[(c / 4 % (((0 :: len :: rs).length : Nat) : Int)).toNat]'hj = x at *
        simp only [List.mem_cons] at mem
        refine k x H2 (s1.trans s2) ?_ ?_
        · rcases mem with rfl | rfl | mem
          · omega
          · omega
          · exact (hx x mem).1
        · rcases mem with rfl | rfl | mem
          · omega
          · omega
          · exact (hx x mem).2
    walk_at "rd"
    refine decI (fun h2 => ?_) (fun h2 => ?_)
    · walk_at "rd"
      have b0 : 0 ≤ c / 4 % 1009 := by omega
      have b1 : c / 4 % 1009 ≤ 1008 := by omega
      generalize c / 4 % 1009 = z at *
      have m0 : 0 ≤ len * z := Int.mul_nonneg l0 b0
      have m1 : len * z ≤ len * 1008 := Int.mul_le_mul_of_nonneg_left b1 l0
      exact k _ H (Same.refl _) (by omega) (by omega)
    · walk_at "rd"
      have m0 := Int.emod_nonneg (c / 4) (b := len + 1) (by omega)
      have m1 := Int.emod_lt_of_pos (c / 4) (show 0 < len + 1 by omega)
      exact k _ H (Same.refl _) m0 (by omega)
local macro_rules | `(tactic| walk_at "rdc") => `(tactic| first
  | ((with_reducible apply spSpot.use); (· walk_at "li"); (· assumption); (· assumption); (· assumption); (· assumption)))
theorem cnt_le {i m : Int} {c : Int} (hc : c = 3) (hi : 0 ≤ i) (hm : 0 ≤ m) (L : Int) : (Builtin.Range.rangeSize i (if i + 3 * m < L then i + 3 * m else L) c).toNat ≤ m.toNat := by
  subst hc
  unfold Builtin.Range.rangeSize
  simp only [show (3 : Int) > 0 by decide, if_true]
  split <;> split <;> omega
def spRows (K : PySem.W.Frag) : Sp := fun vs H Q _ => ∃ (a : Addr) (ns : List Int) (i m : Int) (l : Addr) (rs : List Int) (len : Int), vs = [.ref a, .int i, .int m, .ref l, .int len] ∧ SqL K H a (ns.map V.int) ∧ ns.length ≤ 1000 ∧ 0 ≤ i ∧ i ≤ 100 ∧ 0 ≤ m ∧ m ≤ 100 ∧ H l = some (.lst (rs.map V.int)) ∧ rs.length ≤ 10 ∧ 0 ≤ len ∧ Bi 300 len ∧ (∀ x ∈ rs, 0 ≤ x ∧ x ≤ len) ∧
  ∀ b H' rows, Same H H' → H b = none → IsRows H' b rows → (∀ r ∈ rows, Ro.ok len 200 r) → rows.length ≤ m.toNat → Q (.ref b) H'
theorem spRows.use {H : Hp} {Q : VK} {E : XK} {a : Addr} {ns : List Int} {i m : Int} {l : Addr} {rs : List Int} {len : Int} (h1 : SqL K H a (ns.map V.int)) (hn : ns.length ≤ 1000) (hi : 0 ≤ i) (hi2 : i ≤ 100) (hm : 0 ≤ m) (hm2 : m ≤ 100) (h2 : H l = some (.lst (rs.map V.int))) (hl : rs.length ≤ 10) (h0 : 0 ≤ len) (bl : Bi 300 len) (hx : ∀ x ∈ rs, 0 ≤ x ∧ x ≤ len)
    (k : ∀ b H' rows, Same H H' → H b = none → IsRows H' b rows → (∀ r ∈ rows, Ro.ok len 200 r) → rows.length ≤ m.toNat → Q (.ref b) H') : spRows K [.ref a, .int i, .int m, .ref l, .int len] H Q E := ⟨a, ns, i, m, l, rs, len, rfl, h1, hn, hi, hi2, hm, hm2, h2, hl, h0, bl, hx, k⟩
theorem ok_rows (T : Txt K mg ad) (M : Md P base) : Def P w K mg base CX0 43 "_law_rows" ["_law_script", "_law_begin", "_law_many", "_law_rests", "_law_length"] (spRows K) := by
  have D_Lcell_at := ok_cell (P := P) (w := w) (base := base) T
  have D_Lspot := ok_spot (w := w) T M
  have D_Lnumber := ok_number (w := w) T M
  refine T.f_Lrows.ok sc_Lrows (fun vs H Q E h => ?_) (fun f cdv A outer s H vs Q E hr h => ?_)
  · obtain ⟨_, _, _, _, _, _, _, rfl, _⟩ := h
    rfl
  · obtain ⟨a, ns, i0, m, l, rs, len, rfl, hS, hn, hi, hi2, hm, hm2, hl, hrs, l0, bl, hx, k⟩ := h
    have hD : DivOk (cxOf CX0 P w K mg base ["_law_script", "_law_begin", "_law_many", "_law_rests", "_law_length", "_law_rows_here", "_law_k", "_law_one", "_law_other", "_law_cell"] "_law_rows" (defScope s_Lrows) f cdv A outer s H E).nox := divOk_of M.seer M.tree (hr.mono (by decide)) rfl rfl rfl
    refine ⟨_, (pss_cons (ps_set (i := 5) sc_Lrows.nd rfl (Or.inl rfl) (pe_lst pa_nil))
      (pss_cons (ps_for PassesOwn.never rfl (pi_range3 rfl T.b_range (pa_cons (pv 1) (pa_cons (pe_callB (call_min2 rfl) (by rfl) T.b_min PyProof.Rows.Boot.«min» (pa_cons (pe_callB call_len' (by rfl) T.b_len PyProof.Rows.Boot.«len» (pa_cons (pv 0) pa_nil)) (pa_cons (pe_op op_add (pv 1) (pe_op op_mulB pe_int (pv 2))) pa_nil))) (pa_cons pe_int pa_nil)))) (pg_name (i := 6) sc_Lrows.nd rfl (Or.inl rfl))
        (pss_cons (ps_set (i := 7) sc_Lrows.nd rfl (Or.inl rfl) (pe_def D_Lspot (hr.mono (by decide)) rfl pass0 (pa_cons (pe_def D_Lcell_at (hr.mono (by decide)) rfl pass0 (pa_cons (pv 0) (pa_cons (pv 6) pa_nil))) (pa_cons (pv 3) (pa_cons (pv 4) pa_nil)))))
        (pss_cons (ps_set (i := 8) sc_Lrows.nd rfl (Or.inl rfl) (pe_def D_Lspot (hr.mono (by decide)) rfl pass0 (pa_cons (pe_def D_Lcell_at (hr.mono (by decide)) rfl pass0 (pa_cons (pv 0) (pa_cons (pe_op op_add (pv 6) pe_int) pa_nil))) (pa_cons (pv 3) (pa_cons (pv 4) pa_nil)))))
        (pss_cons (ps_set (i := 9) sc_Lrows.nd rfl (Or.inl rfl) (pe_def D_Lcell_at (hr.mono (by decide)) rfl pass0 (pa_cons (pv 0) (pa_cons (pe_op op_add (pv 6) pe_int) pa_nil))))
        (pss_cons (ps_if (pt_cmpR op_eq (pe_op op_mod (pv 9) pe_int) pe_int (nomark _))
          (pss_one (ps_set (i := 8) sc_Lrows.nd rfl (Or.inl rfl) (pv 7)))
          pss_nil)
        (pss_one (ps_expr (pe_bm PySem.F.plainAttrs_list PySem.F.slot_list_append PySem.F.type_list_append mt_append (pv 5) (pa_cons (pe_tup (pa_cons (pe_callB (call_min2 rfl) (by rfl) T.b_min PyProof.Rows.Boot.«min» (pa_cons (pv 7) (pa_cons (pv 8) pa_nil))) (pa_cons (pe_callB (call_max2 rfl) (by rfl) T.b_max PyProof.Rows.Boot.«max» (pa_cons (pv 7) (pa_cons (pv 8) pa_nil))) (pa_cons (pe_def D_Lnumber (hr.mono (by decide)) rfl pass0 (pa_cons (pe_op (op_fdivP hD) (pv 9) pe_int) pa_nil)) pa_nil)))) pa_nil)))))))))
      (pss_one (ps_ret (pv 5))))), ?_⟩
    walk_at "rds"
    refine rLst.mk' (by show 0 ≤ sizeLine; decide) fun b H1 s1 hb h1 => ?_
    walk_at "rd"
    refine rd_rI (IntMulOk.of_left (by decide)) ?_
    walk_at "rd"
    rw [List.length_map]
    have cnt := cnt_le (c := 3) rfl hi hm (ns.length : Int)
    generalize (Builtin.Range.rangeSize i0 (if i0 + 3 * m < (ns.length : Int) then i0 + 3 * m else (ns.length : Int)) 3).toNat = n at *
    refine rFor.over (H0 := H) (Over.rng3 i0 3 n) (fun i σ H' => Same H H' ∧ ∃ vs rows x1 x2 x3 x4, σ = [some (.ref a), some (.int i0), some (.int m), some (.ref l), some (.int len), some (.ref b), x1, x2, x3, x4] ∧ H' b = some (.lst vs) ∧ Paired (IsRow H') vs rows ∧ rows.length = i ∧ ∀ r ∈ rows, Ro.ok len 200 r) ⟨s1, [], [], _, _, _, _, rfl, h1, .nil, rfl, fun r hr => by cases hr⟩ (fun i σ H' p => p.1) ?_ ?_
    · rintro i v σ H2 H3 hi3 ⟨sm, vs, rows, x1, x2, x3, x4, rfl, hb2, pr, hlen, good⟩ s3 rfl
      have hb3 := s3 _ _ hb2
      have sm3 := sm.trans s3
      have hS3 := sm3.seq hS
      have hl3 := sm3 _ _ hl
      have i0' : 0 ≤ i0 + (i : Int) * 3 := by omega
      walk_at "rd"
      intro y1 H4 s4 y10 y11
      have hS4 := s4.seq hS3
      walk_at "rd"
      intro y2 H5 s5 y20 y21
      have hS5 := s5.seq hS4
      walk_at "rd"
      have hb5 := s5 _ _ (s4 _ _ hb3)
      refine decI (fun c => ?_) (fun c => ?_)
      · walk_at "rd"
        rename_i nk bnk
        refine rTup.mk' (by show 3 ≤ sizeLine; decide) fun t H6 s6 ht h6 => ?_
        walk_at "rd"
        refine rAppend.use (s6 _ _ hb5) (by rw [pr.length]; omega) fun H7 k7 h7 => ?_
        have nl := But.nl (ys := []) (s6 _ _ hb5) k7
        have s46 := (s3.trans s4).trans (s5.trans s6)
        refine ⟨(sm.trans s46).past hb k7, _, rows ++ [⟨if y1 < y1 then y1 else y1, if y1 > y1 then y1 else y1, nk⟩], _, _, _, _, rfl, h7, (Paired.imp' (fun _ _ x => x.nl (s46.nl.trans nl)) pr).snoc ⟨t, rfl, nl _ _ (fun _ z => by cases z) h6⟩, by rw [List.length_append, hlen]; rfl, fun r hr => ?_⟩
        rcases List.mem_append.mp hr with hr | hr
        · exact good r hr
        · have e := List.mem_singleton.mp hr
          subst e
          refine ⟨?_, ?_, ?_, bnk.mono (by omega)⟩
          · dsimp only
            first | omega | (split <;> omega)
          · dsimp only
            first | omega | (split <;> split <;> omega)
          · dsimp only
            first | omega | (split <;> omega)
      · walk_at "rd"
        rename_i nk bnk
        refine rTup.mk' (by show 3 ≤ sizeLine; decide) fun t H6 s6 ht h6 => ?_
        walk_at "rd"
        refine rAppend.use (s6 _ _ hb5) (by rw [pr.length]; omega) fun H7 k7 h7 => ?_
        have nl := But.nl (ys := []) (s6 _ _ hb5) k7
        have s46 := (s3.trans s4).trans (s5.trans s6)
        refine ⟨(sm.trans s46).past hb k7, _, rows ++ [⟨if y2 < y1 then y2 else y1, if y2 > y1 then y2 else y1, nk⟩], _, _, _, _, rfl, h7, (Paired.imp' (fun _ _ x => x.nl (s46.nl.trans nl)) pr).snoc ⟨t, rfl, nl _ _ (fun _ z => by cases z) h6⟩, by rw [List.length_append, hlen]; rfl, fun r hr => ?_⟩
        rcases List.mem_append.mp hr with hr | hr
        · exact good r hr
        · have e := List.mem_singleton.mp hr
          subst e
          refine ⟨?_, ?_, ?_, bnk.mono (by omega)⟩
          · dsimp only
            first | omega | (split <;> omega)
          · dsimp only
            first | omega | (split <;> split <;> omega)
          · dsimp only
            first | omega | (split <;> omega)
    · rintro σ H2 ⟨sm, vs, rows, x1, x2, x3, x4, rfl, hb2, pr, hlen, good⟩
      walk_at "rd"
      exact k b H2 rows sm hb ⟨vs, hb2, pr⟩ good (by omega)
/-- a load of a row -/
def spMade (CW CS : Addr) : Sp := fun vs H Q _ => ∃ v r, vs = [v] ∧ IsRow H v r ∧ r.a ≤ r.b ∧ ∀ v' H', Same H H' → IsLd CW CS H' v' r.ld → Q v' H'
theorem spMade.use {CW CS : Addr} {H : Hp} {Q : VK} {E : XK} {v : V} {r : Ro} (h : IsRow H v r) (hr : r.a ≤ r.b) (k : ∀ v' H', Same H H' → IsLd CW CS H' v' r.ld → Q v' H') : spMade CW CS [v] H Q E := ⟨v, r, rfl, h, hr, k⟩
theorem ok_made (T : Txt K mg ad) : Def P w K mg base CX0 43 "_law_made" ["_law_row"] (spMade ad.c_Weight ad.c_Spread) := by
  have M_Weight := mk_weight (P := P) (w := w) (base := base) T
  have M_Spread := mk_spread (P := P) (w := w) (base := base) T
  refine T.f_Lmade.ok sc_Lmade (fun vs H Q E h => ?_) (fun f cdv A outer s H vs Q E hr h => ?_)
  · obtain ⟨_, _, rfl, _⟩ := h
    rfl
  · obtain ⟨v, r, rfl, hv, le, k⟩ := h
    unfold Ro.ld at k
    refine ⟨_, (pss_cons (ps_if (pt_cmpR op_eq (pe_ix ix_tup (pv 0) pe_int (fun _ _ => rfl)) (pe_ix ix_tup (pv 0) pe_int (fun _ _ => rfl)) (nomark _))
        (pss_one (ps_ret (pe_mak M_Weight (hr.mono (by decide)) rfl pass0 (pa_cons (pe_ix ix_tup (pv 0) pe_int (fun _ _ => rfl)) (pa_cons (pe_ix ix_tup (pv 0) pe_int (fun _ _ => rfl)) pa_nil)))))
        pss_nil)
      (pss_one (ps_ret (pe_mak M_Spread (hr.mono (by decide)) rfl passE0 (pa_cons (pe_ix ix_tup (pv 0) pe_int (fun _ _ => rfl)) (pa_cons (pe_ix ix_tup (pv 0) pe_int (fun _ _ => rfl)) (pa_cons (pe_ix ix_tup (pv 0) pe_int (fun _ _ => rfl)) pa_nil))))))), ?_⟩
    walk_at "rds"
    refine decI (fun c => ?_) (fun c => ?_)
    · rw [if_pos c] at k
      walk_at "rd"
      exact k
    · rw [if_neg c] at k
      walk_at "rd"
      exact k
theorem bi_div_nn {n : Nat} {x m : Int} (hx : 0 ≤ x) (hm : 0 < m) (h : Bi n x) : Bi n (x / m) := by
  unfold Bi at *
  have h1 := Int.ediv_nonneg hx (show 0 ≤ m by omega)
  have h2 := Int.ediv_le_self m hx
  omega
theorem take_snoc {α : Type} {l : List α} {i : Nat} {x : α} (h : l[i]? = some x) : l.take (i + 1) = l.take i ++ [x] := by
  rw [List.take_succ, h]
  rfl
theorem Paired.mapL {α β γ : Type} {F : β → γ → Prop} {f : α → γ} : ∀ {l1 : List α} {l2 : List β}, Paired (fun a b => F b (f a)) l1 l2 → Paired F l2 (l1.map f)
  | _, _, .nil => .nil
  | _, _, .cons h t => .cons h (Paired.mapL t)
theorem good_of {rs : List Int} {len : Int} (h : restsOk rs) (hl : ∀ x ∈ rs, x ≤ len) (h1 : 1 ≤ len) : goodR len rs := by
  obtain ⟨b, h⟩ := h
  rcases h with ⟨p, q, rfl, h0, h2⟩ | ⟨p, q, r, rfl, h0, h2, h3⟩
  · exact ⟨h1, .inl ⟨p, q, rfl, h0, h2, hl q (by simp)⟩⟩
  · exact ⟨h1, .inr ⟨p, q, r, rfl, h0, h2, h3, hl r (by simp)⟩⟩
theorem bears_len {rs : List Int} {Ls : List Ld} (h : restsOk rs) : (bearsOf rs Ls).length = rs.length := by
  obtain ⟨b, h⟩ := h
  rcases h with ⟨p, q, rfl, h0, h2⟩ | ⟨p, q, r, rfl, h0, h2, h3⟩ <;> rfl
/-- a place that is drawn -/
def spPlace : Sp := fun vs H Q _ => ∃ (c d len : Int), vs = [.int c, .int d, .int len] ∧ 0 ≤ len ∧ Bi 300 len ∧ ∀ v H' q, Same H H' → IsFr H' v q → onS len q q → Bq 1000 q → Q v H'
theorem spPlace.use {H : Hp} {Q : VK} {E : XK} {c d len : Int} (h0 : 0 ≤ len) (bl : Bi 300 len) (k : ∀ v H' q, Same H H' → IsFr H' v q → onS len q q → Bq 1000 q → Q v H') : spPlace [.int c, .int d, .int len] H Q E := ⟨c, d, len, rfl, h0, bl, k⟩
theorem ok_place (T : Txt K mg ad) (M : Md P base) : Def P w K mg base CX0 43 "_law_place" ["_law_one", "_law_other", "_law_length"] spPlace := by
  have D_Llowest := ok_lowest (w := w) T M
  refine T.f_Lplace.ok sc_Lplace (fun vs H Q E h => ?_) (fun f cdv A outer s H vs Q E hr h => ?_)
  · obtain ⟨_, _, _, rfl, _⟩ := h
    rfl
  · obtain ⟨c, d, len, rfl, l0, bl, k⟩ := h
    have hD : DivOk (cxOf CX0 P w K mg base ["_law_one", "_law_other", "_law_length", "_law_bottom", "_law_top"] "_law_place" (defScope s_Lplace) f cdv A outer s H E).nox := divOk_of M.seer M.tree (hr.mono (by decide)) rfl rfl rfl
    have fin : ∀ t b : Int, 0 < b → Bi 300 b → 0 ≤ t → t ≤ len * b → ∀ v H', Same H H' → IsFr H' v (Rat.divInt t b) → Q v H' := fun t b hb bb t0 t1 v H' s' f' => by
      have o := place_in hb t0 t1
      have bt : Bi 600 t := bi_le (bl.mul bb) t0 t1
      exact k v H' _ s' f' ⟨o.1, o.2, Rat.le_refl⟩ ((Bq.divInt bt (bb.mono (by decide)) (by omega)).mono (by decide))
    have mid : ∀ b : Int, 0 < b → Bi 300 b → 0 < len * b + 1 ∧ (∀ t, t = d / 3 % (len * b + 1) → 0 ≤ t ∧ t ≤ len * b) ∧ ∀ t, t = len * b * (d / 3 % 1009) / 1008 → 0 ≤ t ∧ t ≤ len * b := fun b hb _ => by
      have m0 : 0 ≤ len * b := Int.mul_nonneg l0 (by omega)
      refine ⟨by omega, fun t e => ?_, fun t e => ?_⟩
      · have h1 := Int.emod_nonneg (d / 3) (b := len * b + 1) (by omega)
        have h2 := Int.emod_lt_of_pos (d / 3) (show 0 < len * b + 1 by omega)
        omega
      · have b0 : 0 ≤ d / 3 % 1009 := by omega
        have b1 : d / 3 % 1009 ≤ 1008 := by omega
        generalize d / 3 % 1009 = z at *
        have m1 : 0 ≤ len * b * z := Int.mul_nonneg m0 b0
        have m2 : len * b * z ≤ len * b * 1008 := Int.mul_le_mul_of_nonneg_left b1 m0
        generalize len * b = y at *
        omega
    refine ⟨_, (pss_cons (ps_set (i := 3) sc_Lplace.nd rfl (Or.inl rfl) (pe_op op_add pe_int (pe_op op_mod (pe_op (op_fdivP hD) (pv 0) pe_int) pe_int)))
      (pss_cons (ps_if (pt_cmpR op_eq (pe_op op_mod (pv 0) pe_int) pe_int (nomark _))
        (pss_one (ps_set (i := 3) sc_Lplace.nd rfl (Or.inl rfl) (pe_op op_add pe_int (pe_op op_mod (pe_op (op_fdivP hD) (pv 0) pe_int) (pe_op op_pow pe_int pe_int)))))
        pss_nil)
      (pss_cons (ps_set (i := 4) sc_Lplace.nd rfl (Or.inl rfl) (pe_op op_mod (pe_op (op_fdivP hD) (pv 1) pe_int) (pe_op op_add (pe_op op_mulB (pv 2) (pv 3)) pe_int)))
      (pss_cons (ps_if (pt_cmpR op_eq (pe_op op_mod (pv 1) pe_int) pe_int (nomark _))
        (pss_one (ps_set (i := 4) sc_Lplace.nd rfl (Or.inl rfl) (pe_op (op_fdivP hD) (pe_op op_mulB (pe_op op_mulB (pv 2) (pv 3)) (pe_op op_mod (pe_op (op_fdivP hD) (pv 1) pe_int) pe_int)) pe_int)))
        pss_nil)
      (pss_one (ps_ret (pe_def D_Llowest (hr.mono (by decide)) rfl pass0 (pa_cons (pv 4) (pa_cons (pv 3) pa_nil))))))))), ?_⟩
    walk_at "rds"
    refine decI (fun h4 => ?_) (fun h4 => ?_)
    · walk_at "rd"
      have hb : 0 < 1 + c / 4 % 10 ^ (20 : Int).toNat := by
        have := Int.emod_nonneg (c / 4) (b := (10 : Int) ^ (20 : Int).toNat) (by decide)
        omega
      have bb : Bi 300 (1 + c / 4 % 10 ^ (20 : Int).toNat) := by walk_at "bm"
      generalize 1 + c / 4 % 10 ^ (20 : Int).toNat = b at *
      obtain ⟨m1, m2, m3⟩ := mid b hb bb
      refine rd_rI m1 ?_
      walk_at "rd"
      refine decI (fun h5 => ?_) (fun h5 => ?_)
      · walk_at "rd"
        obtain ⟨t0, t1⟩ := m3 _ rfl
        exact fin _ _ hb bb t0 t1
      · walk_at "rd"
        obtain ⟨t0, t1⟩ := m2 _ rfl
        exact fin _ _ hb bb t0 t1
    · walk_at "rd"
      have hb : 0 < 1 + c / 4 % 12 := by omega
      have bb : Bi 300 (1 + c / 4 % 12) := by walk_at "bm"
      generalize 1 + c / 4 % 12 = b at *
      obtain ⟨m1, m2, m3⟩ := mid b hb bb
      refine rd_rI m1 ?_
      walk_at "rd"
      refine decI (fun h5 => ?_) (fun h5 => ?_)
      · walk_at "rd"
        obtain ⟨t0, t1⟩ := m3 _ rfl
        exact fin _ _ hb bb t0 t1
      · walk_at "rd"
        obtain ⟨t0, t1⟩ := m2 _ rfl
        exact fin _ _ hb bb t0 t1
-- IMPORT BmQ
-- IMPORT SqM
local macro_rules | `(tactic| walk_at "rdc") => `(tactic| first
  | ((with_reducible apply L2.glst2); (· walk_at "li")))
/-- two numbers, top and bottom, in lowest terms or not -/
def IsTB (H : Hp) (v : V) (t b : Int) : Prop := ∃ p, v = .ref p ∧ H p = some (.tup [.int t, .int b])
theorem IsTB.of {H : Hp} {v : V} {q : Rat} (h : IsFr H v q) : IsTB H v q.num q.den := h
def spLess : Sp := fun vs H Q _ => ∃ (v1 v2 : V) (t1 b1 t2 b2 : Int) (n1 n2 : Nat), vs = [v1, v2] ∧ IsTB H v1 t1 b1 ∧ IsTB H v2 t2 b2 ∧ Bi n1 t1 ∧ Bi n1 b1 ∧ Bi n2 t2 ∧ Bi n2 b2 ∧ n1 + n2 ≤ 90000000 ∧ 0 < b1 ∧ 0 < b2 ∧ Q (.bl (decide ((t1 : Rat) / b1 < (t2 : Rat) / b2))) H
theorem spLess.use {H : Hp} {Q : VK} {E : XK} {v1 v2 : V} {t1 b1 t2 b2 : Int} {n1 n2 : Nat} (h1 : IsTB H v1 t1 b1) (h2 : IsTB H v2 t2 b2) (c1 : Bi n1 t1) (c2 : Bi n1 b1) (c3 : Bi n2 t2) (c4 : Bi n2 b2) (hn : n1 + n2 ≤ 90000000) (p1 : 0 < b1) (p2 : 0 < b2) (k : Q (.bl (decide ((t1 : Rat) / b1 < (t2 : Rat) / b2))) H) : spLess [v1, v2] H Q E := ⟨v1, v2, t1, b1, t2, b2, n1, n2, rfl, h1, h2, c1, c2, c3, c4, hn, p1, p2, k⟩
theorem spLess.fr {H : Hp} {Q : VK} {E : XK} {v1 v2 : V} {p q : Rat} {n1 n2 : Nat} (h1 : IsFr H v1 p) (h2 : IsFr H v2 q) (c1 : Bq n1 p) (c2 : Bq n2 q) (hn : n1 + n2 ≤ 90000000) (k : Q (.bl (decide (p < q))) H) : spLess [v1, v2] H Q E := by
  refine spLess.use (.of h1) (.of h2) c1.n c1.d c2.n c2.d hn (dpos p) (dpos q) ?_
  rw [num_div, num_div]
  exact k
theorem ok_less (T : Txt K mg ad) : Def P w K mg base CX0 41 "_law_less" ["_law_one", "_law_other"] spLess := by
  refine T.f_Lless.ok sc_Lless (fun vs H Q E h => ?_) (fun f cdv A outer s H vs Q E hr h => ?_)
  · obtain ⟨_, _, _, _, _, _, _, _, rfl, _⟩ := h
    rfl
  · obtain ⟨v1, v2, t1, b1, t2, b2, n1, n2, rfl, ⟨a1, rfl, h1⟩, ⟨a2, rfl, h2⟩, c1, c2, c3, c4, hn, p1, p2, k⟩ := h
    rw [← decide_eq_decide.mpr (less_iff p1 p2)] at k
    refine ⟨_, (pss_one (ps_ret (pe_cmpR op_lt (pe_op op_mulB (pe_ix ix_tup (pv 0) pe_int (fun _ _ => rfl)) (pe_ix ix_tup (pv 1) pe_int (fun _ _ => rfl))) (pe_op op_mulB (pe_ix ix_tup (pv 1) pe_int (fun _ _ => rfl)) (pe_ix ix_tup (pv 0) pe_int (fun _ _ => rfl))) (nomark _)))), ?_⟩
    walk_at "rds"
    exact k
/-- rests as they are drawn -/
def spBeam (K : PySem.W.Frag) : Sp := fun vs H Q _ => ∃ (a : Addr) (ns : List Int) (e : Bool), vs = [.ref a, .bl e] ∧ SqL K H a (ns.map V.int) ∧ ∀ t l H' len rs, Same H H' → H l = none → H' l = some (.lst (rs.map V.int)) → H' t = some (.tup [.int len, .ref l]) → restsOk rs → (∀ x ∈ rs, x ≤ len) → Bi 207 len → Q (.ref t) H'
theorem spBeam.use {H : Hp} {Q : VK} {E : XK} {a : Addr} {ns : List Int} {e : Bool} (h : SqL K H a (ns.map V.int)) (k : ∀ t l H' len rs, Same H H' → H l = none → H' l = some (.lst (rs.map V.int)) → H' t = some (.tup [.int len, .ref l]) → restsOk rs → (∀ x ∈ rs, x ≤ len) → Bi 207 len → Q (.ref t) H') : spBeam K [.ref a, .bl e] H Q E := ⟨a, ns, e, rfl, h, k⟩
theorem four_back {Hx : Hp} {ys : List V} (h : Paired (fun (_ : Nat) (y : V) => ∃ z : Int, y = .int z ∧ 0 ≤ z ∧ Bi 200 z) ((List.range 4).filter fun _ => true) ys) : ∃ a b c d : Int, ys = [.int a, .int b, .int c, .int d] ∧ (0 ≤ a ∧ Bi 200 a) ∧ (0 ≤ b ∧ Bi 200 b) ∧ (0 ≤ c ∧ Bi 200 c) ∧ (0 ≤ d ∧ Bi 200 d) := by
  have e : (List.range 4).filter (fun _ => true) = [0, 1, 2, 3] := by decide
  rw [e] at h
  cases h with
  | cons h0 h =>
  cases h with
  | cons h1 h =>
  cases h with
  | cons h2 h =>
  cases h with
  | cons h3 h =>
  cases h
  obtain ⟨a, rfl, pa⟩ := h0
  obtain ⟨b, rfl, pb⟩ := h1
  obtain ⟨c, rfl, pc⟩ := h2
  obtain ⟨d, rfl, pd⟩ := h3
  exact ⟨a, b, c, d, rfl, pa, pb, pc, pd⟩
theorem ok_beam (T : Txt K mg ad) (M : Md P base) : Def P w K mg base CX0 42 "_law_beam" ["_law_script", "_law_even"] (spBeam K) := by
  have D_Lcell_at := ok_cell (P := P) (w := w) (base := base) T
  have D_Lgap := ok_gap (w := w) T M
  refine T.f_Lbeam.ok sc_Lbeam (fun vs H Q E h => ?_) (fun f cdv A outer s H vs Q E hr h => ?_)
  · obtain ⟨_, _, _, rfl, _⟩ := h
    rfl
  · obtain ⟨a, ns, e, rfl, hS, k⟩ := h
    have hD : DivOk (cxOf CX0 P w K mg base ["_law_script", "_law_even", "_law_gaps", "_law_rests"] "_law_beam" (defScope s_Lbeam) f cdv A outer s H E).nox := divOk_of M.seer M.tree (hr.mono (by decide)) rfl rfl rfl
    refine ⟨_, (pss_cons (ps_lc (i := 2) cs_Lbeam_c0 rfl (pi_range1 rfl T.b_range (pa_cons pe_int pa_nil)) (fun C ex s2 H2 => (pg_name (i := 0) nd_Lbeam_c0 rfl (Or.inl rfl) (Or.inr rfl))) (fun C ex s2 H2 => pts_nil) (fun C ex s2 H2 => (pe_def D_Lgap (hr.mono (by decide)) rfl pass0 (pa_cons (pe_def D_Lcell_at (hr.mono (by decide)) rfl pass0 (pa_cons (pv 1) (pa_cons (pv 0) pa_nil))) pa_nil))) sc_Lbeam.nd rfl rfl)
      (pss_cons (ps_if (pt_val (pv 1))
        (pss_cons (ps_asg (pe_ix ix_list (pv 2) pe_int (fun _ _ => rfl)) (pg_sub (pv 2) pe_int set_list))
        (pss_one (ps_asg (pe_ix ix_list (pv 2) pe_int (fun _ _ => rfl)) (pg_sub (pv 2) pe_int set_list))))
        pss_nil)
      (pss_cons (ps_set (i := 3) sc_Lbeam.nd rfl (Or.inl rfl) (pe_lst (pa_cons (pe_ix ix_list (pv 2) pe_int (fun _ _ => rfl)) (pa_cons (pe_op op_add (pe_op op_add (pe_ix ix_list (pv 2) pe_int (fun _ _ => rfl)) pe_int) (pe_ix ix_list (pv 2) pe_int (fun _ _ => rfl))) pa_nil))))
      (pss_cons (ps_if (pt_cmpR op_eq (pe_op op_mod (pe_def D_Lcell_at (hr.mono (by decide)) rfl pass0 (pa_cons (pv 0) (pa_cons pe_int pa_nil))) pe_int) pe_int (nomark _))
        (pss_one (ps_expr (pe_bm PySem.F.plainAttrs_list PySem.F.slot_list_append PySem.F.type_list_append mt_append (pv 3) (pa_cons (pe_op op_add (pe_op op_add (pe_ix ix_list (pv 3) pe_int (fun _ _ => rfl)) pe_int) (pe_ix ix_list (pv 2) pe_int (fun _ _ => rfl))) pa_nil))))
        pss_nil)
      (pss_one (ps_ret (pe_tup (pa_cons (pe_op op_add (pe_ix ix_list (pv 3) (pe_un un_neg pe_int) (fun _ _ => rfl)) (pe_ix ix_list (pv 2) pe_int (fun _ _ => rfl))) (pa_cons (pv 3) pa_nil))))))))), ?_⟩
    walk_at "rds"
    refine rLc.over (n := 4) (Over.rng 0 4) (by decide) (fun σ => ∃ o, σ = [o, some (.ref a)]) (fun _ _ y => ∃ z : Int, y = .int z ∧ 0 ≤ z ∧ Bi 200 z) (fun _ => true) (fun _ _ _ _ _ e => e) ⟨_, rfl⟩ ?_ ?_
    · rintro i x σ' H5 C1 C2 hi s5 rfl ⟨o, rfl⟩ k1' k2'
      have hS5 := s5.seq hS
      have i0 : 0 ≤ 0 + (i : Int) := by omega
      walk_at "rd"
      unfold tYes
      walk_at "rd"
      rename_i nz nz0 bnz
      exact k1' _ _ _ ⟨_, rfl⟩ (Same.refl _) rfl ⟨_, rfl, nz0, bnz⟩
    intro D ys H1 s1 n1 h1 py
    obtain ⟨g0, g1, g2, g3, rfl, p0, p1, p2, p3⟩ := four_back (Hx := H1) py
    walk_at "rdj"
    refine seq_join (fun σ H' => Same H H' ∧ ∃ g2 g3 : Int, σ = [some (.ref a), some (.bl e), some (.ref D), none] ∧ H' D = some (.lst [.int g0, .int g1, .int g2, .int g3]) ∧ (0 ≤ g2 ∧ Bi 200 g2) ∧ (0 ≤ g3 ∧ Bi 200 g3)) (fun nx' jn => ?_) ?_
    · walk_at "rd"
      cases e with
      | true =>
        walk_at "rd"
        refine rSetL.use (j := 2) h1 rfl fun H2 b2 h2 => ?_
        walk_at "rd"
        refine rSetL.use (j := 3) h2 rfl fun H3 b3 h3 => ?_
        walk_at "rd"
        exact jn _ _ ⟨(s1.past n1 b2).past n1 b3, _, _, rfl, h3, p1, p0⟩
      | false =>
        walk_at "rd"
        exact jn _ _ ⟨s1, _, _, rfl, h1, p2, p3⟩
    clear h1 s1 p2 p3 g2 g3 py
    rintro _ H2 ⟨s2, g2, g3, rfl, h2, p2, p3⟩
    obtain ⟨p0, bp⟩ := p0
    obtain ⟨g10, bg1⟩ := p1
    obtain ⟨g20, bg2⟩ := p2
    obtain ⟨g30, bg3⟩ := p3
    have hS2 := s2.seq hS
    walk_at "rd"
    refine rLst.mk' (by show 2 ≤ sizeLine; decide) fun l H3 s3 n3 h3 => ?_
    have bq : Bi 203 (g0 + 1 + g1) := by walk_at "bm"
    have br : Bi 205 (g0 + 1 + g1 + 1 + g2) := by walk_at "bm"
    have s23 := s2.trans s3
    have nl : H l = none := s2.free n3
    have hS3 := s23.seq hS
    have h23 := s3 _ _ h2
    walk_at "rd"
    refine decI (fun c => ?_) (fun c => ?_)
    · walk_at "rd"
      refine rAppend.use h3 (by show 2 < 1000; decide) fun H4 b4 h4 => ?_
      have nD : D ≠ l := ne_of_none h2 n3
      have h24 := b4 _ _ nD h23
      walk_at "rd"
      refine rTup.mk' (by show 2 ≤ sizeLine; decide) fun t H5 s5 _ h5 => ?_
      refine k t l H5 _ [g0, g0 + 1 + g1, g0 + 1 + g1 + 1 + g2] ((s23.past nl b4).trans s5) nl (s5 _ _ h4) h5 ⟨fun x hx => ?_, .inr ⟨_, _, _, rfl, p0, by omega, by omega⟩⟩ (fun x hx => ?_) (by walk_at "bm")
      · simp only [List.mem_cons, List.not_mem_nil, or_false] at hx
        rcases hx with rfl | rfl | rfl
        · exact bp.mono (by omega)
        · exact bq.mono (by omega)
        · exact br
      · simp only [List.mem_cons, List.not_mem_nil, or_false] at hx
        omega
    · walk_at "rd"
      refine rTup.mk' (by show 2 ≤ sizeLine; decide) fun t H5 s5 _ h5 => ?_
      refine k t l H5 _ [g0, g0 + 1 + g1] (s23.trans s5) nl (s5 _ _ h3) h5 ⟨fun x hx => ?_, .inl ⟨_, _, rfl, p0, by omega⟩⟩ (fun x hx => ?_) (by walk_at "bm")
      · simp only [List.mem_cons, List.not_mem_nil, or_false] at hx
        rcases hx with rfl | rfl
        · exact bp.mono (by omega)
        · exact bq.mono (by omega)
      · simp only [List.mem_cons, List.not_mem_nil, or_false] at hx
        omega
/-- a stretch that is drawn -/
def spLStretch (K : PySem.W.Frag) : Sp := fun vs H Q _ => ∃ (a : Addr) (ns : List Int) (len : Int), vs = [.ref a, .int len] ∧ SqL K H a (ns.map V.int) ∧ 0 ≤ len ∧ Bi 300 len ∧ ∀ l H' v1 v2 p q, Same H H' → H l = none → H' l = some (.lst [v1, v2]) → IsFr H' v1 p → IsFr H' v2 q → onS len p q → Bq 1000 p → Bq 1000 q → Q (.ref l) H'
theorem spLStretch.use {H : Hp} {Q : VK} {E : XK} {a : Addr} {ns : List Int} {len : Int} (h : SqL K H a (ns.map V.int)) (l0 : 0 ≤ len) (bl : Bi 300 len) (k : ∀ l H' v1 v2 p q, Same H H' → H l = none → H' l = some (.lst [v1, v2]) → IsFr H' v1 p → IsFr H' v2 q → onS len p q → Bq 1000 p → Bq 1000 q → Q (.ref l) H') : spLStretch K [.ref a, .int len] H Q E := ⟨a, ns, len, rfl, h, l0, bl, k⟩
theorem ok_stretch (T : Txt K mg ad) (M : Md P base) : Def P w K mg base CX0 44 "_law_stretch" ["_law_script", "_law_length"] (spLStretch K) := by
  have D_Lcell_at := ok_cell (P := P) (w := w) (base := base) T
  have D_Lplace := ok_place (w := w) T M
  have D_Lless := ok_less (P := P) (w := w) (base := base) T
  refine T.f_Lstretch.ok sc_Lstretch (fun vs H Q E h => ?_) (fun f cdv A outer s H vs Q E hr h => ?_)
  · obtain ⟨_, _, _, rfl, _⟩ := h
    rfl
  · obtain ⟨a, ns, len, rfl, hS, l0, bl, k⟩ := h
    have hD : DivOk (cxOf CX0 P w K mg base ["_law_script", "_law_length", "_law_one", "_law_other", "_law_way"] "_law_stretch" (defScope s_Lstretch) f cdv A outer s H E).nox := divOk_of M.seer M.tree (hr.mono (by decide)) rfl rfl rfl
    refine ⟨_, (pss_cons (ps_set (i := 2) sc_Lstretch.nd rfl (Or.inl rfl) (pe_def D_Lplace (hr.mono (by decide)) rfl pass0 (pa_cons (pe_def D_Lcell_at (hr.mono (by decide)) rfl pass0 (pa_cons (pv 0) (pa_cons pe_int pa_nil))) (pa_cons (pe_def D_Lcell_at (hr.mono (by decide)) rfl pass0 (pa_cons (pv 0) (pa_cons pe_int pa_nil))) (pa_cons (pv 1) pa_nil)))))
      (pss_cons (ps_set (i := 3) sc_Lstretch.nd rfl (Or.inl rfl) (pe_def D_Lplace (hr.mono (by decide)) rfl pass0 (pa_cons (pe_def D_Lcell_at (hr.mono (by decide)) rfl pass0 (pa_cons (pv 0) (pa_cons pe_int pa_nil))) (pa_cons (pe_def D_Lcell_at (hr.mono (by decide)) rfl pass0 (pa_cons (pv 0) (pa_cons pe_int pa_nil))) (pa_cons (pv 1) pa_nil)))))
      (pss_cons (ps_set (i := 4) sc_Lstretch.nd rfl (Or.inl rfl) (pe_op op_mod (pe_op (op_fdivP hD) (pe_def D_Lcell_at (hr.mono (by decide)) rfl pass0 (pa_cons (pv 0) (pa_cons pe_int pa_nil))) pe_int) pe_int))
      (pss_cons (ps_if (pt_cmpR op_eq (pv 4) pe_int (nomark _))
        (pss_one (ps_ret (pe_lst (pa_cons (pe_tup (pa_cons pe_int (pa_cons pe_int pa_nil))) (pa_cons (pe_tup (pa_cons (pv 1) (pa_cons pe_int pa_nil))) pa_nil)))))
        pss_nil)
      (pss_cons (ps_if (PW.pt (pw_and (pt_cmpR op_eq (pv 4) pe_int (nomark _)) (pw_and1 (pt_cmpR op_eq (pe_op op_mod (pe_def D_Lcell_at (hr.mono (by decide)) rfl pass0 (pa_cons (pv 0) (pa_cons pe_int pa_nil))) pe_int) pe_int (nomark _)))))
        (pss_one (ps_ret (pe_lst (pa_cons (pv 2) (pa_cons (pv 2) pa_nil)))))
        pss_nil)
      (pss_cons (ps_if (pt_val (pe_def D_Lless (hr.mono (by decide)) rfl pass0 (pa_cons (pv 3) (pa_cons (pv 2) pa_nil))))
        (pss_one (ps_ret (pe_lst (pa_cons (pv 3) (pa_cons (pv 2) pa_nil)))))
        pss_nil)
      (pss_one (ps_ret (pe_lst (pa_cons (pv 2) (pa_cons (pv 3) pa_nil))))))))))), ?_⟩
    walk_at "rds"
    refine spPlace.use l0 bl fun v1 H1 q1 s1 f1 o1 b1 => ?_
    have hS1 := s1.seq hS
    walk_at "rd"
    refine spPlace.use l0 bl fun v2 H2 q2 s2 f2 o2 b2 => ?_
    have s02 := s1.trans s2
    have hS2 := s2.seq hS1
    have f12 := f1.same s2
    walk_at "rd"
    refine decI (fun c => ?_) (fun c => ?_)
    · walk_at "rd"
      rename_i va Ha sa fa vb Hb sb fb
      refine rLst.mk' (by show 2 ≤ sizeLine; decide) fun l H5 s5 n5 h5 => ?_
      exact k l H5 va vb _ _ ((s02.trans (sa.trans sb)).trans s5) ((s02.trans (sa.trans sb)).free n5) h5 ((fa.same sb).same s5) (fb.same s5) ⟨by push_cast; exact Rat.le_refl, Rat.le_refl, by exact_mod_cast l0⟩ ((Bq.int (Bi.lit (by decide))).mono (by decide)) ((Bq.int bl).mono (by decide))
    walk_at "rdj"
    refine seq_join (fun σ H' => H' = H2 ∧ σ = [some (.ref a), some (.int len), some v1, some v2, some (.int (cell ns (Int.toNat 4) / 2 % 3))]) (fun nx' jn => ?_) ?_
    · walk_at "rd"
      refine decI (fun c1 => ?_) (fun c1 => ?_)
      · walk_at "rd"
        refine decI (fun c2 => ?_) (fun c2 => ?_)
        · walk_at "rd"
          refine rLst.mk' (by show 2 ≤ sizeLine; decide) fun l H5 s5 n5 h5 => ?_
          exact k l H5 v1 v1 _ _ (s02.trans s5) (s02.free n5) h5 (f12.same s5) (f12.same s5) o1 b1 b1
        · exact jn _ _ ⟨rfl, rfl⟩
      · exact jn _ _ ⟨rfl, rfl⟩
    rintro _ _ ⟨rfl, rfl⟩
    walk_at "rd"
    refine spLess.fr f2 f12 b2 b1 (by decide) ?_
    walk_at "rd"
    refine decI (fun c1 => ?_) (fun c1 => ?_)
    · walk_at "rd"
      refine rLst.mk' (by show 2 ≤ sizeLine; decide) fun l H5 s5 n5 h5 => ?_
      exact k l H5 v2 v1 _ _ (s02.trans s5) (s02.free n5) h5 (f2.same s5) (f12.same s5) ⟨o2.1, o1.2.1, Rat.le_of_lt c1⟩ b2 b1
    · walk_at "rd"
      refine rLst.mk' (by show 2 ≤ sizeLine; decide) fun l H5 s5 n5 h5 => ?_
      exact k l H5 v1 v2 _ _ (s02.trans s5) (s02.free n5) h5 (f12.same s5) (f2.same s5) ⟨o1.1, o2.2.1, by grind⟩ b1 b2
/-- what is handed to the reckoning: in the heap, and in numbers -/
structure CtH (H : Hp) (l p rw : Addr) (cm : Int) (rs : List Int) (qs : List Rat) (rows : List Ro) : Prop where
  hl : H l = some (.lst (rs.map V.int))
  hp : H p = some (.lst ((qs.map (sh cm)).map V.int))
  hw : IsRows H rw rows
theorem CtH.same' {H H' : Hp} {l p rw : Addr} {cm : Int} {rs : List Int} {qs : List Rat} {rows : List Ro} (s : Same H H') (h : CtH H l p rw cm rs qs rows) : CtH H' l p rw cm rs qs rows := ⟨s _ _ h.hl, s _ _ h.hp, h.hw.same' s⟩
structure CtP (cm : Int) (rs : List Int) (qs : List Rat) (rows : List Ro) : Prop where
  e1 : qs.length = rs.length
  e2 : rs.length ≤ 3
  e3 : rows.length ≤ 100
  dv : ∀ q ∈ qs, (q.den : Int) ∣ cm
  bs : ∀ q ∈ qs, Bi 200001 (sh cm q)
  bc : Bi 150001 cm
  c0 : 0 < cm
  br : ∀ x ∈ rs, Bi 300 x
  bw : ∀ r ∈ rows, Bi 300 r.a ∧ Bi 300 r.b ∧ Bi 300 r.k
def spLTurned : Sp := fun vs H Q _ => ∃ (l p rw : Addr) (x : V) (cm t b : Int) (rs : List Int) (qs : List Rat) (rows : List Ro) (n : Nat), vs = [.ref l, .ref p, .int cm, .ref rw, x] ∧ CtH H l p rw cm rs qs rows ∧ CtP cm rs qs rows ∧ IsTB H x t b ∧ Bi n t ∧ Bi n b ∧ n ≤ 400000 ∧ ∀ H', Same H H' → Bi (2 * n + 202000) (turnT cm rs qs rows t b) → Q (.int (turnT cm rs qs rows t b)) H'
theorem spLTurned.use {H : Hp} {Q : VK} {E : XK} {l p rw : Addr} {x : V} {cm t b : Int} {rs : List Int} {qs : List Rat} {rows : List Ro} {n : Nat} (h1 : CtH H l p rw cm rs qs rows) (h2 : CtP cm rs qs rows) (h3 : IsTB H x t b) (b1 : Bi n t) (b2 : Bi n b) (hn : n ≤ 400000) (k : ∀ H', Same H H' → Bi (2 * n + 202000) (turnT cm rs qs rows t b) → Q (.int (turnT cm rs qs rows t b)) H') : spLTurned [.ref l, .ref p, .int cm, .ref rw, x] H Q E := ⟨l, p, rw, x, cm, t, b, rs, qs, rows, n, rfl, h1, h2, h3, b1, b2, hn, k⟩
theorem ok_lturned (T : Txt K mg ad) : Def P w K mg base CX0 41 "_law_turned" ["_law_rests", "_law_parts", "_law_common", "_law_rows_here", "_law_x"] spLTurned := by
  refine T.f_Lturned.ok sc_Lturned (fun vs H Q E h => ?_) (fun f cdv A outer s H vs Q E hr h => ?_)
  · obtain ⟨_, _, _, _, _, _, _, _, _, _, _, rfl, _⟩ := h
    rfl
  · obtain ⟨l, p, rw, x, cm, t, b, rs, qs, rows, n, rfl, ⟨hl, hp, ⟨vr, hrw, prw⟩⟩, ⟨e1, e2, e3, dv, bsh, bcm, cm0, brs, brows⟩, ⟨px, rfl, hx⟩, bt, bb, hn, k⟩ := h
    refine ⟨_, (pss_cons (ps_asg (pv 4) (pg_tup (n := 2) rfl (pgs_cons (pg_name (i := 5) sc_Lturned.nd rfl (Or.inl rfl)) (pgs_cons (pg_name (i := 6) sc_Lturned.nd rfl (Or.inl rfl)) pgs_nil))))
      (pss_cons (ps_set (i := 7) sc_Lturned.nd rfl (Or.inl rfl) pe_int)
      (pss_cons (ps_for PassesOwn.never rfl (pi_zip rfl T.b_zip (pa_cons (pv 0) (pa_cons (pv 1) pa_nil))) (pg_tup (n := 2) rfl (pgs_cons (pg_name (i := 8) sc_Lturned.nd rfl (Or.inl rfl)) (pgs_cons (pg_name (i := 9) sc_Lturned.nd rfl (Or.inl rfl)) pgs_nil)))
        (pss_one (ps_set (i := 7) sc_Lturned.nd rfl (Or.inl rfl) (pe_op op_add (pv 7) (pe_op op_mulB (pe_op op_mulB (pe_op op_mulB pe_int (pv 6)) (pv 9)) (pe_callB (call_max2 rfl) (by rfl) T.b_max PyProof.Rows.Boot.«max» (pa_cons pe_int (pa_cons (pe_op op_sub (pv 5) (pe_op op_mulB (pv 8) (pv 6))) pa_nil))))))))
      (pss_cons (ps_for PassesOwn.never rfl (pi_list (pv 3)) (pg_name (i := 10) sc_Lturned.nd rfl (Or.inl rfl))
        (pss_cons (ps_set (i := 11) sc_Lturned.nd rfl (Or.inl rfl) (pe_callB (call_max2 rfl) (by rfl) T.b_max PyProof.Rows.Boot.«max» (pa_cons pe_int (pa_cons (pe_op op_sub (pv 5) (pe_op op_mulB (pe_ix ix_tup (pv 10) pe_int (fun _ _ => rfl)) (pv 6))) pa_nil))))
        (pss_cons (ps_set (i := 12) sc_Lturned.nd rfl (Or.inl rfl) (pe_callB (call_max2 rfl) (by rfl) T.b_max PyProof.Rows.Boot.«max» (pa_cons pe_int (pa_cons (pe_op op_sub (pv 5) (pe_op op_mulB (pe_ix ix_tup (pv 10) pe_int (fun _ _ => rfl)) (pv 6))) pa_nil))))
        (pss_one (ps_if (pt_cmpR op_eq (pe_ix ix_tup (pv 10) pe_int (fun _ _ => rfl)) (pe_ix ix_tup (pv 10) pe_int (fun _ _ => rfl)) (nomark _))
          (pss_one (ps_set (i := 7) sc_Lturned.nd rfl (Or.inl rfl) (pe_op op_sub (pv 7) (pe_op op_mulB (pe_op op_mulB (pe_op op_mulB (pe_op op_mulB (pv 2) pe_int) (pe_ix ix_tup (pv 10) pe_int (fun _ _ => rfl))) (pv 6)) (pv 11)))))
          (pss_one (ps_set (i := 7) sc_Lturned.nd rfl (Or.inl rfl) (pe_op op_sub (pv 7) (pe_op op_mulB (pe_op op_mulB (pv 2) (pe_ix ix_tup (pv 10) pe_int (fun _ _ => rfl))) (pe_op op_sub (pe_op op_mulB (pv 11) (pv 11)) (pe_op op_mulB (pv 12) (pv 12))))))))))))
      (pss_one (ps_ret (pv 7))))))), ?_⟩
    walk_at "rds"
    refine ⟨l, p, _, _, rfl, SqL.of hl, SqL.of hp, ?_⟩
    refine rFor.over (Over.zip (SqL.of hl) (SqL.of hp)) (fun i σ H' => Same H H' ∧ ∃ x1 x2, σ = [some (.ref l), some (.ref p), some (.int cm), some (.ref rw), some (.ref px), some (.int t), some (.int b), some (.int (dotT cm t b (rs.take i) (qs.take i))), x1, x2, none, none, none] ∧ Bi (2 * n + 201000 + i) (dotT cm t b (rs.take i) (qs.take i))) ⟨Same.refl _, none, none, rfl, bi_zero _⟩ (fun i σ H' p => p.1) ?_ ?_
    · rintro i v σ H2 H3 hi ⟨sm2, x1, x2, rfl, bdot⟩ s3 ⟨pz, xr, xp, rfl, hr, hq, hpz⟩
      rw [List.getElem?_map] at hr
      rw [List.getElem?_map, List.getElem?_map] at hq
      cases hr' : rs[i]? with
      | none => rw [hr'] at hr; cases hr
      | some r =>
      cases hq' : qs[i]? with
      | none => rw [hq'] at hq; cases hq
      | some qi =>
      rw [hr'] at hr
      rw [hq'] at hq
      cases hr
      cases hq
      have bqi := bsh qi (List.mem_of_getElem? hq')
      have bri := brs r (List.mem_of_getElem? hr')
      have eD : dotT cm t b (rs.take (i + 1)) (qs.take (i + 1)) = dotT cm t b (rs.take i) (qs.take i) + 2 * b * sh cm qi * mx (t - r * b) := by
        rw [take_snoc hr', take_snoc hq']
        exact dotT_snoc cm t b (by rw [List.length_take, List.length_take]; omega)
      have b2 : Bi (2 * n + 200700) (2 * b * sh cm qi * mx (t - r * b)) := by
        unfold mx
        walk_at "bm"
      walk_at "rd"
      rw [eD]
      exact ⟨sm2.trans s3, _, _, rfl, (bdot.add (b2.mono (by omega))).mono (by omega)⟩
    rintro σ H2 ⟨sm2, y1, y2, rfl, bdot⟩
    have en : min (rs.map V.int).length ((qs.map (sh cm)).map V.int).length = rs.length := by rw [List.length_map, List.length_map, List.length_map]; omega
    rw [en] at bdot ⊢
    rw [List.take_length, List.take_of_length_le (by omega)] at bdot ⊢
    have hrw2 := sm2 _ _ hrw
    walk_at "rd"
    refine rFor.over (Over.list (SqL.of hrw2)) (fun i σ H' => Same H2 H' ∧ ∃ x1 x2 x3, σ = [some (.ref l), some (.ref p), some (.int cm), some (.ref rw), some (.ref px), some (.int t), some (.int b), some (.int (dotT cm t b rs qs - rowsT' cm t b (rows.take i))), y1, y2, x1, x2, x3] ∧ Bi (2 * n + 201100 + i) (dotT cm t b rs qs - rowsT' cm t b (rows.take i))) ⟨Same.refl _, none, none, none, ?_, ?_⟩ (fun i σ H' p => p.1) ?_ ?_
    · simp only [List.take_zero, rowsT', Int.sub_zero]
    · simp only [List.take_zero, rowsT', Int.sub_zero]
      exact bdot.mono (by omega)
    · rintro i v σ H3 H4 hi ⟨sm3, x1, x2, x3, rfl, bf⟩ s4 hv
      obtain ⟨r, hr, fr⟩ := Paired.get prw hv
      have fr4 := fr.same' ((sm2.trans sm3).trans s4)
      obtain ⟨ba, bb', bk⟩ := brows r (List.mem_of_getElem? hr)
      have eR : dotT cm t b rs qs - rowsT' cm t b (rows.take (i + 1)) = dotT cm t b rs qs - rowsT' cm t b (rows.take i) - rowT cm t b r := by
        rw [take_snoc hr, rowsT'_snoc]
        omega
      have b2 : Bi (2 * n + 201000) (rowT cm t b r) := by
        unfold rowT mx
        walk_at "bm"
      have fin : Bi (2 * n + 201100 + (i + 1)) (dotT cm t b rs qs - rowsT' cm t b (rows.take (i + 1))) := by
        rw [eR]
        exact (bf.sub (b2.mono (by omega))).mono (by omega)
      walk_at "rd"
      refine decI (fun c => ?_) (fun c => ?_)
      · have e : rowT cm t b r = cm * 2 * r.k * b * mx (t - r.a * b) := if_pos c
        rw [e] at eR
        walk_at "rd"
        rw [eR] at fin ⊢
        exact ⟨sm3.trans s4, _, _, _, rfl, fin⟩
      · have e : rowT cm t b r = cm * r.k * (mx (t - r.a * b) * mx (t - r.a * b) - mx (t - r.b * b) * mx (t - r.b * b)) := if_neg c
        rw [e] at eR
        walk_at "rd"
        rw [eR] at fin ⊢
        exact ⟨sm3.trans s4, _, _, _, rfl, fin⟩
    · rintro σ H3 ⟨sm3, x1, x2, x3, rfl, bf⟩
      rw [prw.length] at bf ⊢
      rw [List.take_length] at bf ⊢
      walk_at "rd"
      exact k H3 (sm2.trans sm3) (bf.mono (by omega))
theorem frs_back {H : Hp} {G : Rat → Prop} : ∀ {is : List Nat} {ys : List V}, Paired (fun (_ : Nat) (y : V) => ∃ q, G q ∧ IsFr H y q) is ys → ∃ xs : List Rat, Paired (IsFr H) ys xs ∧ (∀ x ∈ xs, G x) ∧ xs.length = is.length
  | _, _, .nil => ⟨[], .nil, fun _ h => (by cases h), rfl⟩
  | _, _, .cons ⟨q, g, f⟩ t => by
    obtain ⟨xs, p, gs, e⟩ := frs_back t
    exact ⟨q :: xs, .cons f p, fun x hx => by
      rcases List.mem_cons.mp hx with rfl | hx
      · exact g
      · exact gs x hx, by rw [List.length_cons, List.length_cons, e]⟩
theorem cnt2 {L : Int} : (Builtin.Range.rangeSize 33 (if 63 < L then 63 else L) 2).toNat ≤ 15 := by
  unfold Builtin.Range.rangeSize
  simp only [show (2 : Int) > 0 by decide, if_true]
  split <;> split <;> omega
def spLooks (K : PySem.W.Frag) : Sp := fun vs H Q _ => ∃ (a : Addr) (ns : List Int) (len : Int) (st : Addr) (v1 v2 : V) (p q : Rat), vs = [.ref a, .int len, .ref st] ∧ SqL K H a (ns.map V.int) ∧ ns.length ≤ 1000 ∧ 0 ≤ len ∧ Bi 300 len ∧ H st = some (.lst [v1, v2]) ∧ IsFr H v1 p ∧ IsFr H v2 q ∧ Bq 1000 p ∧ Bq 1000 q ∧
  ∀ lk H' xs, Same H H' → IsFrs H' lk xs → xs.length ≤ 100 → (∀ x ∈ xs, p ≤ x ∧ x ≤ q ∧ Bq 1000 x) → Q (.ref lk) H'
theorem spLooks.use {H : Hp} {Q : VK} {E : XK} {a : Addr} {ns : List Int} {len : Int} {st : Addr} {v1 v2 : V} {p q : Rat} (h : SqL K H a (ns.map V.int)) (hn : ns.length ≤ 1000) (l0 : 0 ≤ len) (bl : Bi 300 len) (hst : H st = some (.lst [v1, v2])) (f1 : IsFr H v1 p) (f2 : IsFr H v2 q) (b1 : Bq 1000 p) (b2 : Bq 1000 q)
    (k : ∀ lk H' xs, Same H H' → IsFrs H' lk xs → xs.length ≤ 100 → (∀ x ∈ xs, p ≤ x ∧ x ≤ q ∧ Bq 1000 x) → Q (.ref lk) H') : spLooks K [.ref a, .int len, .ref st] H Q E := ⟨a, ns, len, st, v1, v2, p, q, rfl, h, hn, l0, bl, hst, f1, f2, b1, b2, k⟩
theorem ok_looks (T : Txt K mg ad) (M : Md P base) : Def P w K mg base CX0 44 "_law_looks" ["_law_script", "_law_length", "_law_stretch_here"] (spLooks K) := by
  have D_Lcell_at := ok_cell (P := P) (w := w) (base := base) T
  have D_Lplace := ok_place (w := w) T M
  have D_Lless := ok_less (P := P) (w := w) (base := base) T
  refine T.f_Llooks.ok sc_Llooks (fun vs H Q E h => ?_) (fun f cdv A outer s H vs Q E hr h => ?_)
  · obtain ⟨_, _, _, _, _, _, _, _, rfl, _⟩ := h
    rfl
  · obtain ⟨a, ns, len, st, v1, v2, p, q, rfl, hS, hns, l0, bl, hst, f1, f2, b1, b2, k⟩ := h
    refine ⟨_, (pss_cons (ps_set (i := 3) sc_Llooks.nd rfl (Or.inl rfl) (pe_lst pa_nil))
      (pss_cons (ps_for PassesOwn.never rfl (pi_range3 rfl T.b_range (pa_cons pe_int (pa_cons (pe_callB (call_min2 rfl) (by rfl) T.b_min PyProof.Rows.Boot.«min» (pa_cons (pe_callB call_len' (by rfl) T.b_len PyProof.Rows.Boot.«len» (pa_cons (pv 0) pa_nil)) (pa_cons pe_int pa_nil))) (pa_cons pe_int pa_nil)))) (pg_name (i := 4) sc_Llooks.nd rfl (Or.inl rfl))
        (pss_one (ps_expr (pe_bm PySem.F.plainAttrs_list PySem.F.slot_list_append PySem.F.type_list_append mt_append (pv 3) (pa_cons (pe_def D_Lplace (hr.mono (by decide)) rfl pass0 (pa_cons (pe_def D_Lcell_at (hr.mono (by decide)) rfl pass0 (pa_cons (pv 0) (pa_cons (pv 4) pa_nil))) (pa_cons (pe_def D_Lcell_at (hr.mono (by decide)) rfl pass0 (pa_cons (pv 0) (pa_cons (pe_op op_add (pv 4) pe_int) pa_nil))) (pa_cons (pv 1) pa_nil)))) pa_nil)))))
      (pss_one (ps_ret (pe_lc cs_Llooks_c0 rfl (pi_list (pv 3)) (fun C ex s2 H2 => (pg_name (i := 0) nd_Llooks_c0 rfl (Or.inl rfl) (Or.inr rfl))) (fun C ex s2 H2 => pts_one (PW.pt (pw_and (pt_not (pt_val (pe_def D_Lless (hr.mono (by decide)) rfl pass0 (pa_cons (pv 0) (pa_cons (pe_ix (ix_listK (K := K) rfl) (pv 1) pe_int (fun _ _ => rfl)) pa_nil))))) (pw_and1 (pt_not (pt_val (pe_def D_Lless (hr.mono (by decide)) rfl pass0 (pa_cons (pe_ix (ix_listK (K := K) rfl) (pv 1) pe_int (fun _ _ => rfl)) (pa_cons (pv 0) pa_nil))))))))) (fun C ex s2 H2 => (pv 0))))))), ?_⟩
    walk_at "rds"
    refine rLst.mk' (by show 0 ≤ sizeLine; decide) fun b H1 s1 hb h1 => ?_
    walk_at "rd"
    rw [List.length_map]
    have cnt := cnt2 (L := (ns.length : Int))
    generalize (Builtin.Range.rangeSize 33 (if 63 < (ns.length : Int) then 63 else (ns.length : Int)) 2).toNat = n at *
    refine rFor.over (H0 := H) (Over.rng3 33 2 n) (fun i σ H' => Same H H' ∧ ∃ vs qs x1, σ = [some (.ref a), some (.int len), some (.ref st), some (.ref b), x1] ∧ H' b = some (.lst vs) ∧ Paired (IsFr H') vs qs ∧ qs.length = i ∧ ∀ q ∈ qs, Bq 1000 q) ⟨s1, [], [], _, rfl, h1, .nil, rfl, fun r hr => by cases hr⟩ (fun i σ H' p => p.1) ?_ ?_
    · rintro i v σ H2 H3 hi3 ⟨sm, vs, qs, x1, rfl, hb2, pr, hlen, good⟩ s3 rfl
      have hb3 := s3 _ _ hb2
      have sm3 := sm.trans s3
      have hS3 := sm3.seq hS
      have i0' : 0 ≤ 33 + (i : Int) * 2 := by omega
      walk_at "rd"
      refine spPlace.use l0 bl fun v1 H4 q1 s4 f1 o1 b1 => ?_
      walk_at "rd"
      refine rAppend.use (s4 _ _ hb3) (by rw [pr.length]; omega) fun H7 k7 h7 => ?_
      have nl := But.nl (ys := []) (s4 _ _ hb3) k7
      refine ⟨(sm3.trans s4).past hb k7, _, qs ++ [q1], _, rfl, h7, (Paired.imp' (fun _ _ x => x.nl ((s3.trans s4).nl.trans nl)) pr).snoc (f1.nl nl), by rw [List.length_append, hlen]; rfl, fun r hr => ?_⟩
      rcases List.mem_append.mp hr with hr | hr
      · exact good r hr
      · rw [List.mem_singleton.mp hr]
        exact b1
    rintro σ H2 ⟨sm, vs, qs, x1, rfl, hb2, pr, hlen, good⟩
    have hst2 := sm _ _ hst
    have f12 := f1.same sm
    have f22 := f2.same sm
    walk_at "rd"
    refine rLc.over (Over.list (SqL.of hb2)) (by rw [pr.length]; exact Nat.le_of_lt (small1000 (by omega))) (fun σ => ∃ c, σ = [c, some (.ref st)]) (fun i H' y => ∃ x, (p ≤ x ∧ x ≤ q ∧ Bq 1000 x) ∧ IsFr H' y x) (fun i => match qs[i]? with | some x => (!decide (x < p)) && (!decide (q < x)) | none => false) (fun _ _ _ _ n ⟨x, g, f⟩ => ⟨x, g, f.nl n⟩) ⟨_, rfl⟩ ?_ ?_
    · rintro i v σ' H5 C1 C2 hi s5 hv ⟨c, rfl⟩ k1 k2
      obtain ⟨x, hx, fx⟩ := Paired.get pr hv
      have bx := good x (List.mem_of_getElem? hx)
      have fx5 := fx.same s5
      have f15 := f12.same s5
      have f25 := f22.same s5
      have hst5 := s5 _ _ hst2
      rw [hx] at k1 k2
      walk_at "rd"
      refine spLess.fr fx5 f15 bx b1 (by decide) ?_
      walk_at "rd"
      by_cases c1 : x < p
      · refine ite_nf c1 ?_
        exact k2 _ _ ⟨_, rfl⟩ (Same.refl _) (by simp [c1])
      refine ite_nt c1 ?_
      walk_at "rd"
      refine spLess.fr f25 fx5 b2 bx (by decide) ?_
      walk_at "rd"
      by_cases c2 : q < x
      · refine ite_nf c2 ?_
        exact k2 _ _ ⟨_, rfl⟩ (Same.refl _) (by simp [c2])
      refine ite_nt c2 ?_
      walk_at "rd"
      exact k1 _ _ _ ⟨_, rfl⟩ (Same.refl _) (by simp [c1, c2]) ⟨x, ⟨by grind, by grind, bx⟩, fx5⟩
    intro D ys H3 s3 _ h3 py
    obtain ⟨xs, px, gx, lx⟩ := frs_back py
    exact k D H3 xs (sm.trans s3) ⟨ys, h3, px⟩ (by
      rw [lx]
      refine Nat.le_trans (List.length_filter_le _ _) ?_
      rw [List.length_range, pr.length]
      omega) gx
/-- the turning of the law -/
abbrev Fo (rs : List Int) (qs : List Rat) (rows : List Ro) : Rat → Rat := fun y => turnOf rs qs (rows.map Ro.ld) y
theorem turn_S {cm t b : Int} {rs : List Int} {qs : List Rat} {rows : List Ro} {y : Rat} (hb : 0 < b) (dv : ∀ q ∈ qs, (q.den : Int) ∣ cm) (e : (t : Rat) / b = y) : (turnT cm rs qs rows t b : Rat) = ((2 * b * b * cm : Int) : Rat) * Fo rs qs rows y := by
  rw [turnT_eq hb dv, e]
  push_cast
  rfl
theorem S_pos {b cm : Int} (hb : 0 < b) (hc : 0 < cm) : 0 < 2 * b * b * cm := Int.mul_pos (Int.mul_pos (by omega) hb) hc
/-- a look at y finds nothing greater, and nothing as great on the left -/
theorem look_ok {f : Rat → Rat} {s e x y : Rat} (T : Top f s e x) (sy : s ≤ y) (ye : y ≤ e) {N S : Int} (hN : (N : Rat) = S * f y) (hS : 0 < S) : ¬ N * (f x).den > (f x).num * S ∧ (N * (f x).den = (f x).num * S → ¬ y < x) := by
  refine ⟨fun h => ?_, fun h => ?_⟩
  · have := cmp_gt hN hS h
    have := T.most y sy ye
    grind
  · have := T.first y sy ye (cmp_eq hN hS h)
    grind
def spMost : Sp := fun vs H Q _ => ∃ (l p rw lk : Addr) (v : V) (cm : Int) (rs : List Int) (qs : List Rat) (rows : List Ro) (xs : List Rat) (s e x : Rat), vs = [.ref l, .ref p, .int cm, .ref rw, .ref lk, v] ∧ CtH H l p rw cm rs qs rows ∧ CtP cm rs qs rows ∧ IsFrs H lk xs ∧ (∀ y ∈ xs, s ≤ y ∧ y ≤ e ∧ Bq 1000 y) ∧ IsPt H v x (Fo rs qs rows x) ∧ Top (Fo rs qs rows) s e x ∧ Bq 370000 x ∧ Bq 9000000 (Fo rs qs rows x) ∧ ∀ H', Same H H' → Q (.bl true) H'
theorem spMost.use {H : Hp} {Q : VK} {E : XK} {l p rw lk : Addr} {v : V} {cm : Int} {rs : List Int} {qs : List Rat} {rows : List Ro} {xs : List Rat} {s e x : Rat} (h1 : CtH H l p rw cm rs qs rows) (h2 : CtP cm rs qs rows) (h3 : IsFrs H lk xs) (h4 : ∀ y ∈ xs, s ≤ y ∧ y ≤ e ∧ Bq 1000 y) (h5 : IsPt H v x (Fo rs qs rows x)) (h6 : Top (Fo rs qs rows) s e x) (b1 : Bq 370000 x) (b2 : Bq 9000000 (Fo rs qs rows x)) (k : ∀ H', Same H H' → Q (.bl true) H') : spMost [.ref l, .ref p, .int cm, .ref rw, .ref lk, v] H Q E := ⟨l, p, rw, lk, v, cm, rs, qs, rows, xs, s, e, x, rfl, h1, h2, h3, h4, h5, h6, b1, b2, k⟩
theorem ok_is_most (T : Txt K mg ad) : Def P w K mg base CX0 42 "_law_is_most" ["_law_rests", "_law_parts", "_law_common", "_law_rows_here", "_law_looks_here", "_law_found"] spMost := by
  have D_Lturned := ok_lturned (P := P) (w := w) (base := base) T
  have D_Lless := ok_less (P := P) (w := w) (base := base) T
  refine T.f_Lis_most.ok sc_Lis_most (fun vs H Q E h => ?_) (fun f cdv A outer s H vs Q E hr h => ?_)
  · obtain ⟨_, _, _, _, _, _, _, _, _, _, _, _, _, rfl, _⟩ := h
    rfl
  · obtain ⟨l, p, rw, lk, v, cm, rs, qs, rows, xs, s0, e0, x, rfl, ct, cp, ⟨vk, hk, pk⟩, gx, ⟨pvx, v1, v2, rfl, hv, fx, fy⟩, tp, bx, bF, k⟩ := h
    have bc := cp.bc
    have c0 := cp.c0
    have is := cmp_is (turn_S (rows := rows) (rs := rs) (dpos x) cp.dv (num_div x))
    have lo := fun (y : Rat) (h : s0 ≤ y ∧ y ≤ e0 ∧ Bq 1000 y) => look_ok tp h.1 h.2.1 (turn_S (rows := rows) (rs := rs) (dpos y) cp.dv (num_div y)) (S_pos (dpos y) c0)
    generalize hy : Fo rs qs rows x = y at *
    refine ⟨_, (pss_cons (ps_asg (pv 5) (pg_tup (n := 2) rfl (pgs_cons (pg_name (i := 6) sc_Lis_most.nd rfl (Or.inl rfl)) (pgs_cons (pg_name (i := 7) sc_Lis_most.nd rfl (Or.inl rfl)) pgs_nil))))
      (pss_cons (ps_set (i := 8) sc_Lis_most.nd rfl (Or.inl rfl) (pe_op op_mulB (pe_op op_mulB (pe_op op_mulB pe_int (pe_ix ix_tup (pv 6) pe_int (fun _ _ => rfl))) (pe_ix ix_tup (pv 6) pe_int (fun _ _ => rfl))) (pv 2)))
      (pss_cons (ps_if (pt_cmpR op_ne (pe_op op_mulB (pe_ix ix_tup (pv 7) pe_int (fun _ _ => rfl)) (pv 8)) (pe_op op_mulB (pe_def D_Lturned (hr.mono (by decide)) rfl pass0 (pa_cons (pv 0) (pa_cons (pv 1) (pa_cons (pv 2) (pa_cons (pv 3) (pa_cons (pv 6) pa_nil)))))) (pe_ix ix_tup (pv 7) pe_int (fun _ _ => rfl))) (nomark _))
        (pss_one (ps_ret pe_bl))
        pss_nil)
      (pss_cons (ps_for PassesOwn.never rfl (pi_list (pv 4)) (pg_name (i := 9) sc_Lis_most.nd rfl (Or.inl rfl))
        (pss_cons (ps_set (i := 10) sc_Lis_most.nd rfl (Or.inl rfl) (pe_op op_mulB (pe_def D_Lturned (hr.mono (by decide)) rfl pass0 (pa_cons (pv 0) (pa_cons (pv 1) (pa_cons (pv 2) (pa_cons (pv 3) (pa_cons (pv 9) pa_nil)))))) (pe_ix ix_tup (pv 7) pe_int (fun _ _ => rfl))))
        (pss_cons (ps_set (i := 11) sc_Lis_most.nd rfl (Or.inl rfl) (pe_op op_mulB (pe_op op_mulB (pe_op op_mulB (pe_op op_mulB (pe_ix ix_tup (pv 7) pe_int (fun _ _ => rfl)) pe_int) (pe_ix ix_tup (pv 9) pe_int (fun _ _ => rfl))) (pe_ix ix_tup (pv 9) pe_int (fun _ _ => rfl))) (pv 2)))
        (pss_one (ps_if (PW.pt (pw_or (pt_cmpR op_gt (pv 10) (pv 11) (nomark _)) (pw_or1 (PW.pt (pw_and (pt_cmpR op_eq (pv 10) (pv 11) (nomark _)) (pw_and1 (pt_val (pe_def D_Lless (hr.mono (by decide)) rfl pass0 (pa_cons (pv 9) (pa_cons (pv 6) pa_nil))))))))))
          (pss_one (ps_ret pe_bl))
          pss_nil)))))
      (pss_one (ps_ret pe_bl)))))), ?_⟩
    walk_at "rds"
    refine spLTurned.use ct cp (IsTB.of fx) bx.n bx.d (by decide) fun H1 s1 bN => ?_
    have fx1 := fx.same s1
    have fy1 := fy.same s1
    walk_at "rd"
    refine ite_nf is ?_
    have hk1 := s1 _ _ hk
    walk_at "rd"
    refine rFor.over (Over.list (SqL.of hk1)) (fun i σ H' => Same H1 H' ∧ ∃ x1 x2 x3, σ = [some (.ref l), some (.ref p), some (.int cm), some (.ref rw), some (.ref lk), some (.ref pvx), some v1, some v2, some (.int (2 * x.den * x.den * cm)), x1, x2, x3]) ⟨Same.refl _, _, _, _, rfl⟩ (fun i σ H' p => p.1) ?_ ?_
    · rintro i v σ H2 H3 hi ⟨sm, x1, x2, x3, rfl⟩ s3 hv3
      obtain ⟨z, hz, fz⟩ := Paired.get pk hv3
      have gz := gx z (List.mem_of_getElem? hz)
      obtain ⟨lo1, lo2⟩ := lo z gz
      have bz := gz.2.2
      have s13 := sm.trans s3
      have s03 := s1.trans s13
      have fz3 := fz.same s03
      have ct3 := ct.same' s03
      walk_at "rd"
      refine spLTurned.use ct3 cp (IsTB.of fz3) bz.n bz.d (by decide) fun H4 s4 bN => ?_
      have fy4 := (fy1.same s13).same s4
      have fz4 := fz3.same s4
      have fx4 := (fx1.same s13).same s4
      generalize turnT cm rs qs rows z.num z.den = N at *
      have eS : y.num * 2 * z.den * z.den * cm = y.num * (2 * z.den * z.den * cm) := by simp only [Int.mul_assoc]
      rw [← eS] at lo1 lo2
      walk_at "rd"
      refine ite_f lo1 ?_
      walk_at "rd"
      refine decI (fun c => ?_) (fun c => ?_)
      · walk_at "rd"
        refine spLess.fr fz4 fx4 bz bx (by decide) ?_
        walk_at "rd"
        refine ite_f (lo2 c) ?_
        walk_at "rd"
        exact ⟨s13.trans s4, _, _, _, rfl⟩
      · walk_at "rd"
        exact ⟨s13.trans s4, _, _, _, rfl⟩
    · rintro σ H2 ⟨sm, x1, x2, x3, rfl⟩
      walk_at "rd"
      exact k H2 (s1.trans sm)
def spLPiece : Sp := fun vs H Q _ => ∃ (l p rw : Addr) (va vb v : V) (cm : Int) (rs : List Int) (qs : List Rat) (rows : List Ro) (a b s e x : Rat), vs = [.ref l, .ref p, .int cm, .ref rw, va, vb, v] ∧ CtH H l p rw cm rs qs rows ∧ CtP cm rs qs rows ∧ IsFr H va a ∧ IsFr H vb b ∧ Bq 1000 a ∧ Bq 1000 b ∧ (s ≤ a ∧ b ≤ e ∧ a ≤ b) ∧ (a < b → ∃ κ, Quad (Fo rs qs rows) a b κ) ∧ IsPt H v x (Fo rs qs rows x) ∧ Top (Fo rs qs rows) s e x ∧ Bq 370000 x ∧ Bq 9000000 (Fo rs qs rows x) ∧ ∀ H', Same H H' → Q (.bl true) H'
theorem spLPiece.use {H : Hp} {Q : VK} {E : XK} {l p rw : Addr} {va vb v : V} {cm : Int} {rs : List Int} {qs : List Rat} {rows : List Ro} {a b s e x : Rat} (h1 : CtH H l p rw cm rs qs rows) (h2 : CtP cm rs qs rows) (ha : IsFr H va a) (hb : IsFr H vb b) (ba : Bq 1000 a) (bb : Bq 1000 b) (h3 : s ≤ a ∧ b ≤ e ∧ a ≤ b) (h4 : a < b → ∃ κ, Quad (Fo rs qs rows) a b κ) (h5 : IsPt H v x (Fo rs qs rows x)) (h6 : Top (Fo rs qs rows) s e x) (b1 : Bq 370000 x) (b2 : Bq 9000000 (Fo rs qs rows x)) (k : ∀ H', Same H H' → Q (.bl true) H') : spLPiece [.ref l, .ref p, .int cm, .ref rw, va, vb, v] H Q E :=
  ⟨l, p, rw, va, vb, v, cm, rs, qs, rows, a, b, s, e, x, rfl, h1, h2, ha, hb, ba, bb, h3, h4, h5, h6, b1, b2, k⟩
theorem ends_of (a b : Rat) : 0 < 2 * (a.den : Int) * b.den ∧ ((2 * a.num * b.den : Int) : Rat) / ((2 * a.den * b.den : Int) : Rat) = a ∧ ((2 * b.num * a.den : Int) : Rat) / ((2 * a.den * b.den : Int) : Rat) = b ∧ ((a.num * b.den + b.num * a.den : Int) : Rat) / ((2 * a.den * b.den : Int) : Rat) = (a + b) / 2 := by
  have d1 := dpos a
  have d2 := dpos b
  have p : 0 < 2 * (a.den : Int) * b.den := Int.mul_pos (by omega) d2
  have z : ((2 * a.den * b.den : Int) : Rat) ≠ 0 := by exact_mod_cast (show 2 * (a.den : Int) * b.den ≠ 0 by omega)
  have key : ∀ {N : Int} {y : Rat}, (N : Rat) = y * ((2 * a.den * b.den : Int) : Rat) → (N : Rat) / ((2 * a.den * b.den : Int) : Rat) = y := fun {N y} h => by
    have := div_back (x := (N : Rat)) z
    generalize ((2 * a.den * b.den : Int) : Rat) = d at *
    rw [h] at this ⊢
    grind
  have na := num_eq a
  have nb := num_eq b
  refine ⟨p, key ?_, key ?_, key ?_⟩
  · push_cast
    push_cast at na
    rw [na]
    grind
  · push_cast
    push_cast at nb
    rw [nb]
    grind
  · push_cast
    push_cast at na nb
    rw [na, nb]
    grind
theorem back_of {t b : Int} {y : Rat} (hb : 0 < b) (h : (t : Rat) / b = y) : (t : Rat) = y * b := by
  rw [← h]
  exact (div_back (by exact_mod_cast (show b ≠ 0 by omega))).symm
theorem ok_piece_holds (T : Txt K mg ad) : Def P w K mg base CX0 42 "_law_piece_holds" ["_law_rests", "_law_parts", "_law_common", "_law_rows_here", "_law_one", "_law_other", "_law_found"] spLPiece := by
  have D_Lturned := ok_lturned (P := P) (w := w) (base := base) T
  have D_Lless := ok_less (P := P) (w := w) (base := base) T
  refine T.f_Lpiece_holds.ok sc_Lpiece_holds (fun vs H Q E h => ?_) (fun f cdv A outer s H vs Q E hr h => ?_)
  · obtain ⟨_, _, _, _, _, _, _, _, _, _, _, _, _, _, _, rfl, _⟩ := h
    rfl
  · obtain ⟨l, p, rw, va, vb, v, cm, rs, qs, rows, a, b, s0, e0, x, rfl, ct, cp, fa, fb, ba, bb, ⟨sa, be, ab⟩, qd, ⟨pvx, v1, v2, rfl, hv, fx, fy⟩, tp, bx, bF, k⟩ := h
    have bc := cp.bc
    have c0 := cp.c0
    obtain ⟨bt0, efi, ela, emi⟩ := ends_of a b
    have h0 := turn_S (rows := rows) (rs := rs) bt0 cp.dv efi
    have h1 := turn_S (rows := rows) (rs := rs) bt0 cp.dv emi
    have h2 := turn_S (rows := rows) (rs := rs) bt0 cp.dv ela
    have bbt : Bi 2200 (2 * (a.den : Int) * b.den) := by walk_at "bm"
    have bfi : Bi 2200 (2 * a.num * (b.den : Int)) := by walk_at "bm"
    have bla : Bi 2200 (2 * b.num * (a.den : Int)) := by walk_at "bm"
    have bmi : Bi 2200 (a.num * (b.den : Int) + b.num * a.den) := by walk_at "bm"
    have lk0 := look_ok tp sa (Rat.le_trans ab be) h0 (S_pos bt0 c0)
    have lk2 := look_ok tp (Rat.le_trans sa ab) be h2 (S_pos bt0 c0)
    have pn := fun (sp fl : Int) => piece_num tp sa be ab qd (S_pos bt0 c0) h0 h1 h2 bt0 (back_of bt0 efi) (back_of bt0 ela) (sp := sp) (fa := fl)
    refine ⟨_, (pss_cons (ps_asg (pv 6) (pg_tup (n := 2) rfl (pgs_cons (pg_name (i := 7) sc_Lpiece_holds.nd rfl (Or.inl rfl)) (pgs_cons (pg_name (i := 8) sc_Lpiece_holds.nd rfl (Or.inr rfl)) pgs_nil))))
      (pss_cons (ps_set (i := 9) sc_Lpiece_holds.nd rfl (Or.inr rfl) (pe_op op_mulB (pe_op op_mulB pe_int (pe_ix ix_tup (pv 4) pe_int (fun _ _ => rfl))) (pe_ix ix_tup (pv 5) pe_int (fun _ _ => rfl))))
      (pss_cons (ps_set (i := 10) sc_Lpiece_holds.nd rfl (Or.inl rfl) (pe_op op_mulB (pe_op op_mulB pe_int (pe_ix ix_tup (pv 4) pe_int (fun _ _ => rfl))) (pe_ix ix_tup (pv 5) pe_int (fun _ _ => rfl))))
      (pss_cons (ps_set (i := 11) sc_Lpiece_holds.nd rfl (Or.inl rfl) (pe_op op_mulB (pe_op op_mulB pe_int (pe_ix ix_tup (pv 5) pe_int (fun _ _ => rfl))) (pe_ix ix_tup (pv 4) pe_int (fun _ _ => rfl))))
      (pss_cons (ps_set (i := 12) sc_Lpiece_holds.nd rfl (Or.inl rfl) (pe_op op_add (pe_op op_mulB (pe_ix ix_tup (pv 4) pe_int (fun _ _ => rfl)) (pe_ix ix_tup (pv 5) pe_int (fun _ _ => rfl))) (pe_op op_mulB (pe_ix ix_tup (pv 5) pe_int (fun _ _ => rfl)) (pe_ix ix_tup (pv 4) pe_int (fun _ _ => rfl)))))
      (pss_cons (ps_lc (i := 13) cs_Lpiece_holds_c0 rfl (pi_list (pe_lst (pa_cons (pv 10) (pa_cons (pv 12) (pa_cons (pv 11) pa_nil))))) (fun C ex s2 H2 => (pg_name (i := 0) nd_Lpiece_holds_c0 rfl (Or.inl rfl) (Or.inr rfl))) (fun C ex s2 H2 => pts_nil) (fun C ex s2 H2 => (pe_op op_mulB (pe_def D_Lturned (hr.mono (by decide)) rfl pass0 (pa_cons (pv 5) (pa_cons (pv 4) (pa_cons (pv 2) (pa_cons (pv 6) (pa_cons (pe_tup (pa_cons (pv 0) (pa_cons (pv 1) pa_nil))) pa_nil)))))) (pe_ix (ix_tupK (K := K) rfl) (pv 3) pe_int (fun _ _ => rfl)))) sc_Lpiece_holds.nd rfl rfl)
      (pss_cons (ps_set (i := 14) sc_Lpiece_holds.nd rfl (Or.inl rfl) (pe_op op_mulB (pe_op op_mulB (pe_op op_mulB (pe_op op_mulB (pe_ix ix_tup (pv 8) pe_int (fun _ _ => rfl)) pe_int) (pv 9)) (pv 9)) (pv 2)))
      (pss_cons (ps_for PassesOwn.never rfl (pi_list (pe_lst (pa_cons (pe_tup (pa_cons (pv 10) (pa_cons (pe_ix ix_list (pv 13) pe_int (fun _ _ => rfl)) pa_nil))) (pa_cons (pe_tup (pa_cons (pv 11) (pa_cons (pe_ix ix_list (pv 13) pe_int (fun _ _ => rfl)) pa_nil))) pa_nil)))) (pg_tup (n := 2) rfl (pgs_cons (pg_name (i := 15) sc_Lpiece_holds.nd rfl (Or.inl rfl)) (pgs_cons (pg_name (i := 16) sc_Lpiece_holds.nd rfl (Or.inl rfl)) pgs_nil)))
        (pss_one (ps_if (PW.pt (pw_or (pt_cmpR op_gt (pv 16) (pv 14) (nomark _)) (pw_or1 (PW.pt (pw_and (pt_cmpR op_eq (pv 16) (pv 14) (nomark _)) (pw_and1 (pt_val (pe_def D_Lless (hr.mono (by decide)) rfl pass0 (pa_cons (pe_tup (pa_cons (pv 15) (pa_cons (pv 9) pa_nil))) (pa_cons (pv 7) pa_nil))))))))))
          (pss_one (ps_ret pe_bl))
          pss_nil)))
      (pss_cons (ps_set (i := 17) sc_Lpiece_holds.nd rfl (Or.inl rfl) (pe_op op_sub (pe_op op_sub (pe_op op_mulB pe_int (pe_ix ix_list (pv 13) pe_int (fun _ _ => rfl))) (pe_op op_mulB pe_int (pe_ix ix_list (pv 13) pe_int (fun _ _ => rfl)))) (pe_ix ix_list (pv 13) pe_int (fun _ _ => rfl))))
      (pss_cons (ps_set (i := 18) sc_Lpiece_holds.nd rfl (Or.inl rfl) (pe_op op_sub (pe_op op_sub (pe_op op_mulB pe_int (pe_ix ix_list (pv 13) pe_int (fun _ _ => rfl))) (pe_op op_mulB pe_int (pe_ix ix_list (pv 13) pe_int (fun _ _ => rfl)))) (pe_op op_mulB pe_int (pe_ix ix_list (pv 13) pe_int (fun _ _ => rfl)))))
      (pss_cons (ps_if (PW.pt (pw_or (pt_cmpR op_le (pv 18) pe_int (nomark _)) (pw_or (pt_cmpR op_le (pv 17) pe_int (nomark _)) (pw_or1 (pt_cmpR op_ge (pv 17) (pe_op op_mulB pe_int (pv 18)) (nomark _))))))
        (pss_one (ps_ret pe_bl))
        pss_nil)
      (pss_cons (ps_set (i := 19) sc_Lpiece_holds.nd rfl (Or.inl rfl) (pe_op op_mulB (pe_op op_mulB pe_int (pv 18)) (pe_op op_sub (pv 14) (pe_ix ix_list (pv 13) pe_int (fun _ _ => rfl)))))
      (pss_cons (ps_if (pt_cmpR op_gt (pe_op op_mulB (pv 17) (pv 17)) (pv 19) (nomark _))
        (pss_one (ps_ret pe_bl))
        pss_nil)
      (pss_cons (ps_set (i := 20) sc_Lpiece_holds.nd rfl (Or.inl rfl) (pe_tup (pa_cons (pe_op op_add (pe_op op_mulB (pe_op op_mulB (pv 10) pe_int) (pv 18)) (pe_op op_mulB (pe_op op_sub (pv 11) (pv 10)) (pv 17))) (pa_cons (pe_op op_mulB (pe_op op_mulB (pv 9) pe_int) (pv 18)) pa_nil))))
      (pss_one (ps_ret (pe_or (pe_cmpR op_lt (pe_op op_mulB (pv 17) (pv 17)) (pv 19) (nomark _)) (pe_one (pe_not (pe_def D_Lless (hr.mono (by decide)) rfl pass0 (pa_cons (pv 20) (pa_cons (pv 7) pa_nil)))))))))))))))))))))), ?_⟩
    walk_at "rds"
    generalize 2 * (a.den : Int) * b.den = bt at *
    generalize 2 * a.num * (b.den : Int) = fi at *
    generalize 2 * b.num * (a.den : Int) = la at *
    generalize a.num * (b.den : Int) + b.num * a.den = mi at *
    refine rLst.mk' (by show 3 ≤ sizeLine; decide) fun l3 H1 s1 _ h3 => ?_
    have ct1 := ct.same' s1
    have fy1 := fy.same s1
    walk_at "rd"
    have p3 : Paired (fun (v : V) (t : Int) => v = .int t ∧ Bi 2200 t) [.int fi, .int mi, .int la] [fi, mi, la] := .cons ⟨rfl, bfi⟩ (.cons ⟨rfl, bmi⟩ (.cons ⟨rfl, bla⟩ .nil))
    refine rLc.for p3 (Over.list (SqL.of h3)) (by show 3 ≤ sizeLine; decide) (fun σ => ∃ c, σ = [c, some (.int bt), some (.int cm), some v2, some (.ref p), some (.ref l), some (.ref rw)]) (fun t H' y => y = .int (turnT cm rs qs rows t bt * (Fo rs qs rows x).den) ∧ Bi 206400 (turnT cm rs qs rows t bt)) (fun _ _ _ _ _ e => e) ⟨_, rfl⟩ ?_ ?_
    · rintro t v σ' H2 C1 mem ⟨rfl, btt⟩ s2 ⟨c, rfl⟩ k1
      walk_at "rd"
      refine rTup.mk' (by show 2 ≤ sizeLine; decide) fun pz H3 s3 _ h3' => ?_
      walk_at "rd"
      refine spLTurned.use ((ct1.same' s2).same' s3) cp ⟨pz, rfl, h3'⟩ btt bbt (by decide) fun H4 s4 bN => ?_
      have fy4 := fy1.same ((s2.trans s3).trans s4)
      walk_at "rd"
      exact k1 _ _ _ ⟨_, rfl⟩ (s3.trans s4) ⟨rfl, bN.mono (by decide)⟩
    intro D ys H2 s2 _ hD py
    obtain ⟨eys, b0, b1, b2⟩ : ys = [.int (turnT cm rs qs rows fi bt * (Fo rs qs rows x).den), .int (turnT cm rs qs rows mi bt * (Fo rs qs rows x).den), .int (turnT cm rs qs rows la bt * (Fo rs qs rows x).den)] ∧ Bi 206400 (turnT cm rs qs rows fi bt) ∧ Bi 206400 (turnT cm rs qs rows mi bt) ∧ Bi 206400 (turnT cm rs qs rows la bt) := by
      cases py with
      | cons q0 py =>
      cases py with
      | cons q1 py =>
      cases py with
      | cons q2 py =>
      cases py
      exact ⟨by rw [q0.1, q1.1, q2.1], q0.2, q1.2, q2.2⟩
    subst eys
    have s02 := s1.trans s2
    have fy2 := fy.same s02
    have fx2 := fx.same s02
    clear h0 h1 h2
    generalize turnT cm rs qs rows fi bt = t0 at *
    generalize turnT cm rs qs rows mi bt = t1 at *
    generalize turnT cm rs qs rows la bt = t2 at *
    generalize hy : Fo rs qs rows x = y at *
    have eS : y.num * (2 * bt * bt * cm) = y.num * 2 * bt * bt * cm := by simp only [Int.mul_assoc]
    rw [eS] at lk0 lk2 pn
    have bT0 : Bi 9206400 (t0 * (y.den : Int)) := by walk_at "bm"
    have bT1 : Bi 9206400 (t1 * (y.den : Int)) := by walk_at "bm"
    have bT2 : Bi 9206400 (t2 * (y.den : Int)) := by walk_at "bm"
    generalize t0 * (y.den : Int) = T0 at *
    generalize t1 * (y.den : Int) = T1 at *
    generalize t2 * (y.den : Int) = T2 at *
    walk_at "rd"
    have bdu : Bi 9154600 (y.num * 2 * bt * bt * cm) := by walk_at "bm"
    generalize y.num * 2 * bt * bt * cm = du at *
    refine rTup.mk' (by show 2 ≤ sizeLine; decide) fun p0 H3 s3 _ hp0 => ?_
    have hD3 := s3 _ _ hD
    walk_at "rd"
    refine rTup.mk' (by show 2 ≤ sizeLine; decide) fun p2 H4 s4 _ hp2 => ?_
    walk_at "rd"
    refine rLst.mk' (by show 2 ≤ sizeLine; decide) fun l2 H5 s5 _ h5 => ?_
    have s25 := (s3.trans s4).trans s5
    have hD5 := s25 _ _ hD
    have hp05 := s5 _ _ (s4 _ _ hp0)
    have hp25 := s5 _ _ hp2
    have fx5 := fx2.same s25
    walk_at "rd"
    refine rFor.over (Over.list (SqL.of h5)) (fun i σ H' => Same H5 H' ∧ ∃ x1 x2, σ = [some (.ref l), some (.ref p), some (.int cm), some (.ref rw), some va, some vb, some (.ref pvx), some v1, some v2, some (.int bt), some (.int fi), some (.int la), some (.int mi), some (.ref D), some (.int du), x1, x2, none, none, none, none]) ⟨Same.refl _, _, _, rfl⟩ (fun i σ H' p => p.1) ?_ ?_
    · rintro i v σ H6 H7 hi ⟨sm, x1, x2, rfl⟩ s7 hv7
      obtain ⟨pz, t, N, rfl, hz, bz, bN, lo1, lo2, et⟩ : ∃ (pz : Addr) (t N : Int), v = .ref pz ∧ H5 pz = some (.tup [.int t, .int N]) ∧ Bi 2200 t ∧ Bi 9206400 N ∧ ¬ N > du ∧ (N = du → ¬ (t : Rat) / bt < x) ∧ True := by
        match i, hi, hv7 with
        | 0, _, hv7 =>
          cases hv7
          exact ⟨p0, fi, T0, rfl, hp05, bfi, bT0, lk0.1, fun h => by rw [efi]; exact lk0.2 h, trivial⟩
        | 1, _, hv7 =>
          cases hv7
          exact ⟨p2, la, T2, rfl, hp25, bla, bT2, lk2.1, fun h => by rw [ela]; exact lk2.2 h, trivial⟩
      have s57 := sm.trans s7
      have hz7 := s57 _ _ hz
      have fx7 := fx5.same s57
      walk_at "rd"
      refine ite_f lo1 ?_
      walk_at "rd"
      refine decI (fun c => ?_) (fun c => ?_)
      · walk_at "rd"
        refine rTup.mk' (by show 2 ≤ sizeLine; decide) fun pw H8 s8 _ h8 => ?_
        walk_at "rd"
        refine spLess.use ⟨pw, rfl, h8⟩ (IsTB.of (fx7.same s8)) bz bbt bx.n bx.d (by decide) bt0 (dpos x) ?_
        rw [num_div]
        walk_at "rd"
        refine ite_f (lo2 c) ?_
        walk_at "rd"
        exact ⟨s57.trans s8, _, _, rfl⟩
      · walk_at "rd"
        exact ⟨s57, _, _, rfl⟩
    rintro σ H6 ⟨sm, x1, x2, rfl⟩
    have hD6 := sm _ _ hD5
    have fx6 := fx5.same sm
    have s06 := (s02.trans s25).trans sm
    have pn := pn (4 * T1 - 3 * T0 - T2) (4 * T1 - 2 * T0 - 2 * T2) rfl rfl
    have bsp : Bi 9206500 (4 * T1 - 3 * T0 - T2) := by walk_at "bm"
    have bfl : Bi 9206500 (4 * T1 - 2 * T0 - 2 * T2) := by walk_at "bm"
    walk_at "rd"
    generalize 4 * T1 - 3 * T0 - T2 = sp at *
    generalize 4 * T1 - 2 * T0 - 2 * T2 = fl at *
    refine decI (fun c1 => ?_) (fun c1 => ?_)
    · walk_at "rd"
      exact k H6 s06
    walk_at "rd"
    refine decI (fun c2 => ?_) (fun c2 => ?_)
    · walk_at "rd"
      exact k H6 s06
    walk_at "rd"
    refine decI (fun c3 => ?_) (fun c3 => ?_)
    · walk_at "rd"
      exact k H6 s06
    obtain ⟨p1, p2'⟩ := pn (by omega) (by omega) (by omega)
    walk_at "rd"
    refine ite_f (by omega) ?_
    walk_at "rd"
    refine rTup.mk' (by show 2 ≤ sizeLine; decide) fun pw H8 s8 _ h8 => ?_
    walk_at "rd"
    have fl0 : 0 < bt * 2 * fl := Int.mul_pos (by omega) (by omega)
    refine decI (fun c4 => ?_) (fun c4 => ?_)
    · walk_at "rd"
      exact k _ (s06.trans s8)
    · walk_at "rd"
      refine spLess.use (n1 := 9300000) ⟨pw, rfl, h8⟩ (IsTB.of (fx6.same s8)) (by walk_at "bm") (by walk_at "bm") bx.n bx.d (by decide) fl0 (dpos x) ?_
      rw [num_div, decide_eq_false (p2' (by omega))]
      walk_at "rd"
      exact k _ (s06.trans s8)
theorem ro_ok {r : Ro} (h : r.a ≤ r.b) : r.ld.ok := by
  unfold Ro.ld
  split
  · trivial
  · show r.a < r.b
    omega
theorem ro_edge {r : Ro} {k : Int} (h : k ∈ r.ld.edges) : k = r.a ∨ k = r.b := by
  unfold Ro.ld at h
  split at h
  · exact .inl (List.mem_singleton.mp h)
  · simpa [Ld.edges] using h
/-- neighbours among what is looked at: the curve between them -/
theorem piece_quad {rs : List Int} {qs : List Rat} {rows : List Ro} {s e a b : Rat} {L : List Rat} {i : Nat} (okr : ∀ r ∈ rows, r.a ≤ r.b) (up : s < e → L.Pairwise (· < ·)) (mem : ∀ m ∈ L, s ≤ m ∧ m ≤ e) (cov : ∀ k : Int, (k ∈ rs ∨ ∃ r ∈ rows, k = r.a ∨ k = r.b) → (k : Rat) ∈ L ∨ (k : Rat) ≤ s ∨ e ≤ (k : Rat)) (ha : L[i]? = some a) (hb : L[i + 1]? = some b) :
    (s ≤ a ∧ b ≤ e ∧ a ≤ b) ∧ (a < b → ∃ κ, Quad (Fo rs qs rows) a b κ) := by
  have ma := mem a (List.mem_of_getElem? ha)
  have mb := mem b (List.mem_of_getElem? hb)
  by_cases c : s < e
  · obtain ⟨lt, cv⟩ := nbr (up c) ha hb
    have key : ∀ k : Int, (k ∈ rs ∨ ∃ r ∈ rows, k = r.a ∨ k = r.b) → (k : Rat) ≤ a ∨ b ≤ (k : Rat) := fun k hk => by
      rcases cov k hk with h | h | h
      · exact cv _ h
      · exact .inl (Rat.le_trans h ma.1)
      · exact .inr (Rat.le_trans mb.2 h)
    refine ⟨⟨ma.1, mb.2, Rat.le_of_lt lt⟩, fun _ => ⟨_, Quad.turn lt (fun M hM => ?_) (fun k hk => key k (.inl hk)) fun M hM k hk => ?_⟩⟩
    · obtain ⟨r, hr, rfl⟩ := List.mem_map.mp hM
      exact ro_ok (okr r hr)
    · obtain ⟨r, hr, rfl⟩ := List.mem_map.mp hM
      exact key k (.inr ⟨r, hr, ro_edge hk⟩)
  · exact ⟨⟨ma.1, mb.2, by grind⟩, fun h => by exfalso; grind⟩
def spNoMore : Sp := fun vs H Q _ => ∃ (l p rw st : Addr) (v v1 v2 : V) (cm : Int) (rs : List Int) (qs : List Rat) (rows : List Ro) (s e x : Rat), vs = [.ref l, .ref p, .int cm, .ref rw, .ref st, v] ∧ CtH H l p rw cm rs qs rows ∧ CtP cm rs qs rows ∧ H st = some (.lst [v1, v2]) ∧ IsFr H v1 s ∧ IsFr H v2 e ∧ Bq 1000 s ∧ Bq 1000 e ∧ s ≤ e ∧ rows.length ≤ 8 ∧ (∀ r ∈ rows, r.a ≤ r.b) ∧ IsPt H v x (Fo rs qs rows x) ∧ Top (Fo rs qs rows) s e x ∧ Bq 370000 x ∧ Bq 9000000 (Fo rs qs rows x) ∧ ∀ H', Same H H' → Q (.bl true) H'
theorem spNoMore.use {H : Hp} {Q : VK} {E : XK} {l p rw st : Addr} {v v1 v2 : V} {cm : Int} {rs : List Int} {qs : List Rat} {rows : List Ro} {s e x : Rat} (h1 : CtH H l p rw cm rs qs rows) (h2 : CtP cm rs qs rows) (hst : H st = some (.lst [v1, v2])) (f1 : IsFr H v1 s) (f2 : IsFr H v2 e) (d1 : Bq 1000 s) (d2 : Bq 1000 e) (se : s ≤ e) (hl : rows.length ≤ 8) (okr : ∀ r ∈ rows, r.a ≤ r.b) (h5 : IsPt H v x (Fo rs qs rows x)) (h6 : Top (Fo rs qs rows) s e x) (b1 : Bq 370000 x) (b2 : Bq 9000000 (Fo rs qs rows x)) (k : ∀ H', Same H H' → Q (.bl true) H') : spNoMore [.ref l, .ref p, .int cm, .ref rw, .ref st, v] H Q E :=
  ⟨l, p, rw, st, v, v1, v2, cm, rs, qs, rows, s, e, x, rfl, h1, h2, hst, f1, f2, d1, d2, se, hl, okr, h5, h6, b1, b2, k⟩
theorem ok_no_more (T : Txt K mg ad) : Def P w K mg base CX0 43 "_law_no_more" ["_law_rests", "_law_parts", "_law_common", "_law_rows_here", "_law_stretch_here", "_law_found"] spNoMore := by
  have D_Lless := ok_less (P := P) (w := w) (base := base) T
  have D_Lpiece_holds := ok_piece_holds (P := P) (w := w) (base := base) T
  refine T.f_Lno_more.ok sc_Lno_more (fun vs H Q E h => ?_) (fun f cdv A outer s H vs Q E hr h => ?_)
  · obtain ⟨_, _, _, _, _, _, _, _, _, _, _, _, _, _, rfl, _⟩ := h
    rfl
  · obtain ⟨l, p, rw, st, v, v1, v2, cm, rs, qs, rows, s0, e0, x, rfl, ct, cp, hst, f1, f2, d1, d2, se, hl8, okr, pt, tp, bx, bF, k⟩ := h
    obtain ⟨vr, hrw, prw⟩ := ct.hw
    have e2 := cp.e2
    refine ⟨_, (pss_cons (ps_asg (pv 4) (pg_lst (n := 2) rfl (pgs_cons (pg_name (i := 6) sc_Lno_more.nd rfl (Or.inr rfl)) (pgs_cons (pg_name (i := 7) sc_Lno_more.nd rfl (Or.inr rfl)) pgs_nil))))
      (pss_cons (ps_set (i := 8) sc_Lno_more.nd rfl (Or.inl rfl) (pe_callTy call_list' (by rfl) T.b_list PyProof.Rows.Boot.«list» (pa_cons (pv 0) pa_nil)))
      (pss_cons (ps_for PassesOwn.never rfl (pi_list (pv 3)) (pg_name (i := 9) sc_Lno_more.nd rfl (Or.inl rfl))
        (pss_one (ps_set (i := 8) sc_Lno_more.nd rfl (Or.inl rfl) (pe_op op_cat (pv 8) (pe_lst (pa_cons (pe_ix ix_tup (pv 9) pe_int (fun _ _ => rfl)) (pa_cons (pe_ix ix_tup (pv 9) pe_int (fun _ _ => rfl)) pa_nil)))))))
      (pss_cons (ps_lc (i := 10) cs_Lno_more_c0 rfl (pi_list (pe_sset rfl T.b_sorted rfl T.b_set hr.hd (pa_cons (pv 8) pa_nil))) (fun C ex s2 H2 => (pg_name (i := 0) nd_Lno_more_c0 rfl (Or.inl rfl) (Or.inr rfl))) (fun C ex s2 H2 => pts_one (PW.pt (pw_and (pt_val (pe_def D_Lless (hr.mono (by decide)) rfl pass0 (pa_cons (pv 2) (pa_cons (pe_tup (pa_cons (pv 0) (pa_cons pe_int pa_nil))) pa_nil)))) (pw_and1 (pt_val (pe_def D_Lless (hr.mono (by decide)) rfl pass0 (pa_cons (pe_tup (pa_cons (pv 0) (pa_cons pe_int pa_nil))) (pa_cons (pv 1) pa_nil)))))))) (fun C ex s2 H2 => (pe_tup (pa_cons (pv 0) (pa_cons pe_int pa_nil)))) sc_Lno_more.nd rfl rfl)
      (pss_cons (ps_set (i := 10) sc_Lno_more.nd rfl (Or.inl rfl) (pe_op op_cat (pe_op op_cat (pe_lst (pa_cons (pv 6) pa_nil)) (pv 10)) (pe_lst (pa_cons (pv 7) pa_nil))))
      (pss_cons (ps_for PassesOwn.never rfl (pi_zip rfl T.b_zip (pa_cons (pv 10) (pa_cons (pe_slice sl_list (pv 10) (po_some pe_int) po_none) pa_nil))) (pg_tup (n := 2) rfl (pgs_cons (pg_name (i := 11) sc_Lno_more.nd rfl (Or.inl rfl)) (pgs_cons (pg_name (i := 12) sc_Lno_more.nd rfl (Or.inl rfl)) pgs_nil)))
        (pss_one (ps_if (pt_not (pt_val (pe_def D_Lpiece_holds (hr.mono (by decide)) rfl pass0 (pa_cons (pv 0) (pa_cons (pv 1) (pa_cons (pv 2) (pa_cons (pv 3) (pa_cons (pv 11) (pa_cons (pv 12) (pa_cons (pv 5) pa_nil))))))))))
          (pss_one (ps_ret pe_bl))
          pss_nil)))
      (pss_one (ps_ret pe_bl)))))))), ?_⟩
    walk_at "rds"
    refine rListOf.l (SqL.of ct.hl) fun b H1 s1 n1 h1 => ?_
    have hrw1 := s1 _ _ hrw
    walk_at "rd"
    refine rFor.over (H0 := H1) (Over.list (SqL.of hrw1)) (fun i σ H' => Same H1 H' ∧ ∃ (b : Addr) (xs : List Int) (x1 : Option V), σ = [some (.ref l), some (.ref p), some (.int cm), some (.ref rw), some (.ref st), some v, some v1, some v2, some (.ref b), x1, none, none, none] ∧ H' b = some (.lst (xs.map V.int)) ∧ xs.length = rs.length + 2 * i ∧ ∀ k, k ∈ xs ↔ k ∈ rs ∨ ∃ r ∈ rows.take i, k = r.a ∨ k = r.b) ⟨Same.refl _, b, rs, none, rfl, h1, by omega, fun p => by simp⟩ (fun i σ H' p => p.1) ?_ ?_
    · rintro i v' σ H2 H3 hi ⟨sm, b', xs, x1, rfl, hb, lx, mem⟩ s3 hv
      obtain ⟨r, hr, fr⟩ := Paired.get prw hv
      have fr3 := fr.same' ((s1.trans sm).trans s3)
      have hb3 := s3 _ _ hb
      rw [prw.length] at hi
      walk_at "rd"
      refine rLst.mk' (by show 2 ≤ sizeLine; decide) fun l2 H4 s4 _ h4 => ?_
      walk_at "rd"
      refine cat_use (s4 _ _ hb3) h4 (Nat.le_of_lt (small1000 (by rw [List.length_map]; simp only [List.length_cons, List.length_nil]; omega))) fun l5 H5 s5 _ h5 => ?_
      walk_at "rd"
      refine ⟨((sm.trans s3).trans s4).trans s5, l5, xs ++ [r.a, r.b], _, rfl, by rw [List.map_append]; exact h5, by rw [List.length_append, lx]; simp only [List.length_cons, List.length_nil]; omega, fun q => ?_⟩
      rw [List.mem_append, mem q, take_snoc hr]
      constructor
      · rintro ((h | ⟨M, hM, h⟩) | h)
        · exact .inl h
        · exact .inr ⟨M, List.mem_append_left _ hM, h⟩
        · exact .inr ⟨r, List.mem_append_right _ (by simp), by simpa using h⟩
      · rintro (h | ⟨M, hM, h⟩)
        · exact .inl (.inl h)
        · rcases List.mem_append.mp hM with hM | hM
          · exact .inl (.inr ⟨M, hM, h⟩)
          · rw [List.mem_singleton.mp hM] at h
            exact .inr (by simpa using h)
    rintro σ H2 ⟨sm, b', xs, x1, rfl, hb, lx, mem⟩
    rw [prw.length] at lx mem
    rw [List.take_length] at mem
    walk_at "rd"
    refine sset_use (SqL.of hb) (by omega) fun lk H3 ks s3 n3 up mk h3 => ?_
    have s03 := (s1.trans sm).trans s3
    have f13 := f1.same s03
    have f23 := f2.same s03
    have bk : ∀ z ∈ ks, Bi 300 z := fun z hz => by
      rcases (mem z).mp ((mk z).mp hz) with q | ⟨r, hr, q | q⟩
      · exact cp.br z q
      · rw [q]
        exact (cp.bw r hr).1
      · rw [q]
        exact (cp.bw r hr).2.1
    have lk64 : ks.length ≤ 64 := by
      have := nodup_le (up.imp fun h => Int.ne_of_lt h) fun k hk => (mk k).mp hk
      omega
    walk_at "rd"
    refine rLc.things (xs := ks.map V.int) (Over.list (SqL.of h3)) (by rw [List.length_map]; exact Nat.le_of_lt (small1000 (by omega))) (fun σ => ∃ c, σ = [c, some v2, some v1]) (fun x' H' y' => ∃ z : Int, x' = .int z ∧ IsFr H' y' (z : Rat)) (fun x' => match x' with | .int z => decide (s0 < (z : Rat)) && decide ((z : Rat) < e0) | _ => false) (fun _ _ _ _ n ⟨z, e, f⟩ => ⟨z, e, f.nl n⟩) ⟨_, rfl⟩ ?_ ?_
    · rintro x' σ' H5 C1 C2 hx' s5 ⟨o, rfl⟩ k1' k2'
      obtain ⟨z, hz, rfl⟩ := List.mem_map.mp hx'
      have bz : Bq 301 (z : Rat) := Bq.int (bk z hz)
      have hx5 := f13.same s5
      have hy5 := f23.same s5
      walk_at "rd"
      rename_i va Ha sa fa
      refine spLess.fr (hx5.same sa) fa d1 bz (by decide) ?_
      walk_at "rd"
      refine decI (fun c1 => ?_) (fun c1 => ?_)
      · walk_at "rd"
        rename_i vb Hb sb fb
        refine spLess.fr fb ((hy5.same sa).same sb) bz d2 (by decide) ?_
        walk_at "rd"
        refine decI (fun c2 => ?_) (fun c2 => ?_)
        · walk_at "rd"
          rename_i vc Hc sc fc
          exact k1' _ _ _ ⟨_, rfl⟩ ((sa.trans sb).trans sc) (by simp [c1, c2]) ⟨z, rfl, fc⟩
        · exact k2' _ _ ⟨_, rfl⟩ (sa.trans sb) (by simp [c2])
      · exact k2' _ _ ⟨_, rfl⟩ sa (by simp [c1])
    intro D ys H4 s4 _ h4 py
    have py' : Paired (fun (x : V) y => ∃ z : Int, x = .int z ∧ IsFr H4 y (z : Rat)) ((ks.filter fun (z : Int) => decide (s0 < (z : Rat)) && decide ((z : Rat) < e0)).map V.int) ys := by
      rw [← filt_int]
      exact py
    have pf := paired_fr py'
    have ly : ys.length ≤ 64 := by
      rw [pf.length, List.length_map]
      exact Nat.le_trans (List.length_filter_le _ _) (by omega)
    walk_at "rd"
    refine rLst.mk' (by show 1 ≤ sizeLine; decide) fun l5 H5 s5 _ h5 => ?_
    walk_at "rd"
    refine cat_use h5 (s5 _ _ h4) (Nat.le_of_lt (small1000 (by simp only [List.length_cons, List.length_nil]; omega))) fun l6 H6 s6 _ h6 => ?_
    walk_at "rd"
    refine rLst.mk' (by show 1 ≤ sizeLine; decide) fun l7 H7 s7 _ h7 => ?_
    walk_at "rd"
    refine cat_use (s7 _ _ h6) h7 (Nat.le_of_lt (small1000 (by rw [List.length_append]; simp only [List.length_cons, List.length_nil]; omega))) fun l8 H8 s8 _ h8 => ?_
    have s48 := (s5.trans s6).trans (s7.trans s8)
    have s08 := (s03.trans s4).trans s48
    have pL : Paired (IsFr H8) ([v1] ++ ys ++ [v2]) (s0 :: ((ks.filter fun (z : Int) => decide (s0 < (z : Rat)) && decide ((z : Rat) < e0)).map (fun (z : Int) => (z : Rat)) ++ [e0])) := .cons (f1.same s08) ((Paired.imp' (fun _ _ x => x.same s48) pf).snoc (f2.same s08))
    have hz : ∀ q, q ∈ (ks.filter fun (z : Int) => decide (s0 < (z : Rat)) && decide ((z : Rat) < e0)) ↔ q ∈ ks ∧ s0 < (q : Rat) ∧ (q : Rat) < e0 := fun q => by
      rw [List.mem_filter]
      simp
    have upz : (ks.filter fun (z : Int) => decide (s0 < (z : Rat)) && decide ((z : Rat) < e0)).Pairwise (· < ·) := up.sublist List.filter_sublist
    generalize (ks.filter fun (z : Int) => decide (s0 < (z : Rat)) && decide ((z : Rat) < e0)) = zs at *
    have upL : s0 < e0 → (s0 :: (zs.map (fun (z : Int) => (z : Rat)) ++ [e0])).Pairwise (· < ·) := fun c => by
      rw [List.pairwise_cons]
      refine ⟨fun a ha => ?_, ?_⟩
      · rcases List.mem_append.mp ha with ha | ha
        · obtain ⟨z, hz', rfl⟩ := List.mem_map.mp ha
          exact ((hz z).mp hz').2.1
        · rw [List.mem_singleton.mp ha]
          exact c
      · rw [List.pairwise_append]
        refine ⟨?_, by simp, fun a ha b hb => ?_⟩
        · rw [List.pairwise_map]
          exact upz.imp fun h => by exact_mod_cast h
        · obtain ⟨z, hz', rfl⟩ := List.mem_map.mp ha
          rw [List.mem_singleton.mp hb]
          exact ((hz z).mp hz').2.2
    have memL : ∀ m ∈ (s0 :: (zs.map (fun (z : Int) => (z : Rat)) ++ [e0])), (s0 ≤ m ∧ m ≤ e0) ∧ Bq 1000 m := fun m hm => by
      rcases List.mem_cons.mp hm with rfl | hm
      · exact ⟨⟨Rat.le_refl, se⟩, d1⟩
      · rcases List.mem_append.mp hm with hm | hm
        · obtain ⟨z, hz', rfl⟩ := List.mem_map.mp hm
          obtain ⟨q1, q2, q3⟩ := (hz z).mp hz'
          exact ⟨⟨Rat.le_of_lt q2, Rat.le_of_lt q3⟩, (Bq.int (bk z q1)).mono (by decide)⟩
        · rw [List.mem_singleton.mp hm]
          exact ⟨⟨se, Rat.le_refl⟩, d2⟩
    have covL : ∀ k : Int, (k ∈ rs ∨ ∃ r ∈ rows, k = r.a ∨ k = r.b) → (k : Rat) ∈ (s0 :: (zs.map (fun (z : Int) => (z : Rat)) ++ [e0])) ∨ (k : Rat) ≤ s0 ∨ e0 ≤ (k : Rat) := fun k hk => by
      have hk' : k ∈ ks := (mk k).mpr ((mem k).mpr hk)
      rcases lt_or_le s0 (k : Rat) with q1 | q1
      · rcases lt_or_le (k : Rat) e0 with q2 | q2
        · exact .inl (List.mem_cons_of_mem _ (List.mem_append_left _ (List.mem_map.mpr ⟨k, (hz k).mpr ⟨hk', q1, q2⟩, rfl⟩)))
        · exact .inr (.inr q2)
      · exact .inr (.inl q1)
    generalize (s0 :: (zs.map (fun (z : Int) => (z : Rat)) ++ [e0])) = Lq at *
    have lv : 1 ≤ ([v1] ++ ys ++ [v2]).length := by rw [List.length_append]; simp only [List.length_cons, List.length_nil]; omega
    generalize [v1] ++ ys ++ [v2] = vL at *
    walk_at "rd"
    refine sl_drop (SqL.of h8) (by decide) lv fun l9 H9 s9 _ h9 => ?_
    have h89 := s9 _ _ h8
    walk_at "rd"
    refine ⟨l8, l9, _, _, rfl, SqL.of h89, SqL.of h9, ?_⟩
    refine rFor.over (Over.zip (SqL.of h89) (SqL.of h9)) (fun i σ H' => Same H9 H' ∧ ∃ x2 x3, σ = [some (.ref l), some (.ref p), some (.int cm), some (.ref rw), some (.ref st), some v, some v1, some v2, some (.ref b'), x1, some (.ref l8), x2, x3]) ⟨Same.refl _, _, _, rfl⟩ (fun i σ H' p => p.1) ?_ ?_
    · rintro i v' σ H10 H11 hi ⟨sm', x2, x3, rfl⟩ s11 ⟨pz, xr, xp, rfl, hr, hq, hpz⟩
      obtain ⟨a, ha, fa⟩ := Paired.get pL hr
      rw [List.getElem?_drop] at hq
      obtain ⟨b, hb', fb⟩ := Paired.get pL hq
      have ei : (1 : Int).toNat + i = i + 1 := by show 1 + i = i + 1; omega
      rw [ei] at hb'
      obtain ⟨q1, q2⟩ := piece_quad (qs := qs) okr upL (fun m hm => (memL m hm).1) covL ha hb'
      have s9' := (s9.trans sm').trans s11
      have s011 := s08.trans s9'
      walk_at "rd"
      refine spLPiece.use (ct.same' s011) cp (fa.same s9') (fb.same s9') (memL a (List.mem_of_getElem? ha)).2 (memL b (List.mem_of_getElem? hb')).2 q1 q2 (pt.same s011) tp bx bF fun H12 s12 => ?_
      walk_at "rd"
      exact ⟨(sm'.trans s11).trans s12, _, _, rfl⟩
    · rintro σ H10 ⟨sm', x2, x3, rfl⟩
      walk_at "rd"
      exact k H10 ((s08.trans s9).trans sm')
theorem bi_dprod5 : ∀ {l : List Rat}, (∀ q ∈ l, Bq 50000 q) → Bi (50000 * l.length + 1) (dprod l)
  | [], _ => by
    show Bi _ (1 : Int)
    unfold Bi
    decide
  | q :: l, h => by
    have h1 := (h q List.mem_cons_self).d
    have h2 := bi_dprod5 fun p hp => h p (List.mem_cons_of_mem _ hp)
    rw [dprod, List.length_cons]
    exact (h1.mul h2).mono (by omega)
def spHolds (K : PySem.W.Frag) : Sp := fun vs H Q _ => ∃ (a l fa rw st : Addr) (v v1 v2 : V) (len : Int) (ns rs : List Int) (qs : List Rat) (rows : List Ro) (s e x : Rat), vs = [.ref a, .int len, .ref l, .ref fa, .ref rw, .ref st, v] ∧ SqL K H a (ns.map V.int) ∧ ns.length ≤ 1000 ∧ (0 ≤ len ∧ Bi 300 len) ∧ H l = some (.lst (rs.map V.int)) ∧ IsFrs H fa qs ∧ IsRows H rw rows ∧ H st = some (.lst [v1, v2]) ∧ IsFr H v1 s ∧ IsFr H v2 e ∧ Bq 1000 s ∧ Bq 1000 e ∧ s ≤ e ∧ (qs.length = rs.length ∧ rs.length ≤ 3 ∧ (∀ q ∈ qs, Bq 50000 q) ∧ ∀ x ∈ rs, Bi 300 x) ∧ (rows.length ≤ 8 ∧ (∀ r ∈ rows, r.a ≤ r.b) ∧ ∀ r ∈ rows, Bi 300 r.a ∧ Bi 300 r.b ∧ Bi 300 r.k) ∧ IsPt H v x (Fo rs qs rows x) ∧ Top (Fo rs qs rows) s e x ∧ Bq 370000 x ∧ Bq 9000000 (Fo rs qs rows x) ∧ ∀ H', Same H H' → Q (.bl true) H'
theorem ok_holds (T : Txt K mg ad) (M : Md P base) : Def P w K mg base CX0 45 "_law_holds" ["_law_script", "_law_length", "_law_rests", "_law_borne", "_law_rows_here", "_law_stretch_here", "_law_found"] (spHolds K) := by
  have D_Lis_fraction := ok_is_fraction (P := P) (w := w) (base := base) T
  have D_Lless := ok_less (P := P) (w := w) (base := base) T
  have D_Llooks := ok_looks (w := w) T M
  have D_Lis_most := ok_is_most (P := P) (w := w) (base := base) T
  have D_Lno_more := ok_no_more (P := P) (w := w) (base := base) T
  refine T.f_Lholds.ok sc_Lholds (fun vs H Q E h => ?_) (fun f cdv A outer s H vs Q E hr h => ?_)
  · obtain ⟨_, _, _, _, _, _, _, _, _, _, _, _, _, _, _, _, rfl, _⟩ := h
    rfl
  · obtain ⟨a, l, fa, rw, st, v, v1, v2, len, ns, rs, qs, rows, s0, e0, x, rfl, hS, hns, ⟨l0, bl⟩, hl, ⟨vf, hf, pf⟩, hw, hst, f1, f2, d1, d2, se, ⟨lqs, rl3, bqs, brs⟩, ⟨rw8, okr, brw⟩, pt, tp, bx, bF, k⟩ := h
    have hDc := divOk_comp (X := (cxOf CX0 P w K mg base ["_law_script", "_law_length", "_law_rests", "_law_borne", "_law_rows_here", "_law_stretch_here", "_law_found", "_law_common", "_law_one", "_law_parts"] "_law_holds" (defScope s_Lholds) f cdv A outer s H E).nox) M.seer M.tree (hr.mono (by decide)) rfl rfl rfl
    refine ⟨_, (pss_cons (ps_set (i := 7) sc_Lholds.nd rfl (Or.inr rfl) pe_int)
      (pss_cons (ps_for PassesOwn.never rfl (pi_list (pv 3)) (pg_name (i := 8) sc_Lholds.nd rfl (Or.inl rfl))
        (pss_cons (ps_if (pt_not (pt_val (pe_def D_Lis_fraction (hr.mono (by decide)) rfl pass0 (pa_cons (pv 8) pa_nil))))
          (pss_one (ps_ret pe_bl))
          pss_nil)
        (pss_one (ps_set (i := 7) sc_Lholds.nd rfl (Or.inr rfl) (pe_op op_mulB (pv 7) (pe_ix ix_tup (pv 8) pe_int (fun _ _ => rfl)))))))
      (pss_cons (ps_lc (i := 9) cs_Lholds_c0 rfl (pi_list (pv 3)) (fun C ex s2 H2 => (pg_name (i := 0) nd_Lholds_c0 rfl (Or.inl rfl) (Or.inr rfl))) (fun C ex s2 H2 => pts_nil) (fun C ex s2 H2 => (pe_op op_mulB (pe_ix (ix_tupK (K := K) rfl) (pv 0) pe_int (fun _ _ => rfl)) (pe_op (op_fdivP (hDc _ _ C ex s2 H2)) (pv 1) (pe_ix (ix_tupK (K := K) rfl) (pv 0) pe_int (fun _ _ => rfl))))) sc_Lholds.nd rfl rfl)
      (pss_cons (ps_if (PW.pt (pw_or (pt_cmpR op_ne (pe_callB call_len' (by rfl) T.b_len PyProof.Rows.Boot.«len» (pa_cons (pv 9) pa_nil)) (pe_callB call_len' (by rfl) T.b_len PyProof.Rows.Boot.«len» (pa_cons (pv 2) pa_nil)) (nomark _)) (pw_or (pt_not (pt_val (pe_callB call_isiT' (by rfl) T.b_isinstance PyProof.Rows.Boot.«isinstance» (pa_cons (pv 6) (pa_cons (pe_bltn (v := .ty "tuple") rfl T.b_tuple PyProof.Rows.Boot.«tuple» rfl) pa_nil))))) (pw_or1 (pt_cmpR op_ne (pe_callB call_len' (by rfl) T.b_len PyProof.Rows.Boot.«len» (pa_cons (pv 6) pa_nil)) pe_int (nomark _))))))
        (pss_one (ps_ret pe_bl))
        pss_nil)
      (pss_cons (ps_if (PW.pt (pw_or (pt_not (pt_val (pe_def D_Lis_fraction (hr.mono (by decide)) rfl pass0 (pa_cons (pe_ix ix_tup (pv 6) pe_int (fun _ _ => rfl)) pa_nil)))) (pw_or1 (pt_not (pt_val (pe_def D_Lis_fraction (hr.mono (by decide)) rfl pass0 (pa_cons (pe_ix ix_tup (pv 6) pe_int (fun _ _ => rfl)) pa_nil)))))))
        (pss_one (ps_ret pe_bl))
        pss_nil)
      (pss_cons (ps_if (PW.pt (pw_or (pt_val (pe_def D_Lless (hr.mono (by decide)) rfl pass0 (pa_cons (pe_ix ix_tup (pv 6) pe_int (fun _ _ => rfl)) (pa_cons (pe_ix ix_list (pv 5) pe_int (fun _ _ => rfl)) pa_nil)))) (pw_or1 (pt_val (pe_def D_Lless (hr.mono (by decide)) rfl pass0 (pa_cons (pe_ix ix_list (pv 5) pe_int (fun _ _ => rfl)) (pa_cons (pe_ix ix_tup (pv 6) pe_int (fun _ _ => rfl)) pa_nil)))))))
        (pss_one (ps_ret pe_bl))
        pss_nil)
      (pss_cons (ps_if (pt_not (pt_val (pe_def D_Lis_most (hr.mono (by decide)) rfl pass0 (pa_cons (pv 2) (pa_cons (pv 9) (pa_cons (pv 7) (pa_cons (pv 4) (pa_cons (pe_def D_Llooks (hr.mono (by decide)) rfl pass0 (pa_cons (pv 0) (pa_cons (pv 1) (pa_cons (pv 5) pa_nil)))) (pa_cons (pv 6) pa_nil)))))))))
        (pss_one (ps_ret pe_bl))
        pss_nil)
      (pss_one (ps_ret (pe_def D_Lno_more (hr.mono (by decide)) rfl pass0 (pa_cons (pv 2) (pa_cons (pv 9) (pa_cons (pv 7) (pa_cons (pv 4) (pa_cons (pv 5) (pa_cons (pv 6) pa_nil)))))))))))))))), ?_⟩
    walk_at "rds"
    refine rFor.over (Over.list (SqL.of hf)) (fun i σ H' => Same H H' ∧ ∃ x, σ = [some (.ref a), some (.int len), some (.ref l), some (.ref fa), some (.ref rw), some (.ref st), some v, some (.int (dprod (qs.take i))), x, none]) ⟨Same.refl _, _, rfl⟩ (fun i σ H' p => p.1) ?_ ?_
    · rintro i v' σ H10 H11 hi ⟨sm, x, rfl⟩ s11 hv
      obtain ⟨q, hq, fq⟩ := Paired.get pf hv
      have fq2 := (fq.same sm).same s11
      have bq := bqs q (List.mem_of_getElem? hq)
      have bd' : Bi 150001 (dprod (qs.take i)) := (bi_dprod5 (l := qs.take i) fun p hp => bqs p (List.mem_of_mem_take hp)).mono (by
        have : (qs.take i).length ≤ 3 := by rw [List.length_take]; omega
        omega)
      walk_at "rd"
      refine ⟨sm.trans s11, some v', ?_⟩
      rw [take_snoc hq, dprod_app]
      show [_, _, _, _, _, _, _, some (V.int (dprod (qs.take i) * q.den)), _, _] = [_, _, _, _, _, _, _, some (V.int (dprod (qs.take i) * (q.den * 1))), _, _]
      rw [Int.mul_one]
    rintro σ H1 ⟨s1, x1, rfl⟩
    rw [List.take_of_length_le (by rw [pf.length]; exact Nat.le_refl _)]
    have bcm : Bi 150001 (dprod qs) := (bi_dprod5 bqs).mono (by omega)
    have cm0 := dprod_pos qs
    have dv : ∀ q ∈ qs, (q.den : Int) ∣ dprod qs := fun q hq => den_dvd hq
    generalize dprod qs = cm at *
    have bsh : ∀ q ∈ qs, Bi 200001 (sh cm q) := fun q hq => ((bqs q hq).n.mul (bi_div_nn (by omega) (dpos q) bcm)).mono (by omega)
    have pf1 : Paired (IsFr H1) vf qs := Paired.imp' (fun _ _ x => x.same s1) pf
    walk_at "rd"
    refine rLc.for pf1 (Over.list (SqL.of (s1 _ _ hf))) (by rw [pf1.length, lqs]; exact Nat.le_of_lt (small1000 (by omega))) (fun σ => ∃ c, σ = [c, some (.int cm)]) (fun q H' y => y = .int (sh cm q)) (fun _ _ _ _ _ e => e) ⟨_, rfl⟩ ?_ ?_
    · rintro q v σ' H11 C1 mem isF s11 ⟨c, rfl⟩ k1
      have isF2 := isF.same s11
      have bq := bqs q mem
      have d0 := dpos q
      have bdv := bi_div_nn (x := cm) (by omega) d0 bcm
      walk_at "rd"
      exact k1 _ _ _ ⟨_, rfl⟩ (Same.refl _) rfl
    intro Dp y1 H2 s2 _ hDp p1
    have e1 := paired_ints p1
    subst e1
    have s02 := s1.trans s2
    have hl2 := s02 _ _ hl
    have hst2 := s02 _ _ hst
    have f12 := f1.same s02
    have f22 := f2.same s02
    have cp : CtP cm rs qs rows := ⟨lqs, rl3, by omega, dv, bsh, bcm, cm0, brs, brw⟩
    have ct : CtH H2 l Dp rw cm rs qs rows := ⟨hl2, hDp, hw.same' s02⟩
    have pt2 := pt.same s02
    obtain ⟨pvx, w1, w2, rfl, hv, fx, fy⟩ := id pt2
    walk_at "rd"
    refine ite_nf (by rw [List.length_map, List.length_map, List.length_map, lqs]) ?_
    walk_at "rd"
    refine ite_nf rfl ?_
    walk_at "rd"
    refine spLess.fr fx f12 bx d1 (by decide) ?_
    walk_at "rd"
    refine ite_f (by have := tp.lo; grind) ?_
    walk_at "rd"
    refine spLess.fr f22 fx d2 bx (by decide) ?_
    walk_at "rd"
    refine ite_f (by have := tp.hi; grind) ?_
    walk_at "rd"
    refine spLooks.use (s02.seq hS) hns l0 bl hst2 f12 f22 d1 d2 fun lk H3 xs s3 fk lxs gxs => ?_
    walk_at "rd"
    refine spMost.use (ct.same' s3) cp fk gxs (pt2.same s3) tp bx bF fun H4 s4 => ?_
    have s24 := s3.trans s4
    walk_at "rd"
    refine spNoMore.use (ct.same' s24) cp (s24 _ _ hst2) (f12.same s24) (f22.same s24) d1 d2 se rw8 okr (pt2.same s24) tp bx bF fun H5 s5 => ?_
    exact k H5 ((s02.trans s24).trans s5)
theorem top_uniq {f : Rat → Rat} {s e x y : Rat} (h1 : Top f s e x) (h2 : Top f s e y) : x = y := by
  have a := h1.most y h2.lo h2.hi
  have b := h2.most x h1.lo h1.hi
  have c := h1.first y h2.lo h2.hi (by grind)
  have d := h2.first x h1.lo h1.hi (by grind)
  grind
theorem paired_take {α β : Type} {F : α → β → Prop} : ∀ {xs : List α} {ys : List β} (n : Nat), Paired F xs ys → Paired F (xs.take n) (ys.take n)
  | _, _, 0, _ => by rw [List.take_zero, List.take_zero]; exact .nil
  | _, _, _ + 1, .nil => .nil
  | _, _, n + 1, .cons h t => .cons h (paired_take n t)
theorem refs_of {CW CS : Addr} {H : Hp} : ∀ {vs : List V} {Ls : List Ld}, Paired (IsLd CW CS H) vs Ls → ∃ as : List Addr, vs = as.map V.ref
  | _, _, .nil => ⟨[], rfl⟩
  | _, _, .cons h t => by
    obtain ⟨_, a, _, rfl, _⟩ := h
    obtain ⟨as, e⟩ := refs_of t
    exact ⟨a :: as, by rw [e]; rfl⟩
theorem edges_in (rows : List Ro) : (rows.flatMap fun r => [r.a, r.b]).length = 2 * rows.length := by
  induction rows with
  | nil => rfl
  | cons r rows ih =>
    rw [List.flatMap_cons, List.length_append, ih, List.length_cons]
    simp only [List.length_cons, List.length_nil]
    omega
/-- loads of a few rows, however often: they may be handed in -/
structure GL (K : PySem.W.Frag) (CW CS : Addr) (len : Int) (rs : List Int) (rows : List Ro) (Ls : List Ld) : Prop where
  b : BLs 300 Ls
  l : Ls.length ≤ 100
  few : fewE rs Ls
  ok : ∀ L ∈ Ls, L.ok
  on : ∀ L ∈ Ls, L.on len
theorem GL.of {CW CS : Addr} {len : Int} {rs : List Int} {rows : List Ro} {Ls : List Ld} (bl : Bi 300 len) (ok : ∀ r ∈ rows, Ro.ok len 300 r) (h : ∀ L ∈ Ls, ∃ r ∈ rows, r.ld = L) (hl : Ls.length ≤ 100) (l8 : rows.length ≤ 8) (l3 : rs.length ≤ 3) : GL K CW CS len rs rows Ls := by
  refine ⟨fun L hL => ?_, hl, fun ks nd hk => ?_, fun L hL => ?_, fun L hL => ?_⟩
  · obtain ⟨r, hr, rfl⟩ := h L hL
    exact Ro.bld (ok r hr) bl
  · have := nodup_le (ns := rs ++ rows.flatMap fun r => [r.a, r.b]) nd fun k hk' => by
      rcases hk k hk' with q | ⟨L, hL, q⟩
      · exact List.mem_append_left _ q
      · obtain ⟨r, hr, rfl⟩ := h L hL
        refine List.mem_append_right _ (List.mem_flatMap.mpr ⟨r, hr, ?_⟩)
        have := ro_edge q
        simpa using this
    rw [List.length_append, edges_in] at this
    omega
  · obtain ⟨r, hr, rfl⟩ := h L hL
    exact ro_ok (ok r hr).le
  · obtain ⟨r, hr, rfl⟩ := h L hL
    exact Ro.on (ok r hr)
theorem rests_facts {rs : List Int} {len : Int} (h : restsOk rs) (hl : ∀ x ∈ rs, x ≤ len) : 1 ≤ len ∧ rs.length ≤ 3 ∧ ∀ x ∈ rs, 0 ≤ x := by
  obtain ⟨b, h⟩ := h
  rcases h with ⟨p, q, rfl, h0, h1⟩ | ⟨p, q, r, rfl, h0, h1, h2⟩
  · have := hl q (by simp)
    refine ⟨by omega, by simp, fun x hx => ?_⟩
    simp only [List.mem_cons, List.not_mem_nil, or_false] at hx
    omega
  · have := hl q (by simp)
    refine ⟨by omega, by simp, fun x hx => ?_⟩
    simp only [List.mem_cons, List.not_mem_nil, or_false] at hx
    omega
/-- a row as it is seen from the other end -/
def mirR (len : Int) (r : Ro) : Ro := ⟨len - r.b, len - r.a, r.k⟩
theorem same_rep {o : Int} (o0 : 0 ≤ o) {rows : List Ro} (ok : ∀ r ∈ rows, r.a ≤ r.b) : ∀ φ, Lin φ → sm φ (List.replicate o.toNat (rows.map Ro.ld)).flatten = sm φ ((rows.map (mulR o)).map Ro.ld) := fun φ l => by
  rw [sm_rep, mul_sm l o ok]
  have e : ((o.toNat : Nat) : Rat) = (o : Rat) := by
    have : ((o.toNat : Nat) : Int) = o := by omega
    exact_mod_cast this
  rw [e]
theorem turn_rep {o : Int} (o0 : 0 ≤ o) {rows : List Ro} (ok : ∀ r ∈ rows, r.a ≤ r.b) (rs : List Int) (qs : List Rat) : (fun t => turnOf rs qs (List.replicate o.toNat (rows.map Ro.ld)).flatten t) = Fo rs qs (rows.map (mulR o)) := by
  funext t
  show dotL t rs qs - sm (fun L => L.left t) (List.replicate o.toNat (rows.map Ro.ld)).flatten = dotL t rs qs - sm (fun L => L.left t) ((rows.map (mulR o)).map Ro.ld)
  rw [same_rep o0 ok _ (lin_left t)]
def spLaw (K : PySem.W.Frag) : Sp := fun vs H Q _ => ∃ (a : Addr) (ns : List Int), vs = [.ref a] ∧ SqL K H a (ns.map V.int) ∧ ns.length ≤ 63 ∧ ∀ H', Q (.bl true) H'
theorem ok_law {f : Addr} {fd : FuncData} (F : Fun K "law" "law" s_law f fd) (T : Txt K mg ad) (M : Md P base) : FnOk P w K mg base CX0 52 f fd ["_law_script"] (spLaw K) := by
  have D_Lcell_at := ok_cell (P := P) (w := w) (base := base) T
  have D_Lbeam := ok_beam (w := w) T M
  have D_Lrows := ok_rows (w := w) T M
  have D_Lmade := ok_made (P := P) (w := w) (base := base) T
  have D_Lstretch := ok_stretch (w := w) T M
  have D_Lholds := ok_holds (w := w) T M
  have D_greatest := ok_greatest (w := w) T M
  have M_Beam := mk_beam (P := P) (w := w) (base := base) T
  have M_Beam_bears := ok_bears (w := w) T M
  refine F.ok sc_law (fun vs H Q E h => ?_) (fun cdv A outer s H vs Q E hr h => ?_)
  · obtain ⟨_, _, rfl, _⟩ := h
    rfl
  · obtain ⟨a, ns, rfl, hS, hns, k⟩ := h
    have hD : DivOk (cxOf CX0 P w K mg base ["_law_script", "_law_even", "_law_length", "_law_rests", "_law_rows_here", "_law_often", "_law_loads", "_law_half", "_law_beam_here", "_law_stretch_here", "_law_handed", "_law_ahead", "_law_found", "_law_borne"] "law" (defScope s_law) f cdv A outer s H E).nox := divOk_of M.seer M.tree (hr.mono (by decide)) rfl rfl rfl
    refine ⟨_, (pss_cons (ps_set (i := 1) sc_law.nd rfl (Or.inl rfl) (pe_cmpR op_eq (pe_op op_mod (pe_op (op_fdivP hD) (pe_def D_Lcell_at (hr.mono (by decide)) rfl pass0 (pa_cons (pv 0) (pa_cons pe_int pa_nil))) pe_int) pe_int) pe_int (nomark _)))
      (pss_cons (ps_asg (pe_def D_Lbeam (hr.mono (by decide)) rfl pass0 (pa_cons (pv 0) (pa_cons (pv 1) pa_nil))) (pg_tup (n := 2) rfl (pgs_cons (pg_name (i := 2) sc_law.nd rfl (Or.inr rfl)) (pgs_cons (pg_name (i := 3) sc_law.nd rfl (Or.inl rfl)) pgs_nil))))
      (pss_cons (ps_set (i := 4) sc_law.nd rfl (Or.inl rfl) (pe_def D_Lrows (hr.mono (by decide)) rfl pass0 (pa_cons (pv 0) (pa_cons pe_int (pa_cons pe_int (pa_cons (pv 3) (pa_cons (pv 2) pa_nil)))))))
      (pss_cons (ps_if (pt_val (pv 1))
        (pss_one (ps_set (i := 4) sc_law.nd rfl (Or.inl rfl) (pe_op op_cat (pe_slice sl_list (pv 4) po_none (po_some pe_int)) (pe_lc cs_law_c2 rfl (pi_list (pe_slice sl_list (pv 4) po_none (po_some pe_int))) (fun C ex s2 H2 => (pg_name (i := 0) nd_law_c2 rfl (Or.inl rfl) (Or.inr rfl))) (fun C ex s2 H2 => pts_nil) (fun C ex s2 H2 => (pe_tup (pa_cons (pe_op op_sub (pv 1) (pe_ix (ix_tupK (K := K) rfl) (pv 0) pe_int (fun _ _ => rfl))) (pa_cons (pe_op op_sub (pv 1) (pe_ix (ix_tupK (K := K) rfl) (pv 0) pe_int (fun _ _ => rfl))) (pa_cons (pe_ix (ix_tupK (K := K) rfl) (pv 0) pe_int (fun _ _ => rfl)) pa_nil)))))))))
        pss_nil)
      (pss_cons (ps_set (i := 5) sc_law.nd rfl (Or.inr rfl) pe_int)
      (pss_cons (ps_if (pt_cmpR op_eq (pe_op op_mod (pe_def D_Lcell_at (hr.mono (by decide)) rfl pass0 (pa_cons (pv 0) (pa_cons pe_int pa_nil))) pe_int) pe_int (nomark _))
        (pss_one (ps_set (i := 5) sc_law.nd rfl (Or.inr rfl) pe_int))
        pss_nil)
      (pss_cons (ps_lc (i := 6) cs_law_c0 rfl (pi_list (pv 4)) (fun C ex s2 H2 => (pg_name (i := 0) nd_law_c0 rfl (Or.inl rfl) (Or.inr rfl))) (fun C ex s2 H2 => pts_nil) (fun C ex s2 H2 => (pe_def D_Lmade (hr.mono (by decide)) rfl pass0 (pa_cons (pv 0) pa_nil))) sc_law.nd rfl rfl)
      (pss_cons (ps_set (i := 7) sc_law.nd rfl (Or.inl rfl) (pe_slice sl_list (pv 6) po_none (po_some (pe_op (op_fdivP hD) (pe_callB call_len' (by rfl) T.b_len PyProof.Rows.Boot.«len» (pa_cons (pv 6) pa_nil)) pe_int))))
      (pss_cons (ps_set (i := 8) sc_law.nd rfl (Or.inl rfl) (pe_mak M_Beam (hr.mono (by decide)) rfl passE0 (pa_cons (pv 2) (pa_cons (pe_callTy call_list' (by rfl) T.b_list PyProof.Rows.Boot.«list» (pa_cons (pv 3) pa_nil)) pa_nil))))
      (pss_cons (ps_set (i := 9) sc_law.nd rfl (Or.inl rfl) (pe_def D_Lstretch (hr.mono (by decide)) rfl pass0 (pa_cons (pv 0) (pa_cons (pv 2) pa_nil))))
      (pss_cons (ps_set (i := 10) sc_law.nd rfl (Or.inl rfl) (pe_callTy call_list' (by rfl) T.b_list PyProof.Rows.Boot.«list» (pa_cons (pv 7) pa_nil)))
      (pss_cons (ps_if (pt_cmpR op_eq (pe_op op_mod (pe_op (op_fdivP hD) (pe_def D_Lcell_at (hr.mono (by decide)) rfl pass0 (pa_cons (pv 0) (pa_cons pe_int pa_nil))) pe_int) pe_int) pe_int (nomark _))
        (pss_one (ps_expr (pe_mth (pv 8) T.n_Beam.cl M_Beam_bears (hr.mono (by decide)) passE0 (pa_cons (pv 6) pa_nil))))
        pss_nil)
      (pss_cons (ps_set (i := 11) sc_law.nd rfl (Or.inl rfl) (pe_def D_greatest (hr.mono (by decide)) rfl passE0 (pa_cons (pv 8) (pa_cons (pv 10) (pa_cons (pe_ix ix_list (pv 9) pe_int (fun _ _ => rfl)) (pa_cons (pe_ix ix_list (pv 9) pe_int (fun _ _ => rfl)) pa_nil))))))
      (pss_cons (ps_expr (pe_bm0 PySem.F.plainAttrs_list PySem.F.slot_list_clear PySem.F.type_list_clear mt_clear (pv 10)))
      (pss_cons (ps_expr (pe_bm PySem.F.plainAttrs_list PySem.F.slot_list_extend PySem.F.type_list_extend mt_extend (pv 10) (pa_cons (pe_op op_rep (pv 6) (pv 5)) pa_nil)))
      (pss_cons (ps_set (i := 12) sc_law.nd rfl (Or.inl rfl) (pe_def D_greatest (hr.mono (by decide)) rfl passE0 (pa_cons (pv 8) (pa_cons (pv 10) (pa_cons (pe_ix ix_list (pv 9) pe_int (fun _ _ => rfl)) (pa_cons (pe_ix ix_list (pv 9) pe_int (fun _ _ => rfl)) pa_nil))))))
      (pss_cons (ps_set (i := 13) sc_law.nd rfl (Or.inl rfl) (pe_mth (pv 8) T.n_Beam.cl M_Beam_bears (hr.mono (by decide)) passE0 (pa_cons (pv 10) pa_nil)))
      (pss_cons (ps_lc (i := 4) cs_law_c1 rfl (pi_list (pv 4)) (fun C ex s2 H2 => (pg_name (i := 0) nd_law_c1 rfl (Or.inl rfl) (Or.inr rfl))) (fun C ex s2 H2 => pts_nil) (fun C ex s2 H2 => (pe_tup (pa_cons (pe_ix (ix_tupK (K := K) rfl) (pv 0) pe_int (fun _ _ => rfl)) (pa_cons (pe_ix (ix_tupK (K := K) rfl) (pv 0) pe_int (fun _ _ => rfl)) (pa_cons (pe_op op_mulB (pe_ix (ix_tupK (K := K) rfl) (pv 0) pe_int (fun _ _ => rfl)) (pv 1)) pa_nil))))) sc_law.nd rfl rfl)
      (pss_cons (ps_if (pt_not (pt_val (pe_def D_Lholds (hr.mono (by decide)) rfl pass0 (pa_cons (pv 0) (pa_cons (pv 2) (pa_cons (pv 3) (pa_cons (pv 13) (pa_cons (pv 4) (pa_cons (pv 9) (pa_cons (pv 12) pa_nil))))))))))
        (pss_one (ps_ret pe_bl))
        pss_nil)
      (pss_one (ps_ret (pe_and (pe_cmpR (op_eqD hr) (pe_def D_greatest (hr.mono (by decide)) rfl passE0 (pa_cons (pv 8) (pa_cons (pv 7) (pa_cons (pe_ix ix_list (pv 9) pe_int (fun _ _ => rfl)) (pa_cons (pe_ix ix_list (pv 9) pe_int (fun _ _ => rfl)) pa_nil))))) (pv 11) (nomark _)) (pe_one (pe_cmpR (op_eqS hr) (pv 10) (pe_op op_rep (pv 6) (pv 5)) (nomark _))))))))))))))))))))))))), ?_⟩
    walk_at "rds"
    generalize decide (cell ns (Int.toNat 4) / 6 % 4 = 1) = ev
    refine spBeam.use hS fun tb lr H1 len rs s1 n1 h1 htb okr xle bl7 => ?_
    obtain ⟨l1, rl3, x0⟩ := rests_facts okr xle
    have bl : Bi 300 len := bl7.mono (by decide)
    have l0 : 0 ≤ len := by omega
    have gd : goodR len rs := good_of okr xle l1
    have brs : ∀ x ∈ rs, Bi 300 x := fun x hx => (okr.1 x hx).mono (by omega)
    have lqs := fun Ls => bears_len (Ls := Ls) okr
    have hS1 := s1.seq hS
    walk_at "rd"
    refine spRows.use hS1 (by omega) (by decide) (by decide) (by decide) (by decide) h1 (by omega) l0 bl (fun x hx => ⟨x0 x hx, xle x hx⟩) fun lw H2 rows s2 _ ⟨vw, hw, pw⟩ okw lenw => ?_
    have lenw : rows.length ≤ 8 := lenw
    walk_at "rdj"
    refine seq_join (fun σ H' => Same H1 H' ∧ ∃ lw rows, σ = [some (.ref a), some (.bl ev), some (.int len), some (.ref lr), some (.ref lw), none, none, none, none, none, none, none, none, none] ∧ IsRows H' lw rows ∧ (∀ r ∈ rows, Ro.ok len 200 r) ∧ rows.length ≤ 8) (fun nx' jn => ?_) ?_
    · walk_at "rd"
      cases ev with
      | false =>
        walk_at "rd"
        exact jn _ _ ⟨s2, lw, rows, rfl, ⟨vw, hw, pw⟩, okw, lenw⟩
      | true =>
        walk_at "rd"
        refine sl_take (SqL.of hw) (by decide) fun la H3 s3 _ h3 => ?_
        have hw3 := s3 _ _ hw
        walk_at "rd"
        refine sl_take (SqL.of hw3) (by decide) fun lb H4 s4 _ h4 => ?_
        have s24 := s3.trans s4
        have p4 : Paired (IsRow H4) (vw.take (Int.toNat 4)) (rows.take (Int.toNat 4)) := Paired.imp' (fun _ _ x => x.same' s24) (paired_take _ pw)
        have lt4 : (rows.take (Int.toNat 4)).length ≤ 4 := by rw [List.length_take]; exact Nat.min_le_left _ _
        have ok4 : ∀ r ∈ rows.take (Int.toNat 4), Ro.ok len 200 r := fun r hr => okw r (List.mem_of_mem_take hr)
        generalize vw.take (Int.toNat 4) = v4 at *
        generalize rows.take (Int.toNat 4) = r4 at *
        walk_at "rd"
        refine rLc.for p4 (Over.list (SqL.of h4)) (by rw [p4.length]; exact Nat.le_of_lt (small1000 (by omega))) (fun σ => ∃ c, σ = [c, some (.int len)]) (fun r H' y => IsRow H' y (mirR len r)) (fun _ _ _ _ n e => e.nl n) ⟨_, rfl⟩ ?_ ?_
        · rintro r v σ' H5 C1 mem isR s5 ⟨c, rfl⟩ k1
          have isR5 := isR.same' s5
          walk_at "rd"
          refine rTup.mk' (by show 3 ≤ sizeLine; decide) fun t H6 s6 _ h6 => ?_
          exact k1 _ _ _ ⟨_, rfl⟩ s6 ⟨t, rfl, h6⟩
        intro D ys H5 s5 _ hD5 py
        have s45 := s4.trans s5
        have pm : Paired (IsRow H5) ys (r4.map (mirR len)) := Paired.mapL py
        have ly : ys.length ≤ 4 := by rw [pm.length, List.length_map]; exact lt4
        have lv : v4.length ≤ 4 := by rw [p4.length]; exact lt4
        walk_at "rd"
        refine cat_use (s45 _ _ h3) hD5 (Nat.le_of_lt (small1000 (by omega))) fun lc H6 s6 _ h6 => ?_
        walk_at "rd"
        refine jn _ _ ⟨((s2.trans s3).trans s45).trans s6, lc, r4 ++ r4.map (mirR len), rfl, ⟨_, h6, Paired.app (Paired.imp' (fun _ _ x => x.same' (s5.trans s6)) p4) (Paired.imp' (fun _ _ x => x.same' s6) pm)⟩, fun r hr => ?_, by rw [List.length_append, List.length_map]; omega⟩
        rcases List.mem_append.mp hr with hr | hr
        · exact ok4 r hr
        · obtain ⟨r0, h0, rfl⟩ := List.mem_map.mp hr
          have o := ok4 r0 h0
          have o1 := o.lo
          have o2 := o.le
          have o3 := o.hi
          exact ⟨by show 0 ≤ len - r0.b; omega, by show len - r0.b ≤ len - r0.a; omega, by show len - r0.a ≤ len; omega, o.bk⟩
    clear hw pw okw lenw s2
    rintro _ H2 ⟨s2, lw, rows, rfl, ⟨vw, hw, pw⟩, okw, lenw⟩
    have hS2 := s2.seq hS1
    walk_at "rdj"
    refine seq_join (fun σ H' => H' = H2 ∧ ∃ o : Int, σ = [some (.ref a), some (.bl ev), some (.int len), some (.ref lr), some (.ref lw), some (.int o), none, none, none, none, none, none, none, none] ∧ 0 ≤ o ∧ o ≤ 7 ∧ Bi 64 o) (fun nx' jn => ?_) ?_
    · walk_at "rd"
      refine decI (fun c => ?_) (fun c => ?_)
      · walk_at "rd"
        exact jn _ _ ⟨rfl, 7, rfl, by decide, by decide, Bi.lit (by decide)⟩
      · walk_at "rd"
        exact jn _ _ ⟨rfl, 1, rfl, by decide, by decide, Bi.lit (by decide)⟩
    rintro _ _ ⟨rfl, o, rfl, o0, o7, bo⟩
    rename_i H2
    have ok3 : ∀ r ∈ rows, Ro.ok len 300 r := fun r hr => ⟨(okw r hr).lo, (okw r hr).le, (okw r hr).hi, (okw r hr).bk.mono (by decide)⟩
    have lvw : vw.length ≤ sizeLine := by rw [pw.length]; exact Nat.le_of_lt (small1000 (by omega))
    walk_at "rd"
    refine rLc.for pw (Over.list (SqL.of hw)) lvw (fun σ => ∃ c, σ = [c]) (fun r H' y => IsLd ad.c_Weight ad.c_Spread H' y r.ld) (fun _ _ _ _ n e => e.nl n) ⟨_, rfl⟩ ?_ ?_
    · rintro r v σ' H4 C1 mem isR s4 ⟨c, rfl⟩ k1
      have isR3 := isR.same' s4
      walk_at "rd"
      exact spMade.use isR3 (okw r mem).le fun v' H5 s5 hL => k1 _ _ _ ⟨_, rfl⟩ s5 hL
    intro D ys H3 s3 _ hD3 py
    have pl : Paired (IsLd ad.c_Weight ad.c_Spread H3) ys (rows.map Ro.ld) := Paired.mapL py
    have ly : ys.length = rows.length := by rw [← py.length]
    walk_at "rd"
    have hn0 : 0 ≤ (ys.length : Int) / 2 := by omega
    generalize (ys.length : Int) / 2 = hn at *
    refine sl_take (SqL.of hD3) hn0 fun lh H4 s4 _ h4 => ?_
    generalize hn.toNat = n at *
    have s24 := s3.trans s4
    have h14 := s24 _ _ (s2 _ _ h1)
    walk_at "rd"
    refine rListOf.l (SqL.of h14) fun l5 H5 s5 _ h5 => ?_
    walk_at "rd"
    refine r_mkB (SqL.of h5) gd fun vb H6 s6 hb6 => ?_
    have s46 := s5.trans s6
    have s26 := s24.trans s46
    have hS6 := s26.seq hS2
    walk_at "rd"
    refine spLStretch.use hS6 l0 bl fun st H7 x1 x2 p q s7 n7 hst7 fp7 fq7 opq bp bq => ?_
    have h47 := (s46.trans s7) _ _ h4
    walk_at "rd"
    refine rListOf.l (SqL.of h47) fun hd H8 s8 n8 h8 => ?_
    -- what stands ahead of the list that is handed in
    have s47 := s46.trans s7
    have s37 := s4.trans s47
    have s27 := s3.trans s37
    have hb7 := hb6.same' s7
    have pl7 : Paired (IsLd ad.c_Weight ad.c_Spread H7) ys (rows.map Ro.ld) := Paired.imp' (fun _ _ x => x.same' s37) pl
    have hD7 := s37 _ _ hD3
    have hl7 := s27 _ _ (s2 _ _ h1)
    have hS7 := s27.seq hS2
    have hw7 : IsRows H7 lw rows := ⟨vw, s27 _ _ hw, Paired.imp' (fun _ _ x => x.same' s27) pw⟩
    have gA : GL K ad.c_Weight ad.c_Spread len rs rows (rows.map Ro.ld) := GL.of bl ok3 (fun L hL => List.mem_map.mp hL) (by rw [List.length_map]; omega) lenw rl3
    have gH : GL K ad.c_Weight ad.c_Spread len rs rows ((rows.map Ro.ld).take n) := GL.of bl ok3 (fun L hL => List.mem_map.mp (List.mem_of_mem_take hL)) (by rw [List.length_take, List.length_map]; omega) lenw rl3
    have gR : GL K ad.c_Weight ad.c_Spread len rs rows (List.replicate o.toNat (rows.map Ro.ld)).flatten := GL.of bl ok3 (fun L hL => by
      obtain ⟨m, hm, hL⟩ := List.mem_flatten.mp hL
      rw [List.eq_of_mem_replicate hm] at hL
      exact List.mem_map.mp hL) (by
      rw [len_rep, List.length_map]
      have h1 : o.toNat ≤ 7 := by omega
      exact Nat.le_trans (Nat.mul_le_mul h1 lenw) (by decide)) lenw rl3
    have plH : Paired (IsLd ad.c_Weight ad.c_Spread H7) (ys.take n) ((rows.map Ro.ld).take n) := paired_take n pl7
    have plR : Paired (IsLd ad.c_Weight ad.c_Spread H7) (List.replicate o.toNat ys).flatten (List.replicate o.toNat (rows.map Ro.ld)).flatten := Paired.rep pl7 _
    have lR := plR.length
    have lR2 := gR.l
    have ly8 : ys.length ≤ 100 := by omega
    obtain ⟨as, eas⟩ := refs_of plR
    have eF := turn_rep o0 (fun r hr => (okw r hr).le) rs (bearsOf rs (List.replicate o.toNat (rows.map Ro.ld)).flatten)
    have bsm := bears_small gd brs gR.b gR.l
    have lbe := lqs (List.replicate o.toNat (rows.map Ro.ld)).flatten
    generalize (List.replicate o.toNat (rows.map Ro.ld)).flatten = LR at *
    generalize (rows.map Ro.ld).take n = LH at *
    walk_at "rdj"
    refine seq_join (fun σ H' => Same H8 H' ∧ σ = [some (.ref a), some (.bl ev), some (.int len), some (.ref lr), some (.ref lw), some (.int o), some (.ref D), some (.ref lh), some vb, some (.ref st), some (.ref hd), none, none, none]) (fun nx' jn => ?_) ?_
    · have hS8 := s8.seq hS7
      have hb8 := hb7.same' s8
      walk_at "rd"
      refine decI (fun c => ?_) (fun c => ?_)
      · walk_at "rd"
        refine hb8.mth ?_
        walk_at "rd"
        refine spBears.use hb8 gd brs ⟨ys, SqL.of (s8 _ _ hD7), Paired.imp' (fun _ _ x => x.same' s8) pl7⟩ gA.b gA.l gA.on fun fa H9 s9 n9 fr bfr => ?_
        walk_at "rd"
        exact jn _ _ ⟨s9, rfl⟩
      · walk_at "rd"
        exact jn _ _ ⟨Same.refl _, rfl⟩
    rintro _ H9 ⟨s9, rfl⟩
    have s79 := s8.trans s9
    have hst9 := s79 _ _ hst7
    walk_at "rd"
    refine spGreatest.use (hb7.same' s79) gd bl brs ⟨ys.take n, SqL.of (s9 _ _ h8), Paired.imp' (fun _ _ x => x.same' s79) plH⟩ gH.b gH.l gH.few gH.ok (fp7.same s79) (fq7.same s79) bp bq gH.on opq fun va H10 ta s10 pta tpa _ _ => ?_
    have h810 := s10 _ _ (s9 _ _ h8)
    walk_at "rd"
    refine rClear.use h810 fun H11 b11 h11 => ?_
    have nl11 := But.nl (ys := []) h810 b11
    have s711 : Same H7 H11 := (s79.trans s10).past n8 b11
    have hD11 := s711 _ _ hD7
    walk_at "rd"
    refine rRep.use hD11 ⟨o0, by omega⟩ ly8 fun lp H12 s12 _ h12 => ?_
    have h1112 := s12 _ _ h11
    walk_at "rd"
    refine rExtend.use h1112 h12 (by simp only [List.length_nil]; omega) fun H13 b13 h13 => ?_
    rw [List.nil_append] at h13
    have s713 : Same H7 H13 := (s711.trans s12).past n8 b13
    have pta13 := (pta.nl nl11).nl (s12.nl.trans (But.nl (ys := []) h1112 b13))
    have hst13 := s713 _ _ hst7
    walk_at "rd"
    refine spGreatest.use (hb7.same' s713) gd bl brs ⟨_, SqL.of h13, Paired.imp' (fun _ _ x => x.same' s713) plR⟩ gR.b gR.l gR.few gR.ok (fp7.same s713) (fq7.same s713) bp bq gR.on opq fun vf H14 tf s14 ptf tpf btf bvf => ?_
    have s714 := s713.trans s14
    have hb14 := hb7.same' s714
    walk_at "rd"
    refine hb14.mth ?_
    walk_at "rd"
    refine spBears.use hb14 gd brs ⟨_, SqL.of (s14 _ _ h13), Paired.imp' (fun _ _ x => x.same' s714) plR⟩ gR.b gR.l gR.on fun fa H15 s15 n15 fr15 _ => ?_
    have s715 := s714.trans s15
    obtain ⟨vw', hw15, pw15⟩ := hw7.same' s715
    walk_at "rd"
    refine rLc.for pw15 (Over.list (SqL.of hw15)) (by rw [pw15.length]; exact Nat.le_of_lt (small1000 (by omega))) (fun σ => ∃ c, σ = [c, some (.int o)]) (fun r H' y => IsRow H' y (mulR o r)) (fun _ _ _ _ n e => e.nl n) ⟨_, rfl⟩ ?_ ?_
    · rintro r v σ' H5 C1 mem isR s5 ⟨c, rfl⟩ k1
      have isR5 := isR.same' s5
      have bk := (okw r mem).bk
      walk_at "rd"
      refine rTup.mk' (by show 3 ≤ sizeLine; decide) fun t H6 s6 _ h6 => ?_
      exact k1 _ _ _ ⟨_, rfl⟩ s6 ⟨t, rfl, h6⟩
    intro Dw yw H16 s16 _ hDw pyw
    have s1316 := (s14.trans s15).trans s16
    have s716 := s713.trans s1316
    have pt16 := ptf.same (s15.trans s16)
    have eFt := congrFun eF tf
    generalize bearsOf rs LR = qs at *
    have eFt : turnOf rs qs LR tf = Fo rs qs (rows.map (mulR o)) tf := eFt
    rw [eF] at tpf
    rw [eFt] at pt16 bvf
    walk_at "rd"
    refine ⟨a, lr, fa, Dw, st, vf, x1, x2, len, ns, rs, qs, rows.map (mulR o), p, q, tf, rfl, s716.seq hS7, by omega, ⟨l0, bl⟩, s716 _ _ hl7, fr15.same' s16, ⟨yw, hDw, Paired.mapL pyw⟩, s716 _ _ hst7, fp7.same s716, fq7.same s716, bp, bq, opq.2.2, ⟨lbe, rl3, bsm, brs⟩, ⟨by rw [List.length_map]; exact lenw, fun r hr => ?_, fun r hr => ?_⟩, pt16, tpf, btf, bvf, fun H17 s17 => ?_⟩
    · obtain ⟨r0, h0, rfl⟩ := List.mem_map.mp hr
      exact (okw r0 h0).le
    · obtain ⟨r0, h0, rfl⟩ := List.mem_map.mp hr
      have o' := okw r0 h0
      exact ⟨bi_le bl o'.lo (Int.le_trans o'.le o'.hi), bi_le bl (Int.le_trans o'.lo o'.le) o'.hi, (o'.bk.mul bo).mono (by decide)⟩
    have s1317 := s1316.trans s17
    have s717 := s713.trans s1317
    have hst17 := s717 _ _ hst7
    walk_at "rd"
    refine spGreatest.use (hb7.same' s717) gd bl brs ⟨ys.take n, SqL.of (s717 _ _ h47), Paired.imp' (fun _ _ x => x.same' s717) plH⟩ gH.b gH.l gH.few gH.ok (fp7.same s717) (fq7.same s717) bp bq gH.on opq fun vz H18 tz s18 ptz tpz _ _ => ?_
    have et := top_uniq tpz tpa
    subst et
    obtain ⟨pz, z1, z2, rfl, hz, fz1, fz2⟩ := ptz
    obtain ⟨pa, a1, a2, rfl, ha, fa1, fa2⟩ := pta13.same (s1317.trans s18)
    have h1318 := (s1317.trans s18) _ _ h13
    have hD18 := (s717.trans s18) _ _ hD7
    walk_at "rd"
    refine rEqD.use (Dat.tup (SqT.of hz) (.cons (Dat.fr fz1) (.cons (Dat.fr fz2) .nil))) (Dat.tup (SqT.of ha) (.cons (Dat.fr fa1) (.cons (Dat.fr fa2) .nil))) ?_
    walk_at "rd"
    refine rRep.use hD18 ⟨o0, by omega⟩ ly8 fun lq H19 s19 _ h19 => ?_
    walk_at "rd"
    refine ⟨⟨hd, lq, as, rfl, rfl, SqL.of (eas ▸ s19 _ _ h1318), SqL.of (eas ▸ h19)⟩, ?_⟩
    exact k _
end
theorem txt_mk {K : PySem.W.Frag} {h : Heap} {mg : Str → Option Value} (X : K.In h) (G : h.Ns mainGlobals mg) {f0 f1 f2 f3 f4 f5 f6 f7 f8 f9 f10 f11 f12 f13 f14 f15 f16 f17 f18 f19 f20 f21 f22 f23 f24 f25 f26 f27 f28 f29 f30 f31 f32 f33 f34 f35 f36 f37 f38 f39 f40 f41 f42 f43 f44 f45 f46 f47 f48 f49 f50 f51 f52 f53 f54 f55 f56 f57 f58 f59 f60 f61 c_NoNumber c_NoLoad c_NoBeam c_OffBeam c_Weight c_Spread c_Beam : Addr}
    {od0 an0 od1 an1 od2 an2 od3 an3 od4 an4 od5 an5 od6 an6 od7 an7 od8 an8 od9 an9 od10 an10 od11 an11 od12 an12 od13 an13 od14 an14 od15 an15 od16 an16 od17 an17 od18 an18 od19 an19 od20 an20 od21 an21 od22 an22 od23 an23 od24 an24 od25 an25 od26 an26 od27 an27 od28 an28 od29 an29 od30 an30 od31 an31 od32 an32 od33 an33 od34 an34 od35 an35 od36 an36 od37 an37 od38 an38 od39 an39 od40 an40 od41 an41 od42 an42 od43 an43 od44 an44 od45 an45 od46 an46 od47 an47 od48 an48 od49 an49 od50 an50 od51 an51 od52 an52 od53 an53 od54 an54 od55 an55 od56 an56 od57 an57 od58 an58 od59 an59 od60 an60 od61 an61 : Option Addr} {sl0 sl1 sl2 sl3 sl4 sl5 sl6 sl7 sl8 sl9 sl10 sl11 sl12 sl13 sl14 sl15 sl16 sl17 sl18 sl19 sl20 sl21 sl22 sl23 sl24 sl25 sl26 sl27 sl28 sl29 sl30 sl31 sl32 sl33 sl34 sl35 sl36 sl37 sl38 sl39 sl40 sl41 sl42 sl43 sl44 sl45 sl46 sl47 sl48 sl49 sl50 sl51 sl52 sl53 sl54 sl55 sl56 sl57 sl58 sl59 sl60 sl61 : Array (Option Value)} {oc0 kV0 dc0 pm0 cd0 ct0 oc1 kV1 dc1 pm1 cd1 ct1 oc2 kV2 dc2 pm2 cd2 ct2 oc3 kV3 dc3 pm3 cd3 ct3 oc4 kV4 dc4 pm4 cd4 ct4 oc5 kV5 dc5 pm5 cd5 ct5 oc6 kV6 dc6 pm6 cd6 ct6 oc7 kV7 dc7 pm7 cd7 ct7 oc8 kV8 dc8 pm8 cd8 ct8 oc9 kV9 dc9 pm9 cd9 ct9 oc10 kV10 dc10 pm10 cd10 ct10 oc11 kV11 dc11 pm11 cd11 ct11 oc12 kV12 dc12 pm12 cd12 ct12 oc13 kV13 dc13 pm13 cd13 ct13 oc14 kV14 dc14 pm14 cd14 ct14 oc15 kV15 dc15 pm15 cd15 ct15 oc16 kV16 dc16 pm16 cd16 ct16 oc17 kV17 dc17 pm17 cd17 ct17 oc18 kV18 dc18 pm18 cd18 ct18 oc19 kV19 dc19 pm19 cd19 ct19 oc20 kV20 dc20 pm20 cd20 ct20 oc21 kV21 dc21 pm21 cd21 ct21 oc22 kV22 dc22 pm22 cd22 ct22 oc23 kV23 dc23 pm23 cd23 ct23 oc24 kV24 dc24 pm24 cd24 ct24 oc25 kV25 dc25 pm25 cd25 ct25 oc26 kV26 dc26 pm26 cd26 ct26 oc27 kV27 dc27 pm27 cd27 ct27 oc28 kV28 dc28 pm28 cd28 ct28 oc29 kV29 dc29 pm29 cd29 ct29 oc30 kV30 dc30 pm30 cd30 ct30 oc31 kV31 dc31 pm31 cd31 ct31 oc32 kV32 dc32 pm32 cd32 ct32 oc33 kV33 dc33 pm33 cd33 ct33 oc34 kV34 dc34 pm34 cd34 ct34 oc35 kV35 dc35 pm35 cd35 ct35 oc36 kV36 dc36 pm36 cd36 ct36 oc37 kV37 dc37 pm37 cd37 ct37 oc38 kV38 dc38 pm38 cd38 ct38 oc39 kV39 dc39 pm39 cd39 ct39 oc40 kV40 dc40 pm40 cd40 ct40 oc41 kV41 dc41 pm41 cd41 ct41 oc42 kV42 dc42 pm42 cd42 ct42 oc43 kV43 dc43 pm43 cd43 ct43 oc44 kV44 dc44 pm44 cd44 ct44 oc45 kV45 dc45 pm45 cd45 ct45 oc46 kV46 dc46 pm46 cd46 ct46 oc47 kV47 dc47 pm47 cd47 ct47 oc48 kV48 dc48 pm48 cd48 ct48 oc49 kV49 dc49 pm49 cd49 ct49 oc50 kV50 dc50 pm50 cd50 ct50 oc51 kV51 dc51 pm51 cd51 ct51 oc52 kV52 dc52 pm52 cd52 ct52 oc53 kV53 dc53 pm53 cd53 ct53 oc54 kV54 dc54 pm54 cd54 ct54 oc55 kV55 dc55 pm55 cd55 ct55 oc56 kV56 dc56 pm56 cd56 ct56 oc57 kV57 dc57 pm57 cd57 ct57 oc58 kV58 dc58 pm58 cd58 ct58 oc59 kV59 dc59 pm59 cd59 ct59 oc60 kV60 dc60 pm60 cd60 ct60 oc61 kV61 dc61 pm61 cd61 ct61 : Value}
    (g_NoNumber : PySem.W.nsIn K mainGlobals "NoNumber" = some (some (.ref c_NoNumber)))
    (g_NoLoad : PySem.W.nsIn K mainGlobals "NoLoad" = some (some (.ref c_NoLoad)))
    (g_NoBeam : PySem.W.nsIn K mainGlobals "NoBeam" = some (some (.ref c_NoBeam)))
    (g_OffBeam : PySem.W.nsIn K mainGlobals "OffBeam" = some (some (.ref c_OffBeam)))
    (g_Weight : PySem.W.nsIn K mainGlobals "Weight" = some (some (.ref c_Weight)))
    (g_Spread : PySem.W.nsIn K mainGlobals "Spread" = some (some (.ref c_Spread)))
    (g_Beam : PySem.W.nsIn K mainGlobals "Beam" = some (some (.ref c_Beam)))
    (a0 : PySem.W.nsIn K mainGlobals "greatest_share" = some (some (.ref f0)))
    (l0 : K.lookup f0 = some ⟨oc0, od0, .func (PySem.W.fnOf "greatest_share" "greatest_share" (defArgs s_greatest_share) (defBody s_greatest_share) (defScope s_greatest_share) .none kV0 dc0 pm0 an0 cd0 ct0), sl0⟩)
    (c0 : PySem.W.codeIn K cd0 "greatest_share" = true)
    (k0 : PySem.W.keepIn K (.ref f0) = true)
    (a1 : PySem.W.nsIn K mainGlobals "fraction" = some (some (.ref f1)))
    (l1 : K.lookup f1 = some ⟨oc1, od1, .func (PySem.W.fnOf "fraction" "fraction" (defArgs s_fraction) (defBody s_fraction) (defScope s_fraction) .none kV1 dc1 pm1 an1 cd1 ct1), sl1⟩)
    (c1 : PySem.W.codeIn K cd1 "fraction" = true)
    (k1 : PySem.W.keepIn K (.ref f1) = true)
    (a2 : PySem.W.nsIn K mainGlobals "plus" = some (some (.ref f2)))
    (l2 : K.lookup f2 = some ⟨oc2, od2, .func (PySem.W.fnOf "plus" "plus" (defArgs s_plus) (defBody s_plus) (defScope s_plus) .none kV2 dc2 pm2 an2 cd2 ct2), sl2⟩)
    (c2 : PySem.W.codeIn K cd2 "plus" = true)
    (k2 : PySem.W.keepIn K (.ref f2) = true)
    (a3 : PySem.W.nsIn K mainGlobals "minus" = some (some (.ref f3)))
    (l3 : K.lookup f3 = some ⟨oc3, od3, .func (PySem.W.fnOf "minus" "minus" (defArgs s_minus) (defBody s_minus) (defScope s_minus) .none kV3 dc3 pm3 an3 cd3 ct3), sl3⟩)
    (c3 : PySem.W.codeIn K cd3 "minus" = true)
    (k3 : PySem.W.keepIn K (.ref f3) = true)
    (a4 : PySem.W.nsIn K mainGlobals "under" = some (some (.ref f4)))
    (l4 : K.lookup f4 = some ⟨oc4, od4, .func (PySem.W.fnOf "under" "under" (defArgs s_under) (defBody s_under) (defScope s_under) .none kV4 dc4 pm4 an4 cd4 ct4), sl4⟩)
    (c4 : PySem.W.codeIn K cd4 "under" = true)
    (k4 : PySem.W.keepIn K (.ref f4) = true)
    (a5 : PySem.W.nsIn K mainGlobals "times" = some (some (.ref f5)))
    (l5 : K.lookup f5 = some ⟨oc5, od5, .func (PySem.W.fnOf "times" "times" (defArgs s_times) (defBody s_times) (defScope s_times) .none kV5 dc5 pm5 an5 cd5 ct5), sl5⟩)
    (c5 : PySem.W.codeIn K cd5 "times" = true)
    (k5 : PySem.W.keepIn K (.ref f5) = true)
    (a6 : PySem.W.nsIn K mainGlobals "over" = some (some (.ref f6)))
    (l6 : K.lookup f6 = some ⟨oc6, od6, .func (PySem.W.fnOf "over" "over" (defArgs s_over) (defBody s_over) (defScope s_over) .none kV6 dc6 pm6 an6 cd6 ct6), sl6⟩)
    (c6 : PySem.W.codeIn K cd6 "over" = true)
    (k6 : PySem.W.keepIn K (.ref f6) = true)
    (a7 : PySem.W.nsIn K mainGlobals "turn_scale" = some (some (.ref f7)))
    (l7 : K.lookup f7 = some ⟨oc7, od7, .func (PySem.W.fnOf "turn_scale" "turn_scale" (defArgs s_turn_scale) (defBody s_turn_scale) (defScope s_turn_scale) .none kV7 dc7 pm7 an7 cd7 ct7), sl7⟩)
    (c7 : PySem.W.codeIn K cd7 "turn_scale" = true)
    (k7 : PySem.W.keepIn K (.ref f7) = true)
    (h_Weight_about : PySem.W.findIn K (.ref c_Weight) "about" = some (some (.ref f8)))
    (h_Spread_about : PySem.W.findIn K (.ref c_Spread) "about" = some (some (.ref f8)))
    (fn8 : PySem.W.isFn K (.ref f8) = true)
    (l8 : K.lookup f8 = some ⟨oc8, od8, .func (PySem.W.fnOf "about" "Load.about" (defArgs s_Load_about) (defBody s_Load_about) (defScope s_Load_about) .none kV8 dc8 pm8 an8 cd8 ct8), sl8⟩)
    (c8 : PySem.W.codeIn K cd8 "Load.about" = true)
    (k8 : PySem.W.keepIn K (.ref f8) = true)
    (mi_Weight : PySem.W.findIn K (.ref c_Weight) "__init__" = some (some (.ref f9)))
    (fn9 : PySem.W.isFn K (.ref f9) = true)
    (l9 : K.lookup f9 = some ⟨oc9, od9, .func (PySem.W.fnOf "__init__" "Weight.__init__" (defArgs s_Weight___init) (defBody s_Weight___init) (defScope s_Weight___init) .none kV9 dc9 pm9 an9 cd9 ct9), sl9⟩)
    (c9 : PySem.W.codeIn K cd9 "Weight.__init__" = true)
    (k9 : PySem.W.keepIn K (.ref f9) = true)
    (h_Weight_total : PySem.W.findIn K (.ref c_Weight) "total" = some (some (.ref f10)))
    (fn10 : PySem.W.isFn K (.ref f10) = true)
    (l10 : K.lookup f10 = some ⟨oc10, od10, .func (PySem.W.fnOf "total" "Weight.total" (defArgs s_Weight_total) (defBody s_Weight_total) (defScope s_Weight_total) .none kV10 dc10 pm10 an10 cd10 ct10), sl10⟩)
    (c10 : PySem.W.codeIn K cd10 "Weight.total" = true)
    (k10 : PySem.W.keepIn K (.ref f10) = true)
    (h_Weight_edges : PySem.W.findIn K (.ref c_Weight) "edges" = some (some (.ref f11)))
    (fn11 : PySem.W.isFn K (.ref f11) = true)
    (l11 : K.lookup f11 = some ⟨oc11, od11, .func (PySem.W.fnOf "edges" "Weight.edges" (defArgs s_Weight_edges) (defBody s_Weight_edges) (defScope s_Weight_edges) .none kV11 dc11 pm11 an11 cd11 ct11), sl11⟩)
    (c11 : PySem.W.codeIn K cd11 "Weight.edges" = true)
    (k11 : PySem.W.keepIn K (.ref f11) = true)
    (h_Weight_each_over : PySem.W.findIn K (.ref c_Weight) "each_over" = some (some (.ref f12)))
    (fn12 : PySem.W.isFn K (.ref f12) = true)
    (l12 : K.lookup f12 = some ⟨oc12, od12, .func (PySem.W.fnOf "each_over" "Weight.each_over" (defArgs s_Weight_each_over) (defBody s_Weight_each_over) (defScope s_Weight_each_over) .none kV12 dc12 pm12 an12 cd12 ct12), sl12⟩)
    (c12 : PySem.W.codeIn K cd12 "Weight.each_over" = true)
    (k12 : PySem.W.keepIn K (.ref f12) = true)
    (h_Weight_scaled_left : PySem.W.findIn K (.ref c_Weight) "scaled_left" = some (some (.ref f13)))
    (fn13 : PySem.W.isFn K (.ref f13) = true)
    (l13 : K.lookup f13 = some ⟨oc13, od13, .func (PySem.W.fnOf "scaled_left" "Weight.scaled_left" (defArgs s_Weight_scaled_left) (defBody s_Weight_scaled_left) (defScope s_Weight_scaled_left) .none kV13 dc13 pm13 an13 cd13 ct13), sl13⟩)
    (c13 : PySem.W.codeIn K cd13 "Weight.scaled_left" = true)
    (k13 : PySem.W.keepIn K (.ref f13) = true)
    (h_Weight_scaled_right : PySem.W.findIn K (.ref c_Weight) "scaled_right" = some (some (.ref f14)))
    (fn14 : PySem.W.isFn K (.ref f14) = true)
    (l14 : K.lookup f14 = some ⟨oc14, od14, .func (PySem.W.fnOf "scaled_right" "Weight.scaled_right" (defArgs s_Weight_scaled_right) (defBody s_Weight_scaled_right) (defScope s_Weight_scaled_right) .none kV14 dc14 pm14 an14 cd14 ct14), sl14⟩)
    (c14 : PySem.W.codeIn K cd14 "Weight.scaled_right" = true)
    (k14 : PySem.W.keepIn K (.ref f14) = true)
    (mi_Spread : PySem.W.findIn K (.ref c_Spread) "__init__" = some (some (.ref f15)))
    (fn15 : PySem.W.isFn K (.ref f15) = true)
    (l15 : K.lookup f15 = some ⟨oc15, od15, .func (PySem.W.fnOf "__init__" "Spread.__init__" (defArgs s_Spread___init) (defBody s_Spread___init) (defScope s_Spread___init) .none kV15 dc15 pm15 an15 cd15 ct15), sl15⟩)
    (c15 : PySem.W.codeIn K cd15 "Spread.__init__" = true)
    (k15 : PySem.W.keepIn K (.ref f15) = true)
    (h_Spread_total : PySem.W.findIn K (.ref c_Spread) "total" = some (some (.ref f16)))
    (fn16 : PySem.W.isFn K (.ref f16) = true)
    (l16 : K.lookup f16 = some ⟨oc16, od16, .func (PySem.W.fnOf "total" "Spread.total" (defArgs s_Spread_total) (defBody s_Spread_total) (defScope s_Spread_total) .none kV16 dc16 pm16 an16 cd16 ct16), sl16⟩)
    (c16 : PySem.W.codeIn K cd16 "Spread.total" = true)
    (k16 : PySem.W.keepIn K (.ref f16) = true)
    (h_Spread_edges : PySem.W.findIn K (.ref c_Spread) "edges" = some (some (.ref f17)))
    (fn17 : PySem.W.isFn K (.ref f17) = true)
    (l17 : K.lookup f17 = some ⟨oc17, od17, .func (PySem.W.fnOf "edges" "Spread.edges" (defArgs s_Spread_edges) (defBody s_Spread_edges) (defScope s_Spread_edges) .none kV17 dc17 pm17 an17 cd17 ct17), sl17⟩)
    (c17 : PySem.W.codeIn K cd17 "Spread.edges" = true)
    (k17 : PySem.W.keepIn K (.ref f17) = true)
    (h_Spread_each_over : PySem.W.findIn K (.ref c_Spread) "each_over" = some (some (.ref f18)))
    (fn18 : PySem.W.isFn K (.ref f18) = true)
    (l18 : K.lookup f18 = some ⟨oc18, od18, .func (PySem.W.fnOf "each_over" "Spread.each_over" (defArgs s_Spread_each_over) (defBody s_Spread_each_over) (defScope s_Spread_each_over) .none kV18 dc18 pm18 an18 cd18 ct18), sl18⟩)
    (c18 : PySem.W.codeIn K cd18 "Spread.each_over" = true)
    (k18 : PySem.W.keepIn K (.ref f18) = true)
    (h_Spread_scaled_left : PySem.W.findIn K (.ref c_Spread) "scaled_left" = some (some (.ref f19)))
    (fn19 : PySem.W.isFn K (.ref f19) = true)
    (l19 : K.lookup f19 = some ⟨oc19, od19, .func (PySem.W.fnOf "scaled_left" "Spread.scaled_left" (defArgs s_Spread_scaled_left) (defBody s_Spread_scaled_left) (defScope s_Spread_scaled_left) .none kV19 dc19 pm19 an19 cd19 ct19), sl19⟩)
    (c19 : PySem.W.codeIn K cd19 "Spread.scaled_left" = true)
    (k19 : PySem.W.keepIn K (.ref f19) = true)
    (h_Spread_scaled_right : PySem.W.findIn K (.ref c_Spread) "scaled_right" = some (some (.ref f20)))
    (fn20 : PySem.W.isFn K (.ref f20) = true)
    (l20 : K.lookup f20 = some ⟨oc20, od20, .func (PySem.W.fnOf "scaled_right" "Spread.scaled_right" (defArgs s_Spread_scaled_right) (defBody s_Spread_scaled_right) (defScope s_Spread_scaled_right) .none kV20 dc20 pm20 an20 cd20 ct20), sl20⟩)
    (c20 : PySem.W.codeIn K cd20 "Spread.scaled_right" = true)
    (k20 : PySem.W.keepIn K (.ref f20) = true)
    (a21 : PySem.W.nsIn K mainGlobals "greatest" = some (some (.ref f21)))
    (l21 : K.lookup f21 = some ⟨oc21, od21, .func (PySem.W.fnOf "greatest" "greatest" (defArgs s_greatest) (defBody s_greatest) (defScope s_greatest) .none kV21 dc21 pm21 an21 cd21 ct21), sl21⟩)
    (c21 : PySem.W.codeIn K cd21 "greatest" = true)
    (k21 : PySem.W.keepIn K (.ref f21) = true)
    (a22 : PySem.W.nsIn K mainGlobals "check_stretch" = some (some (.ref f22)))
    (l22 : K.lookup f22 = some ⟨oc22, od22, .func (PySem.W.fnOf "check_stretch" "check_stretch" (defArgs s_check_stretch) (defBody s_check_stretch) (defScope s_check_stretch) .none kV22 dc22 pm22 an22 cd22 ct22), sl22⟩)
    (c22 : PySem.W.codeIn K cd22 "check_stretch" = true)
    (k22 : PySem.W.keepIn K (.ref f22) = true)
    (a23 : PySem.W.nsIn K mainGlobals "turning_at" = some (some (.ref f23)))
    (l23 : K.lookup f23 = some ⟨oc23, od23, .func (PySem.W.fnOf "turning_at" "turning_at" (defArgs s_turning_at) (defBody s_turning_at) (defScope s_turning_at) .none kV23 dc23 pm23 an23 cd23 ct23), sl23⟩)
    (c23 : PySem.W.codeIn K cd23 "turning_at" = true)
    (k23 : PySem.W.keepIn K (.ref f23) = true)
    (a24 : PySem.W.nsIn K mainGlobals "cuts_after" = some (some (.ref f24)))
    (l24 : K.lookup f24 = some ⟨oc24, od24, .func (PySem.W.fnOf "cuts_after" "cuts_after" (defArgs s_cuts_after) (defBody s_cuts_after) (defScope s_cuts_after) .none kV24 dc24 pm24 an24 cd24 ct24), sl24⟩)
    (c24 : PySem.W.codeIn K cd24 "cuts_after" = true)
    (k24 : PySem.W.keepIn K (.ref f24) = true)
    (a25 : PySem.W.nsIn K mainGlobals "top_between" = some (some (.ref f25)))
    (l25 : K.lookup f25 = some ⟨oc25, od25, .func (PySem.W.fnOf "top_between" "top_between" (defArgs s_top_between) (defBody s_top_between) (defScope s_top_between) .none kV25 dc25 pm25 an25 cd25 ct25), sl25⟩)
    (c25 : PySem.W.codeIn K cd25 "top_between" = true)
    (k25 : PySem.W.keepIn K (.ref f25) = true)
    (a26 : PySem.W.nsIn K mainGlobals "greater" = some (some (.ref f26)))
    (l26 : K.lookup f26 = some ⟨oc26, od26, .func (PySem.W.fnOf "greater" "greater" (defArgs s_greater) (defBody s_greater) (defScope s_greater) .none kV26 dc26 pm26 an26 cd26 ct26), sl26⟩)
    (c26 : PySem.W.codeIn K cd26 "greater" = true)
    (k26 : PySem.W.keepIn K (.ref f26) = true)
    (mi_Beam : PySem.W.findIn K (.ref c_Beam) "__init__" = some (some (.ref f27)))
    (fn27 : PySem.W.isFn K (.ref f27) = true)
    (l27 : K.lookup f27 = some ⟨oc27, od27, .func (PySem.W.fnOf "__init__" "Beam.__init__" (defArgs s_Beam___init) (defBody s_Beam___init) (defScope s_Beam___init) .none kV27 dc27 pm27 an27 cd27 ct27), sl27⟩)
    (c27 : PySem.W.codeIn K cd27 "Beam.__init__" = true)
    (k27 : PySem.W.keepIn K (.ref f27) = true)
    (h_Beam_bears : PySem.W.findIn K (.ref c_Beam) "bears" = some (some (.ref f28)))
    (fn28 : PySem.W.isFn K (.ref f28) = true)
    (l28 : K.lookup f28 = some ⟨oc28, od28, .func (PySem.W.fnOf "bears" "Beam.bears" (defArgs s_Beam_bears) (defBody s_Beam_bears) (defScope s_Beam_bears) .none kV28 dc28 pm28 an28 cd28 ct28), sl28⟩)
    (c28 : PySem.W.codeIn K cd28 "Beam.bears" = true)
    (k28 : PySem.W.keepIn K (.ref f28) = true)
    (a29 : PySem.W.nsIn K mainGlobals "check_beam" = some (some (.ref f29)))
    (l29 : K.lookup f29 = some ⟨oc29, od29, .func (PySem.W.fnOf "check_beam" "check_beam" (defArgs s_check_beam) (defBody s_check_beam) (defScope s_check_beam) .none kV29 dc29 pm29 an29 cd29 ct29), sl29⟩)
    (c29 : PySem.W.codeIn K cd29 "check_beam" = true)
    (k29 : PySem.W.keepIn K (.ref f29) = true)
    (a30 : PySem.W.nsIn K mainGlobals "check_loads" = some (some (.ref f30)))
    (l30 : K.lookup f30 = some ⟨oc30, od30, .func (PySem.W.fnOf "check_loads" "check_loads" (defArgs s_check_loads) (defBody s_check_loads) (defScope s_check_loads) .none kV30 dc30 pm30 an30 cd30 ct30), sl30⟩)
    (c30 : PySem.W.codeIn K cd30 "check_loads" = true)
    (k30 : PySem.W.keepIn K (.ref f30) = true)
    (a31 : PySem.W.nsIn K mainGlobals "weight_of" = some (some (.ref f31)))
    (l31 : K.lookup f31 = some ⟨oc31, od31, .func (PySem.W.fnOf "weight_of" "weight_of" (defArgs s_weight_of) (defBody s_weight_of) (defScope s_weight_of) .none kV31 dc31 pm31 an31 cd31 ct31), sl31⟩)
    (c31 : PySem.W.codeIn K cd31 "weight_of" = true)
    (k31 : PySem.W.keepIn K (.ref f31) = true)
    (a32 : PySem.W.nsIn K mainGlobals "turned_about" = some (some (.ref f32)))
    (l32 : K.lookup f32 = some ⟨oc32, od32, .func (PySem.W.fnOf "turned_about" "turned_about" (defArgs s_turned_about) (defBody s_turned_about) (defScope s_turned_about) .none kV32 dc32 pm32 an32 cd32 ct32), sl32⟩)
    (c32 : PySem.W.codeIn K cd32 "turned_about" = true)
    (k32 : PySem.W.keepIn K (.ref f32) = true)
    (a33 : PySem.W.nsIn K mainGlobals "two_bear" = some (some (.ref f33)))
    (l33 : K.lookup f33 = some ⟨oc33, od33, .func (PySem.W.fnOf "two_bear" "two_bear" (defArgs s_two_bear) (defBody s_two_bear) (defScope s_two_bear) .none kV33 dc33 pm33 an33 cd33 ct33), sl33⟩)
    (c33 : PySem.W.codeIn K cd33 "two_bear" = true)
    (k33 : PySem.W.keepIn K (.ref f33) = true)
    (a34 : PySem.W.nsIn K mainGlobals "three_bear" = some (some (.ref f34)))
    (l34 : K.lookup f34 = some ⟨oc34, od34, .func (PySem.W.fnOf "three_bear" "three_bear" (defArgs s_three_bear) (defBody s_three_bear) (defScope s_three_bear) .none kV34 dc34 pm34 an34 cd34 ct34), sl34⟩)
    (c34 : PySem.W.codeIn K cd34 "three_bear" = true)
    (k34 : PySem.W.keepIn K (.ref f34) = true)
    (a35 : PySem.W.nsIn K mainGlobals "middle_bears" = some (some (.ref f35)))
    (l35 : K.lookup f35 = some ⟨oc35, od35, .func (PySem.W.fnOf "middle_bears" "middle_bears" (defArgs s_middle_bears) (defBody s_middle_bears) (defScope s_middle_bears) .none kV35 dc35 pm35 an35 cd35 ct35), sl35⟩)
    (c35 : PySem.W.codeIn K cd35 "middle_bears" = true)
    (k35 : PySem.W.keepIn K (.ref f35) = true)
    (a36 : PySem.W.nsIn K mainGlobals "middle_part" = some (some (.ref f36)))
    (l36 : K.lookup f36 = some ⟨oc36, od36, .func (PySem.W.fnOf "middle_part" "middle_part" (defArgs s_middle_part) (defBody s_middle_part) (defScope s_middle_part) .none kV36 dc36 pm36 an36 cd36 ct36), sl36⟩)
    (c36 : PySem.W.codeIn K cd36 "middle_part" = true)
    (k36 : PySem.W.keepIn K (.ref f36) = true)
    (a37 : PySem.W.nsIn K mainGlobals "spread_part" = some (some (.ref f37)))
    (l37 : K.lookup f37 = some ⟨oc37, od37, .func (PySem.W.fnOf "spread_part" "spread_part" (defArgs s_spread_part) (defBody s_spread_part) (defScope s_spread_part) .none kV37 dc37 pm37 an37 cd37 ct37), sl37⟩)
    (c37 : PySem.W.codeIn K cd37 "spread_part" = true)
    (k37 : PySem.W.keepIn K (.ref f37) = true)
    (a38 : PySem.W.nsIn K mainGlobals "piece_part" = some (some (.ref f38)))
    (l38 : K.lookup f38 = some ⟨oc38, od38, .func (PySem.W.fnOf "piece_part" "piece_part" (defArgs s_piece_part) (defBody s_piece_part) (defScope s_piece_part) .none kV38 dc38 pm38 an38 cd38 ct38), sl38⟩)
    (c38 : PySem.W.codeIn K cd38 "piece_part" = true)
    (k38 : PySem.W.keepIn K (.ref f38) = true)
    (a39 : PySem.W.nsIn K mainGlobals "share_scale" = some (some (.ref f39)))
    (l39 : K.lookup f39 = some ⟨oc39, od39, .func (PySem.W.fnOf "share_scale" "share_scale" (defArgs s_share_scale) (defBody s_share_scale) (defScope s_share_scale) .none kV39 dc39 pm39 an39 cd39 ct39), sl39⟩)
    (c39 : PySem.W.codeIn K cd39 "share_scale" = true)
    (k39 : PySem.W.keepIn K (.ref f39) = true)
    (a40 : PySem.W.nsIn K mainGlobals "middle_share" = some (some (.ref f40)))
    (l40 : K.lookup f40 = some ⟨oc40, od40, .func (PySem.W.fnOf "middle_share" "middle_share" (defArgs s_middle_share) (defBody s_middle_share) (defScope s_middle_share) .none kV40 dc40 pm40 an40 cd40 ct40), sl40⟩)
    (c40 : PySem.W.codeIn K cd40 "middle_share" = true)
    (k40 : PySem.W.keepIn K (.ref f40) = true)
    (a41 : PySem.W.nsIn K mainGlobals "_law_cell_at" = some (some (.ref f41)))
    (l41 : K.lookup f41 = some ⟨oc41, od41, .func (PySem.W.fnOf "_law_cell_at" "_law_cell_at" (defArgs s_Lcell_at) (defBody s_Lcell_at) (defScope s_Lcell_at) .none kV41 dc41 pm41 an41 cd41 ct41), sl41⟩)
    (c41 : PySem.W.codeIn K cd41 "_law_cell_at" = true)
    (k41 : PySem.W.keepIn K (.ref f41) = true)
    (a42 : PySem.W.nsIn K mainGlobals "_law_whole" = some (some (.ref f42)))
    (l42 : K.lookup f42 = some ⟨oc42, od42, .func (PySem.W.fnOf "_law_whole" "_law_whole" (defArgs s_Lwhole) (defBody s_Lwhole) (defScope s_Lwhole) .none kV42 dc42 pm42 an42 cd42 ct42), sl42⟩)
    (c42 : PySem.W.codeIn K cd42 "_law_whole" = true)
    (k42 : PySem.W.keepIn K (.ref f42) = true)
    (a43 : PySem.W.nsIn K mainGlobals "_law_divisor" = some (some (.ref f43)))
    (l43 : K.lookup f43 = some ⟨oc43, od43, .func (PySem.W.fnOf "_law_divisor" "_law_divisor" (defArgs s_Ldivisor) (defBody s_Ldivisor) (defScope s_Ldivisor) .none kV43 dc43 pm43 an43 cd43 ct43), sl43⟩)
    (c43 : PySem.W.codeIn K cd43 "_law_divisor" = true)
    (k43 : PySem.W.keepIn K (.ref f43) = true)
    (a44 : PySem.W.nsIn K mainGlobals "_law_lowest" = some (some (.ref f44)))
    (l44 : K.lookup f44 = some ⟨oc44, od44, .func (PySem.W.fnOf "_law_lowest" "_law_lowest" (defArgs s_Llowest) (defBody s_Llowest) (defScope s_Llowest) .none kV44 dc44 pm44 an44 cd44 ct44), sl44⟩)
    (c44 : PySem.W.codeIn K cd44 "_law_lowest" = true)
    (k44 : PySem.W.keepIn K (.ref f44) = true)
    (a45 : PySem.W.nsIn K mainGlobals "_law_is_fraction" = some (some (.ref f45)))
    (l45 : K.lookup f45 = some ⟨oc45, od45, .func (PySem.W.fnOf "_law_is_fraction" "_law_is_fraction" (defArgs s_Lis_fraction) (defBody s_Lis_fraction) (defScope s_Lis_fraction) .none kV45 dc45 pm45 an45 cd45 ct45), sl45⟩)
    (c45 : PySem.W.codeIn K cd45 "_law_is_fraction" = true)
    (k45 : PySem.W.keepIn K (.ref f45) = true)
    (a46 : PySem.W.nsIn K mainGlobals "_law_less" = some (some (.ref f46)))
    (l46 : K.lookup f46 = some ⟨oc46, od46, .func (PySem.W.fnOf "_law_less" "_law_less" (defArgs s_Lless) (defBody s_Lless) (defScope s_Lless) .none kV46 dc46 pm46 an46 cd46 ct46), sl46⟩)
    (c46 : PySem.W.codeIn K cd46 "_law_less" = true)
    (k46 : PySem.W.keepIn K (.ref f46) = true)
    (a47 : PySem.W.nsIn K mainGlobals "_law_number" = some (some (.ref f47)))
    (l47 : K.lookup f47 = some ⟨oc47, od47, .func (PySem.W.fnOf "_law_number" "_law_number" (defArgs s_Lnumber) (defBody s_Lnumber) (defScope s_Lnumber) .none kV47 dc47 pm47 an47 cd47 ct47), sl47⟩)
    (c47 : PySem.W.codeIn K cd47 "_law_number" = true)
    (k47 : PySem.W.keepIn K (.ref f47) = true)
    (a48 : PySem.W.nsIn K mainGlobals "_law_gap" = some (some (.ref f48)))
    (l48 : K.lookup f48 = some ⟨oc48, od48, .func (PySem.W.fnOf "_law_gap" "_law_gap" (defArgs s_Lgap) (defBody s_Lgap) (defScope s_Lgap) .none kV48 dc48 pm48 an48 cd48 ct48), sl48⟩)
    (c48 : PySem.W.codeIn K cd48 "_law_gap" = true)
    (k48 : PySem.W.keepIn K (.ref f48) = true)
    (a49 : PySem.W.nsIn K mainGlobals "_law_beam" = some (some (.ref f49)))
    (l49 : K.lookup f49 = some ⟨oc49, od49, .func (PySem.W.fnOf "_law_beam" "_law_beam" (defArgs s_Lbeam) (defBody s_Lbeam) (defScope s_Lbeam) .none kV49 dc49 pm49 an49 cd49 ct49), sl49⟩)
    (c49 : PySem.W.codeIn K cd49 "_law_beam" = true)
    (k49 : PySem.W.keepIn K (.ref f49) = true)
    (a50 : PySem.W.nsIn K mainGlobals "_law_spot" = some (some (.ref f50)))
    (l50 : K.lookup f50 = some ⟨oc50, od50, .func (PySem.W.fnOf "_law_spot" "_law_spot" (defArgs s_Lspot) (defBody s_Lspot) (defScope s_Lspot) .none kV50 dc50 pm50 an50 cd50 ct50), sl50⟩)
    (c50 : PySem.W.codeIn K cd50 "_law_spot" = true)
    (k50 : PySem.W.keepIn K (.ref f50) = true)
    (a51 : PySem.W.nsIn K mainGlobals "_law_rows" = some (some (.ref f51)))
    (l51 : K.lookup f51 = some ⟨oc51, od51, .func (PySem.W.fnOf "_law_rows" "_law_rows" (defArgs s_Lrows) (defBody s_Lrows) (defScope s_Lrows) .none kV51 dc51 pm51 an51 cd51 ct51), sl51⟩)
    (c51 : PySem.W.codeIn K cd51 "_law_rows" = true)
    (k51 : PySem.W.keepIn K (.ref f51) = true)
    (a52 : PySem.W.nsIn K mainGlobals "_law_made" = some (some (.ref f52)))
    (l52 : K.lookup f52 = some ⟨oc52, od52, .func (PySem.W.fnOf "_law_made" "_law_made" (defArgs s_Lmade) (defBody s_Lmade) (defScope s_Lmade) .none kV52 dc52 pm52 an52 cd52 ct52), sl52⟩)
    (c52 : PySem.W.codeIn K cd52 "_law_made" = true)
    (k52 : PySem.W.keepIn K (.ref f52) = true)
    (a53 : PySem.W.nsIn K mainGlobals "_law_place" = some (some (.ref f53)))
    (l53 : K.lookup f53 = some ⟨oc53, od53, .func (PySem.W.fnOf "_law_place" "_law_place" (defArgs s_Lplace) (defBody s_Lplace) (defScope s_Lplace) .none kV53 dc53 pm53 an53 cd53 ct53), sl53⟩)
    (c53 : PySem.W.codeIn K cd53 "_law_place" = true)
    (k53 : PySem.W.keepIn K (.ref f53) = true)
    (a54 : PySem.W.nsIn K mainGlobals "_law_stretch" = some (some (.ref f54)))
    (l54 : K.lookup f54 = some ⟨oc54, od54, .func (PySem.W.fnOf "_law_stretch" "_law_stretch" (defArgs s_Lstretch) (defBody s_Lstretch) (defScope s_Lstretch) .none kV54 dc54 pm54 an54 cd54 ct54), sl54⟩)
    (c54 : PySem.W.codeIn K cd54 "_law_stretch" = true)
    (k54 : PySem.W.keepIn K (.ref f54) = true)
    (a55 : PySem.W.nsIn K mainGlobals "_law_turned" = some (some (.ref f55)))
    (l55 : K.lookup f55 = some ⟨oc55, od55, .func (PySem.W.fnOf "_law_turned" "_law_turned" (defArgs s_Lturned) (defBody s_Lturned) (defScope s_Lturned) .none kV55 dc55 pm55 an55 cd55 ct55), sl55⟩)
    (c55 : PySem.W.codeIn K cd55 "_law_turned" = true)
    (k55 : PySem.W.keepIn K (.ref f55) = true)
    (a56 : PySem.W.nsIn K mainGlobals "_law_looks" = some (some (.ref f56)))
    (l56 : K.lookup f56 = some ⟨oc56, od56, .func (PySem.W.fnOf "_law_looks" "_law_looks" (defArgs s_Llooks) (defBody s_Llooks) (defScope s_Llooks) .none kV56 dc56 pm56 an56 cd56 ct56), sl56⟩)
    (c56 : PySem.W.codeIn K cd56 "_law_looks" = true)
    (k56 : PySem.W.keepIn K (.ref f56) = true)
    (a57 : PySem.W.nsIn K mainGlobals "_law_is_most" = some (some (.ref f57)))
    (l57 : K.lookup f57 = some ⟨oc57, od57, .func (PySem.W.fnOf "_law_is_most" "_law_is_most" (defArgs s_Lis_most) (defBody s_Lis_most) (defScope s_Lis_most) .none kV57 dc57 pm57 an57 cd57 ct57), sl57⟩)
    (c57 : PySem.W.codeIn K cd57 "_law_is_most" = true)
    (k57 : PySem.W.keepIn K (.ref f57) = true)
    (a58 : PySem.W.nsIn K mainGlobals "_law_piece_holds" = some (some (.ref f58)))
    (l58 : K.lookup f58 = some ⟨oc58, od58, .func (PySem.W.fnOf "_law_piece_holds" "_law_piece_holds" (defArgs s_Lpiece_holds) (defBody s_Lpiece_holds) (defScope s_Lpiece_holds) .none kV58 dc58 pm58 an58 cd58 ct58), sl58⟩)
    (c58 : PySem.W.codeIn K cd58 "_law_piece_holds" = true)
    (k58 : PySem.W.keepIn K (.ref f58) = true)
    (a59 : PySem.W.nsIn K mainGlobals "_law_no_more" = some (some (.ref f59)))
    (l59 : K.lookup f59 = some ⟨oc59, od59, .func (PySem.W.fnOf "_law_no_more" "_law_no_more" (defArgs s_Lno_more) (defBody s_Lno_more) (defScope s_Lno_more) .none kV59 dc59 pm59 an59 cd59 ct59), sl59⟩)
    (c59 : PySem.W.codeIn K cd59 "_law_no_more" = true)
    (k59 : PySem.W.keepIn K (.ref f59) = true)
    (a60 : PySem.W.nsIn K mainGlobals "_law_holds" = some (some (.ref f60)))
    (l60 : K.lookup f60 = some ⟨oc60, od60, .func (PySem.W.fnOf "_law_holds" "_law_holds" (defArgs s_Lholds) (defBody s_Lholds) (defScope s_Lholds) .none kV60 dc60 pm60 an60 cd60 ct60), sl60⟩)
    (c60 : PySem.W.codeIn K cd60 "_law_holds" = true)
    (k60 : PySem.W.keepIn K (.ref f60) = true)
    (a61 : PySem.W.nsIn K mainGlobals "law" = some (some (.ref f61)))
    (l61 : K.lookup f61 = some ⟨oc61, od61, .func (PySem.W.fnOf "law" "law" (defArgs s_law) (defBody s_law) (defScope s_law) .none kV61 dc61 pm61 an61 cd61 ct61), sl61⟩)
    (c61 : PySem.W.codeIn K cd61 "law" = true)
    (k61 : PySem.W.keepIn K (.ref f61) = true)
    (z_abs : PySem.W.nsIn K mainGlobals "abs" = some none)
    (z_zip : PySem.W.nsIn K mainGlobals "zip" = some none)
    (z_list : PySem.W.nsIn K mainGlobals "list" = some none)
    (z_sum : PySem.W.nsIn K mainGlobals "sum" = some none)
    (z_range : PySem.W.nsIn K mainGlobals "range" = some none)
    (z_isinstance : PySem.W.nsIn K mainGlobals "isinstance" = some none)
    (z_max : PySem.W.nsIn K mainGlobals "max" = some none)
    (z_min : PySem.W.nsIn K mainGlobals "min" = some none)
    (z_tuple : PySem.W.nsIn K mainGlobals "tuple" = some none)
    (z_len : PySem.W.nsIn K mainGlobals "len" = some none)
    (z_int : PySem.W.nsIn K mainGlobals "int" = some none)
    (z_sorted : PySem.W.nsIn K mainGlobals "sorted" = some none)
    (z_bool : PySem.W.nsIn K mainGlobals "bool" = some none)
    (z_set : PySem.W.nsIn K mainGlobals "set" = some none)
    (o_gs : PySem.W.specialIn K (.builtin "object.__class__") "__get__" = some (some (.builtin "getset_descriptor.__get__")))
    (o_tk : PySem.W.takesIn K (.builtin "object.__class__") = some true)
    (at_Weight : PySem.W.findIn K (.ref c_Weight) "__class__" = some (some (.builtin "object.__class__")))
    (ob_Weight : PySem.W.mroIn K c_Weight (.type "object") = some true)
    (at_Spread : PySem.W.findIn K (.ref c_Spread) "__class__" = some (some (.builtin "object.__class__")))
    (ob_Spread : PySem.W.mroIn K c_Spread (.type "object") = some true)
    (at_Beam : PySem.W.findIn K (.ref c_Beam) "__class__" = some (some (.builtin "object.__class__")))
    (ob_Beam : PySem.W.mroIn K c_Beam (.type "object") = some true)
    (x_NoNumber : PySem.W.excIn K c_NoNumber excMro "ValueError.__new__" = true)
    (x_NoLoad : PySem.W.excIn K c_NoLoad excMro "ValueError.__new__" = true)
    (x_NoBeam : PySem.W.excIn K c_NoBeam excMro "ValueError.__new__" = true)
    (x_OffBeam : PySem.W.excIn K c_OffBeam excMro "ValueError.__new__" = true)
    (pg_Weight : PySem.W.plainGet K c_Weight Str.empty = true)
    (hd_Weight : PySem.W.hasDictIn K c_Weight = true)
    (po_Weight : PySem.W.plainOver K c_Weight = true)
    (sa_Weight : PySem.W.findIn K (.ref c_Weight) "__setattr__" = some (some (.builtin "object.__setattr__")))
    (ms_Weight : PySem.W.makesIn K c_Weight = true)
    (kc_Weight : PySem.W.keepIn K (.ref c_Weight) = true)
    (pg_Spread : PySem.W.plainGet K c_Spread Str.empty = true)
    (hd_Spread : PySem.W.hasDictIn K c_Spread = true)
    (po_Spread : PySem.W.plainOver K c_Spread = true)
    (sa_Spread : PySem.W.findIn K (.ref c_Spread) "__setattr__" = some (some (.builtin "object.__setattr__")))
    (ms_Spread : PySem.W.makesIn K c_Spread = true)
    (kc_Spread : PySem.W.keepIn K (.ref c_Spread) = true)
    (pg_Beam : PySem.W.plainGet K c_Beam Str.empty = true)
    (hd_Beam : PySem.W.hasDictIn K c_Beam = true)
    (po_Beam : PySem.W.plainOver K c_Beam = true)
    (sa_Beam : PySem.W.findIn K (.ref c_Beam) "__setattr__" = some (some (.builtin "object.__setattr__")))
    (ms_Beam : PySem.W.makesIn K c_Beam = true)
    (kc_Beam : PySem.W.keepIn K (.ref c_Beam) = true)
    (na_Weight_place : PySem.W.findIn K (.ref c_Weight) "place" = some none)
    (na_Weight_size : PySem.W.findIn K (.ref c_Weight) "size" = some none)
    (na_Spread_start : PySem.W.findIn K (.ref c_Spread) "start" = some none)
    (na_Spread_end : PySem.W.findIn K (.ref c_Spread) "end" = some none)
    (na_Spread_each : PySem.W.findIn K (.ref c_Spread) "each" = some none)
    (na_Beam_length : PySem.W.findIn K (.ref c_Beam) "length" = some none)
    (na_Beam_rests : PySem.W.findIn K (.ref c_Beam) "rests" = some none)
    (i_Weight_Spread : PySem.W.kitOne K (.ref c_Weight) (.ref c_Spread) = some false)
    (i_Spread_Spread : PySem.W.kitOne K (.ref c_Spread) (.ref c_Spread) = some true)
    : ∃ ad, Txt K mg ad := ⟨{ c_NoNumber, c_NoLoad, c_NoBeam, c_OffBeam, c_Weight, c_Spread, c_Beam }, {
    f_greatest_share := ⟨_, _, fun_mk (st := s_greatest_share) l0 c0 k0, PySem.W.mg_of X G a0, (fun_mk (x := "greatest_share") (st := s_greatest_share) l0 c0 k0).binds fun _ _ _ _ _ _ us hl => match us, hl with | [_, _], _ => rfl⟩
    f_fraction := ⟨_, _, fun_mk (st := s_fraction) l1 c1 k1, PySem.W.mg_of X G a1, (fun_mk (x := "fraction") (st := s_fraction) l1 c1 k1).binds fun _ _ _ _ _ _ us hl => match us, hl with | [_, _], _ => rfl⟩
    f_plus := ⟨_, _, fun_mk (st := s_plus) l2 c2 k2, PySem.W.mg_of X G a2, (fun_mk (x := "plus") (st := s_plus) l2 c2 k2).binds fun _ _ _ _ _ _ us hl => match us, hl with | [_, _], _ => rfl⟩
    f_minus := ⟨_, _, fun_mk (st := s_minus) l3 c3 k3, PySem.W.mg_of X G a3, (fun_mk (x := "minus") (st := s_minus) l3 c3 k3).binds fun _ _ _ _ _ _ us hl => match us, hl with | [_, _], _ => rfl⟩
    f_under := ⟨_, _, fun_mk (st := s_under) l4 c4 k4, PySem.W.mg_of X G a4, (fun_mk (x := "under") (st := s_under) l4 c4 k4).binds fun _ _ _ _ _ _ us hl => match us, hl with | [_, _], _ => rfl⟩
    f_times := ⟨_, _, fun_mk (st := s_times) l5 c5 k5, PySem.W.mg_of X G a5, (fun_mk (x := "times") (st := s_times) l5 c5 k5).binds fun _ _ _ _ _ _ us hl => match us, hl with | [_, _], _ => rfl⟩
    f_over := ⟨_, _, fun_mk (st := s_over) l6 c6 k6, PySem.W.mg_of X G a6, (fun_mk (x := "over") (st := s_over) l6 c6 k6).binds fun _ _ _ _ _ _ us hl => match us, hl with | [_, _], _ => rfl⟩
    f_turn_scale := ⟨_, _, fun_mk (st := s_turn_scale) l7 c7 k7, PySem.W.mg_of X G a7, (fun_mk (x := "turn_scale") (st := s_turn_scale) l7 c7 k7).binds fun _ _ _ _ _ _ us hl => match us, hl with | [_], _ => rfl⟩
    f_greatest := ⟨_, _, fun_mk (st := s_greatest) l21 c21 k21, PySem.W.mg_of X G a21, (fun_mk (x := "greatest") (st := s_greatest) l21 c21 k21).binds fun _ _ _ _ _ _ us hl => match us, hl with | [_, _, _, _], _ => rfl⟩
    f_check_stretch := ⟨_, _, fun_mk (st := s_check_stretch) l22 c22 k22, PySem.W.mg_of X G a22, (fun_mk (x := "check_stretch") (st := s_check_stretch) l22 c22 k22).binds fun _ _ _ _ _ _ us hl => match us, hl with | [_, _, _], _ => rfl⟩
    f_turning_at := ⟨_, _, fun_mk (st := s_turning_at) l23 c23 k23, PySem.W.mg_of X G a23, (fun_mk (x := "turning_at") (st := s_turning_at) l23 c23 k23).binds fun _ _ _ _ _ _ us hl => match us, hl with | [_, _, _, _], _ => rfl⟩
    f_cuts_after := ⟨_, _, fun_mk (st := s_cuts_after) l24 c24 k24, PySem.W.mg_of X G a24, (fun_mk (x := "cuts_after") (st := s_cuts_after) l24 c24 k24).binds fun _ _ _ _ _ _ us hl => match us, hl with | [_, _, _, _], _ => rfl⟩
    f_top_between := ⟨_, _, fun_mk (st := s_top_between) l25 c25 k25, PySem.W.mg_of X G a25, (fun_mk (x := "top_between") (st := s_top_between) l25 c25 k25).binds fun _ _ _ _ _ _ us hl => match us, hl with | [_, _, _], _ => rfl⟩
    f_greater := ⟨_, _, fun_mk (st := s_greater) l26 c26 k26, PySem.W.mg_of X G a26, (fun_mk (x := "greater") (st := s_greater) l26 c26 k26).binds fun _ _ _ _ _ _ us hl => match us, hl with | [_, _], _ => rfl⟩
    f_check_beam := ⟨_, _, fun_mk (st := s_check_beam) l29 c29 k29, PySem.W.mg_of X G a29, (fun_mk (x := "check_beam") (st := s_check_beam) l29 c29 k29).binds fun _ _ _ _ _ _ us hl => match us, hl with | [_, _], _ => rfl⟩
    f_check_loads := ⟨_, _, fun_mk (st := s_check_loads) l30 c30 k30, PySem.W.mg_of X G a30, (fun_mk (x := "check_loads") (st := s_check_loads) l30 c30 k30).binds fun _ _ _ _ _ _ us hl => match us, hl with | [_, _], _ => rfl⟩
    f_weight_of := ⟨_, _, fun_mk (st := s_weight_of) l31 c31 k31, PySem.W.mg_of X G a31, (fun_mk (x := "weight_of") (st := s_weight_of) l31 c31 k31).binds fun _ _ _ _ _ _ us hl => match us, hl with | [_], _ => rfl⟩
    f_turned_about := ⟨_, _, fun_mk (st := s_turned_about) l32 c32 k32, PySem.W.mg_of X G a32, (fun_mk (x := "turned_about") (st := s_turned_about) l32 c32 k32).binds fun _ _ _ _ _ _ us hl => match us, hl with | [_, _], _ => rfl⟩
    f_two_bear := ⟨_, _, fun_mk (st := s_two_bear) l33 c33 k33, PySem.W.mg_of X G a33, (fun_mk (x := "two_bear") (st := s_two_bear) l33 c33 k33).binds fun _ _ _ _ _ _ us hl => match us, hl with | [_, _], _ => rfl⟩
    f_three_bear := ⟨_, _, fun_mk (st := s_three_bear) l34 c34 k34, PySem.W.mg_of X G a34, (fun_mk (x := "three_bear") (st := s_three_bear) l34 c34 k34).binds fun _ _ _ _ _ _ us hl => match us, hl with | [_, _], _ => rfl⟩
    f_middle_bears := ⟨_, _, fun_mk (st := s_middle_bears) l35 c35 k35, PySem.W.mg_of X G a35, (fun_mk (x := "middle_bears") (st := s_middle_bears) l35 c35 k35).binds fun _ _ _ _ _ _ us hl => match us, hl with | [_, _], _ => rfl⟩
    f_middle_part := ⟨_, _, fun_mk (st := s_middle_part) l36 c36 k36, PySem.W.mg_of X G a36, (fun_mk (x := "middle_part") (st := s_middle_part) l36 c36 k36).binds fun _ _ _ _ _ _ us hl => match us, hl with | [_, _], _ => rfl⟩
    f_spread_part := ⟨_, _, fun_mk (st := s_spread_part) l37 c37 k37, PySem.W.mg_of X G a37, (fun_mk (x := "spread_part") (st := s_spread_part) l37 c37 k37).binds fun _ _ _ _ _ _ us hl => match us, hl with | [_, _], _ => rfl⟩
    f_piece_part := ⟨_, _, fun_mk (st := s_piece_part) l38 c38 k38, PySem.W.mg_of X G a38, (fun_mk (x := "piece_part") (st := s_piece_part) l38 c38 k38).binds fun _ _ _ _ _ _ us hl => match us, hl with | [_, _, _, _], _ => rfl⟩
    f_share_scale := ⟨_, _, fun_mk (st := s_share_scale) l39 c39 k39, PySem.W.mg_of X G a39, (fun_mk (x := "share_scale") (st := s_share_scale) l39 c39 k39).binds fun _ _ _ _ _ _ us hl => match us, hl with | [_], _ => rfl⟩
    f_middle_share := ⟨_, _, fun_mk (st := s_middle_share) l40 c40 k40, PySem.W.mg_of X G a40, (fun_mk (x := "middle_share") (st := s_middle_share) l40 c40 k40).binds fun _ _ _ _ _ _ us hl => match us, hl with | [_, _], _ => rfl⟩
    f_Lcell_at := ⟨_, _, fun_mk (st := s_Lcell_at) l41 c41 k41, PySem.W.mg_of X G a41, (fun_mk (x := "_law_cell_at") (st := s_Lcell_at) l41 c41 k41).binds fun _ _ _ _ _ _ us hl => match us, hl with | [_, _], _ => rfl⟩
    f_Lwhole := ⟨_, _, fun_mk (st := s_Lwhole) l42 c42 k42, PySem.W.mg_of X G a42, (fun_mk (x := "_law_whole") (st := s_Lwhole) l42 c42 k42).binds fun _ _ _ _ _ _ us hl => match us, hl with | [_], _ => rfl⟩
    f_Ldivisor := ⟨_, _, fun_mk (st := s_Ldivisor) l43 c43 k43, PySem.W.mg_of X G a43, (fun_mk (x := "_law_divisor") (st := s_Ldivisor) l43 c43 k43).binds fun _ _ _ _ _ _ us hl => match us, hl with | [_, _], _ => rfl⟩
    f_Llowest := ⟨_, _, fun_mk (st := s_Llowest) l44 c44 k44, PySem.W.mg_of X G a44, (fun_mk (x := "_law_lowest") (st := s_Llowest) l44 c44 k44).binds fun _ _ _ _ _ _ us hl => match us, hl with | [_, _], _ => rfl⟩
    f_Lis_fraction := ⟨_, _, fun_mk (st := s_Lis_fraction) l45 c45 k45, PySem.W.mg_of X G a45, (fun_mk (x := "_law_is_fraction") (st := s_Lis_fraction) l45 c45 k45).binds fun _ _ _ _ _ _ us hl => match us, hl with | [_], _ => rfl⟩
    f_Lless := ⟨_, _, fun_mk (st := s_Lless) l46 c46 k46, PySem.W.mg_of X G a46, (fun_mk (x := "_law_less") (st := s_Lless) l46 c46 k46).binds fun _ _ _ _ _ _ us hl => match us, hl with | [_, _], _ => rfl⟩
    f_Lnumber := ⟨_, _, fun_mk (st := s_Lnumber) l47 c47 k47, PySem.W.mg_of X G a47, (fun_mk (x := "_law_number") (st := s_Lnumber) l47 c47 k47).binds fun _ _ _ _ _ _ us hl => match us, hl with | [_], _ => rfl⟩
    f_Lgap := ⟨_, _, fun_mk (st := s_Lgap) l48 c48 k48, PySem.W.mg_of X G a48, (fun_mk (x := "_law_gap") (st := s_Lgap) l48 c48 k48).binds fun _ _ _ _ _ _ us hl => match us, hl with | [_], _ => rfl⟩
    f_Lbeam := ⟨_, _, fun_mk (st := s_Lbeam) l49 c49 k49, PySem.W.mg_of X G a49, (fun_mk (x := "_law_beam") (st := s_Lbeam) l49 c49 k49).binds fun _ _ _ _ _ _ us hl => match us, hl with | [_, _], _ => rfl⟩
    f_Lspot := ⟨_, _, fun_mk (st := s_Lspot) l50 c50 k50, PySem.W.mg_of X G a50, (fun_mk (x := "_law_spot") (st := s_Lspot) l50 c50 k50).binds fun _ _ _ _ _ _ us hl => match us, hl with | [_, _, _], _ => rfl⟩
    f_Lrows := ⟨_, _, fun_mk (st := s_Lrows) l51 c51 k51, PySem.W.mg_of X G a51, (fun_mk (x := "_law_rows") (st := s_Lrows) l51 c51 k51).binds fun _ _ _ _ _ _ us hl => match us, hl with | [_, _, _, _, _], _ => rfl⟩
    f_Lmade := ⟨_, _, fun_mk (st := s_Lmade) l52 c52 k52, PySem.W.mg_of X G a52, (fun_mk (x := "_law_made") (st := s_Lmade) l52 c52 k52).binds fun _ _ _ _ _ _ us hl => match us, hl with | [_], _ => rfl⟩
    f_Lplace := ⟨_, _, fun_mk (st := s_Lplace) l53 c53 k53, PySem.W.mg_of X G a53, (fun_mk (x := "_law_place") (st := s_Lplace) l53 c53 k53).binds fun _ _ _ _ _ _ us hl => match us, hl with | [_, _, _], _ => rfl⟩
    f_Lstretch := ⟨_, _, fun_mk (st := s_Lstretch) l54 c54 k54, PySem.W.mg_of X G a54, (fun_mk (x := "_law_stretch") (st := s_Lstretch) l54 c54 k54).binds fun _ _ _ _ _ _ us hl => match us, hl with | [_, _], _ => rfl⟩
    f_Lturned := ⟨_, _, fun_mk (st := s_Lturned) l55 c55 k55, PySem.W.mg_of X G a55, (fun_mk (x := "_law_turned") (st := s_Lturned) l55 c55 k55).binds fun _ _ _ _ _ _ us hl => match us, hl with | [_, _, _, _, _], _ => rfl⟩
    f_Llooks := ⟨_, _, fun_mk (st := s_Llooks) l56 c56 k56, PySem.W.mg_of X G a56, (fun_mk (x := "_law_looks") (st := s_Llooks) l56 c56 k56).binds fun _ _ _ _ _ _ us hl => match us, hl with | [_, _, _], _ => rfl⟩
    f_Lis_most := ⟨_, _, fun_mk (st := s_Lis_most) l57 c57 k57, PySem.W.mg_of X G a57, (fun_mk (x := "_law_is_most") (st := s_Lis_most) l57 c57 k57).binds fun _ _ _ _ _ _ us hl => match us, hl with | [_, _, _, _, _, _], _ => rfl⟩
    f_Lpiece_holds := ⟨_, _, fun_mk (st := s_Lpiece_holds) l58 c58 k58, PySem.W.mg_of X G a58, (fun_mk (x := "_law_piece_holds") (st := s_Lpiece_holds) l58 c58 k58).binds fun _ _ _ _ _ _ us hl => match us, hl with | [_, _, _, _, _, _, _], _ => rfl⟩
    f_Lno_more := ⟨_, _, fun_mk (st := s_Lno_more) l59 c59 k59, PySem.W.mg_of X G a59, (fun_mk (x := "_law_no_more") (st := s_Lno_more) l59 c59 k59).binds fun _ _ _ _ _ _ us hl => match us, hl with | [_, _, _, _, _, _], _ => rfl⟩
    f_Lholds := ⟨_, _, fun_mk (st := s_Lholds) l60 c60 k60, PySem.W.mg_of X G a60, (fun_mk (x := "_law_holds") (st := s_Lholds) l60 c60 k60).binds fun _ _ _ _ _ _ us hl => match us, hl with | [_, _, _, _, _, _, _], _ => rfl⟩
    f_law := ⟨_, _, fun_mk (st := s_law) l61 c61 k61, PySem.W.mg_of X G a61, (fun_mk (x := "law") (st := s_law) l61 c61 k61).binds fun _ _ _ _ _ _ us hl => match us, hl with | [_], _ => rfl⟩
    b_abs := PySem.W.mg_none_of X G z_abs
    b_zip := PySem.W.mg_none_of X G z_zip
    b_list := PySem.W.mg_none_of X G z_list
    b_sum := PySem.W.mg_none_of X G z_sum
    b_range := PySem.W.mg_none_of X G z_range
    b_isinstance := PySem.W.mg_none_of X G z_isinstance
    b_max := PySem.W.mg_none_of X G z_max
    b_min := PySem.W.mg_none_of X G z_min
    b_tuple := PySem.W.mg_none_of X G z_tuple
    b_len := PySem.W.mg_none_of X G z_len
    b_int := PySem.W.mg_none_of X G z_int
    b_sorted := PySem.W.mg_none_of X G z_sorted
    b_bool := PySem.W.mg_none_of X G z_bool
    b_set := PySem.W.mg_none_of X G z_set
    g_NoNumber := PySem.W.mg_of X G g_NoNumber
    x_NoNumber
    g_NoLoad := PySem.W.mg_of X G g_NoLoad
    x_NoLoad
    g_NoBeam := PySem.W.mg_of X G g_NoBeam
    x_NoBeam
    g_OffBeam := PySem.W.mg_of X G g_OffBeam
    x_OffBeam
    n_Weight := ⟨⟨pg_Weight, hd_Weight, po_Weight, sa_Weight⟩, at_Weight, o_gs, o_tk, ob_Weight⟩
    mk_Weight := ⟨_, _, fun_mk (st := s_Weight___init) l9 c9 k9, ⟨ms_Weight, mi_Weight, fn9, kc_Weight⟩, (fun_mk (x := "__init__") (st := s_Weight___init) l9 c9 k9).binds fun _ _ _ _ _ _ us hl => match us, hl with | [_, _, _], _ => rfl, PySem.W.mg_of X G g_Weight⟩
    g_Spread := PySem.W.mg_of X G g_Spread
    n_Spread := ⟨⟨pg_Spread, hd_Spread, po_Spread, sa_Spread⟩, at_Spread, o_gs, o_tk, ob_Spread⟩
    mk_Spread := ⟨_, _, fun_mk (st := s_Spread___init) l15 c15 k15, ⟨ms_Spread, mi_Spread, fn15, kc_Spread⟩, (fun_mk (x := "__init__") (st := s_Spread___init) l15 c15 k15).binds fun _ _ _ _ _ _ us hl => match us, hl with | [_, _, _, _], _ => rfl, PySem.W.mg_of X G g_Spread⟩
    n_Beam := ⟨⟨pg_Beam, hd_Beam, po_Beam, sa_Beam⟩, at_Beam, o_gs, o_tk, ob_Beam⟩
    mk_Beam := ⟨_, _, fun_mk (st := s_Beam___init) l27 c27 k27, ⟨ms_Beam, mi_Beam, fn27, kc_Beam⟩, (fun_mk (x := "__init__") (st := s_Beam___init) l27 c27 k27).binds fun _ _ _ _ _ _ us hl => match us, hl with | [_, _, _], _ => rfl, PySem.W.mg_of X G g_Beam⟩
    h_Weight_total := ⟨_, _, fun_mk (st := s_Weight_total) l10 c10 k10, ⟨h_Weight_total, fn10, k10⟩, (fun_mk (x := "total") (st := s_Weight_total) l10 c10 k10).binds fun _ _ _ _ _ _ us hl => match us, hl with | [_], _ => rfl⟩
    h_Weight_edges := ⟨_, _, fun_mk (st := s_Weight_edges) l11 c11 k11, ⟨h_Weight_edges, fn11, k11⟩, (fun_mk (x := "edges") (st := s_Weight_edges) l11 c11 k11).binds fun _ _ _ _ _ _ us hl => match us, hl with | [_], _ => rfl⟩
    h_Weight_each_over := ⟨_, _, fun_mk (st := s_Weight_each_over) l12 c12 k12, ⟨h_Weight_each_over, fn12, k12⟩, (fun_mk (x := "each_over") (st := s_Weight_each_over) l12 c12 k12).binds fun _ _ _ _ _ _ us hl => match us, hl with | [_, _, _], _ => rfl⟩
    h_Weight_scaled_left := ⟨_, _, fun_mk (st := s_Weight_scaled_left) l13 c13 k13, ⟨h_Weight_scaled_left, fn13, k13⟩, (fun_mk (x := "scaled_left") (st := s_Weight_scaled_left) l13 c13 k13).binds fun _ _ _ _ _ _ us hl => match us, hl with | [_, _], _ => rfl⟩
    h_Weight_scaled_right := ⟨_, _, fun_mk (st := s_Weight_scaled_right) l14 c14 k14, ⟨h_Weight_scaled_right, fn14, k14⟩, (fun_mk (x := "scaled_right") (st := s_Weight_scaled_right) l14 c14 k14).binds fun _ _ _ _ _ _ us hl => match us, hl with | [_, _], _ => rfl⟩
    h_Weight_about := ⟨_, _, fun_mk (st := s_Load_about) l8 c8 k8, ⟨h_Weight_about, fn8, k8⟩, (fun_mk (x := "about") (st := s_Load_about) l8 c8 k8).binds fun _ _ _ _ _ _ us hl => match us, hl with | [_, _], _ => rfl⟩
    h_Spread_total := ⟨_, _, fun_mk (st := s_Spread_total) l16 c16 k16, ⟨h_Spread_total, fn16, k16⟩, (fun_mk (x := "total") (st := s_Spread_total) l16 c16 k16).binds fun _ _ _ _ _ _ us hl => match us, hl with | [_], _ => rfl⟩
    h_Spread_edges := ⟨_, _, fun_mk (st := s_Spread_edges) l17 c17 k17, ⟨h_Spread_edges, fn17, k17⟩, (fun_mk (x := "edges") (st := s_Spread_edges) l17 c17 k17).binds fun _ _ _ _ _ _ us hl => match us, hl with | [_], _ => rfl⟩
    h_Spread_each_over := ⟨_, _, fun_mk (st := s_Spread_each_over) l18 c18 k18, ⟨h_Spread_each_over, fn18, k18⟩, (fun_mk (x := "each_over") (st := s_Spread_each_over) l18 c18 k18).binds fun _ _ _ _ _ _ us hl => match us, hl with | [_, _, _], _ => rfl⟩
    h_Spread_scaled_left := ⟨_, _, fun_mk (st := s_Spread_scaled_left) l19 c19 k19, ⟨h_Spread_scaled_left, fn19, k19⟩, (fun_mk (x := "scaled_left") (st := s_Spread_scaled_left) l19 c19 k19).binds fun _ _ _ _ _ _ us hl => match us, hl with | [_, _], _ => rfl⟩
    h_Spread_scaled_right := ⟨_, _, fun_mk (st := s_Spread_scaled_right) l20 c20 k20, ⟨h_Spread_scaled_right, fn20, k20⟩, (fun_mk (x := "scaled_right") (st := s_Spread_scaled_right) l20 c20 k20).binds fun _ _ _ _ _ _ us hl => match us, hl with | [_, _], _ => rfl⟩
    h_Spread_about := ⟨_, _, fun_mk (st := s_Load_about) l8 c8 k8, ⟨h_Spread_about, fn8, k8⟩, (fun_mk (x := "about") (st := s_Load_about) l8 c8 k8).binds fun _ _ _ _ _ _ us hl => match us, hl with | [_, _], _ => rfl⟩
    h_Beam_bears := ⟨_, _, fun_mk (st := s_Beam_bears) l28 c28 k28, ⟨h_Beam_bears, fn28, k28⟩, (fun_mk (x := "bears") (st := s_Beam_bears) l28 c28 k28).binds fun _ _ _ _ _ _ us hl => match us, hl with | [_, _], _ => rfl⟩
    na_Weight_place
    na_Weight_size
    na_Spread_start
    na_Spread_end
    na_Spread_each
    na_Beam_length
    na_Beam_rests
    i_Weight_Spread
    i_Spread_Spread
  }⟩
theorem walk {l : PySem.W.OpenLaw} {q : Program} {loose : List Str} {XP : (Str → Option Value) → Heap → Prop} {YP : World → Heap → Prop} {d : DefRec} {K : Params → PySem.W.Frag} (hn : l.most = some 63) (hdf : d.params.defaults = []) (hI : PyProof.Rows.importsNone q = true) (hT : l.prog.given.tree = none)
    (hd : d.name = "law") (hY : ∀ (w : World) (h : Heap), YP w h → (K w.params).In h)
    (F : ∀ (w : World) (mg : Str → Option Value) (h : Heap), (K w.params).In h → h.Ns mainGlobals mg → ∃ ad, Txt (K w.params) mg ad) :
    PySem.W.WalkO q loose XP YP l.row.toRowW d [] (fun f vs => PySem.call f vs) := by
  refine L2.walk_of (n := 63) (k := 52) (x := "_law_script") (CX := fun _ => CX0) (sp := fun w => spLaw (K w.params)) hn (by decide) hdf ⟨rfl, by decide, by decide⟩ hI hY (fun w mg fa h KX G hmg => ?_) (fun _ _ a ns hl _ hS => ⟨a, ns, rfl, hS, hl, fun _ => rfl⟩) fun _ _ _ _ _ z => z
  obtain ⟨ad, T⟩ := F w mg h KX G
  rw [hd] at hmg
  obtain ⟨f, fd, Fn, hm, hb⟩ := T.f_law.ex
  have e := hmg.symm.trans hm
  cases e
  refine ⟨fd, fun s u => ?_, fun base kb nb sb => ok_law Fn T ⟨sb, hT⟩⟩
  obtain ⟨oc, od, kV, doc, pm, an, cdv, ct, osl, rfl, lk, hcd⟩ := Fn.ex
  exact .of_eq rfl
end B
def PySem.W.Fast.tw9716139829257089433 : Unit := ()
def PySem.W.Fast.tw13871271943485346580 : Unit := ()
def PySem.W.Fast.tw4287849515528009850 : Unit := ()
def PySem.W.Fast.tw18422557631749588748 : Unit := ()
def PySem.W.Fast.tw15295071717299188552 : Unit := ()
def PySem.W.Fast.tw14680473394114115146 : Unit := ()
def PySem.W.Fast.tw11162190951751825407 : Unit := ()
def PySem.W.Fast.tw13672312903177365510 : Unit := ()
def PySem.W.Fast.tw10409439248501749071 : Unit := ()
def PySem.W.Fast.tw3946537911552328020 : Unit := ()
def PySem.W.Fast.tw17168482814291275746 : Unit := ()
def PySem.W.Fast.tw12802210269526102425 : Unit := ()
def PySem.W.Fast.tw15930117440233204841 : Unit := ()
def PySem.W.Fast.tw4381566960853981637 : Unit := ()
def PySem.W.Fast.tw8504228782294377449 : Unit := ()
def PySem.W.Fast.tw3365648754384490439 : Unit := ()
def PySem.W.Fast.tw5250323494811408168 : Unit := ()
open PySem PySem.W PyProof.Rows
set_option maxRecDepth 100000 in
set_option maxHeartbeats 0 in
theorem PySem.Challenge.cw_beamload_k09_whole_no_place_has_more_holds : PySem.Challenge.rw_beamload_k09_whole_no_place_has_more.Holds := by
  w_on; o_law; k_head; (case hw => w_witness2)
  k_fill
  refine B.walk (l := PySem.Challenge.rw_beamload_k09_whole_no_place_has_more) rfl rfl (by decide +kernel) rfl rfl (fun w h Y => PySem.W.kIn_of Y) ?F
  case F =>
    intro w mg h KX G
    refine' B.txt_mk KX G ?g_NoNumber ?g_NoLoad ?g_NoBeam ?g_OffBeam ?g_Weight ?g_Spread ?g_Beam ?a0 ?l0 ?c0 ?k0 ?a1 ?l1 ?c1 ?k1 ?a2 ?l2 ?c2 ?k2 ?a3 ?l3 ?c3 ?k3 ?a4 ?l4 ?c4 ?k4 ?a5 ?l5 ?c5 ?k5 ?a6 ?l6 ?c6 ?k6 ?a7 ?l7 ?c7 ?k7 ?h_Weight_about ?h_Spread_about ?fn8 ?l8 ?c8 ?k8 ?mi_Weight ?fn9 ?l9 ?c9 ?k9 ?h_Weight_total ?fn10 ?l10 ?c10 ?k10 ?h_Weight_edges ?fn11 ?l11 ?c11 ?k11 ?h_Weight_each_over ?fn12 ?l12 ?c12 ?k12 ?h_Weight_scaled_left ?fn13 ?l13 ?c13 ?k13 ?h_Weight_scaled_right ?fn14 ?l14 ?c14 ?k14 ?mi_Spread ?fn15 ?l15 ?c15 ?k15 ?h_Spread_total ?fn16 ?l16 ?c16 ?k16 ?h_Spread_edges ?fn17 ?l17 ?c17 ?k17 ?h_Spread_each_over ?fn18 ?l18 ?c18 ?k18 ?h_Spread_scaled_left ?fn19 ?l19 ?c19 ?k19 ?h_Spread_scaled_right ?fn20 ?l20 ?c20 ?k20 ?a21 ?l21 ?c21 ?k21 ?a22 ?l22 ?c22 ?k22 ?a23 ?l23 ?c23 ?k23 ?a24 ?l24 ?c24 ?k24 ?a25 ?l25 ?c25 ?k25 ?a26 ?l26 ?c26 ?k26 ?mi_Beam ?fn27 ?l27 ?c27 ?k27 ?h_Beam_bears ?fn28 ?l28 ?c28 ?k28 ?a29 ?l29 ?c29 ?k29 ?a30 ?l30 ?c30 ?k30 ?a31 ?l31 ?c31 ?k31 ?a32 ?l32 ?c32 ?k32 ?a33 ?l33 ?c33 ?k33 ?a34 ?l34 ?c34 ?k34 ?a35 ?l35 ?c35 ?k35 ?a36 ?l36 ?c36 ?k36 ?a37 ?l37 ?c37 ?k37 ?a38 ?l38 ?c38 ?k38 ?a39 ?l39 ?c39 ?k39 ?a40 ?l40 ?c40 ?k40 ?a41 ?l41 ?c41 ?k41 ?a42 ?l42 ?c42 ?k42 ?a43 ?l43 ?c43 ?k43 ?a44 ?l44 ?c44 ?k44 ?a45 ?l45 ?c45 ?k45 ?a46 ?l46 ?c46 ?k46 ?a47 ?l47 ?c47 ?k47 ?a48 ?l48 ?c48 ?k48 ?a49 ?l49 ?c49 ?k49 ?a50 ?l50 ?c50 ?k50 ?a51 ?l51 ?c51 ?k51 ?a52 ?l52 ?c52 ?k52 ?a53 ?l53 ?c53 ?k53 ?a54 ?l54 ?c54 ?k54 ?a55 ?l55 ?c55 ?k55 ?a56 ?l56 ?c56 ?k56 ?a57 ?l57 ?c57 ?k57 ?a58 ?l58 ?c58 ?k58 ?a59 ?l59 ?c59 ?k59 ?a60 ?l60 ?c60 ?k60 ?a61 ?l61 ?c61 ?k61 ?z_abs ?z_zip ?z_list ?z_sum ?z_range ?z_isinstance ?z_max ?z_min ?z_tuple ?z_len ?z_int ?z_sorted ?z_bool ?z_set ?o_gs ?o_tk ?at_Weight ?ob_Weight ?at_Spread ?ob_Spread ?at_Beam ?ob_Beam ?x_NoNumber ?x_NoLoad ?x_NoBeam ?x_OffBeam ?pg_Weight ?hd_Weight ?po_Weight ?sa_Weight ?ms_Weight ?kc_Weight ?pg_Spread ?hd_Spread ?po_Spread ?sa_Spread ?ms_Spread ?kc_Spread ?pg_Beam ?hd_Beam ?po_Beam ?sa_Beam ?ms_Beam ?kc_Beam ?na_Weight_place ?na_Weight_size ?na_Spread_start ?na_Spread_end ?na_Spread_each ?na_Beam_length ?na_Beam_rests ?i_Weight_Spread ?i_Spread_Spread
    case g_NoNumber | g_NoLoad | g_NoBeam | g_OffBeam | g_Weight | g_Spread | g_Beam | a0 | l0 | c0 | k0 | a1 | l1 | c1 | k1 | a2 | l2 | c2 | k2 | a3 | l3 | c3 | k3 | a4 | l4 | c4 | k4 | a5 | l5 | c5 | k5 | a6 | l6 | c6 | k6 | a7 | l7 | c7 | k7 | h_Weight_about | h_Spread_about | fn8 | l8 | c8 | k8 | mi_Weight | fn9 | l9 | c9 | k9 | h_Weight_total | fn10 | l10 | c10 | k10 | h_Weight_edges | fn11 | l11 | c11 | k11 | h_Weight_each_over | fn12 | l12 | c12 | k12 | h_Weight_scaled_left | fn13 | l13 | c13 | k13 | h_Weight_scaled_right | fn14 | l14 | c14 | k14 | mi_Spread | fn15 | l15 | c15 | k15 | h_Spread_total | fn16 | l16 | c16 | k16 | h_Spread_edges | fn17 | l17 | c17 | k17 | h_Spread_each_over | fn18 | l18 | c18 | k18 | h_Spread_scaled_left | fn19 | l19 | c19 | k19 | h_Spread_scaled_right | fn20 | l20 | c20 | k20 | a21 | l21 | c21 | k21 | a22 | l22 | c22 | k22 | a23 | l23 | c23 | k23 | a24 | l24 | c24 | k24 | a25 | l25 | c25 | k25 | a26 | l26 | c26 | k26 | mi_Beam | fn27 | l27 | c27 | k27 | h_Beam_bears | fn28 | l28 | c28 | k28 | a29 | l29 | c29 | k29 | a30 | l30 | c30 | k30 | a31 | l31 | c31 | k31 | a32 | l32 | c32 | k32 | a33 | l33 | c33 | k33 | a34 | l34 | c34 | k34 | a35 | l35 | c35 | k35 | a36 | l36 | c36 | k36 | a37 | l37 | c37 | k37 | a38 | l38 | c38 | k38 | a39 | l39 | c39 | k39 | a40 | l40 | c40 | k40 | a41 | l41 | c41 | k41 | a42 | l42 | c42 | k42 | a43 | l43 | c43 | k43 | a44 | l44 | c44 | k44 | a45 | l45 | c45 | k45 | a46 | l46 | c46 | k46 | a47 | l47 | c47 | k47 | a48 | l48 | c48 | k48 | a49 | l49 | c49 | k49 | a50 | l50 | c50 | k50 | a51 | l51 | c51 | k51 | a52 | l52 | c52 | k52 | a53 | l53 | c53 | k53 | a54 | l54 | c54 | k54 | a55 | l55 | c55 | k55 | a56 | l56 | c56 | k56 | a57 | l57 | c57 | k57 | a58 | l58 | c58 | k58 | a59 | l59 | c59 | k59 | a60 | l60 | c60 | k60 | a61 | l61 | c61 | k61 | z_abs | z_zip | z_list | z_sum | z_range | z_isinstance | z_max | z_min | z_tuple | z_len | z_int | z_sorted | z_bool | z_set | o_gs | o_tk | at_Weight | ob_Weight | at_Spread | ob_Spread | at_Beam | ob_Beam => k_is
    case x_NoNumber | x_NoLoad | x_NoBeam | x_OffBeam => k_exc
    case pg_Weight | hd_Weight | po_Weight | sa_Weight | ms_Weight | kc_Weight | pg_Spread | hd_Spread | po_Spread | sa_Spread | ms_Spread | kc_Spread | pg_Beam | hd_Beam | po_Beam | sa_Beam | ms_Beam | kc_Beam | na_Weight_place | na_Weight_size | na_Spread_start | na_Spread_end | na_Spread_each | na_Beam_length | na_Beam_rests => k_is
    case i_Weight_Spread | i_Spread_Spread => kit_is
