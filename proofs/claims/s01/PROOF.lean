import PyProof.Rows.All
import Wide.All
import OpenK.AllK
import Wide.FinOn
import PyProof.EqAt
import PyProof.EqKinds
import PyProof.TupleCall
import KE.BitLaws
import Open.SpecLaws
import KE.OsHead
import KE.OsGo
import KE.KSortKeySt
import KE.KListLetter
import KE.KDictSum
import PySem.Challenge.RW_slicesale_s01_answers
section
set_option Elab.async false
set_option linter.all false
set_option maxRecDepth 100000
namespace L2
open PySem PySem.Spec PyProof.Rows
abbrev Key := Sum Int Str
def keyIs : Key → Value → Bool
  | .inl k, v => Value.isInt k v
  | .inr x, v => Value.isStrOf x v
def keyH (w : World) : Key → Int
  | .inl k => hashInt k
  | .inr x => hashStr w x
theorem keyIs_shape : ∀ {k : Key} {v : Value}, keyIs k v = true → (∃ i t, k = Sum.inl i ∧ v = Value.int i t) ∨ (∃ x t, k = Sum.inr x ∧ v = Value.str x t)
  | .inl i, v, h => by
    obtain ⟨t, e⟩ := Value.isInt_shape (k := i) (v := v) h
    exact .inl ⟨i, t, rfl, e⟩
  | .inr x, v, h => by
    obtain ⟨t, e⟩ := Value.isStrOf_shape (x := x) (v := v) h
    exact .inr ⟨x, t, rfl, e⟩
theorem keyIs_int (i : Int) (t : Tok) : keyIs (.inl i) (.int i t) = true := by simp [keyIs, Value.isInt]
theorem keyIs_str (x : Str) (t : Tok) : keyIs (.inr x) (.str x t) = true := by simp [keyIs, Value.isStrOf]
theorem key_ll (a b : Int) : decide ((Sum.inl a : Key) = Sum.inl b) = (a == b) := by
  by_cases e : a = b
  · subst e; simp
  · have h : ¬ (Sum.inl a : Key) = Sum.inl b := fun q => e (Sum.inl.inj q)
    rw [decide_eq_false h]
    exact (beq_eq_false_iff_ne.mpr e).symm
theorem key_rr (a b : Str) : decide ((Sum.inr a : Key) = Sum.inr b) = decide (a = b) := by
  by_cases e : a = b
  · subst e; simp
  · have h : ¬ (Sum.inr a : Key) = Sum.inr b := fun q => e (Sum.inr.inj q)
    rw [decide_eq_false h, decide_eq_false e]
theorem key_lr (a : Int) (b : Str) : decide ((Sum.inl a : Key) = Sum.inr b) = false := decide_eq_false (fun q => nomatch q)
theorem key_rl (a : Str) (b : Int) : decide ((Sum.inr a : Key) = Sum.inl b) = false := decide_eq_false (fun q => nomatch q)
def mixKind (prog : Program) (w : World) : PySem.KeyKind prog w Key where
  is := keyIs
  hash := keyH w
  inj := fun v a b ha hb => by
    rcases keyIs_shape ha with ⟨i, t, rfl, rfl⟩ | ⟨x, t, rfl, rfl⟩
    · rcases keyIs_shape hb with ⟨j, u, rfl, e⟩ | ⟨y, u, rfl, e⟩
      · injection e with e1 _; rw [e1]
      · exact nomatch e
    · rcases keyIs_shape hb with ⟨j, u, rfl, e⟩ | ⟨y, u, rfl, e⟩
      · exact nomatch e
      · injection e with e1 _; rw [e1]
  byValue := fun k v h => by
    rcases keyIs_shape h with ⟨i, t, rfl, rfl⟩ | ⟨x, t, rfl, rfl⟩ <;> rfl
  pyHash := fun hv h => by
    rcases keyIs_shape hv with ⟨i, t, rfl, rfl⟩ | ⟨x, t, rfl, rfl⟩
    · exact wpAny_pyHash_int h
    · exact wpAny_pyHash_str h
  eqBool := fun hu hv h => by
    rcases keyIs_shape hu with ⟨i, t, rfl, rfl⟩ | ⟨x, t, rfl, rfl⟩
    · rcases keyIs_shape hv with ⟨j, u, rfl, rfl⟩ | ⟨y, u, rfl, rfl⟩
      · rw [key_ll] at h; exact wpAny_eqBool_int h
      · rw [key_lr] at h; exact SeqAt.EqAt.int_str i t y u _ _ _ _ h
    · rcases keyIs_shape hv with ⟨j, u, rfl, rfl⟩ | ⟨y, u, rfl, rfl⟩
      · rw [key_rl] at h; exact SeqAt.EqAt.str_int x t j u _ _ _ _ h
      · rw [key_rr] at h; exact wpAny_eqBool_str h
  «strs» := fun k x t v h => by
    rcases keyIs_shape h with ⟨i, u, rfl, e⟩ | ⟨y, u, rfl, e⟩
    · exact nomatch e
    · injection e with e1 _
      subst e1
      cases v <;> rfl
theorem mixKind_int (prog : Program) (w : World) (i : Int) (t : Tok) : (mixKind prog w).is (.inl i) (.int i t) = true := keyIs_int i t
theorem mixKind_str (prog : Program) (w : World) (x : Str) (t : Tok) : (mixKind prog w).is (.inr x) (.str x t) = true := keyIs_str x t
end L2
namespace L2
open PySem PySem.Spec PyProof.Rows
/-- a value, without the heap -/
inductive V where
  | non | bl (b : Bool) | int (i : Int) | str (x : Str) | byt (b : Array UInt8) | flt (b : UInt64) | ref (a : Addr) | ty (n : String)
  deriving DecidableEq
def RelV : V → Value → Prop
  | .non, u => u = Value.none
  | .bl b, u => u = Value.bool b
  | .int i, u => ∃ t, u = Value.int i t
  | .str x, u => ∃ t, u = Value.str x t
  | .byt b, u => ∃ t, u = Value.bytes b t
  | .flt b, u => ∃ t, u = Value.float b t
  | .ref a, u => u = Value.ref a
  | .ty n, u => u = Value.type n
abbrev Vals : List V → List Value → Prop := Paired RelV
theorem Vals.length {xs : List V} {us : List Value} (r : Vals xs us) : xs.length = us.length := Paired.length r
theorem Vals.get : ∀ {xs : List V} {us : List Value} {i : Nat} {x : V}, Vals xs us → xs[i]? = some x → ∃ u, us[i]? = some u ∧ RelV x u
  | _, _, _, _, .nil, e => by simp at e
  | _, _, 0, _, .cons r _, e => by simp at e; subst e; exact ⟨_, rfl, r⟩
  | _, _, i + 1, x, .cons _ t, e => by
    obtain ⟨u, h1, h2⟩ := Vals.get (i := i) (x := x) t (by simpa using e)
    exact ⟨u, by simpa using h1, h2⟩
theorem Vals.append : ∀ {xs ys : List V} {us ws : List Value}, Vals xs us → Vals ys ws → Vals (xs ++ ys) (us ++ ws)
  | _, _, _, _, .nil, s => s
  | _, _, _, _, .cons r t, s => .cons r (Vals.append t s)
theorem Vals.take : ∀ {xs : List V} {us : List Value} (n : Nat), Vals xs us → Vals (xs.take n) (us.take n)
  | _, _, 0, _ => .nil
  | _, _, _ + 1, .nil => .nil
  | _, _, n + 1, .cons r t => .cons r (Vals.take n t)
theorem Vals.drop : ∀ {xs : List V} {us : List Value} (n : Nat), Vals xs us → Vals (xs.drop n) (us.drop n)
  | _, _, 0, r => r
  | _, _, _ + 1, .nil => .nil
  | _, _, n + 1, .cons _ t => Vals.drop n t
def RelO : Option V → Option Value → Prop
  | some v, some u => RelV v u
  | none, none => True
  | _, _ => False
def KV {κ : Type} : List (κ × V) → List (κ × Value) → Prop := Paired fun (p : κ × V) (q : κ × Value) => p.1 = q.1 ∧ RelV p.2 q.2
def kV : Key → V
  | .inl i => .int i
  | .inr x => .str x
/-- what stands at a tracked address -/
inductive HO where
  /-- a list -/
  | lst (xs : List V)
  /-- a tuple (never changes) -/
  | tup (xs : List V)
  /-- a dict whose keys are ints and texts; one whose keys are tuples of ints and texts (the empty one is both) -/
  | dK (kvs : List (Key × V)) | dT (kvs : List (List Key × V))
  /-- a set of ints: its members, its size -/
  | set (S : Int → Bool) (n : Nat)
  /-- an instance of the class at C, its dict at dx, its attributes -/
  | ins (C dx : Addr) (fs : List (Str × V))
  /-- the dict of the instance at x -/
  | own (x : Addr)
  /-- the dict of an exception -/
  | xd (fs : List (Str × V))
  /-- a bound method, f of x -/
  | met (f x : Addr)
  /-- a range object lo, lo + 1, .. below hi -/
  | rng (lo hi : Int)
  /-- a thing that is known to the object (the script; a dict while a loop walks it): read, never written while it is so -/
  | frz (o : Obj) (u : HO)
  /-- a code object's table -/
  | tbl (ps : Array Value)
  /-- any other thing, by what is true of its one object (a def of one's own: SetO a S n := HO.ext fun h => ..) -/
  | ext (φ : Heap → Prop)
abbrev Hp := Addr → Option HO
def upd (H : Hp) (a : Addr) (o : HO) : Hp := fun b => if b = a then some o else H b
theorem upd_same {H : Hp} {a : Addr} {o : HO} : upd H a o a = some o := by unfold upd; rw [if_pos rfl]
theorem upd_ne {H : Hp} {a b : Addr} {o : HO} (h : b ≠ a) : upd H a o b = H b := by unfold upd; rw [if_neg h]
theorem ne_of {H : Hp} {a b : Addr} {o u : HO} (h : H a = some o) (h' : H b = some u) (d : o ≠ u) : a ≠ b := by
  intro e; subst e; rw [h] at h'; exact d (Option.some.inj h')
theorem ne_of_none {H : Hp} {a b : Addr} {o : HO} (h : H a = some o) (h' : H b = none) : a ≠ b := by
  intro e; subst e; rw [h] at h'; cases h'
section
variable (P : Program) (w : World)
def ObjOk (H : Hp) (h : Heap) (a : Addr) : HO → Prop
  | .lst xs => xs.length ≤ sizeLine ∧ ∃ (its : List Value) (n : Nat), Vals xs its ∧ h.get? a = some { cls := .type "list", data := .seq its.toArray n }
  | .tup xs => xs.length ≤ sizeLine ∧ ∃ its : List Value, Vals xs its ∧ IsTup h a its.toArray
  | .dK kvs => kvs.length ≤ sizeLine ∧ (a == sysModules) = false ∧ ∃ vs, KV kvs vs ∧ h.DictOf (mixKind P w) a vs
  | .dT kvs => kvs.length ≤ sizeLine ∧ (a == sysModules) = false ∧ ∃ xs : List (List Key × Addr × Value),
      Paired (fun (p : List Key × V) (q : List Key × Addr × Value) => p.1 = q.1 ∧ H q.2.1 = some (.tup (p.1.map kV)) ∧ RelV p.2 q.2.2) kvs xs ∧
      ∃ o es ep, h.get? a = some o ∧ o.ExactDict ∧ o.data = .dict es ep ∧ es.toList = xs.map (entryOfKey (tupleKind (mixKind P w))) ∧ (xs.map (·.1)).Nodup
  | .set S n => h.SetOf (intKind P w) a S n
  | .ins C dx fs => H dx = some (.own a) ∧ fs.length ≤ 1000 ∧ dx ≠ a ∧ h.get? a = some (PySem.W.instObj C dx) ∧
      ∃ mA, h.Ns1 dx mA ∧ (∀ f, RelO (fs.lookup f) (mA f)) ∧ PySem.Within mA (fs.map (·.1))
  | .own _ => ∃ o, h.get? a = some o
  | .xd fs => ∃ mA, h.Ns1 a mA ∧ ∀ f, RelO (fs.lookup f) (mA f)
  | .rng lo hi => ∃ t u v, h.get? a = some { cls := .type "range", data := .fields #[.int lo t, .int hi u, .int 1 v] }
  | .frz o u => h.get? a = some o ∧ ObjOk H h a u
  | .tbl ps => h.get? a = some { cls := .none, data := .fields ps }
  | .met f x => h.get? a = some (PySem.W.methodObj (.ref f) (.ref x))
  | .ext φ => φ h ∧ (∃ o, h.get? a = some o) ∧ ∀ h1 h2 : Heap, φ h1 → (∀ o, h1.get? a = some o → h2.get? a = some o) → φ h2
def HOk (H : Hp) (h : Heap) : Prop := ∀ a o, H a = some o → ObjOk P w H h a o
end
section
variable {P : Program} {w : World} {H H' : Hp} {h h' : Heap} {a : Addr} {o : HO}
theorem ObjOk.lt (x : ObjOk P w H h a o) : a < h.objs.size := by
  cases o with
  | lst xs => obtain ⟨_, _, _, _, e⟩ := x; exact Heap.lt_size e
  | tup xs => obtain ⟨_, _, _, p⟩ := x; exact p.lt
  | dK kvs => obtain ⟨_, _, _, _, o, _, _, e, _⟩ := x; exact Heap.lt_size e
  | dT kvs => obtain ⟨_, _, _, _, o, _, _, e, _⟩ := x; exact Heap.lt_size e
  | set S n => obtain ⟨o, _, _, _, e, _⟩ := x; exact Heap.lt_size e
  | ins C dx fs => obtain ⟨_, _, _, e, _⟩ := x; exact Heap.lt_size e
  | own y => obtain ⟨_, e⟩ := x; exact Heap.lt_size e
  | xd fs => obtain ⟨_, ⟨_, _, _, e, _⟩, _⟩ := x; exact Heap.lt_size e
  | rng lo hi => obtain ⟨_, _, _, e⟩ := x; exact Heap.lt_size e
  | frz ob u => obtain ⟨e, _⟩ := x; exact Heap.lt_size e
  | tbl ps => exact Heap.lt_size (show h.get? a = some _ from x)
  | met f y => exact Heap.lt_size (show h.get? a = some _ from x)
  | ext φ => obtain ⟨_, ⟨_, e⟩, _⟩ := x; exact Heap.lt_size e
theorem Paired.mapP {α β : Type} {F G : α → β → Prop} : ∀ {l₁ : List α} {l₂ : List β}, Paired F l₁ l₂ → (∀ a b, F a b → G a b) → Paired G l₁ l₂
  | _, _, .nil, _ => .nil
  | _, _, .cons r t, f => .cons (f _ _ r) (Paired.mapP t f)
theorem ObjOk.stay (x : ObjOk P w H h a o) (k : ∀ b u, (b = a ∨ H b = some (.own a)) → h.get? b = some u → h'.get? b = some u)
    (ho : ∀ b, H b = some (.own a) → H' b = some (.own a)) (ht : ∀ b xs, H b = some (.tup xs) → H' b = some (.tup xs)) : ObjOk P w H' h' a o := by
  induction o with
  | lst xs => obtain ⟨z, its, n, r, e⟩ := x; exact ⟨z, its, n, r, k _ _ (.inl rfl) e⟩
  | tup xs => obtain ⟨z, its, r, ob, e, c⟩ := x; exact ⟨z, its, r, ob, k _ _ (.inl rfl) e, c⟩
  | dK kvs => obtain ⟨z, y, vs, r, ob, es, ep, e, c⟩ := x; exact ⟨z, y, vs, r, ob, es, ep, k _ _ (.inl rfl) e, c⟩
  | dT kvs =>
    obtain ⟨z, y, xs, r, ob, es, ep, e, c⟩ := x
    exact ⟨z, y, xs, Paired.mapP r fun p q z => ⟨z.1, ht _ _ z.2.1, z.2.2⟩, ob, es, ep, k _ _ (.inl rfl) e, c⟩
  | set S n => obtain ⟨ob, es, ep, t, e, c⟩ := x; exact ⟨ob, es, ep, t, k _ _ (.inl rfl) e, c⟩
  | ins C dx fs =>
    obtain ⟨d, z, ne, e, mA, ⟨od, es, ep, e2, c⟩, r⟩ := x
    exact ⟨ho _ d, z, ne, k _ _ (.inl rfl) e, mA, ⟨od, es, ep, k _ _ (.inr d) e2, c⟩, r⟩
  | own y => obtain ⟨ob, e⟩ := x; exact ⟨ob, k _ _ (.inl rfl) e⟩
  | xd fs => obtain ⟨mA, ⟨od, es, ep, e, c⟩, r⟩ := x; exact ⟨mA, ⟨od, es, ep, k _ _ (.inl rfl) e, c⟩, r⟩
  | rng lo hi => obtain ⟨t, u, v, e⟩ := x; exact ⟨t, u, v, k _ _ (.inl rfl) e⟩
  | frz ob u ih => obtain ⟨e, q⟩ := x; exact ⟨k _ _ (.inl rfl) e, ih q⟩
  | tbl ps =>
    have e : h.get? a = some { cls := .none, data := .fields ps } := x
    show h'.get? a = some { cls := .none, data := .fields ps }
    exact k a _ (.inl rfl) e
  | met f y =>
    have e : h.get? a = some (PySem.W.methodObj (.ref f) (.ref y)) := x
    show h'.get? a = some (PySem.W.methodObj (.ref f) (.ref y))
    exact k a _ (.inl rfl) e
  | ext φ => obtain ⟨p, ⟨o, e⟩, st⟩ := x; exact ⟨st _ _ p fun o q => k _ _ (.inl rfl) q, ⟨o, k _ _ (.inl rfl) e⟩, st⟩
theorem HOk.lt (x : HOk P w H h) (e : H a = some o) : a < h.objs.size := (x a o e).lt
theorem HOk.fresh (x : HOk P w H h) (e : h.objs.size ≤ a) : H a = none := by
  cases q : H a with
  | none => rfl
  | some u => exact absurd (Nat.lt_of_lt_of_le (x.lt q) e) (Nat.lt_irrefl _)
theorem HOk.kept (x : HOk P w H h) (k : ∀ b u, h.get? b = some u → h'.get? b = some u) : HOk P w H h' := fun a o e =>
  (x a o e).stay (fun b u _ q => k b u q) (fun _ q => q) fun _ _ q => q
theorem HOk.laid (x : HOk P w H h) (k : ∀ b u, h.get? b = some u → h'.get? b = some u) (hp : h.objs.size ≤ a) (new : ObjOk P w (upd H a o) h' a o) : HOk P w (upd H a o) h' := fun b u e => by
  have hn := x.fresh hp
  by_cases hb : b = a
  · subst hb; rw [upd_same] at e; cases e; exact new
  · rw [upd_ne hb] at e
    exact (x b u e).stay (fun c v _ q => k c v q) (fun c q => by rw [upd_ne (ne_of_none q hn)]; exact q) fun c xs q => by rw [upd_ne (ne_of_none q hn)]; exact q
end
def Rd (H : Hp) (a : Addr) (u : HO) : Prop := H a = some u ∨ ∃ o, H a = some (.frz o u)
theorem Rd.ok {P : Program} {w : World} {H : Hp} {h : Heap} {a : Addr} {u : HO} (r : Rd H a u) (x : HOk P w H h) : ObjOk P w H h a u := by
  rcases r with r | ⟨o, r⟩
  · exact x a u r
  · obtain ⟨_, q⟩ := x a _ r
    exact q
def Mut : Option HO → Prop
  | some (.lst _) => True
  | some (.dK _) => True
  | some (.dT _) => True
  | some (.set _ _) => True
  | some (.ins _ _ _) => True
  | some (.ext _) => True
  | _ => False
section
variable {P : Program} {w : World} {H : Hp} {h h' : Heap} {x e : Addr} {o' : HO}
theorem HOk.write (ok : HOk P w H h) (mu : Mut (H x)) (he : e = x ∨ H e = some (.own x)) (k : ∀ b u, b ≠ e → h.get? b = some u → h'.get? b = some u) (heo : ∃ u, h'.get? e = some u)
    (new : ObjOk P w (upd H x o') h' x o') : HOk P w (upd H x o') h' := fun b u q => by
  have nown : ∀ c y, H c = some (.own y) → c ≠ x := fun c y r z => by subst z; rw [r] at mu; exact mu
  have ntup : ∀ c xs, H c = some (.tup xs) → c ≠ x := fun c xs r z => by subst z; rw [r] at mu; exact mu
  by_cases hb : b = x
  · subst hb; rw [upd_same] at q; cases q; exact new
  · rw [upd_ne hb] at q
    by_cases hbe : b = e
    · have q' : H b = some (.own x) := by
        rcases he with z | z
        · exact absurd (hbe.trans z) hb
        · rw [hbe]; exact z
      rw [q] at q'; cases q'
      obtain ⟨v, hv⟩ := heo
      exact ⟨v, by rw [hbe]; exact hv⟩
    · refine (ok b u q).stay (fun c v hc r => k c v ?_ r) (fun c r => by rw [upd_ne (nown c b r)]; exact r) fun c xs r => by rw [upd_ne (ntup c xs r)]; exact r
      rcases hc with rfl | hc
      · exact hbe
      · rintro rfl
        rcases he with z | z
        · exact nown c b hc z
        · rw [hc] at z; cases z; exact hb rfl
end
structure Un (fs ex : List Addr) (H H' : Hp) (h h' : Heap) : Prop where
  keep : ∀ b o, h.get? b = some o → H b = none → b ∉ fs → b ∉ ex → h'.get? b = some o
  slot : ∀ b o, h.get? b = some o → H b = none → b ∈ fs → b ∉ ex → ∃ sl, h'.get? b = some { o with slots := sl }
  free : ∀ b o, h.get? b = some o → H b = none → b ∉ ex → H' b = none
  there : ∀ b o, h.get? b = some o → b ∉ ex → ∃ o', h'.get? b = some o'
  tups : ∀ b xs, H b = some (.tup xs) → H' b = some (.tup xs)
  frzs : ∀ b o u, H b = some (.frz o u) → H' b = some (.frz o u)
  tbls : ∀ b ps, H b = some (.tbl ps) → ∃ more, H' b = some (.tbl (ps ++ more))
section
variable {fs fs' ex ex' : List Addr} {H H1 H2 : Hp} {h h1 h2 h' : Heap} {a x e : Addr} {o : HO}
theorem Un.any (u : Un fs ex H H1 h h1) {b : Addr} {ob : Obj} (q : h.get? b = some ob) (n : H b = none) (hx : b ∉ ex) : ∃ sl, h1.get? b = some { ob with slots := sl } := by
  by_cases hb : b ∈ fs
  · exact u.slot b ob q n hb hx
  · exact ⟨ob.slots, u.keep b ob q n hb hx⟩
theorem Un.kept (k : ∀ b u, h.get? b = some u → h'.get? b = some u) : Un fs ex H H h h' :=
  ⟨fun b ob q _ _ _ => k b ob q, fun b ob q _ _ _ => ⟨ob.slots, k b ob q⟩, fun _ _ _ n _ => n, fun b ob q _ => ⟨ob, k b ob q⟩, fun _ _ q => q, fun _ _ _ q => q, fun _ ps q => ⟨#[], by rw [q]; simp⟩⟩
theorem Un.refl : Un fs ex H H h h := Un.kept fun _ _ q => q
theorem Un.laid (k : ∀ b u, h.get? b = some u → h'.get? b = some u) (hp : h.objs.size ≤ a) (hn : H a = none) : Un fs ex H (upd H a o) h h' where
  keep := fun b u q _ _ _ => k b u q
  slot := fun b u q _ _ _ => ⟨u.slots, k b u q⟩
  free := fun b u q n _ => by rw [upd_ne (Nat.ne_of_lt (Nat.lt_of_lt_of_le (Heap.lt_size q) hp))]; exact n
  there := fun b u q _ => ⟨u, k b u q⟩
  tups := fun b xs q => by rw [upd_ne (ne_of_none q hn)]; exact q
  frzs := fun b u xs q => by rw [upd_ne (ne_of_none q hn)]; exact q
  tbls := fun b ps q => ⟨#[], by rw [upd_ne (ne_of_none q hn), q]; simp⟩
theorem Un.write (mu : Mut (H x)) (he : e = x ∨ H e = some (.own x)) (k : ∀ b u, b ≠ e → h.get? b = some u → h'.get? b = some u) (heo : ∃ u, h'.get? e = some u) : Un fs ex H (upd H x o) h h' := by
  have hx : ∀ b, H b = none → b ≠ x := fun b n z => by subst z; rw [n] at mu; exact mu
  have hb : ∀ b, H b = none → b ≠ e := fun b n z => by
    subst z
    rcases he with r | r
    · exact hx b n r
    · rw [n] at r; cases r
  have hm : ∀ b u, H b = some u → ¬ Mut (some u) → b ≠ x := fun b u q nm z => by subst z; rw [q] at mu; exact nm mu
  refine ⟨fun b u q n _ _ => k b u (hb b n) q, fun b u q n _ _ => ⟨u.slots, k b u (hb b n) q⟩, fun b u q n _ => by rw [upd_ne (hx b n)]; exact n, fun b u q _ => ?_,
    fun b xs q => by rw [upd_ne (hm b _ q fun z => z)]; exact q, fun b u xs q => by rw [upd_ne (hm b _ q fun z => z)]; exact q, fun b ps q => ⟨#[], by rw [upd_ne (hm b _ q fun z => z), q]; simp⟩⟩
  by_cases hbe : b = e
  · subst hbe; exact heo
  · exact ⟨u, k b u hbe q⟩
end
def trk (h : Heap) (H : Hp) : List Addr := (List.range h.objs.size).filter fun a => (H a).isSome
def hidT (h : Heap) (H : Hp) : Heap := PySem.W.hideAll h (trk h H)
theorem hidT_size (h : Heap) (H : Hp) : (hidT h H).objs.size = h.objs.size := PySem.W.hideAll_size _ _
theorem hidT_get {h : Heap} {H : Hp} {b : Addr} {o : Obj} (e : h.get? b = some o) (n : H b = none) : (hidT h H).get? b = some o :=
  PySem.W.hideAll_get _ e fun hm => by
    have q : (H b).isSome = true := (List.mem_filter.mp hm).2
    rw [n] at q; simp at q
theorem of_hidT {h : Heap} {H : Hp} {b : Addr} {o : Obj} (e : (hidT h H).get? b = some o) : h.get? b = some o ∧ H b = none := by
  have e' : h.get? b = some o := PySem.W.of_hideAll (trk h H) e
  refine ⟨e', ?_⟩
  cases q : H b with
  | none => rfl
  | some x =>
    have hm : b ∈ trk h H := List.mem_filter.mpr ⟨List.mem_range.mpr (Heap.lt_size e'), by simp [q]⟩
    have z : (hidT h H).get? b = none := PySem.W.hideAll_none (trk h H) hm
    rw [z] at e; cases e
def allNews (g h : Heap) (L : Addr) : List (Addr × Obj) := (List.range h.objs.size).filterMap fun a => if a = L ∨ (g.get? a).isSome = true then none else (h.get? a).map fun o => (a, o)
theorem mem_allNews {g h : Heap} {L a : Addr} {o : Obj} (h1 : a ≠ L) (h2 : g.get? a = none) (h3 : h.get? a = some o) : (a, o) ∈ allNews g h L :=
  List.mem_filterMap.mpr ⟨a, List.mem_range.mpr (Heap.lt_size h3), by simp [h1, h2, h3]⟩
theorem of_mem_allNews {g h : Heap} {L : Addr} {p : Addr × Obj} (hp : p ∈ allNews g h L) : p.1 ≠ L ∧ g.get? p.1 = none ∧ h.get? p.1 = some p.2 := by
  obtain ⟨b, _, e⟩ := List.mem_filterMap.mp hp
  split at e
  · cases e
  · rename_i hn
    cases q : h.get? b with
    | none => rw [q] at e; simp at e
    | some u =>
      rw [q] at e
      simp only [Option.map_some, Option.some.injEq] at e
      subst e
      refine ⟨fun z => hn (.inl z), ?_, q⟩
      show g.get? b = none
      cases r : g.get? b with
      | none => rfl
      | some v => exact (hn (.inr (by simp [r]))).elim
theorem news_all {g h : Heap} {L : Addr} : News g L h (allNews g h L) := fun p hp => let ⟨a, b, c⟩ := of_mem_allNews hp; ⟨c, a, b⟩
end L2
namespace L2
open PySem PySem.Spec PyProof.Rows
/-- the module's facts, over the base: the heap at the law's entry without what is tracked there -/
structure Mod (K : PySem.W.Frag) (mg : Str → Option Value) (base : Heap) : Prop where
  kin : K.In base
  glob : base.Ns mainGlobals mg
  blt : ∃ mb, base.Ns builtinsNs mb ∧ ∀ x : Str, x ≠ "__name__" → mb x = bootBuiltins x
  nolimit : base.NoLimit
/-- the context: a def's body (or a comprehension's block) running. base: fixed through the whole law; s₀, H₀: the entry; outer: the frames whose slots others may change (a def's callers); stack: all frames that run;
   ex: iterators that were made ahead of the entry and are walked here (a comprehension's); fn: the names whose cells were made at the entry (a def: all; a comprehension's block: its own); calm: not within an except suite; pn: pins that every state bears; xe: what is wanted of an exception that leaves the code -/
structure Cx where
  prog : Program
  w : World
  K : PySem.W.Frag
  mg : Str → Option Value
  base : Heap
  A : Around
  N : List Str
  s_0 : Shared
  H_0 : Hp
  env : Env
  outer : List Env
  stack : List Env
  ex : List Addr
  fn : Str → Bool
  calm : Bool
  pn : List (Addr × Obj)
  xe : Value → Shared → Prop
def frs (l : List Env) : List Addr := l.filterMap (·.frame)
abbrev Cx.fs (X : Cx) : List Addr := frs X.outer
def Vis (sc : Scope) (x : Str) : Prop := sc.names.lookup x = some .local ∨ sc.names.lookup x = some .cell ∨ sc.names.lookup x = some .free
def Loc (sc : Scope) (x : Str) : Prop := sc.names.lookup x = some .local ∨ sc.names.lookup x = some .cell
def Look (env : Env) (h : Heap) (m : Str → Option Value) (x : Str) (u : Value) : Prop :=
  (env.kindOf x = some .local ∧ m x = some u) ∨ ((env.kindOf x = some .cell ∨ env.kindOf x = some .free) ∧ ∃ c, env.cells.lookup x = some c ∧ h.IsCell c (some u))
structure Cx.Ok (X : Cx) : Prop where
  mod : Mod X.K X.mg X.base
  kind : X.env.scope.kind = .function
  glob : X.env.globals = mainGlobals
  blt : X.env.builtins = builtinsNs
  above : X.s_0.heap.objs.size ≤ X.env.locals
  inj : ∀ x y c, X.env.cells.lookup x = some c → X.env.cells.lookup y = some c → x = y
  has : ∀ x, (X.env.kindOf x = some .cell ∨ X.env.kindOf x = some .free) → ∃ c, X.env.cells.lookup x = some c
  cab : ∀ x c, X.fn x = true → X.env.cells.lookup x = some c → X.s_0.heap.objs.size ≤ c
  hd : X.calm = true → X.A.handled = none
  frames : X.A.frames = some X.stack
  stk : X.stack = X.outer ∨ (X.stack = X.env :: X.outer ∧ X.env.frame = some X.env.locals)
  exf : ∀ b ∈ X.ex, b ≠ X.env.locals ∧ ∀ x c, X.env.cells.lookup x = some c → c ≠ b
  bs : ∀ b o, X.base.get? b = some o → X.s_0.heap.get? b = some o ∧ X.H_0 b = none
  bsz : X.base.objs.size ≤ X.s_0.heap.objs.size
  noex : ∀ b o, X.base.get? b = some o → b ∉ X.ex
  exfs : ∀ b ∈ X.ex, b ∉ X.fs
  funs : X.s_0.heap.FunFrames X.base X.outer
  frf : ∀ b ∈ X.fs, X.H_0 b = none
structure Inv (X : Cx) (pins : List (Addr × Obj)) (σ : List (Option V)) (H : Hp) (s : Shared) : Prop where
  ok : X.Ok
  os : s.os = X.s_0.os
  bare : AllBare s.gens
  base : Un X.fs X.ex X.H_0 H X.s_0.heap s.heap
  loc : ∃ m, s.heap.Ns X.env.locals m ∧ ∀ (i : Nat) (x : Str) (v : V), X.N[i]? = some x → σ[i]? = some (some v) → Vis X.env.scope x → ∃ u, RelV v u ∧ Look X.env s.heap m x u
  cell : ∀ x c, X.env.cells.lookup x = some c → ∃ v, s.heap.IsCell c v
  free : H X.env.locals = none
  freeC : ∀ x c, X.env.cells.lookup x = some c → H c = none
  pin : ∀ p ∈ X.pn ++ pins, s.heap.get? p.1 = some p.2 ∧ H p.1 = none ∧ p.1 ≠ X.env.locals ∧ p.1 ∉ X.fs ∧ ∀ v, p.2.data ≠ .cell v
  hok : HOk X.prog X.w H s.heap
  len : σ.length = X.N.length
section
variable {X : Cx} {pins : List (Addr × Obj)} {σ : List (Option V)} {H H' : Hp} {s : Shared} {h' : Heap}
theorem Cx.Ok.nofr (ok : X.Ok) {b : Addr} {o : Obj} (e : X.base.get? b = some o) : b ∉ X.fs := fun hb => by
  have := (ok.funs.mem hb).1
  rw [e] at this; cases this
theorem Inv.bs (I : Inv X pins σ H s) : ∀ b o, X.base.get? b = some o → s.heap.get? b = some o ∧ H b = none := fun b o e =>
  ⟨I.base.keep b o (I.ok.bs b o e).1 (I.ok.bs b o e).2 (I.ok.nofr e) (I.ok.noex b o e), I.base.free b o (I.ok.bs b o e).1 (I.ok.bs b o e).2 (I.ok.noex b o e)⟩
theorem Inv.bk (I : Inv X pins σ H s) : ∀ b o, X.base.get? b = some o → s.heap.get? b = some o := fun b o e => (I.bs b o e).1
theorem Inv.mod (I : Inv X pins σ H s) : Mod X.K X.mg X.base := I.ok.mod
theorem Inv.kIn (I : Inv X pins σ H s) : X.K.In s.heap := I.ok.mod.kin.keeps I.bk
theorem Inv.fr (I : Inv X pins σ H s) : ∃ m, Fr X.base X.env.locals s.heap m :=
  let ⟨m, hn, _⟩ := I.loc
  ⟨m, hn, I.bk, Nat.le_trans I.ok.bsz I.ok.above⟩
theorem Inv.lt (I : Inv X pins σ H s) : X.env.locals < s.heap.objs.size := let ⟨_, hn, _⟩ := I.loc; hn.lt
theorem Inv.sz (I : Inv X pins σ H s) : X.s_0.heap.objs.size ≤ s.heap.objs.size := Nat.le_trans I.ok.above (Nat.le_of_lt I.lt)
theorem Inv.nofs (I : Inv X pins σ H s) {a : Addr} (h : s.heap.objs.size ≤ a) : a ∉ X.fs := fun hb => by
  obtain ⟨_, o, ho, _⟩ := I.ok.funs.mem hb
  exact absurd (Nat.lt_of_lt_of_le (Heap.lt_size ho) (Nat.le_trans I.sz h)) (Nat.lt_irrefl _)
theorem Inv.cne (I : Inv X pins σ H s) : ∀ x c, X.env.cells.lookup x = some c → c ≠ X.env.locals := fun x c e z => by
  obtain ⟨v, o, ho, hd⟩ := I.cell x c e
  obtain ⟨m, ⟨o', es, ep, ho', hd', _⟩, _⟩ := I.loc
  rw [z, ho'] at ho; cases ho; rw [hd'] at hd; cases hd
theorem Inv.funs (I : Inv X pins σ H s) : s.heap.FunFrames X.base X.outer := by
  have all : ∀ (l : List Env), (∀ b ∈ frs l, b ∈ X.fs) → X.s_0.heap.FunFrames X.base l → s.heap.FunFrames X.base l := by
    intro l
    induction l with
    | nil => intro _ _; trivial
    | cons env r ih =>
      intro hs hl
      obtain ⟨hk, ⟨L, o, hf, hn, ho, hd⟩, hr⟩ := hl
      have hL : L ∈ X.fs := hs L (by unfold frs; rw [List.filterMap_cons, hf]; exact List.mem_cons_self)
      obtain ⟨sl, e⟩ := I.base.slot L o ho (I.ok.frf L hL) hL fun z => I.ok.exfs L z hL
      exact ⟨hk, ⟨L, _, hf, hn, e, hd⟩, ih (fun b hb => hs b (by unfold frs; rw [List.filterMap_cons, hf]; exact List.mem_cons_of_mem _ hb)) hr⟩
  exact all X.outer (fun _ hb => hb) I.ok.funs
theorem Inv.stack (I : Inv X pins σ H s) : s.heap.FunFrames X.base X.stack := by
  rcases I.ok.stk with e | ⟨e, hf⟩
  · rw [e]; exact I.funs
  · rw [e]
    obtain ⟨m, hn, _⟩ := I.loc
    refine .cons (by rw [I.ok.kind]; decide) hf hn ?_ I.funs
    exact Heap.get?_none_of_le (Nat.le_trans I.ok.bsz I.ok.above)
theorem Inv.stkSub (I : Inv X pins σ H s) : ∀ b ∈ frs X.stack, b ∈ X.env.locals :: X.fs := fun b hb => by
  rcases I.ok.stk with e | ⟨e, hf⟩
  · rw [e] at hb; exact List.mem_cons_of_mem _ hb
  · rw [e] at hb
    unfold frs at hb
    rw [List.filterMap_cons, hf] at hb
    exact hb
theorem Inv.stkFree (I : Inv X pins σ H s) : ∀ b ∈ frs X.stack, H b = none := fun b hb => by
  rcases List.mem_cons.mp (I.stkSub b hb) with e | hb
  · rw [e]; exact I.free
  · obtain ⟨_, o, ho, _⟩ := I.ok.funs.mem hb
    exact I.base.free b o ho (I.ok.frf b hb) fun z => I.ok.exfs b z hb
theorem Inv.step {g' : Array GenState} {t' : Nat} {d' : Drawn} {ch : List Addr} (I : Inv X pins σ H s)
    (hch : ∀ b ∈ ch, (b ∈ X.ex ∨ X.s_0.heap.objs.size ≤ b) ∧ b ≠ X.env.locals ∧ (∀ x c, X.env.cells.lookup x = some c → c ≠ b) ∧ ∀ p ∈ X.pn ++ pins, p.1 ≠ b)
    (keep : ∀ b o, b ≠ X.env.locals → b ∉ X.fs → b ∉ ch → s.heap.get? b = some o → H b = none → h'.get? b = some o)
    (slot : ∀ b o, b ≠ X.env.locals → b ∈ X.fs → b ∉ ch → s.heap.get? b = some o → H b = none → ∃ sl, h'.get? b = some { o with slots := sl }) (free : ∀ b o, b ∉ ch → s.heap.get? b = some o → H b = none → H' b = none)
    (there : ∀ b o, b ∉ ch → s.heap.get? b = some o → ∃ o', h'.get? b = some o')
    (tups : ∀ b xs, H b = some (.tup xs) → H' b = some (.tup xs)) (frzs : ∀ b o u, H b = some (.frz o u) → H' b = some (.frz o u)) (tbls : ∀ b ps, H b = some (.tbl ps) → ∃ more, H' b = some (.tbl (ps ++ more)))
    (ns : ∀ m, s.heap.Ns X.env.locals m → h'.Ns X.env.locals m) (hok : HOk X.prog X.w H' h') (hg : AllBare g') :
    Inv X pins σ H' { s with heap := h', gens := g', drawn := d', toks := t' } := by
  have neL : ∀ b o, X.s_0.heap.get? b = some o → b ≠ X.env.locals := fun b o e => Nat.ne_of_lt (Nat.lt_of_lt_of_le (Heap.lt_size e) I.ok.above)
  have neC : ∀ b o, X.s_0.heap.get? b = some o → b ∉ X.ex → b ∉ ch := fun b o e hx hb => by
    rcases (hch b hb).1 with z | z
    · exact hx z
    · exact absurd (Nat.lt_of_lt_of_le (Heap.lt_size e) z) (Nat.lt_irrefl _)
  have cellK : ∀ x c, X.env.cells.lookup x = some c → ∀ v, s.heap.IsCell c v → h'.IsCell c v := fun x c e v ⟨o, ho, hd⟩ => by
    have nch : c ∉ ch := fun z => (hch c z).2.2.1 x c e rfl
    by_cases hc : c ∈ X.fs
    · obtain ⟨sl, q⟩ := slot c o (I.cne x c e) hc nch ho (I.freeC x c e)
      exact ⟨_, q, hd⟩
    · exact ⟨o, keep c o (I.cne x c e) hc nch ho (I.freeC x c e), hd⟩
  refine ⟨I.ok, I.os, hg, ⟨fun b o e n hb hx => ?_, fun b o e n hb hx => ?_, fun b o e n hx => ?_, fun b o e hx => ?_, fun b xs e => tups b xs (I.base.tups b xs e), fun b o xs e => frzs b o xs (I.base.frzs b o xs e), fun b ps e => ?_⟩, ?_, fun x c e => ?_, ?_, fun x c e => ?_, fun p hp => ?_, hok, I.len⟩
  · exact keep b o (neL b o e) hb (neC b o e hx) (I.base.keep b o e n hb hx) (I.base.free b o e n hx)
  · obtain ⟨sl, e1⟩ := I.base.slot b o e n hb hx
    obtain ⟨sl', e2⟩ := slot b _ (neL b o e) hb (neC b o e hx) e1 (I.base.free b o e n hx)
    exact ⟨sl', e2⟩
  · obtain ⟨o', e1⟩ := I.base.there b o e hx
    exact free b o' (neC b o e hx) e1 (I.base.free b o e n hx)
  · obtain ⟨o', e1⟩ := I.base.there b o e hx
    exact there b o' (neC b o e hx) e1
  · obtain ⟨m1, e1⟩ := I.base.tbls b ps e
    obtain ⟨m2, e2⟩ := tbls b _ e1
    exact ⟨m1 ++ m2, by rw [e2, Array.append_assoc]⟩
  · obtain ⟨m, hn, hl⟩ := I.loc
    refine ⟨m, ns m hn, fun i x v e1 e2 e3 => ?_⟩
    obtain ⟨u, r, l⟩ := hl i x v e1 e2 e3
    refine ⟨u, r, ?_⟩
    rcases l with l | ⟨k, c, e, z⟩
    · exact .inl l
    · exact .inr ⟨k, c, e, cellK x c e _ z⟩
  · obtain ⟨v, z⟩ := I.cell x c e
    exact ⟨v, cellK x c e v z⟩
  · obtain ⟨m, ⟨o, _, _, ho, _⟩, _⟩ := I.loc
    exact free _ o (fun z => (hch _ z).2.1 rfl) ho I.free
  · obtain ⟨v, o, ho, hd⟩ := I.cell x c e
    exact free c o (fun z => (hch c z).2.2.1 x c e rfl) ho (I.freeC x c e)
  · obtain ⟨e, n, ne, nf, d⟩ := I.pin p hp
    have nch : p.1 ∉ ch := fun z => (hch p.1 z).2.2.2 p hp rfl
    exact ⟨keep p.1 p.2 ne nf nch e n, free p.1 p.2 nch e n, ne, nf, d⟩
theorem Inv.un {t' : Nat} (I : Inv X pins σ H s) (u : Un X.fs [] H H' s.heap h') (hok : HOk X.prog X.w H' h') : Inv X pins σ H' { s with heap := h', toks := t' } := by
  obtain ⟨m, ⟨o, es, ep, ho, r⟩, _⟩ := id I.loc
  obtain ⟨sl, hL⟩ := u.any ho I.free (by simp)
  exact I.step (g' := s.gens) (d' := s.drawn) (ch := []) (fun _ z => nomatch z) (fun b o _ hb _ e n => u.keep b o e n hb (by simp)) (fun b o _ hb _ e n => u.slot b o e n hb (by simp)) (fun b o _ e n => u.free b o e n (by simp)) (fun b o _ e => u.there b o e (by simp)) u.tups u.frzs u.tbls (fun m' hm => by
    obtain ⟨o', es', ep', ho', r'⟩ := hm
    rw [ho] at ho'; cases ho'
    exact ⟨_, es', ep', hL, r'⟩) hok I.bare
theorem Inv.call {g' : Array GenState} {t' : Nat} {d' : Drawn} {ch : List Addr} (I : Inv X pins σ H s) (u : Un (frs X.stack) ch H H' s.heap h') (hok : HOk X.prog X.w H' h') (hg : AllBare g')
    (hch : ∀ b ∈ ch, (b ∈ X.ex ∨ X.s_0.heap.objs.size ≤ b) ∧ b ≠ X.env.locals ∧ (∀ x c, X.env.cells.lookup x = some c → c ≠ b) ∧ ∀ p ∈ X.pn ++ pins, p.1 ≠ b) :
    Inv X pins σ H' { s with heap := h', gens := g', drawn := d', toks := t' } := by
  obtain ⟨m, ⟨o, es, ep, ho, r⟩, _⟩ := id I.loc
  obtain ⟨sl, hL⟩ := u.any ho I.free fun z => (hch _ z).2.1 rfl
  exact I.step (ch := ch) hch (fun b o hL hb hc e n => u.keep b o e n (fun z => (List.mem_cons.mp (I.stkSub b z)).elim hL hb) hc) (fun b o _ _ hc e n => u.any e n hc) (fun b o hc e n => u.free b o e n hc) (fun b o hc e => u.there b o e hc) u.tups u.frzs u.tbls (fun m' hm => by
    obtain ⟨o', es', ep', ho', r'⟩ := hm
    rw [ho] at ho'; cases ho'
    exact ⟨_, es', ep', hL, r'⟩) hok hg
theorem Inv.turned {t' : Nat} {it : Addr} (I : Inv X pins σ H s) (k : ∀ b o, b ≠ it → s.heap.get? b = some o → h'.get? b = some o) (hn : H it = none) (hL : it ≠ X.env.locals)
    (h1 : it ∈ X.ex ∨ X.s_0.heap.objs.size ≤ it) (h2 : ∀ x c, X.env.cells.lookup x = some c → c ≠ it) (h3 : ∀ p ∈ X.pn ++ pins, p.1 ≠ it) : Inv X pins σ H { s with heap := h', toks := t' } := by
  have nit : ∀ b u, H b = some u → b ≠ it := fun b u e z => by rw [z, hn] at e; cases e
  refine I.step (g' := s.gens) (d' := s.drawn) (ch := [it]) (fun b hb => ?_) (fun b o _ _ hc e _ => k b o (fun z => hc (by simp [z])) e) (fun b o _ _ hc e _ => ⟨o.slots, k b o (fun z => hc (by simp [z])) e⟩) (fun _ _ _ _ n => n)
    (fun b o hc e => ⟨o, k b o (fun z => hc (by simp [z])) e⟩) (fun _ _ e => e) (fun _ _ _ e => e) (fun b ps e => ⟨#[], by rw [e]; simp⟩) (fun m hm => ?_) (fun b u e => ?_) I.bare
  · have e : b = it := by simpa using hb
    subst e
    exact ⟨h1, hL, h2, h3⟩
  · obtain ⟨o, es, ep, ho, r⟩ := hm
    exact ⟨o, es, ep, k _ o (Ne.symm hL) ho, r⟩
  · refine (I.hok b u e).stay (fun c v hc q => k c v ?_ q) (fun _ q => q) fun _ _ q => q
    rcases hc with z | z
    · rw [z]; exact nit b u e
    · exact nit c _ z
theorem Inv.tok (I : Inv X pins σ H s) (t : Nat) : Inv X pins σ H { s with toks := t } := I.un (h' := s.heap) (t' := t) Un.refl I.hok
theorem Inv.kept {t' : Nat} (I : Inv X pins σ H s) (k : ∀ b u, s.heap.get? b = some u → h'.get? b = some u) : Inv X pins σ H { s with heap := h', toks := t' } := I.un (Un.kept k) (I.hok.kept k)
theorem Inv.laid {a : Addr} {o : HO} {t' : Nat} (I : Inv X pins σ H s) (k : ∀ b u, s.heap.get? b = some u → h'.get? b = some u) (hp : s.heap.objs.size ≤ a) (new : ObjOk X.prog X.w (upd H a o) h' a o) :
    Inv X pins σ (upd H a o) { s with heap := h', toks := t' } := I.un (Un.laid k hp (I.hok.fresh hp)) (I.hok.laid k hp new)
theorem Inv.write {x e : Addr} {o : HO} {t' : Nat} (I : Inv X pins σ H s) (mu : Mut (H x)) (he : e = x ∨ H e = some (.own x)) (k : ∀ b u, b ≠ e → s.heap.get? b = some u → h'.get? b = some u) (heo : ∃ u, h'.get? e = some u)
    (new : ObjOk X.prog X.w (upd H x o) h' x o) : Inv X pins σ (upd H x o) { s with heap := h', toks := t' } := I.un (Un.write mu he k heo) (I.hok.write mu he k heo new)
theorem Inv.weak {σ' : List (Option V)} (I : Inv X pins σ H s) (hl : σ'.length = σ.length) (w : ∀ (i : Nat) v, σ'[i]? = some (some v) → σ[i]? = some (some v)) : Inv X pins σ' H s :=
  ⟨I.ok, I.os, I.bare, I.base, let ⟨m, hn, hl'⟩ := I.loc; ⟨m, hn, fun i x v e1 e2 e3 => hl' i x v e1 (w i v e2) e3⟩, I.cell, I.free, I.freeC, I.pin, I.hok, hl.trans I.len⟩
theorem Inv.pins_of {pins' : List (Addr × Obj)} (I : Inv X pins σ H s) (h : ∀ p ∈ pins', s.heap.get? p.1 = some p.2 ∧ H p.1 = none ∧ p.1 ≠ X.env.locals ∧ p.1 ∉ X.fs ∧ ∀ v, p.2.data ≠ .cell v) : Inv X pins' σ H s :=
  ⟨I.ok, I.os, I.bare, I.base, I.loc, I.cell, I.free, I.freeC, fun p hp => (List.mem_append.mp hp).elim (fun z => I.pin p (List.mem_append_left _ z)) (h p), I.hok, I.len⟩
theorem nodup_ix {N : List Str} (hN : N.Nodup) {i j : Nat} {x : Str} (a : N[i]? = some x) (b : N[j]? = some x) : i = j := by
  obtain ⟨h1, e1⟩ := List.getElem?_eq_some_iff.mp a
  obtain ⟨h2, e2⟩ := List.getElem?_eq_some_iff.mp b
  exact (List.getElem_inj hN).mp (e1.trans e2.symm)
theorem store_ok2 {M : Model} {A : Around} {E : Value → Shared → Prop} {i : Nat} {x : Str} {v : V} {u : Value} {Q : Unit → Shared → Prop} (I : Inv X pins σ H s) (hN : X.N.Nodup) (hi : X.N[i]? = some x) (hx : Loc X.env.scope x) (r : RelV v u)
    (h : ∀ s', Inv X pins (σ.set i (some v)) H s' → (∃ a, Heap.SameBut a s.heap s'.heap ∧ (a = X.env.locals ∨ X.env.cells.lookup x = some a)) → Q () s') (hf : X.fn x = true ∨ X.env.scope.names.lookup x = some .local := by first | exact .inl rfl | exact .inr rfl | assumption) : wpAny M A (storeName X.env x u) Q E s := by
  obtain ⟨m, hn, hl⟩ := id I.loc
  have hcls : (X.env.scope.kind == .class || (X.env.scope.kind == .module && X.env.locals != X.env.globals)) = false := by rw [I.ok.kind]; rfl
  have hiσ : i < σ.length := by rw [I.len]; exact (List.getElem?_eq_some_iff.mp hi).1
  have cne := I.cne
  have tracked : ∀ {a : Addr} {h' : Heap}, (∃ o, s.heap.get? a = some o ∧ H a = none) → Heap.SameBut a s.heap h' → HOk X.prog X.w H h' := fun {a h'} ha hs b ob e => by
    obtain ⟨_, _, hfree⟩ := ha
    refine (I.hok b ob e).stay (fun c w' hc q => (hs.2 c ?_).trans q) (fun _ q => q) fun _ _ q => q
    rintro rfl
    rcases hc with rfl | hc
    · rw [hfree] at e; cases e
    · rw [hfree] at hc; cases hc
  rcases hx with hk | hk
  · refine wpAny_storeName_local hk hn (fun h' hn' hs => ?_) hcls
    obtain ⟨oL, _, _, hoL, _⟩ := id hn
    refine h _ ⟨I.ok, I.os, I.bare, ⟨fun b o e n hb hx => ?_, fun b o e n hb hx => ?_, I.base.free, fun b o e hx => ?_, I.base.tups, I.base.frzs, I.base.tbls⟩, ⟨_, hn', fun j y v' e1 e2 e3 => ?_⟩, fun y c e => ?_, I.free, I.freeC, fun p hp => ?_, tracked ⟨oL, hoL, I.free⟩ hs, by simpa using I.len⟩ ⟨_, hs, .inl rfl⟩
    · exact (hs.2 b (Nat.ne_of_lt (Nat.lt_of_lt_of_le (Heap.lt_size e) I.ok.above))).trans (I.base.keep b o e n hb hx)
    · obtain ⟨sl, e1⟩ := I.base.slot b o e n hb hx
      exact ⟨sl, (hs.2 b (Nat.ne_of_lt (Nat.lt_of_lt_of_le (Heap.lt_size e) I.ok.above))).trans e1⟩
    · obtain ⟨o', e1⟩ := I.base.there b o e hx
      exact ⟨o', (hs.2 b (Nat.ne_of_lt (Nat.lt_of_lt_of_le (Heap.lt_size e) I.ok.above))).trans e1⟩
    · by_cases hj : j = i
      · subst hj
        rw [hi] at e1; cases e1
        rw [List.getElem?_set_self hiσ] at e2
        cases e2
        exact ⟨u, r, .inl ⟨hk, by simp⟩⟩
      · rw [List.getElem?_set_ne (Ne.symm hj)] at e2
        obtain ⟨u', r', q⟩ := hl j y v' e1 e2 e3
        refine ⟨u', r', ?_⟩
        rcases q with ⟨k, e⟩ | ⟨k, c, e, z⟩
        · refine .inl ⟨k, ?_⟩
          have : y ≠ x := fun e => hj (nodup_ix hN e1 (e ▸ hi))
          simp [this, e]
        · exact .inr ⟨k, c, e, z.sameBut hs (cne y c e)⟩
    · obtain ⟨w', z⟩ := I.cell y c e
      exact ⟨w', z.sameBut hs (cne y c e)⟩
    · obtain ⟨e, n, ne, nf, d⟩ := I.pin p hp
      exact ⟨(hs.2 p.1 ne).trans e, n, ne, nf, d⟩
  · have hfn : X.fn x = true := by
      rcases hf with z | z
      · exact z
      · rw [z] at hk; cases hk
    obtain ⟨c, hc⟩ := I.ok.has x (.inl hk)
    obtain ⟨w', z⟩ := I.cell x c hc
    refine wpAny_storeName_cell I.ok.kind hk hc z (fun h' hc' hs => ?_)
    obtain ⟨oc, hoc, hocd⟩ := id z
    refine h { s with heap := h' } ⟨I.ok, I.os, I.bare, ⟨fun b o e n hb hx => ?_, fun b o e n hb hx => ?_, I.base.free, fun b o e hx => ?_, I.base.tups, I.base.frzs, I.base.tbls⟩, ⟨m, hn.sameBut hs (Ne.symm (cne x c hc)), fun j y v' e1 e2 e3 => ?_⟩, fun y c' e => ?_, I.free, I.freeC, fun p hp => ?_, tracked ⟨oc, hoc, I.freeC x c hc⟩ hs, by simpa using I.len⟩ ⟨c, hs, .inr hc⟩
    · exact (hs.2 b (Nat.ne_of_lt (Nat.lt_of_lt_of_le (Heap.lt_size e) (I.ok.cab x c hfn hc)))).trans (I.base.keep b o e n hb hx)
    · obtain ⟨sl, e1⟩ := I.base.slot b o e n hb hx
      exact ⟨sl, (hs.2 b (Nat.ne_of_lt (Nat.lt_of_lt_of_le (Heap.lt_size e) (I.ok.cab x c hfn hc)))).trans e1⟩
    · obtain ⟨o', e1⟩ := I.base.there b o e hx
      exact ⟨o', (hs.2 b (Nat.ne_of_lt (Nat.lt_of_lt_of_le (Heap.lt_size e) (I.ok.cab x c hfn hc)))).trans e1⟩
    · by_cases hj : j = i
      · subst hj
        rw [hi] at e1; cases e1
        rw [List.getElem?_set_self hiσ] at e2
        cases e2
        exact ⟨u, r, .inr ⟨.inl hk, c, hc, hc'⟩⟩
      · rw [List.getElem?_set_ne (Ne.symm hj)] at e2
        obtain ⟨u', r', q⟩ := hl j y v' e1 e2 e3
        refine ⟨u', r', ?_⟩
        rcases q with q | ⟨k, c', e, z'⟩
        · exact .inl q
        · refine .inr ⟨k, c', e, z'.sameBut hs ?_⟩
          rintro rfl
          exact hj (nodup_ix hN e1 (I.ok.inj _ _ _ e hc ▸ hi))
    · by_cases hcc : c' = c
      · subst hcc; exact ⟨_, hc'⟩
      · obtain ⟨w2, z2⟩ := I.cell y c' e
        exact ⟨w2, z2.sameBut hs hcc⟩
    · obtain ⟨e, n, ne, nf, d⟩ := I.pin p hp
      refine ⟨(hs.2 p.1 ?_).trans e, n, ne, nf, d⟩
      intro q
      rw [q, hoc] at e
      have q' : oc = p.2 := Option.some.inj e
      exact d w' (by rw [← q']; exact hocd)
theorem store_ok {M : Model} {A : Around} {E : Value → Shared → Prop} {i : Nat} {x : Str} {v : V} {u : Value} {Q : Unit → Shared → Prop} (I : Inv X pins σ H s) (hN : X.N.Nodup) (hi : X.N[i]? = some x) (hx : Loc X.env.scope x) (r : RelV v u)
    (h : ∀ s', Inv X pins (σ.set i (some v)) H s' → Q () s') (hf : X.fn x = true ∨ X.env.scope.names.lookup x = some .local := by first | exact .inl rfl | exact .inr rfl | assumption) : wpAny M A (storeName X.env x u) Q E s :=
  store_ok2 I hN hi hx r (fun s' I' _ => h s' I') hf
theorem Inv.call' {s' : Shared} {ch : List Addr} (I : Inv X pins σ H s) (ho : s'.os = s.os) (u : Un (frs X.stack) ch H H' s.heap s'.heap) (hok : HOk X.prog X.w H' s'.heap) (hg : AllBare s'.gens)
    (hch : ∀ b ∈ ch, (b ∈ X.ex ∨ X.s_0.heap.objs.size ≤ b) ∧ b ≠ X.env.locals ∧ (∀ x c, X.env.cells.lookup x = some c → c ≠ b) ∧ ∀ p ∈ X.pn ++ pins, p.1 ≠ b) : Inv X pins σ H' s' := by
  obtain ⟨h', g', d', t', o'⟩ := s'
  have e : o' = s.os := ho
  subst e
  exact I.call (g' := g') (t' := t') (d' := d') u hok hg hch
end
abbrev XK := Value → Option Addr → Hp → Prop
abbrev St := List (Option V)
abbrev VK := V → Hp → Prop
abbrev TE := St → Hp → VK → Prop
abbrev TT := St → Hp → (Bool → Hp → Prop) → Prop
abbrev TA := St → Hp → (List V → Hp → Prop) → Prop
/-- what is wanted behind a statement -/
structure Ends where
  nx : St → Hp → Prop
  rt : VK
  bk : St → Hp → Prop := fun _ _ => False
  ct : St → Hp → Prop := fun _ _ => False
abbrev TS := Ends → St → Hp → Prop
def EP (X : Cx) (pins : List (Addr × Obj)) (σ : St) (Q : VK) (u : Value) (s' : Shared) : Prop := ∃ v H', Inv X pins σ H' s' ∧ RelV v u ∧ Q v H'
def TP (X : Cx) (pins : List (Addr × Obj)) (σ : St) (Q : Bool → Hp → Prop) (b : Bool) (s' : Shared) : Prop := ∃ H', Inv X pins σ H' s' ∧ Q b H'
def AP (X : Cx) (pins : List (Addr × Obj)) (σ : St) (Q : List V → Hp → Prop) (us : List Value) (s' : Shared) : Prop := ∃ vs H', Inv X pins σ H' s' ∧ Vals vs us ∧ Q vs H'
def SP (X : Cx) (pins : List (Addr × Obj)) (D : Ends) (f : Flow) (s' : Shared) : Prop :=
  match f with
  | .next => ∃ σ' H', Inv X pins σ' H' s' ∧ D.nx σ' H'
  | .brk => ∃ σ' H', Inv X pins σ' H' s' ∧ D.bk σ' H'
  | .cont => ∃ σ' H', Inv X pins σ' H' s' ∧ D.ct σ' H'
  | .ret u => ∃ v σ' H', Inv X pins σ' H' s' ∧ RelV v u ∧ D.rt v H'
def PE (X : Cx) (e : Expr) (t : TE) : Prop :=
  ∀ (pins : List (Addr × Obj)) (s : Shared) (σ : St) (H : Hp) (Q : VK), Inv X pins σ H s → t σ H Q → wpAny (model X.prog X.w) X.A (eval e X.env) (EP X pins σ Q) X.xe s
def PT (X : Cx) (e : Expr) (t : TT) : Prop :=
  ∀ (pins : List (Addr × Obj)) (s : Shared) (σ : St) (H : Hp) (Q : Bool → Hp → Prop), Inv X pins σ H s → t σ H Q → wpAny (model X.prog X.w) X.A (isTrue e X.env (eval e X.env)) (TP X pins σ Q) X.xe s
def PW (X : Cx) (e : Expr) (t : TT) : Prop :=
  ∀ (whole : Sem Value) (pins : List (Addr × Obj)) (s : Shared) (σ : St) (H : Hp) (Q : Bool → Hp → Prop), Inv X pins σ H s → t σ H Q → wpAny (model X.prog X.w) X.A (isTrue e X.env whole) (TP X pins σ Q) X.xe s
theorem PW.pt {X : Cx} {e : Expr} {t : TT} (h : PW X e t) : PT X e t := h _
def PA (X : Cx) (es : List Expr) (t : TA) : Prop :=
  ∀ (pos : Pos) (pins : List (Addr × Obj)) (s : Shared) (σ : St) (H : Hp) (Q : List V → Hp → Prop), Inv X pins σ H s → t σ H Q → wpAny (model X.prog X.w) X.A (spliced (backTo pos (starEach es X.env))) (AP X pins σ Q) X.xe s
def PS (X : Cx) (st : Stmt) (t : TS) : Prop :=
  ∀ (pins : List (Addr × Obj)) (s : Shared) (σ : St) (H : Hp) (D : Ends), Inv X pins σ H s → t D σ H → wpAny (model X.prog X.w) X.A (exec st X.env) (SP X pins D) X.xe s
def PSs (X : Cx) (st : List Stmt) (t : TS) : Prop :=
  ∀ (pins : List (Addr × Obj)) (s : Shared) (σ : St) (H : Hp) (D : Ends), Inv X pins σ H s → t D σ H → wpAny (model X.prog X.w) X.A (execs st X.env) (SP X pins D) X.xe s
theorem thn {α : Type} {t : Sem α} {Q Q' : α → Shared → Prop} {M : Model} {A : Around} {E : Value → Shared → Prop} {s : Shared} (h : wpAny M A t Q E s) (hQ : ∀ a s, Q a s → Q' a s) : wpAny M A t Q' E s := wpAny_mono h hQ fun _ _ x => x
end L2
namespace L2
open PySem PySem.Spec PyProof.Rows
section
variable {X : Cx}
theorem bin {a b : Expr} {ta tb : TE} (ha : PE X a ta) (hb : PE X b tb) {pins : List (Addr × Obj)} {s : Shared} {σ : St} {H : Hp} {R : V → V → Hp → Prop} (I : Inv X pins σ H s) (h : ta σ H fun x H1 => tb σ H1 fun y H2 => R x y H2)
    {α : Type} {Q : α → Shared → Prop} {f : Value → Value → Sem α}
    (hf : ∀ v u s2 x y H2, Inv X pins σ H2 s2 → RelV x v → RelV y u → R x y H2 → wpAny (model X.prog X.w) X.A (f v u) Q X.xe s2) :
    wpAny (model X.prog X.w) X.A (eval a X.env) (fun v s₁ => wpAny (model X.prog X.w) X.A (eval b X.env) (fun u s₂ => wpAny (model X.prog X.w) X.A (f v u) Q X.xe s₂) X.xe s₁) X.xe s := by
  refine thn (ha pins s σ H _ I h) fun v s1 ⟨x, H1, I1, r1, q1⟩ => ?_
  refine thn (hb pins s1 σ H1 _ I1 q1) fun u s2 ⟨y, H2, I2, r2, q2⟩ => ?_
  exact hf v u s2 x y H2 I2 r1 r2 q2
def tVar (i : Nat) : TE := fun σ H Q => ∃ v, σ[i]? = some (some v) ∧ Q v H
def tC (v : V) : TE := fun _ H Q => Q v H
theorem pe_var {i : Nat} {x : Str} {pos : Pos} (hN : X.N[i]? = some x) (hv : Vis X.env.scope x) (hd : (x == ("__debug__" : Str)) = false := by decide) (hcd : (x == ("__classdict__" : Str)) = false := by decide) : PE X (.Name x pos) (tVar i) := by
  intro pins s σ H Q I h
  obtain ⟨v, e, h⟩ := h
  obtain ⟨m, hn, hl⟩ := I.loc
  obtain ⟨u, r, l⟩ := hl i x v hN e hv
  have fin : EP X pins σ Q u s := ⟨v, H, I, r, h⟩
  rcases l with ⟨hk, hm⟩ | ⟨hk, c, hc, hcell⟩
  · exact wpAny_Name (wpAny_loadName_local I.ok.kind hk hn hm fin) hd
  · rcases hk with hk | hk
    · exact wpAny_Name (wpAny_loadName_cell I.ok.kind hk hc hcell fin) hd
    · exact wpAny_Name (wpAny_loadName_free I.ok.kind hk hc hcell fin hcd) hd
theorem pe_int {i j pos} : PE X (.Constant (.int i) j pos) (tC (.int i)) := fun _ _ _ H _ I h => wpAny_Constant_int ⟨.int i, H, I.tok _, ⟨_, rfl⟩, h⟩
theorem pe_bl {b j pos} : PE X (.Constant (.bool b) j pos) (tC (.bl b)) := fun _ _ _ H _ I h => Constant_bool ⟨.bl b, H, I, rfl, h⟩
theorem pe_non {j pos} : PE X (.Constant .none j pos) (tC .non) := fun _ _ _ H _ I h => Constant_none ⟨.non, H, I, rfl, h⟩
def Gl (X : Cx) (x : Str) : Prop := X.env.kindOf x = some .globalImplicit
theorem ld_glob {E : Value → Shared → Prop} {pins : List (Addr × Obj)} {s : Shared} {σ : St} {H : Hp} {x : Str} {u : Value} {pos : Pos} {Q : Value → Shared → Prop} (I : Inv X pins σ H s) (hg : Gl X x) (hm : X.mg x = some u) (h : Q u s)
    (hd : (x == ("__debug__" : Str)) = false := by decide) : wpAny (model X.prog X.w) X.A (eval (.Name x pos) X.env) Q E s :=
  Calls.Name_function_global I.ok.kind hg (Calls.loadGlobal_global (by rw [I.ok.glob]; exact I.mod.glob.keeps I.bk) hm h) hd
theorem ld_blt {E : Value → Shared → Prop} {pins : List (Addr × Obj)} {s : Shared} {σ : St} {H : Hp} {x : Str} {u : Value} {pos : Pos} {Q : Value → Shared → Prop} (I : Inv X pins σ H s) (hg : Gl X x) (hm : X.mg x = none) (hv : bootBuiltins x = some u) (h : Q u s)
    (hn : x ≠ "__name__" := by decide) (hd : (x == ("__debug__" : Str)) = false := by decide) : wpAny (model X.prog X.w) X.A (eval (.Name x pos) X.env) Q E s := by
  obtain ⟨mb, h1, h2⟩ := I.mod.blt
  exact Calls.Name_function_global I.ok.kind hg (Calls.loadGlobal_builtin (by rw [I.ok.glob]; exact I.mod.glob.keeps I.bk) hm (by rw [I.ok.blt]; exact h1.keeps I.bk) ((h2 x hn).trans hv) h) hd
theorem pe_glob {x : Str} {v : V} {u : Value} {pos : Pos} (hg : Gl X x) (hm : X.mg x = some u) (r : RelV v u) (hd : (x == ("__debug__" : Str)) = false := by decide) : PE X (.Name x pos) (tC v) :=
  fun _ _ _ H _ I h => ld_glob I hg hm ⟨v, H, I, r, h⟩ hd
variable {a b : Expr} {ta tb : TE} {pos : Pos}
def PC (X : Cx) (op : CmpOp) (a b : Expr) (t : TE) : Prop :=
  ∀ (pins : List (Addr × Obj)) (s : Shared) (σ : St) (H : Hp) (Q : VK), Inv X pins σ H s → t σ H Q →
    wpAny (model X.prog X.w) X.A (eval a X.env) (fun v s₁ => wpAny (model X.prog X.w) X.A (eval b X.env) (fun u s₂ => wpAny (model X.prog X.w) X.A (compareOp op v u) (EP X pins σ Q) X.xe s₂) X.xe s₁) X.xe s
theorem nobehind (b : Expr) {op : CmpOp} (h : op ≠ .In) (h2 : op ≠ .NotIn) : behindInMarks op b = false := by
  have e1 : (op == CmpOp.In) = false := by cases op <;> first | rfl | exact absurd rfl h
  have e2 : (op == CmpOp.NotIn) = false := by cases op <;> first | rfl | exact absurd rfl h2
  cases b <;> simp [behindInMarks, e1, e2]
def tIsN (ta : TE) : TE := fun σ H Q => ta σ H fun x H1 => Q (.bl (decide (x = .non))) H1
theorem RelV.none_iff {x : V} {v : Value} (r : RelV x v) : (v == Value.none) = decide (x = .non) := by
  cases x with
  | non => cases r; rfl
  | bl _ => cases r; rfl
  | int _ => obtain ⟨t, rfl⟩ := r; rfl
  | str _ => obtain ⟨t, rfl⟩ := r; rfl
  | byt _ => obtain ⟨t, rfl⟩ := r; rfl
  | flt _ => obtain ⟨t, rfl⟩ := r; rfl
  | ref _ => cases r; rfl
  | ty _ => cases r; rfl
theorem pc_isN {j pos'} (ha : PE X a ta) : PC X .Is a (.Constant .none j pos') (tIsN ta) := by
  intro pins s σ H Q I h
  refine thn (ha pins s σ H _ I h) fun v s1 ⟨x, H1, I1, r1, q1⟩ => ?_
  exact Constant_none (is_none_gen ⟨.bl _, H1, I1, by rw [r1.none_iff]; rfl, q1⟩)
def tB (t : TE) : TT := fun σ H Q => t σ H fun x H1 => ∃ c, x = .bl c ∧ Q c H1
theorem pt_cmp {op : CmpOp} {t : TE} (h : PC X op a b t) (h1 : behindInMarks op b = false := by first | exact nobehind _ (by decide) (by decide) | rfl) : PT X (.Compare a [op] [b] pos) (tB t) := by
  intro pins s σ H Q I hw
  refine wpAny_isTrue_Compare1 (thn (h pins s σ H _ I hw) fun v s1 h1 => thn h1 fun u s2 h2 => thn h2 fun c s3 ⟨x, H1, I1, r1, q1⟩ => ?_) h1
  obtain ⟨d, rfl, q⟩ := q1
  cases r1
  exact wpAny_truthy_bool ⟨H1, I1, q⟩
variable {tA tB' : TT} {rest : List Expr}
def tAnd (t u : TT) : TT := fun σ H Q => t σ H fun c H1 => if c = true then u σ H1 Q else Q false H1
def tNot (t : TT) : TT := fun σ H Q => t σ H fun c H1 => Q (!c) H1
theorem pw_and1 (ha : PT X a tA) : PW X (.BoolOp .And [a] pos) tA := by
  intro wh pins s σ H Q I h
  refine isTrue_and (thn (ha pins s σ H Q I h) fun c s1 e => ?_)
  cases c with
  | true => exact isTrue_and_nil e
  | false => exact e
theorem pw_and (ha : PT X a tA) (hb : PW X (.BoolOp .And (b :: rest) pos) tB') : PW X (.BoolOp .And (a :: b :: rest) pos) (tAnd tA tB') := by
  intro wh pins s σ H Q I h
  refine isTrue_and (thn (ha pins s σ H _ I h) fun c s1 ⟨H1, I1, q1⟩ => ?_)
  cases c with
  | true => exact hb wh pins s1 σ H1 Q I1 q1
  | false => exact ⟨H1, I1, q1⟩
theorem pt_not (ha : PT X a tA) : PT X (.UnaryOp .Not a pos) (tNot tA) := by
  intro pins s σ H Q I h
  exact isTrue_not (ha pins s σ H (fun c H1 => Q (!c) H1) I h)
def tAndV (ta tb : TE) : TE := fun σ H Q => ta σ H fun x H1 => ∃ c, x = .bl c ∧ if c = true then tb σ H1 Q else Q (.bl false) H1
theorem pe_one {op} {t : TE} (h : PE X a t) : PE X (.BoolOp op [a] pos) t := fun pins s σ H Q I hw => BoolOp_one (h pins s σ H Q I hw)
theorem pe_and (ha : PE X a ta) (hb : PE X (.BoolOp .And (b :: rest) pos) tb) : PE X (.BoolOp .And (a :: b :: rest) pos) (tAndV ta tb) := by
  intro pins s σ H Q I h
  refine BoolOp_and (thn (ha pins s σ H _ I h) fun v s1 ⟨x, H1, I1, r1, q1⟩ => ?_)
  obtain ⟨c, rfl, q1⟩ := q1
  cases r1
  refine wpAny_truthy_bool ?_
  cases c with
  | true => exact hb pins s1 σ H1 Q I1 q1
  | false => exact ⟨.bl false, H1, I1, rfl, q1⟩
def tIf (t : TT) (ta tb : TE) : TE := fun σ H Q => t σ H fun c H1 => if c = true then ta σ H1 Q else tb σ H1 Q
theorem pe_ifExp {c : Expr} (hc : PT X c tA) (ha : PE X a ta) (hb : PE X b tb) : PE X (.IfExp c a b pos) (tIf tA ta tb) := by
  intro pins s σ H Q I h
  refine wpAny_IfExp (thn (hc pins s σ H _ I h) fun d s1 ⟨H1, I1, q1⟩ => ?_)
  cases d with
  | true => exact ha pins s1 σ H1 Q I1 q1
  | false => exact hb pins s1 σ H1 Q I1 q1
end
end L2
namespace L2
open PySem PySem.Spec PyProof.Rows
def SqL (K : PySem.W.Frag) (H : Hp) (a : Addr) (xs : List V) : Prop :=
  Rd H a (.lst xs) ∨
    ∃ (o : Obj) (its : Array Value) (n : Nat), K.lookup a = some o ∧ o.cls = .type "list" ∧ o.dict = none ∧ o.data = .seq its n ∧ its.size ≤ sizeLine ∧ Vals xs its.toList
def SqT (K : PySem.W.Frag) (H : Hp) (a : Addr) (xs : List V) : Prop :=
  Rd H a (.tup xs) ∨
    ∃ (o : Obj) (its : Array Value) (n : Nat), K.lookup a = some o ∧ o.cls = .type "tuple" ∧ o.data = .seq its n ∧ its.size ≤ sizeLine ∧ Vals xs its.toList
def absV : Value → Option V
  | .none => some .non
  | .bool b => some (.bl b)
  | .int i _ => some (.int i)
  | .str x _ => some (.str x)
  | .bytes b _ => some (.byt b)
  | .float b _ => some (.flt b)
  | .ref a => some (.ref a)
  | .type n => some (.ty n)
  | _ => none
theorem RelV.abs {x : V} {u : Value} (r : RelV x u) : absV u = some x := by
  cases x with
  | non => cases r; rfl
  | bl _ => cases r; rfl
  | int _ => obtain ⟨t, rfl⟩ := r; rfl
  | str _ => obtain ⟨t, rfl⟩ := r; rfl
  | byt _ => obtain ⟨t, rfl⟩ := r; rfl
  | flt _ => obtain ⟨t, rfl⟩ := r; rfl
  | ref _ => cases r; rfl
  | ty _ => cases r; rfl
theorem RelV.inj {x y : V} {u : Value} (r : RelV x u) (q : RelV y u) : x = y := Option.some.inj (r.abs.symm.trans q.abs)
theorem Vals.inj : ∀ {xs ys : List V} {us : List Value}, Vals xs us → Vals ys us → xs = ys
  | _, _, _, .nil, .nil => rfl
  | _, _, _, .cons r t, .cons r' t' => by rw [r.inj r', Vals.inj t t']
section
variable {X : Cx} {pins : List (Addr × Obj)} {σ : St} {H : Hp} {s : Shared} {a : Addr} {xs ys : List V}
theorem SqL.of {K : PySem.W.Frag} (h : H a = some (.lst xs)) : SqL K H a xs := .inl (.inl h)
theorem SqT.of {K : PySem.W.Frag} (h : H a = some (.tup xs)) : SqT K H a xs := .inl (.inl h)
theorem Inv.list (I : Inv X pins σ H s) (h : SqL X.K H a xs) : ∃ its : List Value, Vals xs its ∧ PlainL s.heap a its.toArray ∧ xs.length ≤ sizeLine := by
  rcases h with h | ⟨o, its, n, hk, hc, hd, hs, hz, r⟩
  · obtain ⟨z, its, n, r, e⟩ := h.ok I.hok
    exact ⟨its, r, ⟨_, n, e, rfl, rfl, rfl⟩, z⟩
  · refine ⟨its.toList, r, ⟨o, n, I.kIn a o hk, hc, hd, by simpa using hs⟩, ?_⟩
    have e := r.length
    simp only [Array.length_toList] at e
    omega
theorem Inv.tuple (I : Inv X pins σ H s) (h : SqT X.K H a xs) : ∃ its : List Value, Vals xs its ∧ IsTup s.heap a its.toArray ∧ xs.length ≤ sizeLine := by
  rcases h with h | ⟨o, its, n, hk, hc, hs, hz, r⟩
  · obtain ⟨z, its, r, p⟩ := h.ok I.hok
    exact ⟨its, r, p, z⟩
  · refine ⟨its.toList, r, ⟨o, I.kIn a o hk, hc, n, by simpa using hs⟩, ?_⟩
    have e := r.length
    simp only [Array.length_toList] at e
    omega
theorem Inv.list_inj (I : Inv X pins σ H s) (h : SqL X.K H a xs) (h' : SqL X.K H a ys) : xs = ys := by
  obtain ⟨its, r, ⟨o, n, e, _, _, d⟩, _⟩ := I.list h
  obtain ⟨its', r', ⟨o', n', e', _, _, d'⟩, _⟩ := I.list h'
  rw [e] at e'; cases e'
  rw [d] at d'
  injection d' with d1 _
  have : its = its' := by simpa using congrArg Array.toList d1
  subst this
  exact r.inj r'
end
abbrev Cx.wish (X : Cx) (E : Value → Shared → Prop) : Cx := { X with xe := E }
abbrev Cx.nox (X : Cx) : Cx := X.wish fun _ _ => False
theorem Cx.Ok.wish {X : Cx} (ok : X.Ok) (E : Value → Shared → Prop) : (X.wish E).Ok :=
  ⟨ok.mod, ok.kind, ok.glob, ok.blt, ok.above, ok.inj, ok.has, ok.cab, ok.hd, ok.frames, ok.stk, ok.exf, ok.bs, ok.bsz, ok.noex, ok.exfs, ok.funs, ok.frf⟩
theorem Cx.Ok.unwish {X : Cx} {E : Value → Shared → Prop} (ok : (X.wish E).Ok) : X.Ok :=
  ⟨ok.mod, ok.kind, ok.glob, ok.blt, ok.above, ok.inj, ok.has, ok.cab, ok.hd, ok.frames, ok.stk, ok.exf, ok.bs, ok.bsz, ok.noex, ok.exfs, ok.funs, ok.frf⟩
section
variable {X : Cx} {pins : List (Addr × Obj)} {σ : St} {H : Hp} {s : Shared} {E : Value → Shared → Prop}
theorem Inv.wish (I : Inv X pins σ H s) (E : Value → Shared → Prop) : Inv (X.wish E) pins σ H s := ⟨I.ok.wish E, I.os, I.bare, I.base, I.loc, I.cell, I.free, I.freeC, I.pin, I.hok, I.len⟩
theorem Inv.unwish (I : Inv (X.wish E) pins σ H s) : Inv X pins σ H s := ⟨I.ok.unwish, I.os, I.bare, I.base, I.loc, I.cell, I.free, I.freeC, I.pin, I.hok, I.len⟩
theorem SP.unwish {D : Ends} {f : Flow} {s' : Shared} (h : SP (X.wish E) pins D f s') : SP X pins D f s' := by
  cases f with
  | next => obtain ⟨σ', H', I, q⟩ := h; exact ⟨σ', H', I.unwish, q⟩
  | brk => obtain ⟨σ', H', I, q⟩ := h; exact ⟨σ', H', I.unwish, q⟩
  | cont => obtain ⟨σ', H', I, q⟩ := h; exact ⟨σ', H', I.unwish, q⟩
  | ret u => obtain ⟨v, σ', H', I, r, q⟩ := h; exact ⟨v, σ', H', I.unwish, r, q⟩
theorem PSs.nox {st : List Stmt} {t : TS} (h : PSs X.nox st t) : PSs X st t := fun pins s σ H D I hw =>
  wpAny_mono (h pins s σ H D (I.wish _) hw) (fun _ _ q => q.unwish) fun _ _ z => False.elim z
end
section
variable {X : Cx} {st : Stmt} {rest : List Stmt} {t u : TS} {e : Expr} {te : TE} {pos : Pos}
def tNext : TS := fun D σ H => D.nx σ H
def tSeq (t u : TS) : TS := fun D σ H => t { D with nx := u D } σ H
theorem pss_nil : PSs X [] tNext := fun _ _ σ H _ I h => wpAny_execs_nil ⟨σ, H, I, h⟩
theorem pss_cons (h1 : PS X st t) (h2 : PSs X rest u) : PSs X (st :: rest) (tSeq t u) := by
  intro pins s σ H D I h
  refine wpAny_execs_cons (thn (h1 pins s σ H { D with nx := u D } I h) fun f s1 q => ?_)
  cases f with
  | next =>
    obtain ⟨σ', H', I', q⟩ := q
    exact h2 pins s1 σ' H' D I' q
  | ret v => exact q
  | brk => exact q
  | cont => exact q
theorem pss_one (h1 : PS X st t) : PSs X [st] t := by
  intro pins s σ H D I h
  refine wpAny_execs_cons (thn (h1 pins s σ H D I h) fun f s1 q => ?_)
  cases f with
  | next => exact wpAny_execs_nil q
  | ret v => exact q
  | brk => exact q
  | cont => exact q
theorem Inv.quiet {pins : List (Addr × Obj)} {σ : St} {H : Hp} {s : Shared} (I : Inv X pins σ H s) : interactive X.env = false := by simp [interactive, I.ok.kind]
def tDrop (te : TE) : TS := fun D σ H => te σ H fun _ H1 => D.nx σ H1
theorem ps_expr (he : PE X e te) (hs : swapsWith e none pos.line X.env = pure false := by rfl) : PS X (.Expr e pos) (tDrop te) := by
  intro pins s σ H D I h
  exact wpAny_Expr_any (thn (he pins s σ H _ I h) fun v s1 ⟨x, H1, I1, r1, q1⟩ => ⟨σ, H1, I1, q1⟩) I.quiet hs
def tRet (te : TE) : TS := fun D σ H => te σ H D.rt
theorem ps_ret (he : PE X e te) : PS X (.Return (some e) pos) (tRet te) := by
  intro pins s σ H D I h
  exact wpAny_Return_some (thn (he pins s σ H _ I h) fun v s1 ⟨x, H1, I1, r1, q1⟩ => ⟨x, σ, H1, I1, r1, q1⟩)
def tIfS (c : TT) (t u : TS) : TS := fun D σ H => c σ H fun b H1 => if b = true then t D σ H1 else u D σ H1
theorem ps_if {c : Expr} {a b : List Stmt} {tc : TT} (hc : PT X c tc) (ha : PSs X a t) (hb : PSs X b u) : PS X (.If c a b pos) (tIfS tc t u) := by
  intro pins s σ H D I h
  refine wpAny_If (thn (hc pins s σ H _ I h) fun d s1 ⟨H1, I1, q1⟩ => ?_)
  cases d with
  | true => exact ha pins s1 σ H1 D I1 q1
  | false => exact hb pins s1 σ H1 D I1 q1
end
abbrev TG := V → St → Hp → (St → Hp → Prop) → Prop
def PG (X : Cx) (target : Expr) (t : TG) : Prop :=
  ∀ (pins : List (Addr × Obj)) (s : Shared) (σ : St) (H : Hp) (v : V) (u : Value) (Q : St → Hp → Prop), Inv X pins σ H s → RelV v u → t v σ H Q →
    wpAny (model X.prog X.w) X.A (assign target X.env u) (fun _ s' => ∃ σ' H', Inv X pins σ' H' s' ∧ Q σ' H') X.xe s
section
variable {X : Cx} {pos : Pos}
def gName (i : Nat) : TG := fun v σ H Q => Q (σ.set i (some v)) H
theorem pg_name {i : Nat} {x : Str} (hN : X.N.Nodup) (hi : X.N[i]? = some x) (hx : Loc X.env.scope x) (hf : X.fn x = true ∨ X.env.scope.names.lookup x = some .local := by first | exact .inl rfl | exact .inr rfl | assumption) : PG X (.Name x pos) (gName i) := by
  intro pins s σ H v u Q I r h
  exact wpAny_assign_Name (store_ok I hN hi hx r (fun s' I' => ⟨_, H, I', h⟩) hf)
def tAsg (te : TE) (g : TG) : TS := fun D σ H => te σ H fun x H1 => g x σ H1 D.nx
theorem ps_set {i : Nat} {x : Str} {e : Expr} {te : TE} {pos' : Pos} (hN : X.N.Nodup) (hi : X.N[i]? = some x) (hx : Loc X.env.scope x) (he : PE X e te) (hs : swapsWith e (some (.Name x pos')) pos.line X.env = pure false := by rfl) (hf : X.fn x = true ∨ X.env.scope.names.lookup x = some .local := by first | exact .inl rfl | exact .inr rfl | assumption) :
    PS X (.Assign [.Name x pos'] e pos) (tAsg te (gName i)) := by
  intro pins s σ H D I h
  refine wpAny_Assign_Name (thn (he pins s σ H _ I h) fun v s1 ⟨y, H1, I1, r1, q1⟩ => ?_) hs
  exact store_ok I1 hN hi hx r1 (fun s2 I2 => ⟨_, H1, I2, q1⟩) hf
end
section
variable {X : Cx} {pos : Pos}
def tWhile (c : TT) (tb : TS) : TS := fun D σ H => ∃ W : Nat → St → Hp → Prop, (∃ m, W m σ H) ∧ ∀ m σ H, W m σ H →
  c σ H fun b H1 => if b = true then ∃ N : St → Hp → Prop, (∀ σ' H', N σ' H' → ∃ m', m' < m ∧ W m' σ' H') ∧ tb { D with nx := N, ct := N, bk := D.nx } σ H1 else D.nx σ H1
theorem ps_while {c : Expr} {body : List Stmt} {tc : TT} {tb : TS} (hp : PassesOwn (model X.prog X.w) X.A X.env X.xe) (hc : PT X c tc) (hb : PSs X body tb) : PS X (.While c body [] pos) (tWhile tc tb) := by
  intro pins s σ H D I h
  obtain ⟨W, ⟨m0, w0⟩, turn⟩ := h
  refine wpAny_While (codeAny_whileLoop (fun n s' => ∃ σ' H', Inv X pins σ' H' s' ∧ W n σ' H') ?_ m0 ⟨σ, H, I, w0⟩)
  rintro n s1 ⟨σ1, H1, I1, w1⟩
  refine wpAny_passesOwn hp (thn (hc pins s1 σ1 H1 _ I1 (turn n σ1 H1 w1)) fun b s2 ⟨H2, I2, q2⟩ => ?_)
  cases b with
  | true =>
    obtain ⟨N, hN, q2⟩ := q2
    rw [if_pos rfl]
    refine wpAny_passesOwn hp (thn (hb pins s2 σ1 H2 _ I2 q2) fun f s3 q3 => ?_)
    cases f with
    | next =>
      obtain ⟨σ3, H3, I3, n3⟩ := q3
      obtain ⟨m', hm, w3⟩ := hN σ3 H3 n3
      exact ⟨m', hm, σ3, H3, I3, w3⟩
    | cont =>
      obtain ⟨σ3, H3, I3, n3⟩ := q3
      obtain ⟨m', hm, w3⟩ := hN σ3 H3 n3
      exact ⟨m', hm, σ3, H3, I3, w3⟩
    | brk => exact q3
    | ret v => exact q3
  | false =>
    rw [if_neg Bool.false_ne_true]
    exact wpAny_execs_nil ⟨σ1, H2, I2, q2⟩
end
/-- at turn i: it yields x (the heap may grow), or it stops -/
structure It where
  go : Nat → Hp → Prop
  yld : Nat → Hp → V → Hp → Prop
  stop : Nat → Hp → Prop
def FpOk (X : Cx) (pins : List (Addr × Obj)) (H : Hp) (b : Addr) : Prop :=
  H b = none ∧ b ≠ X.env.locals ∧ b ∉ X.fs ∧ (b ∈ X.ex ∨ X.s_0.heap.objs.size ≤ b) ∧ (∀ x c, X.env.cells.lookup x = some c → c ≠ b) ∧ ∀ p ∈ X.pn ++ pins, p.1 ≠ b
theorem Inv.fpOk {X : Cx} {pins : List (Addr × Obj)} {σ : St} {H H' : Hp} {s : Shared} {b : Addr} (I : Inv X pins σ H s) (hb : s.heap.objs.size ≤ b) (hn : H' b = none) : FpOk X pins H' b := by
  refine ⟨hn, Nat.ne_of_gt (Nat.lt_of_lt_of_le I.lt hb), I.nofs hb, .inr (Nat.le_trans I.sz hb), fun x c e z => ?_, fun p hp z => ?_⟩
  · obtain ⟨v, q⟩ := I.cell x c e
    exact absurd (Nat.lt_of_lt_of_le q.lt (by rw [z]; exact hb)) (Nat.lt_irrefl _)
  · exact absurd (Nat.lt_of_lt_of_le (Heap.lt_size (I.pin p hp).1) (by rw [z]; exact hb)) (Nat.lt_irrefl _)
structure Turn (P : Program) (w : World) (K : PySem.W.Frag) (tg : Expr) (J : It) (fp : List Addr) (it : Addr) (tn : Nat → Heap → Prop) : Prop where
  mem : it ∈ fp
  obj : ∀ i h, tn i h → ∀ b ∈ fp, ∃ o, h.get? b = some o ∧ ∀ v, o.data ≠ .cell v
  keep : ∀ i h h', tn i h → (∀ b ∈ fp, ∀ o, h.get? b = some o → h'.get? b = some o) → tn i h'
  item : ∀ (X : Cx), X.prog = P → X.w = w → X.K = K → X.calm = true → ∀ (i : Nat) (pins : List (Addr × Obj)) (s : Shared) (σ : St) (H : Hp) (E : Value → Shared → Prop), Inv X pins σ H s → (∀ b ∈ fp, FpOk X pins H b) → tn i s.heap → J.go i H →
    wpAny (model P w) X.A (pyNext (.ref it)) (fun r s1 => ∃ u, r = some u ∧
      wpAny (model P w) X.A (letOwnedTupleGo tg (.ref it) u) (fun _ s2 => ∃ x H', Inv X pins σ H' s2 ∧ RelV x u ∧ J.yld i H x H' ∧ tn (i + 1) s2.heap ∧ ∀ b ∈ fp, H' b = none) E s1) E s
  done : ∀ (X : Cx), X.prog = P → X.w = w → X.K = K → X.calm = true → ∀ (i : Nat) (pins : List (Addr × Obj)) (s : Shared) (σ : St) (H : Hp) (E : Value → Shared → Prop), Inv X pins σ H s → (∀ b ∈ fp, FpOk X pins H b) → tn i s.heap → J.stop i H →
    wpAny (model P w) X.A (pyNext (.ref it)) (fun r s1 => r = none ∧ Inv X pins σ H s1) E s
  self : ∀ (A : Around) (i : Nat) (s : Shared) (Q : Value → Shared → Prop) (E : Value → Shared → Prop), tn i s.heap → Q (.ref it) s → wpAny (model P w) A (pyIter (.ref it)) Q E s
abbrev TI := St → Hp → (It → Hp → Prop) → Prop
def PIE (X : Cx) (pins : List (Addr × Obj)) (σ : St) (tg : Expr) (R : It → Hp → Prop) (itv : Value) (s2 : Shared) : Prop :=
  ∃ (it : Addr) (fp : List Addr) (tn : Nat → Heap → Prop) (J : It) (H' : Hp), itv = .ref it ∧ Inv X pins σ H' s2 ∧ Turn X.prog X.w X.K tg J fp it tn ∧ tn 0 s2.heap ∧ (∀ b ∈ fp, FpOk X pins H' b) ∧ R J H'
def PI (X : Cx) (tg iter : Expr) (wi : TI) : Prop :=
  ∀ (pins : List (Addr × Obj)) (s : Shared) (σ : St) (H : Hp) (R : It → Hp → Prop), Inv X pins σ H s → wi σ H R →
    wpAny (model X.prog X.w) X.A (eval iter X.env) (fun v s1 => wpAny (model X.prog X.w) X.A (pyIter v) (PIE X pins σ tg R) X.xe s1) X.xe s
theorem go_of {M : Model} {A : Around} {E : Value → Shared → Prop} {s : Shared} {tg : Expr} {it : Addr} {u : Value} {o : Obj} {n : String} {vs : Array Value} {Q : Unit → Shared → Prop} (ho : s.heap.get? it = some o) (hc : o.cls = .type n) (hd : o.data = .fields vs)
    (hn : ["enumerate", "zip", "dict_itemiterator", "dict_reverseitemiterator", "odict_iterator", "itertools.zip_longest", "itertools.pairwise"].contains n = false) (hQ : Q () s) : wpAny M A (letOwnedTupleGo tg (.ref it) u) Q E s := by
  unfold letOwnedTupleGo
  cases tg <;> first
    | exact wpAny_pure hQ
    | (cases u <;> first
        | exact wpAny_pure hQ
        | (refine wpAny_bind (wpAny_load ho ?_)
           rw [hc, hd]
           show wpAny M A (if (["enumerate", "zip", "dict_itemiterator", "dict_reverseitemiterator", "odict_iterator", "itertools.zip_longest", "itertools.pairwise"].contains n && vs[0]? == some (rawInt _)) = true then _ else _) Q E s
           rw [if_neg (by intro h; rw [hn, Bool.false_and] at h; cases h)]
           exact wpAny_pure hQ))
def Itl (K : PySem.W.Frag) (a : Addr) : It :=
  ⟨fun i H => ∃ xs x, SqL K H a xs ∧ xs[i]? = some x, fun i H x H' => H' = H ∧ ∀ xs, SqL K H a xs → xs[i]? = some x, fun i H => ∃ xs, SqL K H a xs ∧ xs.length ≤ i⟩
def Itr (lo : Int) (n : Nat) : It := ⟨fun i _ => i < n, fun i H x H' => H' = H ∧ x = .int (lo + i), fun i _ => n ≤ i⟩
theorem turn_list {P : Program} {w : World} {K : PySem.W.Frag} {tg : Expr} (a it : Addr) : Turn P w K tg (Itl K a) [it] it (fun i h => h.IsListIter it a i) where
  mem := by simp
  obj := fun i h st b hb => by
    have e : b = it := by simpa using hb
    subst e
    obtain ⟨o, e, c, d⟩ := st
    exact ⟨o, e, fun v z => by rw [d] at z; cases z⟩
  keep := fun i h h' st k => st.at fun o e => k it (by simp) o e
  item := by
    intro X hP hw hK hc i pins s σ H E I hf st hg
    subst hP hw hK
    obtain ⟨xs, x, hq, hx⟩ := hg
    obtain ⟨its, rv, p, hz⟩ := I.list hq
    obtain ⟨u, hu, ru⟩ := rv.get hx
    obtain ⟨f0, f1, f2, f3, f4, f5⟩ := hf it (by simp)
    refine wpAny_pyNext_list_item st p.isList (x := u) (by simpa using hu) fun h' st' sb => ?_
    have I1 : Inv X pins σ H { s with heap := h' } := I.turned (t' := s.toks) (fun b o hb e => (sb.2 b hb).trans e) f0 f1 f3 f4 f5
    obtain ⟨o, e, c, d⟩ := id st'
    exact ⟨u, rfl, go_of (s := { s with heap := h' }) e c d (by decide) ⟨x, H, I1, ru, ⟨rfl, fun ys hy => by rw [I.list_inj hy hq]; exact hx⟩, st', fun b hb => (hf b hb).1⟩⟩
  done := by
    intro X hP hw hK hc i pins s σ H E I hf st hg
    subst hP hw hK
    obtain ⟨xs, hq, hx⟩ := hg
    obtain ⟨its, rv, p, hz⟩ := I.list hq
    obtain ⟨f0, f1, f2, f3, f4, f5⟩ := hf it (by simp)
    have hl := rv.length
    exact wpAny_pyNext_list_end (I.ok.hd hc) st p.isList (by simp; omega) fun h' eb => ⟨rfl, I.turned (t' := s.toks) (fun b o hb e => eb b o hb e) f0 f1 f3 f4 f5⟩
  self := fun _ _ _ _ _ st h => wpAny_pyIter_listiter st h
theorem turn_range {P : Program} {w : World} {K : PySem.W.Frag} {tg : Expr} (it : Addr) (lo : Int) (n : Nat) : Turn P w K tg (Itr lo n) [it] it (fun i h => IsRangeIter h it (lo + (i : Nat) * 1) ((n : Int) - (i : Nat)) 1) where
  mem := by simp
  obj := fun i h st b hb => by
    have e : b = it := by simpa using hb
    subst e
    exact ⟨_, st, fun v z => by
      have z' : Data.fields _ = Data.cell v := z
      cases z'⟩
  keep := fun i h h' st k => k it (by simp) _ st
  item := by
    intro X hP hw hK hc i pins s σ H E I hf st hg
    subst hP hw hK
    obtain ⟨f0, f1, f2, f3, f4, f5⟩ := hf it (by simp)
    have W := Walks.range (prog := X.prog) (w := X.w) (I.ok.hd hc) it lo 1 n
    refine W.item i s _ _ hg st fun v h' tk hv st' kk => ?_
    obtain ⟨t, rfl⟩ := hv
    have I1 : Inv X pins σ H { s with heap := h', toks := tk } := I.turned (fun b o hb e => kk b o (by simpa using hb) e) f0 f1 f3 f4 f5
    refine ⟨_, rfl, go_of (s := { s with heap := h', toks := tk }) (n := "range_iterator") st' rfl rfl (by decide) ⟨.int (lo + i), H, I1, ⟨t, ?_⟩, ⟨rfl, rfl⟩, st', fun b hb => (hf b hb).1⟩⟩
    rw [Int.mul_one]
  done := by
    intro X hP hw hK hc i pins s σ H E I hf st hg
    subst hP hw hK
    obtain ⟨f0, f1, f2, f3, f4, f5⟩ := hf it (by simp)
    exact wpAny_pyNext_range_end (I.ok.hd hc) st (by have : n ≤ i := hg; omega) fun h' eb => ⟨rfl, I.turned (t' := s.toks) (fun b o hb e => eb b o hb e) f0 f1 f3 f4 f5⟩
  self := fun _ _ _ _ _ st h => wpAny_pyIter_rangeiter st h
end L2
namespace L2
open PySem PySem.Spec PyProof.Rows
section
variable {X : Cx} {tg : Expr}
def iList (K : PySem.W.Frag) (tl : TE) : TI := fun σ H R => tl σ H fun x H1 => ∃ a, x = .ref a ∧ (∃ xs, SqL K H1 a xs) ∧ R (Itl K a) H1
theorem pi_list {l : Expr} {tl : TE} (hl : PE X l tl) : PI X tg l (iList X.K tl) := by
  intro pins s σ H R I h
  refine thn (hl pins s σ H _ I h) fun v s1 ⟨x, H1, I1, r1, q1⟩ => ?_
  obtain ⟨a, e, ⟨xs, hq⟩, q⟩ := q1
  subst e
  cases r1
  obtain ⟨its, rv, p, hz⟩ := I1.list hq
  refine wpAny_pyIter_list p.isList ?_
  refine ⟨s1.heap.objs.size, [s1.heap.objs.size], _, _, H1, rfl, I1.kept (t' := s1.toks) fun b o e => Heap.get?_push_of_some _ e, turn_list a _, ⟨_, Heap.get?_push_size _ rfl, rfl, rfl⟩, fun b hb => ?_, q⟩
  have e : b = s1.heap.objs.size := by simpa using hb
  subst e
  exact I1.fpOk (Nat.le_refl _) (I1.hok.fresh (Nat.le_refl _))
theorem range_it {pins : List (Addr × Obj)} {σ : St} {H : Hp} {s : Shared} {R : It → Hp → Prop} {E : Value → Shared → Prop} {lo hi : Int} {t u v : Tok} {tk : Nat} (I : Inv X pins σ H s) (h1 : -(2 ^ 62) ≤ lo) (h2 : lo < 2 ^ 62) (h3 : -(2 ^ 62) ≤ hi) (h4 : hi < 2 ^ 62)
    (q : R (Itr lo (hi - lo).toNat) H) : wpAny (model X.prog X.w) X.A (pyIter (.ref s.heap.objs.size)) (PIE X pins σ tg R) E { s with heap := s.heap.push { cls := .type "range", data := .fields #[.int lo t, .int hi u, .int 1 v] }, toks := tk } := by
  refine wpAny_pyIter_range (IsRange.new ..) (small_one h1 h2 h3 h4) ?_
  have I1 : Inv X pins σ H { s with heap := s.heap.push { cls := .type "range", data := .fields #[.int lo t, .int hi u, .int 1 v] }, toks := tk } := I.kept fun b o e => Heap.get?_push_of_some _ e
  refine ⟨(s.heap.push { cls := .type "range", data := .fields #[.int lo t, .int hi u, .int 1 v] }).objs.size, [(s.heap.push { cls := .type "range", data := .fields #[.int lo t, .int hi u, .int 1 v] }).objs.size], _, _, H, rfl,
    I1.kept (t' := tk) fun b o e => Heap.get?_push_of_some _ e, turn_range _ lo (hi - lo).toNat, ?_, fun b hb => ?_, q⟩
  · have e1 : lo + ((0 : Nat) : Int) * 1 = lo := by simp
    have e2 : (((hi - lo).toNat : Nat) : Int) - ((0 : Nat) : Int) = Builtin.Range.rangeSize lo hi 1 := by rw [rangeSize_one]; split <;> omega
    show IsRangeIter _ _ (lo + ((0 : Nat) : Int) * 1) ((((hi - lo).toNat : Nat) : Int) - ((0 : Nat) : Int)) 1
    rw [e1, e2]
    exact Heap.get?_push_size _ rfl
  · have e : b = (s.heap.push { cls := .type "range", data := .fields #[.int lo t, .int hi u, .int 1 v] }).objs.size := by simpa using hb
    subst e
    exact I1.fpOk (Nat.le_refl _) (I1.hok.fresh (Nat.le_refl _))
def iRng1 (ta : TA) : TI := fun σ H R => ta σ H fun vs H1 => ∃ j : Int, vs = [.int j] ∧ -(2 ^ 62) ≤ j ∧ j < 2 ^ 62 ∧ R (Itr 0 j.toNat) H1
def iRng2 (ta : TA) : TI := fun σ H R => ta σ H fun vs H1 => ∃ i j : Int, vs = [.int i, .int j] ∧ (-(2 ^ 62) ≤ i ∧ i < 2 ^ 62 ∧ -(2 ^ 62) ≤ j ∧ j < 2 ^ 62) ∧ R (Itr i (j - i).toNat) H1
theorem pi_range1 {a : Expr} {ta : TA} {p pos : Pos} (hg : Gl X "range") (hm : X.mg "range" = none) (ha : PA X [a] ta) (hs : starEach [a] X.env = [(false, eval a X.env)] := by rfl) : PI X tg (.Call (.Name "range" p) [a] [] pos) (iRng1 ta) := by
  intro pins s σ H R I h
  refine Call_ (ld_blt I hg hm boot_range (PyProof.Rows.callWith_type1 (thn (ha pos pins s σ H _ I h) fun us s1 ⟨vs, H1, I1, r1, q1⟩ => ?_) hs rfl))
  obtain ⟨j, e, q1, q2, q⟩ := q1
  subst e
  cases r1 with
  | cons r rr =>
    cases rr
    obtain ⟨t, rfl⟩ := r
    exact call_range_1 (range_it I1 (by omega) (by omega) q1 q2 (by simpa using q))
theorem pi_range2 {a b : Expr} {ta : TA} {p pos : Pos} (hg : Gl X "range") (hm : X.mg "range" = none) (ha : PA X [a, b] ta) (hs : starEach [a, b] X.env = [(false, eval a X.env), (false, eval b X.env)] := by rfl) (hs2 : starEach [b] X.env = [(false, eval b X.env)] := by rfl) :
    PI X tg (.Call (.Name "range" p) [a, b] [] pos) (iRng2 ta) := by
  intro pins s σ H R I h
  refine Call_ (ld_blt I hg hm boot_range (PyProof.Rows.callWith_type1 (thn (ha pos pins s σ H _ I h) fun us s1 ⟨vs, H1, I1, r1, q1⟩ => ?_) (by rw [hs, hs2]) (by rw [hs2]; rfl)))
  obtain ⟨i, j, e, ⟨q1, q2, q3, q4⟩, q⟩ := q1
  subst e
  cases r1 with
  | cons r rr =>
    cases rr with
    | cons r' rr =>
      cases rr
      obtain ⟨t, rfl⟩ := r
      obtain ⟨t', rfl⟩ := r'
      exact call_range_2 (range_it I1 q1 q2 q3 q4 q)
def tFor (wi : TI) (g : TG) (tb : TS) : TS := fun D σ H => wi σ H fun J H1 => ∃ W : Nat → Nat → St → Hp → Prop, (∃ m, W 0 m σ H1) ∧ ∀ i m σ H, W i m σ H →
  (J.stop i H ∧ D.nx σ H) ∨ (J.go i H ∧ ∃ N : St → Hp → Prop, (∀ σ' H', N σ' H' → ∃ m', m' < m ∧ W (i + 1) m' σ' H') ∧ ∀ x H', J.yld i H x H' → g x σ H' fun σ2 H2 => tb { D with nx := N, ct := N, bk := D.nx } σ2 H2)
def pinsAt (fp : List Addr) (h : Heap) : List (Addr × Obj) := fp.filterMap fun b => (h.get? b).map fun o => (b, o)
theorem mem_pinsAt {fp : List Addr} {h : Heap} {b : Addr} {o : Obj} (hb : b ∈ fp) (e : h.get? b = some o) : (b, o) ∈ pinsAt fp h := List.mem_filterMap.mpr ⟨b, hb, by rw [e]; rfl⟩
theorem of_pinsAt {fp : List Addr} {h : Heap} {p : Addr × Obj} (hp : p ∈ pinsAt fp h) : p.1 ∈ fp ∧ h.get? p.1 = some p.2 := by
  obtain ⟨b, hb, e⟩ := List.mem_filterMap.mp hp
  cases q : h.get? b with
  | none => rw [q] at e; cases e
  | some o =>
    rw [q] at e
    have e' : (b, o) = p := Option.some.inj e
    subst e'
    exact ⟨hb, q⟩
theorem Inv.pinned {pins : List (Addr × Obj)} {σ : St} {H : Hp} {s : Shared} {fp : List Addr} (I : Inv X pins σ H s) (hf : ∀ b ∈ fp, FpOk X pins H b) (ho : ∀ b ∈ fp, ∃ o, s.heap.get? b = some o ∧ ∀ v, o.data ≠ .cell v) : Inv X (pins ++ pinsAt fp s.heap) σ H s :=
  I.pins_of fun p hp => (List.mem_append.mp hp).elim (fun z => I.pin p (List.mem_append_right _ z)) fun z => by
    obtain ⟨hb, e⟩ := of_pinsAt z
    obtain ⟨f0, f1, f2, _⟩ := hf p.1 hb
    obtain ⟨o, e', d⟩ := ho p.1 hb
    rw [e] at e'; cases e'
    exact ⟨e, f0, f1, f2, d⟩
theorem Inv.unpinned {pins pl : List (Addr × Obj)} {σ : St} {H : Hp} {s : Shared} (I : Inv X (pins ++ pl) σ H s) : Inv X pins σ H s := I.pins_of fun p hp => I.pin p (List.mem_append_right _ (List.mem_append_left _ hp))
theorem ps_for {iter : Expr} {body : List Stmt} {wi : TI} {g : TG} {tb : TS} {pos : Pos} (hp : PassesOwn (model X.prog X.w) X.A X.env X.xe) (hc : X.calm = true) (hi : PI X tg iter wi) (hg : PG X tg g) (hb : PSs X body tb)
    (hs : ∀ x, foldedSetIterable iter X.env x = pure x := by intro _; rfl) : PS X (.For tg iter body [] pos) (tFor wi g tb) := by
  intro pins s σ H D I h
  refine wpAny_For (thn (hi pins s σ H _ I h) fun v s1 h1 => thn h1 fun itv s2 h2 => ?_) hs
  obtain ⟨it, fp, tn, J, H2, e, I2, T, st2, f2, W, ⟨m0, w0⟩, turn⟩ := h2
  subst e
  -- what stays true of the iterator's objects through the loop
  have stat : ∀ {H' : Hp}, (∀ b ∈ fp, H' b = none) → ∀ b ∈ fp, FpOk X pins H' b := fun hn b hb => ⟨hn b hb, (f2 b hb).2⟩
  refine codeAny_forLoop_any (fun n s' => ∃ i σ' H', Inv X pins σ' H' s' ∧ tn i s'.heap ∧ (∀ b ∈ fp, H' b = none) ∧ W i n σ' H') ?_ m0 ⟨0, σ, H2, I2, st2, fun b hb => (f2 b hb).1, w0⟩
  rintro n s3 ⟨i, σ3, H3, I3, st3, fr3, w3⟩
  rcases turn i n σ3 H3 w3 with ⟨stop, qn⟩ | ⟨go, N, hN, step⟩
  · refine wpAny_passesOwn hp (thn (T.done X rfl rfl rfl hc i pins s3 σ3 H3 X.xe I3 (stat fr3) st3 stop) fun r s4 ⟨hr, I4⟩ => ?_)
    subst hr
    exact wpAny_execs_nil ⟨σ3, H3, I4, qn⟩
  · refine wpAny_passesOwn hp (thn (T.item X rfl rfl rfl hc i pins s3 σ3 H3 X.xe I3 (stat fr3) st3 go) fun r s4 ⟨u, hr, h4⟩ => ?_)
    subst hr
    refine wpAny_passesOwn hp (thn h4 fun _ s5 ⟨x, H5, I5, r5, y5, st5, fr5⟩ => ?_)
    have I5' := I5.pinned (stat fr5) (T.obj _ _ st5)
    refine wpAny_passesOwn hp (thn (hg _ s5 σ3 H5 x u _ I5' r5 (step x H5 y5)) fun _ s6 ⟨σ6, H6, I6, q6⟩ => ?_)
    refine wpAny_passesOwn hp (thn (hb _ s6 σ6 H6 _ I6 q6) fun f s7 q7 => ?_)
    have again : ∀ {σ7 : St} {H7 : Hp}, Inv X (pins ++ pinsAt fp s5.heap) σ7 H7 s7 → N σ7 H7 → ∃ m, m < n ∧ ∃ i σ' H', Inv X pins σ' H' s7 ∧ tn i s7.heap ∧ (∀ b ∈ fp, H' b = none) ∧ W i m σ' H' := fun {σ7 H7} I7 n7 => by
      obtain ⟨m', hm, w7⟩ := hN σ7 H7 n7
      refine ⟨m', hm, i + 1, σ7, H7, I7.unpinned, T.keep _ _ _ st5 fun b hb o e => (I7.pin (b, o) (List.mem_append_right _ (List.mem_append_right _ (mem_pinsAt hb e)))).1, fun b hb => ?_, w7⟩
      obtain ⟨o, e, d⟩ := T.obj _ _ st5 b hb
      exact (I7.pin (b, o) (List.mem_append_right _ (List.mem_append_right _ (mem_pinsAt hb e)))).2.1
    cases f with
    | next => obtain ⟨σ7, H7, I7, n7⟩ := q7; exact again I7 n7
    | cont => obtain ⟨σ7, H7, I7, n7⟩ := q7; exact again I7 n7
    | brk => obtain ⟨σ7, H7, I7, q7⟩ := q7; exact ⟨σ7, H7, I7.unpinned, q7⟩
    | ret v => obtain ⟨x7, σ7, H7, I7, r7, q7⟩ := q7; exact ⟨x7, σ7, H7, I7.unpinned, r7, q7⟩
end
theorem for_list {K : PySem.W.Frag} {a : Addr} {xs : List V} {g : TG} {tb : TS} {D : Ends} {σ : St} {H : Hp} (Pv : Nat → St → Hp → Prop) (h0 : Pv 0 σ H) (hl : ∀ i σ H, i ≤ xs.length → Pv i σ H → SqL K H a xs)
    (hs : ∀ i x σ H, xs[i]? = some x → Pv i σ H → g x σ H fun σ2 H2 => tb { D with nx := Pv (i + 1), ct := Pv (i + 1), bk := D.nx } σ2 H2) (hd : ∀ σ H, Pv xs.length σ H → D.nx σ H) :
    ∃ W : Nat → Nat → St → Hp → Prop, (∃ m, W 0 m σ H) ∧ ∀ i m σ H, W i m σ H →
      ((Itl K a).stop i H ∧ D.nx σ H) ∨ ((Itl K a).go i H ∧ ∃ N : St → Hp → Prop, (∀ σ' H', N σ' H' → ∃ m', m' < m ∧ W (i + 1) m' σ' H') ∧ ∀ x H', (Itl K a).yld i H x H' → g x σ H' fun σ2 H2 => tb { D with nx := N, ct := N, bk := D.nx } σ2 H2) := by
  refine ⟨fun i m σ H => m = xs.length - i ∧ i ≤ xs.length ∧ Pv i σ H, ⟨xs.length, by simp, Nat.zero_le _, h0⟩, ?_⟩
  rintro i m σ H ⟨rfl, hi, p⟩
  have q := hl i σ H hi p
  by_cases hlt : i < xs.length
  · refine .inr ⟨⟨xs, xs[i], q, by simp [hlt]⟩, Pv (i + 1), fun σ' H' p' => ⟨xs.length - (i + 1), by omega, rfl, hlt, p'⟩, fun x H' y => ?_⟩
    obtain ⟨e, y⟩ := y
    subst e
    exact hs i x σ _ (y xs q) p
  · have e : i = xs.length := by omega
    subst e
    exact .inl ⟨⟨xs, q, Nat.le_refl _⟩, hd σ H p⟩
theorem for_range {lo : Int} {n : Nat} {g : TG} {tb : TS} {D : Ends} {σ : St} {H : Hp} (Pv : Nat → St → Hp → Prop) (h0 : Pv 0 σ H)
    (hs : ∀ i σ H, i < n → Pv i σ H → g (.int (lo + i)) σ H fun σ2 H2 => tb { D with nx := Pv (i + 1), ct := Pv (i + 1), bk := D.nx } σ2 H2) (hd : ∀ σ H, Pv n σ H → D.nx σ H) :
    ∃ W : Nat → Nat → St → Hp → Prop, (∃ m, W 0 m σ H) ∧ ∀ i m σ H, W i m σ H →
      ((Itr lo n).stop i H ∧ D.nx σ H) ∨ ((Itr lo n).go i H ∧ ∃ N : St → Hp → Prop, (∀ σ' H', N σ' H' → ∃ m', m' < m ∧ W (i + 1) m' σ' H') ∧ ∀ x H', (Itr lo n).yld i H x H' → g x σ H' fun σ2 H2 => tb { D with nx := N, ct := N, bk := D.nx } σ2 H2) := by
  refine ⟨fun i m σ H => m = n - i ∧ i ≤ n ∧ Pv i σ H, ⟨n, by simp, Nat.zero_le _, h0⟩, ?_⟩
  rintro i m σ H ⟨rfl, hi, p⟩
  by_cases hlt : i < n
  · refine .inr ⟨hlt, Pv (i + 1), fun σ' H' p' => ⟨n - (i + 1), by omega, rfl, hlt, p'⟩, fun x H' y => ?_⟩
    obtain ⟨e, y⟩ := y
    subst e y
    exact hs i σ _ hlt p
  · have e : i = n := by omega
    subst e
    exact .inl ⟨Nat.le_refl _, hd σ H p⟩
end L2
namespace L2
open PySem PySem.Spec PyProof.Rows
abbrev R2 := V → V → Hp → VK → Prop
def OpR (X : Cx) (f : Value → Value → Sem Value) (r : R2) : Prop :=
  ∀ (pins : List (Addr × Obj)) (s : Shared) (σ : St) (H : Hp) (x y : V) (v u : Value) (Q : VK), Inv X pins σ H s → RelV x v → RelV y u → r x y H Q →
    wpAny (model X.prog X.w) X.A (f v u) (EP X pins σ Q) X.xe s
def UnR (X : Cx) (f : Value → Sem Value) (r : V → Hp → VK → Prop) : Prop :=
  ∀ (pins : List (Addr × Obj)) (s : Shared) (σ : St) (H : Hp) (x : V) (v : Value) (Q : VK), Inv X pins σ H s → RelV x v → r x H Q →
    wpAny (model X.prog X.w) X.A (f v) (EP X pins σ Q) X.xe s
def CallR (X : Cx) (f : Value) (r : List V → Hp → VK → Prop) : Prop :=
  ∀ (pins : List (Addr × Obj)) (s : Shared) (σ : St) (H : Hp) (xs : List V) (us : List Value) (Q : VK), Inv X pins σ H s → Vals xs us → r xs H Q →
    wpAny (model X.prog X.w) X.A (call f us) (EP X pins σ Q) X.xe s
def TruR (X : Cx) (r : V → Hp → (Bool → Hp → Prop) → Prop) : Prop :=
  ∀ (pins : List (Addr × Obj)) (s : Shared) (σ : St) (H : Hp) (x : V) (v : Value) (Q : Bool → Hp → Prop), Inv X pins σ H s → RelV x v → r x H Q →
    wpAny (model X.prog X.w) X.A (truthy v) (TP X pins σ Q) X.xe s
def tOp (r : R2) (ta tb : TE) : TE := fun σ H Q => ta σ H fun x H1 => tb σ H1 fun y H2 => r x y H2 Q
def tUn (r : V → Hp → VK → Prop) (ta : TE) : TE := fun σ H Q => ta σ H fun x H1 => r x H1 Q
def rI0 (g : Int → Int → V) : R2 := fun x y H Q => ∃ i j, x = .int i ∧ y = .int j ∧ Q (g i j) H
def rU (g : Int → V) : V → Hp → VK → Prop := fun x H Q => ∃ i, x = .int i ∧ Q (g i) H
section
variable {X : Cx} {a b c : Expr} {ta tb tc : TE} {pos : Pos}
theorem binT (ha : PE X a ta) (hb : PE X b tb) {pins : List (Addr × Obj)} {s : Shared} {σ : St} {H : Hp} {R : V → V → Hp → Prop} (I : Inv X pins σ H s)
    (h : ta σ H fun x H1 => tb σ H1 fun y H2 => R x y H2) {Q : Value → Shared → Prop} {f : Value → Value → Sem Value}
    (hf : ∀ v u s2 x y H2, Inv X pins σ H2 s2 → RelV x v → RelV y u → R x y H2 → wpAny (model X.prog X.w) X.A (f v u) Q X.xe s2) :
    wpAny (model X.prog X.w) X.A (eval a X.env) (fun v s₁ => wpAny (model X.prog X.w) X.A (eval b X.env) (fun u s₂ => wpAny (model X.prog X.w) X.A (f v u) Q X.xe s₂) X.xe s₁) X.xe s := by
  refine thn (ha pins s σ H _ I h) fun v s1 ⟨x, H1, I1, r1, q1⟩ => ?_
  refine thn (hb pins s1 σ H1 _ I1 q1) fun u s2 ⟨y, H2, I2, r2, q2⟩ => ?_
  exact hf v u s2 x y H2 I2 r1 r2 q2
theorem pe_op {op : Operator} {r : R2} (ho : OpR X (binaryOp op) r) (ha : PE X a ta) (hb : PE X b tb) : PE X (.BinOp a op b pos) (tOp r ta tb) := by
  intro pins s σ H Q I h
  exact wpAny_BinOp (binT ha hb I h fun v u s2 x y H2 I2 rx ry q => ho pins s2 σ H2 x y v u Q I2 rx ry q)
theorem pe_un {op : UnaryOp} {r : V → Hp → VK → Prop} (ho : UnR X (unaryOp op) r) (ha : PE X a ta) : PE X (.UnaryOp op a pos) (tUn r ta) := by
  intro pins s σ H Q I h
  exact UnaryOp_ (thn (ha pins s σ H _ I h) fun v s1 ⟨x, H1, I1, r1, q1⟩ => ho pins s1 σ H1 x v Q I1 r1 q1)
theorem opI0 {f : Value → Value → Sem Value} {g : Int → Int → Int}
    (rule : ∀ (i j : Int) (t u : Tok) (s : Shared) (Q : Value → Shared → Prop) (E : Value → Shared → Prop), Q (.int (g i j) s.toks) { s with toks := s.toks + 1 } → wpAny (model X.prog X.w) X.A (f (.int i t) (.int j u)) Q E s) :
    OpR X f (rI0 fun i j => .int (g i j)) := by
  intro pins s σ H x y v u Q I rx ry h
  obtain ⟨i, j, rfl, rfl, q⟩ := h
  obtain ⟨t, rfl⟩ := rx
  obtain ⟨t', rfl⟩ := ry
  exact rule i j t t' s _ _ ⟨.int (g i j), H, I.tok _, ⟨_, rfl⟩, q⟩
theorem opB0 {f : Value → Value → Sem Value} {g : Int → Int → Bool}
    (rule : ∀ (i j : Int) (t u : Tok) (s : Shared) (Q : Value → Shared → Prop) (E : Value → Shared → Prop), Q (.bool (g i j)) s → wpAny (model X.prog X.w) X.A (f (.int i t) (.int j u)) Q E s) :
    OpR X f (rI0 fun i j => .bl (g i j)) := by
  intro pins s σ H x y v u Q I rx ry h
  obtain ⟨i, j, rfl, rfl, q⟩ := h
  obtain ⟨t, rfl⟩ := rx
  obtain ⟨t', rfl⟩ := ry
  exact rule i j t t' s _ _ ⟨.bl (g i j), H, I, rfl, q⟩
theorem op_add : OpR X (binaryOp .Add) (rI0 fun i j => .int (i + j)) := opI0 fun _ _ _ _ _ _ _ q => add_int q
theorem op_sub : OpR X (binaryOp .Sub) (rI0 fun i j => .int (i - j)) := opI0 fun _ _ _ _ _ _ _ q => sub_int q
theorem unI {f : Value → Sem Value} {g : Int → Int}
    (rule : ∀ (i : Int) (t : Tok) (s : Shared) (Q : Value → Shared → Prop) (E : Value → Shared → Prop), Q (.int (g i) s.toks) { s with toks := s.toks + 1 } → wpAny (model X.prog X.w) X.A (f (.int i t)) Q E s) :
    UnR X f (rU fun i => .int (g i)) := by
  intro pins s σ H x v Q I rx h
  obtain ⟨i, rfl, q⟩ := h
  obtain ⟨t, rfl⟩ := rx
  exact rule i t s _ _ ⟨.int (g i), H, I.tok _, ⟨_, rfl⟩, q⟩
theorem un_neg : UnR X (unaryOp .USub) (rU fun i => .int (-i)) := unI fun _ _ _ _ _ q => neg_int q
end
def scal : V → V → Bool
  | .non, .non => true | .non, .int _ => true | .int _, .non => true | .non, .bl _ => true | .bl _, .non => true | .non, .str _ => true | .str _, .non => true
  | .int _, .int _ => true | .bl _, .bl _ => true | .str _, .str _ => true | .byt _, .byt _ => true
  | .int _, .str _ => true | .str _, .int _ => true | .bl _, .str _ => true | .str _, .bl _ => true
  | _, _ => false
def rEq : R2 := fun x y H Q => scal x y = true ∧ Q (.bl (decide (x = y))) H
def rNe : R2 := fun x y H Q => scal x y = true ∧ Q (.bl (!decide (x = y))) H
theorem dec_int {i j : Int} : decide (V.int i = V.int j) = (i == j) := by
  rw [Bool.eq_iff_iff]
  simp
theorem dec_bl {i j : Bool} : decide (V.bl i = V.bl j) = (i == j) := by
  rw [Bool.eq_iff_iff]
  simp
theorem dec_str {i j : Str} : decide (V.str i = V.str j) = (i == j) := by
  rw [Bool.eq_iff_iff]
  simp
theorem dec_byt {i j : Array UInt8} : decide (V.byt i = V.byt j) = (i.toList == j.toList) := by
  rw [Bool.eq_iff_iff]
  cases i
  cases j
  simp
section
variable {X : Cx} {a b c : Expr} {ta tb tc : TE} {pos : Pos}
theorem fin_bl {pins : List (Addr × Obj)} {σ : St} {H : Hp} {s : Shared} {Q : VK} {k k' : Bool} (I : Inv X pins σ H s) (q : Q (.bl k) H) (e : k = k') : EP X pins σ Q (.bool k') s := by
  subst e
  exact ⟨.bl k, H, I, rfl, q⟩
theorem op_eq : OpR X (compareOp .Eq) rEq := by
  intro pins s σ H x y v u Q I rx ry h
  obtain ⟨hs, q⟩ := h
  cases x with
  | non =>
    cases rx
    cases y with
    | non => cases ry; exact PySem.EqNone.eq_none_none (fin_bl I q (by simp))
    | bl j => cases ry; exact PySem.EqNone.eq_none_bool (fin_bl I q (by simp))
    | int j => obtain ⟨t', rfl⟩ := ry; exact PySem.EqNone.eq_none_int (fin_bl I q (by simp))
    | str j => obtain ⟨t', rfl⟩ := ry; exact PySem.EqNone.eq_none_str (fin_bl I q (by simp))
    | _ => exact absurd (show false = true from hs) Bool.false_ne_true
  | bl i =>
    cases rx
    cases y with
    | non => cases ry; exact PySem.EqNone.eq_bool_none (fin_bl I q (by simp))
    | bl j => cases ry; exact eq_bool (fin_bl I q dec_bl)
    | str j => obtain ⟨t', rfl⟩ := ry; exact PySem.EqMixed.eq_bool_str (fin_bl I q (by simp))
    | _ => exact absurd (show false = true from hs) Bool.false_ne_true
  | int i =>
    obtain ⟨t, rfl⟩ := rx
    cases y with
    | non => cases ry; exact PySem.EqNone.eq_int_none (fin_bl I q (by simp))
    | int j => obtain ⟨t', rfl⟩ := ry; exact eq_int (fin_bl I q dec_int)
    | str j => obtain ⟨t', rfl⟩ := ry; exact PySem.EqMixed.eq_int_str (fin_bl I q (by simp))
    | _ => exact absurd (show false = true from hs) Bool.false_ne_true
  | str i =>
    obtain ⟨t, rfl⟩ := rx
    cases y with
    | non => cases ry; exact PySem.EqNone.eq_str_none (fin_bl I q (by simp))
    | bl j => cases ry; exact PySem.EqMixed.eq_str_bool (fin_bl I q (by simp))
    | int j => obtain ⟨t', rfl⟩ := ry; exact PySem.EqMixed.eq_str_int (fin_bl I q (by simp))
    | str j => obtain ⟨t', rfl⟩ := ry; exact eq_str (fin_bl I q dec_str)
    | _ => exact absurd (show false = true from hs) Bool.false_ne_true
  | byt i =>
    obtain ⟨t, rfl⟩ := rx
    cases y with
    | byt j => obtain ⟨t', rfl⟩ := ry; exact PySem.W.eq_bytes (fin_bl I q dec_byt)
    | _ => exact absurd (show false = true from hs) Bool.false_ne_true
  | _ => cases y <;> exact absurd (show false = true from hs) Bool.false_ne_true
theorem op_ne : OpR X (compareOp .NotEq) rNe := by
  intro pins s σ H x y v u Q I rx ry h
  obtain ⟨hs, q⟩ := h
  cases x with
  | non =>
    cases rx
    cases y with
    | non => cases ry; exact PySem.EqNone.ne_none_none (fin_bl I q (by simp))
    | bl j => cases ry; exact PySem.EqNone.ne_none_bool (fin_bl I q (by simp))
    | int j => obtain ⟨t', rfl⟩ := ry; exact PySem.EqNone.ne_none_int (fin_bl I q (by simp))
    | str j => obtain ⟨t', rfl⟩ := ry; exact PySem.EqNone.ne_none_str (fin_bl I q (by simp))
    | _ => exact absurd (show false = true from hs) Bool.false_ne_true
  | bl i =>
    cases rx
    cases y with
    | non => cases ry; exact PySem.EqNone.ne_bool_none (fin_bl I q (by simp))
    | bl j => cases ry; exact ne_bool (fin_bl I q (congrArg not dec_bl))
    | str j => obtain ⟨t', rfl⟩ := ry; exact PySem.EqMixed.ne_bool_str (fin_bl I q (by simp))
    | _ => exact absurd (show false = true from hs) Bool.false_ne_true
  | int i =>
    obtain ⟨t, rfl⟩ := rx
    cases y with
    | non => cases ry; exact PySem.EqNone.ne_int_none (fin_bl I q (by simp))
    | int j => obtain ⟨t', rfl⟩ := ry; exact ne_int (fin_bl I q (congrArg not dec_int))
    | str j => obtain ⟨t', rfl⟩ := ry; exact PySem.EqMixed.ne_int_str (fin_bl I q (by simp))
    | _ => exact absurd (show false = true from hs) Bool.false_ne_true
  | str i =>
    obtain ⟨t, rfl⟩ := rx
    cases y with
    | non => cases ry; exact PySem.EqNone.ne_str_none (fin_bl I q (by simp))
    | bl j => cases ry; exact PySem.EqMixed.ne_str_bool (fin_bl I q (by simp))
    | int j => obtain ⟨t', rfl⟩ := ry; exact PySem.EqMixed.ne_str_int (fin_bl I q (by simp))
    | str j => obtain ⟨t', rfl⟩ := ry; exact ne_str (fin_bl I q (congrArg not dec_str))
    | _ => exact absurd (show false = true from hs) Bool.false_ne_true
  | byt i =>
    obtain ⟨t, rfl⟩ := rx
    cases y with
    | byt j => obtain ⟨t', rfl⟩ := ry; exact PySem.W.ne_bytes (fin_bl I q (congrArg not dec_byt))
    | _ => exact absurd (show false = true from hs) Bool.false_ne_true
  | _ => cases y <;> exact absurd (show false = true from hs) Bool.false_ne_true
theorem op_le : OpR X (compareOp .LtE) (rI0 fun i j => .bl (decide (i ≤ j))) := opB0 fun _ _ _ _ _ _ _ q => le_int q
theorem op_gt : OpR X (compareOp .Gt) (rI0 fun i j => .bl (decide (j < i))) := opB0 fun _ _ _ _ _ _ _ q => gt_int q
theorem op_ge : OpR X (compareOp .GtE) (rI0 fun i j => .bl (decide (j ≤ i))) := opB0 fun _ _ _ _ _ _ _ q => ge_int q
theorem nomark (b : Expr) {op : CmpOp} (h : op ≠ .In := by decide) (h2 : op ≠ .NotIn := by decide) : behindInMarks op b = false := by
  have e1 : (op == CmpOp.In) = false := by cases op <;> first | rfl | exact absurd rfl h
  have e2 : (op == CmpOp.NotIn) = false := by cases op <;> first | rfl | exact absurd rfl h2
  cases b <;> simp [behindInMarks, e1, e2]
theorem pe_cmpR {op : CmpOp} {r : R2} (ho : OpR X (compareOp op) r) (ha : PE X a ta) (hb : PE X b tb) (hm : behindInMarks op b = false) : PE X (.Compare a [op] [b] pos) (tOp r ta tb) := by
  intro pins s σ H Q I h
  exact wpAny_Compare1 (binT ha hb I h fun v u s2 x y H2 I2 rx ry q => ho pins s2 σ H2 x y v u Q I2 rx ry q) hm
def tTest (t : TE) : TT := fun σ H Q => t σ H fun x H' => ∃ k, x = .bl k ∧ Q k H'
theorem pt_cmpR {op : CmpOp} {r : R2} (ho : OpR X (compareOp op) r) (ha : PE X a ta) (hb : PE X b tb) (hm : behindInMarks op b = false) : PT X (.Compare a [op] [b] pos) (tTest (tOp r ta tb)) := by
  intro pins s σ H Q I h
  refine wpAny_isTrue_Compare1 (thn (ha pins s σ H _ I h) fun v s1 ⟨x, H1, I1, r1, q1⟩ => thn (hb pins s1 σ H1 _ I1 q1) fun u s2 ⟨y, H2, I2, r2, q2⟩ =>
    thn (ho pins s2 σ H2 x y v u _ I2 r1 r2 q2) fun c s3 ⟨z, H3, I3, r3, k, e, q3⟩ => ?_) hm
  subst e
  cases r3
  exact wpAny_truthy_bool ⟨H3, I3, q3⟩
def tChain (r r' : R2) (ta tb tc : TE) : TE := fun σ H Q => ta σ H fun x H1 => tb σ H1 fun y H2 => r x y H2 fun z H3 => ∃ k, z = .bl k ∧
  (if k = true then tc σ H3 fun w' H4 => r' y w' H4 Q else Q (.bl false) H3)
theorem pe_chain {op op' : CmpOp} {r r' : R2} (ho : OpR X (compareOp op) r) (ho' : OpR X (compareOp op') r') (ha : PE X a ta) (hb : PE X b tb) (hc : PE X c tc)
    (hm : lastMarks [op, op'] [b, c] = false := by with_unfolding_all rfl) : PE X (.Compare a [op, op'] [b, c] pos) (tChain r r' ta tb tc) := by
  intro pins s σ H Q I h
  refine Compare_chain (thn (ha pins s σ H _ I h) fun v s1 ⟨x, H1, I1, r1, q1⟩ => chain_link (thn (hb pins s1 σ H1 _ I1 q1) fun u s2 ⟨y, H2, I2, r2, q2⟩ =>
    thn (ho pins s2 σ H2 x y v u _ I2 r1 r2 q2) fun d s3 ⟨z, H3, I3, r3, k, e, q3⟩ => ?_)) hm
  subst e
  cases r3
  refine wpAny_truthy_bool ?_
  cases k with
  | false => exact ite_ff ⟨.bl false, H3, I3, rfl, q3⟩
  | true => exact ite_tt (chain_last (thn (hc pins s3 σ H3 _ I3 q3) fun w' s4 ⟨z', H4, I4, r4, q4⟩ => ho' pins s4 σ H4 y z' u w' Q I4 r2 r4 q4))
theorem pt_chain {op op' : CmpOp} {r r' : R2} (ho : OpR X (compareOp op) r) (ho' : OpR X (compareOp op') r') (ha : PE X a ta) (hb : PE X b tb) (hc : PE X c tc)
    (hm : lastMarks [op, op'] [b, c] = false := by with_unfolding_all rfl) : PT X (.Compare a [op, op'] [b, c] pos) (tTest (tChain r r' ta tb tc)) := by
  intro pins s σ H Q I h
  refine isTrue_chain (thn (ha pins s σ H _ I h) fun v s1 ⟨x, H1, I1, r1, q1⟩ => test_link (thn (hb pins s1 σ H1 _ I1 q1) fun u s2 ⟨y, H2, I2, r2, q2⟩ =>
    thn (ho pins s2 σ H2 x y v u _ I2 r1 r2 q2) fun d s3 ⟨z, H3, I3, r3, k, e, q3⟩ => ?_)) hm
  subst e
  cases r3
  refine wpAny_truthy_bool ?_
  cases k with
  | false =>
    obtain ⟨k', e', q'⟩ := q3
    cases e'
    exact ite_ff ⟨H3, I3, q'⟩
  | true =>
    refine ite_tt (test_last (thn (hc pins s3 σ H3 _ I3 q3) fun w' s4 ⟨z', H4, I4, r4, q4⟩ => thn (ho' pins s4 σ H4 y z' u w' _ I4 r2 r4 q4) fun d' s5 ⟨z2, H5, I5, r5, k2, e2, q5⟩ => ?_))
    subst e2
    cases r5
    exact wpAny_truthy_bool ⟨H5, I5, q5⟩
def TruV (K : PySem.W.Frag) (x : V) (H : Hp) (k : Bool) : Prop :=
  match x with
  | .non => k = false
  | .bl b => k = b
  | .int i => k = (i != 0)
  | .str y => y.length ≤ sizeLine ∧ k = ((y.length : Int) != 0)
  | .byt y => y.size ≤ sizeLine ∧ k = ((y.size : Int) != 0)
  | .ref p => (∃ xs, SqL K H p xs ∧ k = !xs.isEmpty) ∨ (∃ xs, SqT K H p xs ∧ k = !xs.isEmpty) ∨ ∃ kvs, H p = some (.dK kvs) ∧ k = !kvs.isEmpty
  | _ => False
theorem isEmpty_kv {κ : Type} {kvs : List (κ × V)} {vs : List (κ × Value)} (r : KV kvs vs) : (!vs.isEmpty) = !kvs.isEmpty := by
  cases r <;> rfl
theorem isEmpty_of {xs : List V} {its : List Value} (r : Vals xs its) : (!its.toArray.isEmpty) = !xs.isEmpty := by
  cases r <;> simp
theorem line63 : (sizeLine : Nat) < 2 ^ 63 := by rw [sizeLine_eq]; decide
theorem tru_ok : TruR X (fun x H Q => ∃ k, TruV X.K x H k ∧ Q k H) := by
  intro pins s σ H x v Q I rx h
  obtain ⟨k, e, q⟩ := h
  have hl := line63
  have hs : sizeLine = 16777216 := sizeLine_eq
  cases x with
  | non =>
    cases rx
    have e' : k = false := e
    subst e'
    exact truthy_none ⟨H, I, q⟩
  | bl b =>
    cases rx
    have e' : k = b := e
    subst e'
    exact wpAny_truthy_bool ⟨H, I, q⟩
  | int i =>
    obtain ⟨t, rfl⟩ := rx
    have e' : k = (i != 0) := e
    subst e'
    exact PySem.P.truthy_int ⟨H, I, q⟩
  | str y =>
    obtain ⟨t, rfl⟩ := rx
    obtain ⟨hy, e'⟩ : y.length ≤ sizeLine ∧ k = ((y.length : Int) != 0) := e
    subst e'
    exact PySem.P.truthy_str (by omega) ⟨H, I.tok _, q⟩
  | byt y =>
    obtain ⟨t, rfl⟩ := rx
    obtain ⟨hy, e'⟩ : y.size ≤ sizeLine ∧ k = ((y.size : Int) != 0) := e
    subst e'
    exact PySem.W.truthy_bytes (by omega) ⟨H, I.tok _, q⟩
  | ref p =>
    cases rx
    have e' : (∃ xs, SqL X.K H p xs ∧ k = !xs.isEmpty) ∨ (∃ xs, SqT X.K H p xs ∧ k = !xs.isEmpty) ∨ ∃ kvs, H p = some (.dK kvs) ∧ k = !kvs.isEmpty := e
    rcases e' with ⟨xs, hx, e'⟩ | ⟨xs, hx, e'⟩ | ⟨kvs, hx, e'⟩
    · subst e'
      obtain ⟨its, r, pl, hz⟩ := I.list hx
      have hlen := r.length
      exact wpAny_truthy_list pl.isList (by simp only [List.size_toArray]; omega) ⟨H, I.tok _, by rw [isEmpty_of r]; exact q⟩
    · subst e'
      obtain ⟨its, r, pl, hz⟩ := I.tuple hx
      have hlen := r.length
      exact truthy_tuple pl (by simp only [List.size_toArray]; omega) ⟨H, I.tok _, by rw [isEmpty_of r]; exact q⟩
    · subst e'
      obtain ⟨hz, hS, vs, r, m⟩ : kvs.length ≤ sizeLine ∧ (p == sysModules) = false ∧ ∃ vs, KV kvs vs ∧ s.heap.DictOf (mixKind X.prog X.w) p vs := I.hok p _ hx
      have hlen : kvs.length = vs.length := Paired.length r
      exact wpAny_truthy_dict hS m (by omega) ⟨H, I.tok _, by rw [isEmpty_kv r]; exact q⟩
  | _ => exact (show False from e).elim
theorem pt_truth (ha : PE X a ta) (he : ∀ whole, isTrue a X.env whole = (do let v ← whole; standAt a.pos; holding [v] (truthy v))) :
    PT X a (fun σ H Q => ta σ H fun x H' => ∃ k, TruV X.K x H' k ∧ Q k H') := by
  intro pins s σ H Q I h
  exact isTrue_plain (thn (ha pins s σ H _ I h) fun v s1 ⟨x, H1, I1, r1, q1⟩ => tru_ok pins s1 σ H1 x v Q I1 r1 q1) (he _)
theorem vals1 {x : V} {us : List Value} (r : Vals [x] us) : ∃ u, us = [u] ∧ RelV x u := by
  cases r with
  | cons r1 r2 => cases r2; exact ⟨_, rfl, r1⟩
end
end L2
namespace L2
open PySem PySem.Spec PyProof.Rows
structure ObjM (h : Heap) (x dx C : Addr) (mA : Str → Option Value) : Prop where
  obj : h.get? x = some (PySem.W.instObj C dx)
  ns : h.Ns1 dx mA
  ne : dx ≠ x
theorem lookIn_ns {h : Heap} {dx : Addr} {mA : Str → Option Value} (n : h.Ns1 dx mA) : ∃ od, h.get? dx = some od ∧ ∀ name, PySem.W.lookIn name od = some (mA name) := by
  obtain ⟨o, es, ep, ho, hd, hk, _, hm⟩ := n
  refine ⟨o, ho, fun name => ?_⟩
  have e := hm name
  unfold nsFind findBy at e
  rw [← Array.find?_toList] at e
  unfold PySem.W.lookIn
  rw [hd]
  dsimp only
  split
  · rename_i y q
    rw [q] at e
    exact congrArg some e
  · rename_i q
    rw [q] at e
    have a : es.toList.any (·.refKey) = false := by
      rw [List.any_eq_false]
      intro y hy
      obtain ⟨z, t, hkey⟩ := hk y (Array.mem_toList_iff.mp hy)
      simp [DictEntry.refKey, hkey]
    have a' : ¬ es.toList.any (·.refKey) = true := by rw [a]; exact Bool.false_ne_true
    rw [if_neg a']
    exact congrArg some e
theorem ObjM.look {h : Heap} {x dx C : Addr} {mA : Str → Option Value} (I : ObjM h x dx C mA) : ∃ od, PySem.W.InstAt h x (PySem.W.instObj C dx) C (some od) ∧ ∀ name, PySem.W.lookIn name od = some (mA name) :=
  let ⟨od, ho, hl⟩ := lookIn_ns I.ns
  ⟨od, ⟨I.obj, rfl, rfl, ho⟩, hl⟩
section
variable {prog : Program} {w : World} {A : Around} {E : Value → Shared → Prop} {s : Shared} {K : PySem.W.Frag} {x dx C f : Addr} {mA : Str → Option Value} {name : Str} {v : Value}
theorem get_map {expr : Bool} {Q : Value → Shared → Prop} (X : K.In s.heap) (I : ObjM s.heap x dx C mA) (hg : PySem.W.plainGet K C name = true) (hh : PySem.W.hasDictIn K C = true)
    (ha : PySem.W.findIn K (.ref C) name = some none) (hv : mA name = some v) (hv' : PySem.W.handedIn v = true) (h : Q v { s with toks := s.toks + 1 }) :
    wpAny (model prog w) A (getAttr (.ref x) name expr) Q E s := by
  obtain ⟨od, J, hl⟩ := I.look
  exact PySem.W.get_value X J (PySem.W.plainGet_of hg).1 (PySem.W.findObj_own hh ha rfl (by rw [hl, hv])) hv' h
theorem get_meth {pl : Sem Bool} {Q : Value × List Value → Shared → Prop} (X : K.In s.heap) (I : ObjM s.heap x dx C mA) (hg : PySem.W.plainGet K C name = true)
    (hf : PySem.W.findIn K (.ref C) name = some (some (.ref f))) (ht : PySem.W.isFn K (.ref f) = true) (hv : mA name = none) (h : Q (.ref f, [.ref x]) s) :
    wpAny (model prog w) A (getMethod (.ref x) name pl) Q E s := by
  obtain ⟨od, J, hl⟩ := I.look
  exact PySem.W.method_fn X J (PySem.W.plainGet_of hg).1 (PySem.W.plainGet_of hg).2 hf (beq_iff_eq.mp ht) (by show (PySem.W.lookIn name od).map (·.isSome) = some false; rw [hl, hv]; rfl) h
theorem set_map {ns : List Str} {Q : Unit → Shared → Prop} (X : K.In s.heap) (I : ObjM s.heap x dx C mA)
    (hs : PySem.W.findIn K (.ref C) "__setattr__" = some (some (.builtin "object.__setattr__"))) (hp : PySem.W.plainOver K C = true) (ht : PySem.W.takerIn K C name = some none) (hh : PySem.W.hasDictIn K C = true)
    (hw : PySem.Within mA ns) (hsz : ns.length ≤ sizeLine)
    (h : ∀ h', ObjM h' x dx C (fun y => if y = name then some v else mA y) → Heap.SameBut dx s.heap h' → Q () { s with heap := h', toks := s.toks + 2 }) :
    wpAny (model prog w) A (setAttr (.ref x) name v) Q E s := by
  obtain ⟨od, J, hl⟩ := I.look
  refine PySem.W.set_plain X J hs (PySem.W.osa_open (s := { s with toks := s.toks + 1 }) (r := none) X J hp ht fun b => ?_)
  obtain ⟨cd, hc, hd'⟩ := PySem.W.any_some hh
  have hx : s.heap.get? x = some ⟨.ref C, some dx, .plain, #[]⟩ := I.obj
  refine wpAny_bind (wpAny_pure (wpAny_bind (wpAny_bind (wpAny_loadPart hx (wpAny_bind (PySem.W.Looks.here (s := { s with toks := s.toks + 1 }) (PySem.W.looks_clsIn X hc) ?_))))))
  rw [hd']
  refine wpAny_pure (a := some dx) (wpAny_bind (wpAny_pure (wpAny_bind ?_)))
  refine wpAny_nsSet1 (s := { s with toks := s.toks + 1 }) I.ns fun h' hn2 hs2 => ?_
  obtain ⟨oD, esD, epD, hoD, hdD, hcD⟩ := hn2.count (PySem.Within.cons name v hw)
  refine wpAny_bind (wpAny_lookBehind hoD (by rw [hdD]; exact pastItsLine_dict (Nat.le_trans hcD (by rw [List.length_cons]; omega))) ?_)
  exact wpAny_pure (h _ ⟨(hs2.2 _ (Ne.symm I.ne)).trans I.obj, hn2, I.ne⟩ hs2)
theorem make_map {R : Result → Shared → Prop} {vs : List Value} {kw : List (Str × Value)} (X : K.In s.heap) (hm : PySem.W.makesIn K C = true)
    (hi : PySem.W.findIn K (.ref C) "__init__" = some (some (.ref f))) (hf : PySem.W.typeIn K (.ref f) = some (.type "function"))
    (h : codeAny (model prog w) (A.under (.builtin "type.__call__" ⟨.ref C :: vs, kw⟩)) (.call (.ref f) ⟨.ref (s.heap.objs.size + 1) :: vs, kw⟩) (PySem.W.InitBack (s.heap.objs.size + 1) R)
      { s with heap := (s.heap.push PySem.W.emptyDict).push (PySem.W.instObj C s.heap.objs.size) }) :
    codeAny (model prog w) A (.call (.ref C) ⟨vs, kw⟩) R s := by
  obtain ⟨hh, g, d, t, os⟩ := s
  exact PySem.W.make_core (PySem.W.makes_of X hm) (PySem.W.looks_findIn X hi) (fun self => PySem.W.bind_fn X self hf) (.inl rfl) h
end
def putF (f : Str) (v : V) : List (Str × V) → List (Str × V)
  | [] => [(f, v)]
  | (g, x) :: r => if g = f then (g, v) :: r else (g, x) :: putF f v r
theorem lookup_putF (f g : Str) (v : V) : ∀ fs : List (Str × V), (putF f v fs).lookup g = if g = f then some v else fs.lookup g
  | [] => by
    show List.lookup g [(f, v)] = _
    by_cases h : g = f
    · have hb : (g == f) = true := beq_iff_eq.mpr h
      simp only [List.lookup, hb, if_pos h]
    · have hb : (g == f) = false := beq_eq_false_iff_ne.mpr h
      simp only [List.lookup, hb, if_neg h]
  | (k, x) :: r => by
    have ih := lookup_putF f g v r
    rw [show putF f v ((k, x) :: r) = (if k = f then (k, v) :: r else (k, x) :: putF f v r) from rfl]
    by_cases hk : k = f
    · rw [if_pos hk]
      by_cases h : g = k
      · have hb : (g == k) = true := beq_iff_eq.mpr h
        simp only [List.lookup, hb, if_pos (h.trans hk)]
      · have hb : (g == k) = false := beq_eq_false_iff_ne.mpr h
        simp only [List.lookup, hb, if_neg (fun e : g = f => h (e.trans hk.symm))]
    · rw [if_neg hk]
      by_cases h : g = k
      · have hb : (g == k) = true := beq_iff_eq.mpr h
        simp only [List.lookup, hb, if_neg (fun e : g = f => hk (h.symm.trans e))]
      · have hb : (g == k) = false := beq_eq_false_iff_ne.mpr h
        simp only [List.lookup, hb]
        exact ih
theorem keys_putF (f : Str) (v : V) : ∀ fs : List (Str × V), f ∈ (putF f v fs).map (·.1) ∧ ∀ g, g ∈ fs.map (·.1) → g ∈ (putF f v fs).map (·.1)
  | [] => ⟨by simp [putF], fun g h => by simp at h⟩
  | (k, x) :: r => by
    obtain ⟨i1, i2⟩ := keys_putF f v r
    rw [show putF f v ((k, x) :: r) = (if k = f then (k, v) :: r else (k, x) :: putF f v r) from rfl]
    by_cases hk : k = f
    · rw [if_pos hk]
      subst hk
      exact ⟨by simp, fun g h => by simpa using h⟩
    · rw [if_neg hk]
      refine ⟨?_, fun g h => ?_⟩
      · rw [List.map_cons]
        exact List.mem_cons_of_mem _ i1
      · rw [List.map_cons] at h ⊢
        rcases List.mem_cons.mp h with e | e
        · exact List.mem_cons.mpr (.inl e)
        · exact List.mem_cons_of_mem _ (i2 g e)
theorem length_putF (f : Str) (v : V) : ∀ fs : List (Str × V), (putF f v fs).length ≤ fs.length + 1
  | [] => by simp [putF]
  | (k, x) :: r => by
    have ih := length_putF f v r
    rw [show putF f v ((k, x) :: r) = (if k = f then (k, v) :: r else (k, x) :: putF f v r) from rfl]
    by_cases hk : k = f
    · rw [if_pos hk, List.length_cons, List.length_cons]; omega
    · rw [if_neg hk, List.length_cons, List.length_cons]; omega
theorem RelO.some_of {v : V} {o : Option Value} (r : RelO (some v) o) : ∃ u, o = some u ∧ RelV v u := by
  cases o with
  | none => exact (show False from r).elim
  | some u => exact ⟨u, rfl, r⟩
theorem RelO.none_of {o : Option Value} (r : RelO none o) : o = none := by
  cases o with
  | none => rfl
  | some u => exact (show False from r).elim
theorem handed_of {v : V} {u : Value} (r : RelV v u) : PySem.W.handedIn u = true := by
  cases v with
  | non => cases (show u = Value.none from r); rfl
  | bl b => cases (show u = Value.bool b from r); rfl
  | int i => obtain ⟨t, e⟩ := (show ∃ t, u = Value.int i t from r); cases e; rfl
  | str x => obtain ⟨t, e⟩ := (show ∃ t, u = Value.str x t from r); cases e; rfl
  | byt b => obtain ⟨t, e⟩ := (show ∃ t, u = Value.bytes b t from r); cases e; rfl
  | flt b => obtain ⟨t, e⟩ := (show ∃ t, u = Value.float b t from r); cases e; rfl
  | ref a => cases (show u = Value.ref a from r); rfl
  | ty n => cases (show u = Value.type n from r); rfl
section
variable {P : Program} {w : World} {H H' : Hp} {h h' : Heap} {a C dx : Addr} {fs fs' : List (Str × V)}
theorem ins_get (hok : HOk P w H h) (e : H a = some (.ins C dx fs)) : ∃ mA, ObjM h a dx C mA ∧ (∀ f, RelO (fs.lookup f) (mA f)) ∧ PySem.Within mA (fs.map (·.1)) ∧ fs.length ≤ 1000 ∧ H dx = some (.own a) := by
  obtain ⟨d, z, ne, ob, mA, n, r, q⟩ := (show ObjOk P w H h a (.ins C dx fs) from hok a _ e)
  exact ⟨mA, ⟨ob, n, ne⟩, r, q, z, d⟩
end
structure Cls (K : PySem.W.Frag) (C : Addr) : Prop where
  pg : PySem.W.plainGet K C Str.empty = true
  hd : PySem.W.hasDictIn K C = true
  po : PySem.W.plainOver K C = true
  sa : PySem.W.findIn K (.ref C) "__setattr__" = some (some (.builtin "object.__setattr__"))
theorem Cls.get {K : PySem.W.Frag} {C : Addr} (c : Cls K C) (f : Str) : PySem.W.plainGet K C f = true := c.pg
def NoAttr (K : PySem.W.Frag) (C : Addr) (f : Str) : Prop := PySem.W.findIn K (.ref C) f = some none
theorem NoAttr.taker {K : PySem.W.Frag} {C : Addr} {f : Str} (n : NoAttr K C f) : PySem.W.takerIn K C f = some none := by
  unfold PySem.W.takerIn
  rw [show PySem.W.findIn K (.ref C) f = some none from n]
  rfl
/-- a constant of the class -/
structure Con (K : PySem.W.Frag) (C : Addr) (f : Str) (v : V) (u : Value) : Prop where
  at_ : PySem.W.findIn K (.ref C) f = some (some u)
  rel : RelV v u
  get : PySem.W.specialIn K u "__get__" = some none
  cp : PySem.W.copiedNames.contains f = false
/-- a method: a plain def of the class or of one above it -/
structure Meth (K : PySem.W.Frag) (C : Addr) (m : Str) (f : Addr) : Prop where
  at_ : PySem.W.findIn K (.ref C) m = some (some (.ref f))
  fn : PySem.W.isFn K (.ref f) = true
  kp : PySem.W.keepIn K (.ref f) = true
section
variable {X : Cx} {pins : List (Addr × Obj)} {σ : St} {H : Hp} {s : Shared} {a C dx : Addr} {fs : List (Str × V)} {f : Str} {v : V} {A : Around} {E : Value → Shared → Prop}
theorem getattr_ok {b : Bool} {Q : Value → Shared → Prop} (I : Inv X pins σ H s) (e : H a = some (.ins C dx fs)) (c : Cls X.K C) (n : NoAttr X.K C f) (l : fs.lookup f = some v)
    (h : ∀ u s', Inv X pins σ H s' → RelV v u → Q u s') : wpAny (model X.prog X.w) A (getAttr (.ref a) f b) Q E s := by
  obtain ⟨mA, O, r, _, _, _⟩ := ins_get I.hok e
  obtain ⟨u, hu, ru⟩ := RelO.some_of (v := v) (o := mA f) (by rw [← l]; exact r f)
  exact get_map I.kIn O (c.get f) c.hd n hu (handed_of ru) (h u _ (I.tok _) ru)
theorem getmeth_ok {m : Str} {g : Addr} {pl : Sem Bool} {Q : Value × List Value → Shared → Prop} (I : Inv X pins σ H s) (e : H a = some (.ins C dx fs)) (c : Cls X.K C) (k : Meth X.K C m g) (l : fs.lookup m = none)
    (h : Q (.ref g, [.ref a]) s) : wpAny (model X.prog X.w) A (getMethod (.ref a) m pl) Q E s := by
  obtain ⟨mA, O, r, _, _, _⟩ := ins_get I.hok e
  have hn : mA m = none := RelO.none_of (by rw [← l]; exact r m)
  exact get_meth I.kIn O (c.get m) k.at_ k.fn hn h
theorem setattr_ok {y : V} {u : Value} {Q : Unit → Shared → Prop} (I : Inv X pins σ H s) (e : H a = some (.ins C dx fs)) (c : Cls X.K C) (n : NoAttr X.K C f) (hl : fs.length < 1000) (ry : RelV y u)
    (h : ∀ s', Inv X pins σ (upd H a (.ins C dx (putF f y fs))) s' → Q () s') : wpAny (model X.prog X.w) A (setAttr (.ref a) f u) Q E s := by
  obtain ⟨mA, O, r, wi, _, ho⟩ := ins_get I.hok e
  have hz : (fs.map (·.1)).length ≤ sizeLine := by rw [List.length_map, sizeLine_eq]; omega
  refine set_map I.kIn O c.sa c.po n.taker c.hd wi hz fun h' O' sb => h _ ?_
  have hd : ∃ o, h'.get? dx = some o := let ⟨o, _, _, e', _⟩ := O'.ns; ⟨o, e'⟩
  refine I.write (x := a) (e := dx) (by rw [e]; exact True.intro) (.inr ho) (fun b q hb z => (sb.2 b hb).trans z) hd ?_
  refine ⟨by rw [upd_ne O.ne]; exact ho, ?_, O.ne, O'.obj, _, O'.ns, fun g => ?_, fun g hg => ?_⟩
  · have := length_putF f y fs; omega
  · show RelO ((putF f y fs).lookup g) (if g = f then some u else mA g)
    rw [lookup_putF]
    by_cases q : g = f
    · rw [if_pos q, if_pos q]; exact ry
    · rw [if_neg q, if_neg q]; exact r g
  · by_cases q : g = f
    · rw [q]; exact (keys_putF f y fs).1
    · refine (keys_putF f y fs).2 g (wi g fun z => hg ?_)
      show (if g = f then some u else mA g) = none
      rw [if_neg q]; exact z
theorem Inv.made (I : Inv X pins σ H s) : Inv X pins σ (upd (upd H s.heap.objs.size (.own (s.heap.objs.size + 1))) (s.heap.objs.size + 1) (.ins C s.heap.objs.size []))
    { s with heap := (s.heap.push PySem.W.emptyDict).push (PySem.W.instObj C s.heap.objs.size) } := by
  have e1 : (s.heap.push PySem.W.emptyDict).get? s.heap.objs.size = some PySem.W.emptyDict := Heap.get?_push_size s.heap rfl
  have e2 : ((s.heap.push PySem.W.emptyDict).push (PySem.W.instObj C s.heap.objs.size)).get? (s.heap.objs.size + 1) = some (PySem.W.instObj C s.heap.objs.size) := by
    have := Heap.get?_push_size (s.heap.push PySem.W.emptyDict) (o := PySem.W.instObj C s.heap.objs.size) rfl
    rwa [Heap.size_push] at this
  have e3 : (s.heap.push PySem.W.emptyDict).Ns s.heap.objs.size (fun _ => none) := ⟨PySem.W.emptyDict, #[], _, e1, rfl, (fun e he => absurd he (by simp)), fun _ => rfl⟩
  have I1 := I.laid (a := s.heap.objs.size) (o := .own (s.heap.objs.size + 1)) (h' := s.heap.push PySem.W.emptyDict) (t' := s.toks) (fun b u q => Heap.get?_push_of_some _ q) (Nat.le_refl _) ⟨_, e1⟩
  refine I1.laid (a := s.heap.objs.size + 1) (o := .ins C s.heap.objs.size []) (t' := s.toks) (fun b u q => Heap.get?_push_of_some _ q) (Nat.le_of_eq (Heap.size_push _ _)) ?_
  have ne : s.heap.objs.size ≠ s.heap.objs.size + 1 := Nat.ne_of_lt (Nat.lt_succ_self _)
  refine ⟨by rw [upd_ne ne, upd_same], Nat.zero_le _, ne, e2, fun _ => none, (Heap.Ns1.of_empty e3).at fun o q => Heap.get?_push_of_some _ q, fun _ => True.intro, fun y hy => absurd rfl hy⟩
theorem attr_of {prog : Program} {w : World} {env : Env} {e : Expr} {f : Str} {pos : Pos} {s : Shared} {Q : Value → Shared → Prop} (hb : attributeBase e f env (eval e env) = eval e env)
    (h : wpAny (model prog w) A (eval e env) (fun o s₁ => wpAny (model prog w) A (getAttr o f true) Q E s₁) E s) : wpAny (model prog w) A (eval (.Attribute e f pos) env) Q E s :=
  Attribute_any_ h (by rw [arm_eval_Attribute, hb])
end
def tFld (K : PySem.W.Frag) (ta : TE) (f : Str) : TE := fun σ H Q => ta σ H fun x H1 => ∃ a C dx fs v, x = .ref a ∧ H1 a = some (.ins C dx fs) ∧ Cls K C ∧ NoAttr K C f ∧ fs.lookup f = some v ∧ Q v H1
def sFld (K : PySem.W.Frag) (ta tv : TE) (f : Str) : TS := fun D σ H => tv σ H fun y H1 => ta σ H1 fun x H2 => ∃ a C dx fs, x = .ref a ∧ H2 a = some (.ins C dx fs) ∧ Cls K C ∧ NoAttr K C f ∧ fs.length < 1000 ∧
  D.nx σ (upd H2 a (.ins C dx (putF f y fs)))
section
variable {X : Cx} {o e value : Expr} {f : Str} {pos pos' tpos : Pos} {ta tv : TE}
theorem pe_fld (he : PE X e ta) (hb : attributeBase e f X.env (eval e X.env) = eval e X.env) : PE X (.Attribute e f pos) (tFld X.K ta f) := by
  intro pins s σ H Q I h
  refine attr_of hb (thn (he pins s σ H _ I h) fun u s1 ⟨x, H1, I1, rx, a, C, dx, fs, v, ex, ea, c, n, l, q⟩ => ?_)
  subst ex
  obtain rfl : u = Value.ref a := rx
  exact getattr_ok I1 ea c n l fun u' s2 I2 ru => ⟨v, H1, I2, ru, q⟩
theorem ps_fld (ha : PE X o ta) (hv : PE X value tv) (hs : swapsWith value (some (.Attribute o f pos')) pos.line X.env = pure false) : PS X (.Assign [.Attribute o f pos'] value pos) (sFld X.K ta tv f) := by
  intro pins s σ H D I h
  refine plainObj_wpAny_Assign_Attribute (thn (hv pins s σ H _ I h) fun u s1 ⟨y, H1, I1, ry, q⟩ => thn (ha pins s1 σ H1 _ I1 q) fun ov s2 ⟨x, H2, I2, rx, a, C, dx, fs, ex, ea, c, n, l, q2⟩ => ?_) hs
  subst ex
  obtain rfl : ov = Value.ref a := rx
  exact setattr_ok I2 ea c n l ry fun s3 I3 => ⟨σ, _, I3, q2⟩
theorem methcall_of {pl : Sem Bool} {m : Str} {apos : Pos} {args : List Expr} {pins : List (Addr × Obj)} {s : Shared} {σ : St} {H : Hp} {Q : Value → Shared → Prop} {te : TE} (he : PE X e te) (I : Inv X pins σ H s)
    (h : te σ H fun x H1 => ∃ a C dx fs g, x = .ref a ∧ H1 a = some (.ins C dx fs) ∧ Cls X.K C ∧ Meth X.K C m g ∧ fs.lookup m = none ∧
      ∀ s1, Inv X pins σ H1 s1 → wpAny (model X.prog X.w) X.A (callWith pos (.ref g) [.ref a] (backTo pos (starEach args X.env)) (backToKw pos (keywordEach [] X.env))) Q X.xe s1)
    (ht : eval (.Call (.Attribute e m apos) args [] pos) X.env = (do
      let ov ← eval e X.env
      standAt apos.atName
      let (f, first) ← holding [ov] (getMethod ov m pl)
      callWith pos f first (backTo pos (starEach args X.env)) (backToKw pos (keywordEach [] X.env)))) :
    wpAny (model X.prog X.w) X.A (eval (.Call (.Attribute e m apos) args [] pos) X.env) Q X.xe s := by
  refine PySem.W.methodCall_KW (pl := pl) (thn (he pins s σ H _ I h) fun u s1 ⟨x, H1, I1, rx, a, C, dx, fs, g, ex, ea, c, k, l, q⟩ => ?_) ht
  subst ex
  obtain rfl : u = Value.ref a := rx
  exact getmeth_ok I1 ea c k l (q s1 I1)
end
section
variable {X : Cx} {pins : List (Addr × Obj)} {σ : St} {H : Hp} {s : Shared} {A : Around} {E : Value → Shared → Prop} {Q : Value → Shared → Prop} {c : Value} {b : Bool}
/-- the type of a value, as the fragment's deciders take it; for an instance its class -/
inductive TyOf (K : PySem.W.Frag) (H : Hp) : V → Value → Prop where
  | non : TyOf K H .non (.type "NoneType")
  | bl (x : Bool) : TyOf K H (.bl x) (.type "bool")
  | int (i : Int) : TyOf K H (.int i) (.type "int")
  | str (x : Str) : TyOf K H (.str x) (.type "str")
  | flt (x : UInt64) : TyOf K H (.flt x) (.type "float")
  | lst {a : Addr} {xs : List V} (e : H a = some (.lst xs)) : TyOf K H (.ref a) (.type "list")
  | frz {a : Addr} {o : Obj} {xs : List V} (e : H a = some (.frz o (.lst xs))) : TyOf K H (.ref a) (.type "list")
  | tup {a : Addr} {xs : List V} (e : H a = some (.tup xs)) : TyOf K H (.ref a) (.type "tuple")
  | dK {a : Addr} {kvs : List (Key × V)} (e : H a = some (.dK kvs)) : TyOf K H (.ref a) (.type "dict")
  | dT {a : Addr} {kvs : List (List Key × V)} (e : H a = some (.dT kvs)) : TyOf K H (.ref a) (.type "dict")
  | ins {a C dx : Addr} {fs : List (Str × V)} (e : H a = some (.ins C dx fs)) (cl : Cls K C) (ha : PySem.W.findIn K (.ref C) "__class__" = some (some (.builtin "object.__class__")))
      (hn : PySem.W.specialIn K (.builtin "object.__class__") "__get__" = some (some (.builtin "getset_descriptor.__get__"))) (htk : PySem.W.takesIn K (.builtin "object.__class__") = some true)
      (hm : PySem.W.mroIn K C (.type "object") = some true) : TyOf K H (.ref a) (.ref C)
end
end L2
namespace L2
open PySem PySem.Spec PyProof.Rows
structure Room (k : Nat) (A : Around) : Prop where
  hd : A.handled = none
  dp : A.depth + 3 * k + 5 < recursionLimit
  un : A.units + 16 * k + 200 < cLine
theorem Room.mono {j k : Nat} {A : Around} (r : Room k A) (h : j ≤ k) : Room j A := ⟨r.hd, by have := r.dp; omega, by have := r.un; omega⟩
theorem Room.deeper {k : Nat} {A : Around} (r : Room (k + 1) A) (env : Env) : Room k (A.deeper env) :=
  ⟨r.hd, by have := r.dp; show A.depth + 1 + 3 * k + 5 < _; omega, by have := r.un; show A.units + 3 + 16 * k + 200 < _; omega⟩
theorem Room.in1 {k : Nat} {A : Around} (r : Room (k + 1) A) : Room k A.in1 :=
  ⟨r.hd, by have := r.dp; show A.depth + 3 * k + 5 < _; omega, by have := r.un; show A.units + 1 + 16 * k + 200 < _; omega⟩
theorem make_depth {A : Around} {C : Addr} {us : List Value} {kw : List (Str × Value)} : (A.under (.builtin "type.__call__" ⟨.ref C :: us, kw⟩)).depth = A.depth + 1 := by
  first | rfl | simp [Around.under, Code.weight, Code.isCreation, Code.isGuard, Code.isCaller, Code.frames, Code.isFrame, guardIds]
theorem make_units {A : Around} {C : Addr} {us : List Value} {kw : List (Str × Value)} : (A.under (.builtin "type.__call__" ⟨.ref C :: us, kw⟩)).units = A.units + 1 := by
  first | rfl | simp [Around.under, Code.cUnits, Code.frames, Code.isFrame]
theorem Room.make {k : Nat} {A : Around} (r : Room (k + 1) A) (C : Addr) (us : List Value) (kw : List (Str × Value)) : Room k (A.under (.builtin "type.__call__" ⟨.ref C :: us, kw⟩)) :=
  ⟨r.hd, by have := r.dp; rw [make_depth]; omega, by have := r.un; rw [make_units]; omega⟩
theorem Room.depth {k : Nat} {A : Around} (r : Room k A) : A.depth < recursionLimit := by have := r.dp; omega
theorem Room.units {k : Nat} {A : Around} (r : Room k A) : A.units + 64 < cLine := by have := r.un; omega
def tNil : TA := fun _ H Q => Q [] H
def tCons (ta : TE) (tr : TA) : TA := fun σ H Q => ta σ H fun x H1 => tr σ H1 fun xs H2 => Q (x :: xs) H2
section
variable {X : Cx} {e : Expr} {es : List Expr} {te : TE} {t : TA} {pos : Pos}
theorem pa_nil : PA X [] tNil := fun _ _ _ _ H Q I h => Calls.spliced_nil ⟨[], H, I, .nil, h⟩
theorem pa_cons (ha : PE X e te) (hr : PA X es t) (hs : starEach (e :: es) X.env = (false, eval e X.env) :: starEach es X.env := by rfl) : PA X (e :: es) (tCons te t) := by
  intro pos pins s σ H Q I h
  rw [hs]
  show wpAny _ _ (spliced ((false, eval e X.env) :: backTo pos (starEach es X.env))) _ _ s
  refine Calls.spliced_cons (thn (ha pins s σ H _ I h) fun u s1 ⟨x, H1, I1, r1, q1⟩ => ?_)
  exact thn (hr pos pins s1 σ H1 _ I1 q1) fun us s2 ⟨xs, H2, I2, r2, q2⟩ => ⟨x :: xs, H2, I2, .cons r1 r2, q2⟩
def tTup (t : TA) : TE := fun σ H Q => t σ H fun xs H1 => xs.length ≤ sizeLine ∧ ∀ p, H1 p = none → Q (.ref p) (upd H1 p (.tup xs))
def tLst (t : TA) : TE := fun σ H Q => t σ H fun xs H1 => xs.length ≤ sizeLine ∧ ∀ p, H1 p = none → Q (.ref p) (upd H1 p (.lst xs))
theorem pe_tup {x1} (h : PA X es t) : PE X (.Tuple es x1 pos) (tTup t) := by
  intro pins s σ H Q I hq
  refine wpAny_Tuple_spliced (thn (h pos pins s σ H _ I hq) fun us s1 ⟨xs, H1, I1, r, z, q⟩ => ⟨by rw [← r.length]; exact z, ?_⟩)
  have hf : H1 s1.heap.objs.size = none := I1.hok.fresh (Nat.le_refl _)
  refine ⟨.ref s1.heap.objs.size, upd H1 s1.heap.objs.size (.tup xs), I1.laid (t' := s1.toks) (fun b u e => Heap.get?_push_of_some _ e) (Nat.le_refl _) ?_, rfl, q _ hf⟩
  exact ⟨z, us, r, ⟨_, Heap.get?_push_size _ rfl, rfl, _, rfl⟩⟩
theorem pe_lst (h : PA X es t) : PE X (.List es pos) (tLst t) := by
  intro pins s σ H Q I hq
  refine wpAny_List_spliced (thn (h pos pins s σ H _ I hq) fun us s1 ⟨xs, H1, I1, r, z, q⟩ => ⟨by rw [← r.length]; exact z, ?_⟩)
  have hf : H1 s1.heap.objs.size = none := I1.hok.fresh (Nat.le_refl _)
  refine ⟨.ref s1.heap.objs.size, upd H1 s1.heap.objs.size (.lst xs), I1.laid (t' := s1.toks) (fun b u e => Heap.get?_push_of_some _ e) (Nat.le_refl _) ?_, rfl, q _ hf⟩
  exact ⟨z, us, 0, r, Heap.get?_push_size _ rfl⟩
end
abbrev Sp := List V → Hp → VK → XK → Prop
abbrev CXT := List Env → Hp → Shared → XK → Value → Shared → Prop
/-- the state at a call -/
structure Env0 (P : Program) (w : World) (K : PySem.W.Frag) (mg : Str → Option Value) (base : Heap) (A : Around) (outer : List Env) (s : Shared) (H : Hp) : Prop where
  frames : A.frames = some outer
  mod : Mod K mg base
  bs : ∀ b o, base.get? b = some o → s.heap.get? b = some o ∧ H b = none
  bsz : base.objs.size ≤ s.heap.objs.size
  funs : s.heap.FunFrames base outer
  frf : ∀ b ∈ frs outer, H b = none
  hok : HOk P w H s.heap
  bare : AllBare s.gens
def CE (outer : List Env) (P : Program) (w : World) (H : Hp) (s : Shared) (Q : VK) (u : Value) (s' : Shared) : Prop :=
  ∃ v H', s'.os = s.os ∧ AllBare s'.gens ∧ Un (frs outer) [] H H' s.heap s'.heap ∧ HOk P w H' s'.heap ∧ RelV v u ∧ Q v H'
def CR (CX : CXT) (outer : List Env) (P : Program) (w : World) (H : Hp) (s : Shared) (Q : VK) (E : XK) (r : Result) (s' : Shared) : Prop :=
  match r with
  | .ok (.ret u) => CE outer P w H s Q u s'
  | .ok _ => False
  | .error e => CX outer H s E e s'
structure FnOk (P : Program) (w : World) (K : PySem.W.Frag) (mg : Str → Option Value) (base : Heap) (CX : CXT) (k : Nat) (f : Addr) (fd : FuncData) (ps : List Str) (sp : Sp) : Prop where
  len : ∀ vs H Q E, sp vs H Q E → vs.length = ps.length
  run : ∀ (A : Around) (outer : List Env) (s : Shared) (H : Hp) (args : Args) (us : List Value) (vs : List V) (Q : VK) (E : XK), Room k A → Env0 P w K mg base A outer s H → BindsTo s fd args (ps.zip us) → Vals vs us → sp vs H Q E →
    codeAny (model P w) A (.call (.ref f) args) (CR CX outer P w H s Q E) s
theorem FnOk.mono {P : Program} {w : World} {K : PySem.W.Frag} {mg : Str → Option Value} {base : Heap} {CX : CXT} {j k : Nat} {f : Addr} {fd : FuncData} {ps : List Str} {sp : Sp} (F : FnOk P w K mg base CX j f fd ps sp) (h : j ≤ k) :
    FnOk P w K mg base CX k f fd ps sp := ⟨F.len, fun A outer s H args us vs Q E hr => F.run A outer s H args us vs Q E (hr.mono h)⟩
theorem Env0.make {P : Program} {w : World} {K : PySem.W.Frag} {mg : Str → Option Value} {base : Heap} {A : Around} {outer : List Env} {s : Shared} {H : Hp} (e : Env0 P w K mg base A outer s H) (C : Addr) (us : List Value) (kw : List (Str × Value)) :
    Env0 P w K mg base (A.under (.builtin "type.__call__" ⟨.ref C :: us, kw⟩)) outer s H := ⟨by first | exact e.frames | (simpa [Around.under, Code.envs, Code.isFrame, pushEnvs] using e.frames), e.mod, e.bs, e.bsz, e.funs, e.frf, e.hok, e.bare⟩
theorem Env0.in1 {P : Program} {w : World} {K : PySem.W.Frag} {mg : Str → Option Value} {base : Heap} {A : Around} {outer : List Env} {s : Shared} {H : Hp} (e : Env0 P w K mg base A outer s H) :
    Env0 P w K mg base A.in1 outer s H := ⟨e.frames, e.mod, e.bs, e.bsz, e.funs, e.frf, e.hok, e.bare⟩
section
variable {X : Cx} {pins : List (Addr × Obj)} {σ : St} {H : Hp} {s s' : Shared}
theorem Inv.env0 (I : Inv X pins σ H s) : Env0 X.prog X.w X.K X.mg X.base X.A X.stack s H :=
  ⟨I.ok.frames, I.ok.mod, I.bs, Nat.le_trans I.ok.bsz I.sz, I.stack, I.stkFree, I.hok, I.bare⟩
theorem Inv.after {Q : VK} {u : Value} (I : Inv X pins σ H s) (h : CE X.stack X.prog X.w H s Q u s') : EP X pins σ Q u s' := by
  obtain ⟨v, H', os, bare, un, hok, r, q⟩ := h
  obtain ⟨hh, g, d, t, os'⟩ := s'
  obtain rfl : os' = s.os := os
  exact ⟨v, H', I.call (h' := hh) (g' := g) (d' := d) (t' := t) (ch := []) un hok bare (fun b z => absurd z (by simp)), r, q⟩
end
def tCall (sp : Sp) (dvs : List V) (E : XK) (t : TA) : TE := fun σ H Q => t σ H fun vs H1 => sp (vs ++ dvs) H1 Q E
def tMeth (C : Addr) (m : Str) (sp : Sp) (dvs : List V) (E : XK) (ta : TE) (t : TA) : TE := fun σ H Q => ta σ H fun x H1 => ∃ a dx fs, x = .ref a ∧ H1 a = some (.ins C dx fs) ∧ fs.lookup m = none ∧
  t σ H1 fun vs H2 => sp (x :: (vs ++ dvs)) H2 Q E
def tMake (C : Addr) (sp : Sp) (dvs : List V) (E : XK) (t : TA) : TE := fun σ H Q => t σ H fun vs H1 => ∀ x dx, H1 x = none → H1 dx = none → dx ≠ x →
  sp (.ref x :: (vs ++ dvs)) (upd (upd H1 dx (.own x)) x (.ins C dx [])) (fun v H2 => v = .non ∧ Q (.ref x) H2) E
def Binds (K : PySem.W.Frag) (fd : FuncData) (ps : List Str) (ds : List Value) : Prop :=
  ∀ (s : Shared) (us : List Value), K.In s.heap → (us ++ ds).length = ps.length → BindsTo s fd ⟨us, []⟩ (ps.zip (us ++ ds))
theorem Binds.all {K : PySem.W.Frag} {fd : FuncData} {ps : List Str} (h : ∀ us : List Value, us.length = ps.length → bindArgs fd ⟨us, []⟩ = pure (ps.zip us)) : Binds K fd ps [] := fun s us _ hl => by
  rw [List.append_nil] at hl ⊢
  exact .of_eq (h us hl)
def Passes (CX : CXT) (X : Cx) (E : XK) : Prop := ∀ (pins : List (Addr × Obj)) (σ : St) (H : Hp) (s : Shared) (e : Value) (s' : Shared), Inv X pins σ H s → CX X.stack H s E e s' → X.xe e s'
section
variable {X : Cx} {CX : CXT} {k : Nat} {f C : Addr} {fd : FuncData} {ps : List Str} {sp : Sp} {dvs : List V} {ds : List Value} {E : XK} {x m : Str} {p pos apos : Pos} {e o : Expr} {es : List Expr} {ta : TE} {t : TA}
theorem run_fn {pins : List (Addr × Obj)} {σ : St} {H : Hp} {s : Shared} {Q : VK} {us : List Value} {vs : List V} (F : FnOk X.prog X.w X.K X.mg X.base CX k f fd ps sp) (hr : Room k X.A) (hb : Binds X.K fd ps ds) (hd : Vals dvs ds) (hx : Passes CX X E)
    (I : Inv X pins σ H s) (r : Vals vs us) (h : sp (vs ++ dvs) H Q E) : wpAny (model X.prog X.w) X.A (call (.ref f) us) (EP X pins σ Q) X.xe s := by
  have r2 : Vals (vs ++ dvs) (us ++ ds) := r.append hd
  have hl : (us ++ ds).length = ps.length := by rw [← r2.length]; exact F.len _ _ _ _ h
  refine wpAny_call (codeAny_mono (F.run X.A X.stack s H ⟨us, []⟩ (us ++ ds) (vs ++ dvs) Q E hr I.env0 (hb s us I.kIn hl) r2 h) fun r s' hq => ?_)
  cases r with
  | error e => exact hx pins σ H s e s' I hq
  | ok fl =>
    cases fl with
    | ret u => exact I.after hq
    | next => exact False.elim hq
    | brk => exact False.elim hq
    | cont => exact False.elim hq
theorem pe_call (F : FnOk X.prog X.w X.K X.mg X.base CX k f fd ps sp) (hr : Room k X.A) (hg : Gl X x) (hm : X.mg x = some (.ref f)) (hk : PySem.W.keepIn X.K (.ref f) = true) (hb : Binds X.K fd ps ds) (hd : Vals dvs ds) (hx : Passes CX X E)
    (ha : PA X (e :: es) t) (hdb : (x == ("__debug__" : Str)) = false := by decide) (he : starEach (e :: es) X.env = (false, eval e X.env) :: starEach es X.env := by rfl) (hpl : (backTo pos (starEach es X.env)).any (·.1) = false := by rfl) :
    PE X (.Call (.Name x p) (e :: es) [] pos) (tCall sp dvs E t) := by
  intro pins s σ H Q I h
  refine wpAny_Call_Name_kw (ld_glob I hg hm ?_ hdb)
  refine PySem.W.callWith_K (h₀ := X.base) I.ok.mod.kin hk (thn (ha pos pins s σ H _ I h) fun us s1 ⟨vs, H1, I1, r, q⟩ => ⟨I1.kIn, ?_⟩) he hpl
  exact run_fn F hr hb hd hx I1 r q
theorem pe_call0 (F : FnOk X.prog X.w X.K X.mg X.base CX k f fd ps sp) (hr : Room k X.A) (hg : Gl X x) (hm : X.mg x = some (.ref f)) (hk : PySem.W.keepIn X.K (.ref f) = true) (hb : Binds X.K fd ps ds) (hd : Vals dvs ds) (hx : Passes CX X E)
    (hdb : (x == ("__debug__" : Str)) = false := by decide) : PE X (.Call (.Name x p) [] [] pos) (tCall sp dvs E tNil) := by
  intro pins s σ H Q I h
  refine wpAny_Call_Name_kw (ld_glob I hg hm ?_ hdb)
  exact PySem.W.callWith_K0 I.kIn hk (run_fn (us := []) F hr hb hd hx I .nil h)
theorem pe_meth {pl : Sem Bool} (he : PE X o ta) (c : Cls X.K C) (hm : Meth X.K C m f) (F : FnOk X.prog X.w X.K X.mg X.base CX k f fd ps sp) (hr : Room k X.A) (hb : Binds X.K fd ps ds) (hd : Vals dvs ds) (hx : Passes CX X E) (ha : PA X (e :: es) t)
    (hst : starEach (e :: es) X.env = (false, eval e X.env) :: starEach es X.env := by rfl) (hpl : (backTo pos (starEach es X.env)).any (·.1) = false := by rfl)
    (ht : eval (.Call (.Attribute o m apos) (e :: es) [] pos) X.env = (do
      let ov ← eval o X.env
      standAt apos.atName
      let (f, first) ← holding [ov] (getMethod ov m pl)
      callWith pos f first (backTo pos (starEach (e :: es) X.env)) (backToKw pos (keywordEach [] X.env))) := by rfl) :
    PE X (.Call (.Attribute o m apos) (e :: es) [] pos) (tMeth C m sp dvs E ta t) := by
  intro pins s σ H Q I h
  refine PySem.W.methodCall_KW (pl := pl) (thn (he pins s σ H _ I h) fun u s1 ⟨x, H1, I1, rx, a, dx, fs, ex, ea, l, q⟩ => ?_) ht
  subst ex
  obtain rfl : u = Value.ref a := rx
  refine getmeth_ok I1 ea c hm l ?_
  refine PySem.W.callWith_K (first := [.ref a]) (h₀ := X.base) I.ok.mod.kin hm.kp (thn (ha pos pins s1 σ H1 _ I1 q) fun us s2 ⟨vs, H2, I2, r, q2⟩ => ⟨I2.kIn, ?_⟩) hst hpl
  exact run_fn (us := .ref a :: us) (vs := .ref a :: vs) F hr hb hd hx I2 (.cons rfl r) q2
theorem pe_meth0 {pl : Sem Bool} (he : PE X o ta) (c : Cls X.K C) (hm : Meth X.K C m f) (F : FnOk X.prog X.w X.K X.mg X.base CX k f fd ps sp) (hr : Room k X.A) (hb : Binds X.K fd ps ds) (hd : Vals dvs ds) (hx : Passes CX X E)
    (ht : eval (.Call (.Attribute o m apos) [] [] pos) X.env = (do
      let ov ← eval o X.env
      standAt apos.atName
      let (f, first) ← holding [ov] (getMethod ov m pl)
      callWith pos f first (backTo pos (starEach [] X.env)) (backToKw pos (keywordEach [] X.env))) := by rfl) :
    PE X (.Call (.Attribute o m apos) [] [] pos) (tMeth C m sp dvs E ta tNil) := by
  intro pins s σ H Q I h
  refine PySem.W.methodCall_KW (pl := pl) (thn (he pins s σ H _ I h) fun u s1 ⟨x, H1, I1, rx, a, dx, fs, ex, ea, l, q⟩ => ?_) ht
  subst ex
  obtain rfl : u = Value.ref a := rx
  refine getmeth_ok I1 ea c hm l ?_
  exact PySem.W.callWith_K0 (first := [.ref a]) I1.kIn hm.kp (run_fn (us := [.ref a]) (vs := [.ref a]) F hr hb hd hx I1 (.cons rfl .nil) q)
/-- what a class must have to be made -/
structure Mk (K : PySem.W.Frag) (C f : Addr) : Prop where
  makes : PySem.W.makesIn K C = true
  init : PySem.W.findIn K (.ref C) "__init__" = some (some (.ref f))
  fn : PySem.W.isFn K (.ref f) = true
  kp : PySem.W.keepIn K (.ref C) = true
theorem run_make {pins : List (Addr × Obj)} {σ : St} {H : Hp} {s : Shared} {Q : VK} {us : List Value} {vs : List V} (M : Mk X.K C f) (F : FnOk X.prog X.w X.K X.mg X.base CX k f fd ps sp) (hr : Room (k + 1) X.A) (hb : Binds X.K fd ps ds) (hd : Vals dvs ds)
    (hx : Passes CX X E) (I : Inv X pins σ H s) (r : Vals vs us)
    (h : ∀ x dx, H x = none → H dx = none → dx ≠ x → sp (.ref x :: (vs ++ dvs)) (upd (upd H dx (.own x)) x (.ins C dx [])) (fun v H2 => v = .non ∧ Q (.ref x) H2) E) :
    wpAny (model X.prog X.w) X.A (call (.ref C) us) (EP X pins σ Q) X.xe s := by
  have hq := h (s.heap.objs.size + 1) s.heap.objs.size (I.hok.fresh (Nat.le_succ _)) (I.hok.fresh (Nat.le_refl _)) (Nat.ne_of_lt (Nat.lt_succ_self _))
  have I2 := Inv.made (C := C) I
  have r2 : Vals (V.ref (s.heap.objs.size + 1) :: (vs ++ dvs)) (Value.ref (s.heap.objs.size + 1) :: (us ++ ds)) := .cons rfl (r.append hd)
  have hl : (Value.ref (s.heap.objs.size + 1) :: us ++ ds).length = ps.length := by
    have e := r2.length
    rw [F.len _ _ _ _ hq] at e
    exact e.symm
  refine wpAny_call (make_map (f := f) I.kIn M.makes M.init (beq_iff_eq.mp M.fn) (codeAny_mono (F.run _ X.stack _ _ ⟨Value.ref (s.heap.objs.size + 1) :: us, []⟩ (Value.ref (s.heap.objs.size + 1) :: (us ++ ds)) _ _ E (hr.make C us [])
    (I2.env0.make C us []) (hb _ (Value.ref (s.heap.objs.size + 1) :: us) I2.kIn hl) r2 hq) fun r s' hq' => ?_))
  cases r with
  | error e => exact hx pins σ _ _ e s' I2 hq'
  | ok fl =>
    cases fl with
    | ret u =>
      obtain ⟨v, H', I3, rv, ev, q3⟩ := I2.after hq'
      subst ev
      exact ⟨rv, ⟨V.ref (s.heap.objs.size + 1), H', I3, rfl, q3⟩⟩
    | next => exact False.elim hq'
    | brk => exact False.elim hq'
    | cont => exact False.elim hq'
theorem pe_make (M : Mk X.K C f) (F : FnOk X.prog X.w X.K X.mg X.base CX k f fd ps sp) (hr : Room (k + 1) X.A) (hg : Gl X x) (hm : X.mg x = some (.ref C)) (hb : Binds X.K fd ps ds) (hd : Vals dvs ds) (hx : Passes CX X E)
    (ha : PA X (e :: es) t) (hdb : (x == ("__debug__" : Str)) = false := by decide) (he : starEach (e :: es) X.env = (false, eval e X.env) :: starEach es X.env := by rfl) (hpl : (backTo pos (starEach es X.env)).any (·.1) = false := by rfl) :
    PE X (.Call (.Name x p) (e :: es) [] pos) (tMake C sp dvs E t) := by
  intro pins s σ H Q I h
  refine wpAny_Call_Name_kw (ld_glob I hg hm ?_ hdb)
  refine PySem.W.callWith_K (h₀ := X.base) I.ok.mod.kin M.kp (thn (ha pos pins s σ H _ I h) fun us s1 ⟨vs, H1, I1, r, q⟩ => ⟨I1.kIn, ?_⟩) he hpl
  exact run_make M F hr hb hd hx I1 r q
theorem pe_make0 (M : Mk X.K C f) (F : FnOk X.prog X.w X.K X.mg X.base CX k f fd ps sp) (hr : Room (k + 1) X.A) (hg : Gl X x) (hm : X.mg x = some (.ref C)) (hb : Binds X.K fd ps ds) (hd : Vals dvs ds) (hx : Passes CX X E)
    (hdb : (x == ("__debug__" : Str)) = false := by decide) : PE X (.Call (.Name x p) [] [] pos) (tMake C sp dvs E tNil) := by
  intro pins s σ H Q I h
  refine wpAny_Call_Name_kw (ld_glob I hg hm ?_ hdb)
  exact PySem.W.callWith_K0 I.kIn M.kp (run_make (us := []) M F hr hb hd hx I .nil h)
end
def PK (X : Cx) (kws : List Keyword) (t : TA) : Prop :=
  ∀ (pos : Pos) (pins : List (Addr × Obj)) (s : Shared) (σ : St) (H : Hp) (Q : List V → Hp → Prop), Inv X pins σ H s → t σ H Q → wpAny (model X.prog X.w) X.A (evalAll ((backToKw pos (keywordEach kws X.env)).map (·.2))) (AP X pins σ Q) X.xe s
section
variable {X : Cx} {CX : CXT} {k : Nat} {f C : Addr} {fd : FuncData} {ps ks : List Str} {sp : Sp} {E : XK} {x m : Str} {p pos apos kpos : Pos} {e o : Expr} {es : List Expr} {kws : List Keyword} {te ta : TE} {t tk : TA} {nm : Option Str}
theorem pk_nil : PK X [] tNil := fun _ _ _ _ H Q I h => wpAny_evalAll_nil ⟨[], H, I, .nil, h⟩
theorem pk_cons (ha : PE X e te) (hr : PK X kws t) : PK X (⟨nm, e, kpos⟩ :: kws) (tCons te t) := by
  intro pos pins s σ H Q I h
  show wpAny _ _ (evalAll ((do let v ← eval e X.env; standAt pos; pure v) :: (backToKw pos (keywordEach kws X.env)).map (·.2))) _ _ s
  refine wpAny_evalAll_cons (wpAny_bind (thn (ha pins s σ H _ I h) fun u s1 ⟨x, H1, I1, r1, q1⟩ => wpAny_bind (wpAny_standAt (wpAny_pure ?_))))
  exact thn (hr pos pins s1 σ H1 _ I1 q1) fun us s2 ⟨xs, H2, I2, r2, q2⟩ => ⟨x :: xs, H2, I2, .cons r1 r2, q2⟩
/-- how a call with keywords binds: g puts the positional values us and the keywords' values ws (names ks) in the parameters' order, defaults among them -/
structure KBinds (K : PySem.W.Frag) (fd : FuncData) (ps ks : List Str) (g : List Value → List Value → List Value) (gV : List V → List V → List V) : Prop where
  to : ∀ (s : Shared) (us ws : List Value), K.In s.heap → (g us ws).length = ps.length → BindsTo s fd ⟨us, ks.zip ws⟩ (ps.zip (g us ws))
  rel : ∀ {vs : List V} {us : List Value} {zs : List V} {ws : List Value}, Vals vs us → Vals zs ws → Vals (gV vs zs) (g us ws)
variable {g : List Value → List Value → List Value} {gV : List V → List V → List V}
end
/-- names: the parameters first -/
structure FnScope (N P : List Str) (sc : Scope) : Prop where
  kind : sc.kind = .function
  co : sc.isCoroutine = false
  gen : sc.isGenerator = false
  nd : N.Nodup
  pre : N.take P.length = P
  par : ∀ x ∈ P, sc.names.lookup x = some .local ∨ sc.names.lookup x = some .cell
  nofree : ∀ y ∈ sc.names, y.2 ≠ .free
theorem bindL_out {kindOf : Str → Option NameKind} {x : Str} : ∀ {binds : List (Str × Value)} {m : Str → Option Value}, (∀ v, (x, v) ∉ binds) → bindL kindOf binds m x = m x
  | [], _, _ => rfl
  | (n, v) :: r, m, h => by
    unfold bindL
    rw [bindL_out fun w hw => h w (List.mem_cons_of_mem _ hw)]
    split
    · have : x ≠ n := by rintro rfl; exact h v List.mem_cons_self
      simp [this]
    · rfl
theorem bindC_out {kindOf : Str → Option NameKind} {x : Str} : ∀ {binds : List (Str × Value)} {m : Str → Option Value}, (∀ v, (x, v) ∉ binds) → bindC kindOf binds m x = m x
  | [], _, _ => rfl
  | (n, v) :: r, m, h => by
    unfold bindC
    rw [bindC_out fun w hw => h w (List.mem_cons_of_mem _ hw)]
    split
    · rfl
    · have : x ≠ n := by rintro rfl; exact h v List.mem_cons_self
      simp [this]
theorem bindL_get {kindOf : Str → Option NameKind} {x : Str} {v : Value} : ∀ {P : List Str} {vs : List Value} {i : Nat} {m : Str → Option Value}, P.Nodup → P[i]? = some x → vs[i]? = some v → kindOf x = some .local →
    bindL kindOf (P.zip vs) m x = some v
  | [], _, _, _, _, h, _, _ => by simp at h
  | _ :: _, [], _, _, _, _, h, _ => by simp at h
  | p :: P, w :: vs, 0, m, nd, h1, h2, hk => by
    simp at h1 h2; subst h1; subst h2
    show bindL kindOf ((p, w) :: P.zip vs) m p = _
    unfold bindL
    rw [bindL_out fun v hv => (List.nodup_cons.mp nd).1 (List.of_mem_zip hv).1, if_pos hk]
    simp
  | p :: P, w :: vs, i + 1, m, nd, h1, h2, hk => by
    show bindL kindOf ((p, w) :: P.zip vs) m x = _
    unfold bindL
    exact bindL_get (i := i) (List.nodup_cons.mp nd).2 (by simpa using h1) (by simpa using h2) hk
theorem bindC_get {kindOf : Str → Option NameKind} {x : Str} {v : Value} : ∀ {P : List Str} {vs : List Value} {i : Nat} {m : Str → Option Value}, P.Nodup → P[i]? = some x → vs[i]? = some v → kindOf x ≠ some .local →
    bindC kindOf (P.zip vs) m x = some v
  | [], _, _, _, _, h, _, _ => by simp at h
  | _ :: _, [], _, _, _, _, h, _ => by simp at h
  | p :: P, w :: vs, 0, m, nd, h1, h2, hk => by
    simp at h1 h2; subst h1; subst h2
    show bindC kindOf ((p, w) :: P.zip vs) m p = _
    unfold bindC
    rw [bindC_out fun v hv => (List.nodup_cons.mp nd).1 (List.of_mem_zip hv).1, if_neg hk]
    simp
  | p :: P, w :: vs, i + 1, m, nd, h1, h2, hk => by
    show bindC kindOf ((p, w) :: P.zip vs) m x = _
    unfold bindC
    exact bindC_get (i := i) (List.nodup_cons.mp nd).2 (by simpa using h1) (by simpa using h2) hk
def start (N : List Str) (vs : List V) : St := vs.map some ++ List.replicate (N.length - vs.length) none
def cxOf (CX : CXT) (P : Program) (w : World) (K : PySem.W.Frag) (mg : Str → Option Value) (base : Heap) (N : List Str) (qual : Str) (scope : Scope) (f : Addr) (cd : Value) (A : Around) (outer : List Env) (s : Shared) (H : Hp) (E : XK) : Cx where
  prog := P
  w := w
  K := K
  mg := mg
  base := base
  A := A.deeper (envOfC qual scope s.heap.objs.size f cd)
  N := N
  s_0 := s
  H_0 := H
  env := envOfC qual scope s.heap.objs.size f cd
  outer := outer
  stack := envOfC qual scope s.heap.objs.size f cd :: outer
  ex := []
  calm := true
  fn := fun _ => true
  pn := []
  xe := fun e s' => wpAny (model P w) (A.deeper (envOfC qual scope s.heap.objs.size f cd)) (leaving (envOfC qual scope s.heap.objs.size f cd) e) (fun _ s'' => CX outer H s E e s'') (fun e' s'' => CX outer H s E e' s'') s'
theorem cell_has {sc : Scope} {n : Nat} {x : Str} (h : sc.names.lookup x = some .cell) : ∃ c, (cellsFrom n sc.names []).lookup x = some c := by
  have q := PySem.W.cellsFrom_some sc.names n [] (.inl h)
  exact Option.isSome_iff_exists.mp q
theorem inv_start {CX : CXT} {P : Program} {w : World} {K : PySem.W.Frag} {mg : Str → Option Value} {base : Heap} {N ps : List Str} {qual : Str} {scope : Scope} {f : Addr} {cd : Value} {A : Around} {outer : List Env} {s s1 : Shared} {H : Hp} {E : XK} {us : List Value} {vs : List V}
    (S : FnScope N ps scope) (hd : A.handled = none) (e0 : Env0 P w K mg base A outer s H) (hl : vs.length = ps.length) (r : Vals vs us)
    (x : InCallC s s.heap.objs.size (bindL (envOfC qual scope s.heap.objs.size f cd).kindOf (ps.zip us) fun _ => none) (cellsFrom (s.heap.objs.size + 1) scope.names []) (bindC (envOfC qual scope s.heap.objs.size f cd).kindOf (ps.zip us) fun _ => none) s1) :
    Inv (cxOf CX P w K mg base N qual scope f cd A outer s H E) [] (start N vs) H s1 := by
  have hpl : ps.length ≤ N.length := by have := congrArg List.length S.pre; rw [List.length_take] at this; omega
  obtain ⟨h1, tk, rfl, hk⟩ := x.done
  have noA : ∀ b : Addr, b ∉ (cxOf CX P w K mg base N qual scope f cd A outer s H E).ex := fun b z => absurd (show b ∈ ([] : List Addr) from z) (by simp)
  refine ⟨⟨e0.mod, S.kind, rfl, rfl, Nat.le_refl _, fun y z c h1 h2 => ?_, fun y hy => ?_, fun y c _ h => ?_, fun _ => hd, Around.frames_deeper e0.frames, .inr ⟨rfl, rfl⟩, fun b z => absurd z (noA b), e0.bs, e0.bsz, fun b _ _ => noA b, fun b z => absurd z (noA b), e0.funs, e0.frf⟩,
    rfl, e0.bare, Un.kept hk, ⟨_, x.toInCall.ns, fun i y v h1 h2 h3 => ?_⟩, fun y c h => ⟨_, x.cell y c h⟩, e0.hok.fresh (Nat.le_refl _), fun y c h => ?_, fun p hp => absurd (show p ∈ ([] : List (Addr × Obj)) from hp) (by simp), e0.hok.kept hk, ?_⟩
  · exact name_of_addr x.apart (PySem.mem_of_lookup h1) (PySem.mem_of_lookup h2)
  · have hy : scope.names.lookup y = some .cell ∨ scope.names.lookup y = some .free := hy
    rcases hy with hy | hy
    · exact cell_has hy
    · exact absurd rfl (S.nofree _ (PySem.mem_of_lookup hy))
  · exact Nat.le_of_lt (x.above y c (PySem.mem_of_lookup h))
  · have hi : i < vs.length := by
      unfold start at h2
      by_cases hi : i < vs.length
      · exact hi
      · rw [List.getElem?_append_right (by simpa using hi)] at h2
        rw [List.getElem?_replicate] at h2
        split at h2 <;> cases h2
    have ha : vs[i]? = some v := by
      unfold start at h2
      rw [List.getElem?_append_left (by simpa using hi), List.getElem?_map] at h2
      cases e : vs[i]? with
      | none => rw [e] at h2; cases h2
      | some a => rw [e] at h2; cases h2; rfl
    obtain ⟨u, hu, rv⟩ := r.get ha
    have hp : ps[i]? = some y := by
      rw [← S.pre, List.getElem?_take_of_lt (by omega)]; exact h1
    have ndP : ps.Nodup := by rw [← S.pre]; exact S.nd.sublist (List.take_sublist _ _)
    refine ⟨u, rv, ?_⟩
    rcases S.par y (List.mem_of_getElem? hp) with k | k
    · exact .inl ⟨k, bindL_get ndP hp hu k⟩
    · obtain ⟨c, e⟩ := cell_has (n := s.heap.objs.size + 1) k
      refine .inr ⟨.inl k, c, e, ?_⟩
      have q := x.cell y c e
      rw [bindC_get ndP hp hu (by show scope.names.lookup y ≠ _; rw [k]; decide)] at q
      exact q
  · exact e0.hok.fresh (Nat.le_of_lt (x.above y c (PySem.mem_of_lookup h)))
  · unfold start
    show _ = N.length
    rw [List.length_append, List.length_map, List.length_replicate]
    omega
theorem fn_of {CX : CXT} {P : Program} {w : World} {K : PySem.W.Frag} {mg : Str → Option Value} {base : Heap} {k : Nat} {f : Addr} {name qual : Str} {params : Arguments} {body : List Stmt} {scope : Scope} {dV kV doc pm cdv ct oc : Value} {an od : Option Addr}
    {osl : Array (Option Value)} {N ps : List Str} {sp : Sp} (lk : K.lookup f = some ⟨oc, od, .func (PySem.W.fnOf name qual params body scope dV kV doc pm an cdv ct), osl⟩) (hcd : PySem.W.codeIn K cdv qual = true) (S : FnScope N ps scope)
    (len : ∀ vs H Q E, sp vs H Q E → vs.length = ps.length)
    (hbody : ∀ (A : Around) (outer : List Env) (s : Shared) (H : Hp) (vs : List V) (Q : VK) (E : XK), Room k (A.deeper (envOfC qual scope s.heap.objs.size f cdv)) → sp vs H Q E →
      ∃ t, PSs (cxOf CX P w K mg base N qual scope f cdv A outer s H E) body t ∧ t { nx := fun _ H' => Q .non H', rt := Q } (start N vs) H) :
    FnOk P w K mg base CX (k + 1) f (PySem.W.fnOf name qual params body scope dV kV doc pm an cdv ct) ps sp := by
  refine ⟨len, fun A outer s H args us vs Q E hr e0 hb r hsp => ?_⟩
  have hl := len _ _ _ _ hsp
  have KX : K.In s.heap := e0.mod.kin.keeps fun b o e => (e0.bs b o e).1
  have lim : s.heap.NoLimit := e0.mod.nolimit.keeps fun b o e => (e0.bs b o e).1
  have hkind : ∀ y ∈ ps.zip us, scope.names.lookup y.1 = some .local ∨ (scope.names.lookup y.1 = some .cell ∧ ((cellsFrom (s.heap.objs.size + 1) scope.names []).lookup y.1).isSome = true) := fun ⟨n, v⟩ hy => by
    rcases S.par n (List.of_mem_zip hy).1 with q | q
    · exact .inl q
    · exact .inr ⟨q, PySem.W.cellsFrom_some _ _ _ (.inl q)⟩
  refine codeAny_call_function hr.depth (KX _ _ lk) rfl S.co S.gen rfl (PySem.W.codeRec_of KX hcd) (hb _ _ _ _ ?_)
  refine wpAny_newFunctionEnv_cells S.kind hkind fun env he s1 x => ?_
  subst he
  refine ⟨lim.keeps x.toInCall.keep, codeAny_func ?_⟩
  obtain ⟨t, ht, hq⟩ := hbody A outer s H vs Q E (hr.deeper _) hsp
  have I : Inv (cxOf CX P w K mg base N qual scope f cdv A outer s H E) [] (start N vs) H s1 := inv_start S hr.hd e0 hl r x
  refine wpAny_mono (ht [] s1 (start N vs) H _ I hq) (fun fl s' hs => ?_) fun e s' hs => hs
  have fin : ∀ {σ' : St} {H' : Hp} {v : V} {u : Value}, Inv (cxOf CX P w K mg base N qual scope f cdv A outer s H E) [] σ' H' s' → RelV v u → Q v H' → CE outer P w H s Q u s' :=
    fun {σ' H' v u} J rv q => ⟨v, H', J.os, J.bare, J.base, J.hok, rv, q⟩
  cases fl with
  | ret u =>
    obtain ⟨v, σ', H', J, rv, q⟩ := hs
    exact fin J rv q
  | next =>
    obtain ⟨σ', H', J, q⟩ := hs
    exact fin (v := V.non) (u := Value.none) J rfl q
  | brk =>
    obtain ⟨_, _, _, q⟩ := hs
    exact False.elim q
  | cont =>
    obtain ⟨_, _, _, q⟩ := hs
    exact False.elim q
end L2
namespace L2
open PySem PySem.Spec PyProof.Rows
section
variable {X : Cx} {x : Str} {p pos : Pos} {e : Expr} {es : List Expr} {t : TA} {id T : String} {r : List V → Hp → VK → Prop}
def tCB (r : List V → Hp → VK → Prop) (t : TA) : TE := fun σ H Q => t σ H fun vs H1 => r vs H1 Q
theorem pe_callB (hc : CallR X (.builtin id) r) (hg : Gl X x) (hm : X.mg x = none) (hv : bootBuiltins x = some (.builtin id)) (ha : PA X (e :: es) t) (hn : x ≠ "__name__" := by decide) (hdb : (x == ("__debug__" : Str)) = false := by decide)
    (he : starEach (e :: es) X.env = (false, eval e X.env) :: starEach es X.env := by rfl) (hpl : (backTo pos (starEach es X.env)).any (·.1) = false := by rfl) : PE X (.Call (.Name x p) (e :: es) [] pos) (tCB r t) := by
  intro pins s σ H Q I h
  refine wpAny_Call_Name_kw (ld_blt I hg hm hv ?_ hn hdb)
  exact PyProof.Rows.callWith_builtin1 (thn (ha pos pins s σ H _ I h) fun us s1 ⟨vs, H1, I1, r1, q1⟩ => hc pins s1 σ H1 vs us Q I1 r1 q1) he hpl
theorem pe_callTy (hc : CallR X (.type T) r) (hg : Gl X x) (hm : X.mg x = none) (hv : bootBuiltins x = some (.type T)) (ha : PA X (e :: es) t) (hn : x ≠ "__name__" := by decide) (hdb : (x == ("__debug__" : Str)) = false := by decide)
    (he : starEach (e :: es) X.env = (false, eval e X.env) :: starEach es X.env := by rfl) (hpl : (backTo pos (starEach es X.env)).any (·.1) = false := by rfl) : PE X (.Call (.Name x p) (e :: es) [] pos) (tCB r t) := by
  intro pins s σ H Q I h
  refine wpAny_Call_Name_kw (ld_blt I hg hm hv ?_ hn hdb)
  exact PyProof.Rows.callWith_type1 (thn (ha pos pins s σ H _ I h) fun us s1 ⟨vs, H1, I1, r1, q1⟩ => hc pins s1 σ H1 vs us Q I1 r1 q1) he hpl
end
end L2
namespace HT
open PySem PyProof.Rows
section
open PySem.SeqAt
open PySem.AutoSeq1 (wpAny_loadPart')
open PySem.MeetsSeq PySem.MeetsSeq2 PySem.MeetsSeq3
end
section
variable {prog : Program} {w : World} {A : Around} {E : Value → Shared → Prop} {s : Shared}
def sIx (n d : Nat) : Option Int → Nat
  | none => d
  | some v => if v < 0 then (v + (n : Int)).toNat else min v.toNat n
theorem sIx_none (n d : Nat) : sIx n d none = d := rfl
theorem sIx_nat (n d k : Nat) : sIx n d (some (k : Int)) = min k n := by
  show (if (k : Int) < 0 then ((k : Int) + (n : Int)).toNat else min (k : Int).toNat n) = min k n
  rw [if_neg (by omega), Int.toNat_natCast]
end
end HT
namespace L2
open PySem PySem.Spec PyProof.Rows
abbrev TO := St → Hp → (Option Int → Hp → Prop) → Prop
def PO (X : Cx) (e : Option Expr) (t : TO) : Prop :=
  ∀ (pins : List (Addr × Obj)) (s : Shared) (σ : St) (H : Hp) (Q : Option Int → Hp → Prop), Inv X pins σ H s → t σ H Q →
    wpAny (model X.prog X.w) X.A (evalPart e X.env) (fun u s' => ∃ o H', Inv X pins σ H' s' ∧ IsPart u o ∧ Q o H') X.xe s
def tNoPart : TO := fun _ H Q => Q none H
def tPart (t : TE) : TO := fun σ H Q => t σ H fun x H1 => ∃ i, x = .int i ∧ Q (some i) H1
section
variable {X : Cx} {e : Expr} {te : TE} {lo hi : Option Expr} {tl th : TO} {pos p2 : Pos}
theorem po_none : PO X none tNoPart := by
  intro pins s σ H Q I h
  rw [evalPart_none]
  exact wpAny_pure ⟨none, H, I, .none, h⟩
theorem po_some (h : PE X e te) : PO X (some e) (tPart te) := by
  intro pins s σ H Q I hw
  rw [evalPart_some]
  refine thn (h pins s σ H _ I hw) fun u s1 ⟨x, H1, I1, r1, q1⟩ => ?_
  obtain ⟨i, rfl, q⟩ := q1
  obtain ⟨t, rfl⟩ := r1
  exact ⟨some i, H1, I1, .int i t, q⟩
def SlR (X : Cx) (r : V → Option Int → Option Int → Hp → VK → Prop) : Prop :=
  ∀ (pins : List (Addr × Obj)) (s : Shared) (σ : St) (H : Hp) (x : V) (v vl vu : Value) (lo hi : Option Int) (sl : Addr) (Q : VK), Inv X pins σ H s → RelV x v → s.heap.IsSliceOf sl vl vu .none → IsPart vl lo → IsPart vu hi → r x lo hi H Q →
    ∃ T id, typeLookup (.type T) "__getitem__" = pure (some (.builtin id)) ∧ s.TypeIs v T ∧ wpAny (model X.prog X.w) X.A (getItem v (.ref sl)) (EP X pins σ Q) X.xe s
def tSl (r : V → Option Int → Option Int → Hp → VK → Prop) (te : TE) (tl th : TO) : TE := fun σ H Q => te σ H fun x H1 => tl σ H1 fun l H2 => th σ H2 fun u H3 => r x l u H3 Q
theorem pe_slice {r : V → Option Int → Option Int → Hp → VK → Prop} (hr : SlR X r) (he : PE X e te) (hl : PO X lo tl) (hu : PO X hi th) : PE X (.Subscript e (.Slice lo hi none p2) pos) (tSl r te tl th) := by
  intro pins s σ H Q I h
  refine Subscript_ (thn (he pins s σ H _ I h) fun v s1 ⟨x, H1, I1, r1, q1⟩ => ?_)
  refine wpAny_Slice (thn (hl pins s1 σ H1 _ I1 q1) fun vl s2 ⟨l, H2, I2, pl, q2⟩ => thn (hu pins s2 σ H2 _ I2 q2) fun vu s3 ⟨u, H3, I3, pu, q3⟩ => ?_)
  rw [evalPart_none]
  refine wpAny_pure ?_
  have I4 : Inv X pins σ H3 { s3 with heap := s3.heap.push { cls := .type "slice", data := .fields #[vl, vu, .none] } } := I3.kept (t' := s3.toks) fun b ob q => Heap.get?_push_of_some _ q
  obtain ⟨T, id, hT, ht, hg⟩ := hr pins { s3 with heap := s3.heap.push { cls := .type "slice", data := .fields #[vl, vu, .none] } } σ H3 x v vl vu l u s3.heap.objs.size Q I4 r1 (Heap.IsSliceOf.new ..) pl pu q3
  show wpAny (model X.prog X.w) X.A (subscriptTail e (.Slice lo hi none p2) v (.ref s3.heap.objs.size)) (EP X pins σ Q) X.xe { s3 with heap := s3.heap.push { cls := .type "slice", data := .fields #[vl, vu, .none] } }
  exact tail_any (ops := [.ref s3.heap.objs.size, v]) ht hT hg (by with_unfolding_all rfl)
def cutV (xs : List V) (lo hi : Option Int) : List V := (xs.drop (HT.sIx xs.length 0 lo)).take (HT.sIx xs.length xs.length hi - HT.sIx xs.length 0 lo)
theorem cutV_length (xs : List V) (lo hi : Option Int) : (cutV xs lo hi).length ≤ xs.length := by
  unfold cutV
  rw [List.length_take, List.length_drop]
  omega
end
end L2
namespace L2
open PySem PySem.Spec PyProof.Rows
def ixN (n : Nat) (i : Int) : Option Nat := if 0 ≤ i then (if i < n then some i.toNat else none) else if -(n : Int) ≤ i then some (i + n).toNat else none
def atI {α : Type} (xs : List α) (i : Int) : Option α := (ixN xs.length i).bind fun j => xs[j]?
theorem ixN_seq {n : Nat} {i : Int} {j : Nat} (h : ixN n i = some j) : seqIndex? i n = some j ∧ j < n ∧ -(n : Int) ≤ i ∧ i < n := by
  unfold ixN at h
  by_cases h0 : 0 ≤ i
  · rw [if_pos h0] at h
    by_cases h1 : i < n
    · rw [if_pos h1] at h
      have e : i.toNat = j := Option.some.inj h
      exact ⟨by rw [seqIndex_of h0 h1, e], by omega, by omega, h1⟩
    · rw [if_neg h1] at h; cases h
  · rw [if_neg h0] at h
    by_cases h1 : -(n : Int) ≤ i
    · rw [if_pos h1] at h
      have e : (i + n).toNat = j := Option.some.inj h
      exact ⟨by rw [seqIndex_neg (by omega) h1, e], by omega, h1, by omega⟩
    · rw [if_neg h1] at h; cases h
theorem atI_get {α : Type} {xs : List α} {i : Int} {v : α} (h : atI xs i = some v) : ∃ j, seqIndex? i xs.length = some j ∧ xs[j]? = some v ∧ j < xs.length ∧ -(xs.length : Int) ≤ i ∧ i < xs.length := by
  unfold atI at h
  cases e : ixN xs.length i with
  | none => rw [e] at h; cases h
  | some j =>
    rw [e] at h
    obtain ⟨h1, h2, h3, h4⟩ := ixN_seq e
    exact ⟨j, h1, h, h2, h3, h4⟩
theorem atI_nat {α : Type} {xs : List α} {j : Nat} {v : α} (h : xs[j]? = some v) : atI xs (j : Int) = some v := by
  have hj : j < xs.length := (List.getElem?_eq_some_iff.mp h).1
  have e : ixN xs.length (j : Int) = some j := by
    unfold ixN
    rw [if_pos (by omega), if_pos (by omega)]; simp
  unfold atI; rw [e]; exact h
def PlainIx (b : Expr) : Prop := ∀ o i, subscripted b false o i = operate [o, i] (getItem o i)
def IxR (X : Cx) (r : R2) : Prop :=
  ∀ (value slice : Expr) (pins : List (Addr × Obj)) (s : Shared) (σ : St) (H : Hp) (x y : V) (v u : Value) (Q : VK), Inv X pins σ H s → RelV x v → RelV y u → r x y H Q →
    subscripted slice false v u = operate [v, u] (getItem v u) → wpAny (model X.prog X.w) X.A (subscriptTail value slice v u) (EP X pins σ Q) X.xe s
def MtR (X : Cx) (id : String) (r : V → List V → Hp → VK → Prop) : Prop :=
  ∀ (pins : List (Addr × Obj)) (s : Shared) (σ : St) (H : Hp) (x : V) (xs : List V) (v : Value) (us : List Value) (Q : VK), Inv X pins σ H s → RelV x v → Vals xs us → r x xs H Q →
    wpAny (model X.prog X.w) X.A (call (.builtin id) (v :: us)) (EP X pins σ Q) X.xe s
section
variable {X : Cx} {a b : Expr} {ta tb : TE} {pos : Pos}
theorem pe_ix {r : R2} (hr : IxR X r) (ha : PE X a ta) (hb : PE X b tb) (hs : PlainIx b) : PE X (.Subscript a b pos) (tOp r ta tb) := by
  intro pins s σ H Q I h
  exact Subscript_ (binT ha hb I h fun v u s2 x y H2 I2 rx ry q => hr a b pins s2 σ H2 x y v u Q I2 rx ry q (hs _ _))
def rIxL (K : PySem.W.Frag) : R2 := fun x y H Q => ∃ p xs i v, x = .ref p ∧ y = .int i ∧ SqL K H p xs ∧ atI xs i = some v ∧ Q v H
def rIxT (K : PySem.W.Frag) : R2 := fun x y H Q => ∃ p xs i v, x = .ref p ∧ y = .int i ∧ SqT K H p xs ∧ atI xs i = some v ∧ Q v H
theorem ix_list : IxR X (rIxL X.K) := by
  intro value slice pins s σ H x y v u Q I rx ry h hs
  obtain ⟨p, xs, i, z, rfl, rfl, hq, he, q⟩ := h
  cases rx
  obtain ⟨t, rfl⟩ := ry
  obtain ⟨its, r, pl, hz⟩ := I.list hq
  obtain ⟨j, h1, h2, h3, h4, h5⟩ := atI_get he
  obtain ⟨w, ew, rw'⟩ := r.get h2
  have hl := r.length
  have hn := line63
  have fin : EP X pins σ Q w s := ⟨z, H, I, rw', q⟩
  by_cases h0 : 0 ≤ i
  · have hj : i.toNat = j := by
      rw [seqIndex_of h0 h5] at h1
      exact Option.some.inj h1
    exact item_listR pl.isList h0 (by omega) (by rw [hj]; simpa using ew) fin hs
  · have hj : (i + (its.toArray.size : Int)).toNat = j := by
      rw [seqIndex_neg (by omega) h4] at h1
      rw [List.size_toArray, ← hl]
      exact Option.some.inj h1
    exact subscriptTail_builtinR (x := w) pl.isList.typeIs slot_list_getitem.lookup
      (wpAny_getItem_list_neg (Q := fun r s' => r = w ∧ EP X pins σ Q r s') pl.isList (by omega) (by rw [List.size_toArray] <;> omega) (by omega) (by rw [hj]; simpa using ew) ⟨rfl, fin⟩) hs
theorem ix_tup : IxR X (rIxT X.K) := by
  intro value slice pins s σ H x y v u Q I rx ry h hs
  obtain ⟨p, xs, i, z, rfl, rfl, hq, he, q⟩ := h
  cases rx
  obtain ⟨t, rfl⟩ := ry
  obtain ⟨its, r, pl, hz⟩ := I.tuple hq
  obtain ⟨j, h1, h2, h3, h4, h5⟩ := atI_get he
  obtain ⟨w, ew, rw'⟩ := r.get h2
  have hl := r.length
  have hn := line63
  have fin : EP X pins σ Q w s := ⟨z, H, I, rw', q⟩
  exact subscriptTail_builtinR (x := w) pl.typeIs slot_tuple_getitem.lookup
    (getItem_tuple (j := j) (Q := fun r s' => r = w ∧ EP X pins σ Q r s') pl (by omega) (by omega) (by rw [List.size_toArray, ← hl]; exact h1) (by simpa using ew) ⟨rfl, fin⟩) hs
theorem slice_bounds (lo hi : Option Int) (n : Nat) : (sliceBounds lo hi none n).1 = ((HT.sIx n 0 lo : Nat) : Int) ∧ (sliceBounds lo hi none n).2.1 = ((HT.sIx n n hi : Nat) : Int) ∧ (sliceBounds lo hi none n).2.2 = 1 := by
  refine ⟨?_, ?_, rfl⟩
  · cases lo with
    | none => simp [sliceBounds, HT.sIx]
    | some i =>
      simp only [sliceBounds, HT.sIx, Option.getD_none, show (1 : Int) > 0 by decide, if_true]
      by_cases h : i < 0
      · simp only [h, if_true] <;> omega
      · simp only [h, if_false] <;> omega
  · cases hi with
    | none => simp [sliceBounds, HT.sIx]
    | some i =>
      simp only [sliceBounds, HT.sIx, Option.getD_none, show (1 : Int) > 0 by decide, if_true]
      by_cases h : i < 0
      · simp only [h, if_true] <;> omega
      · simp only [h, if_false] <;> omega
theorem slicePick_cut (its : List Value) (lo hi : Option Int) : slicePick its.toArray lo hi none = ((its.drop (HT.sIx its.length 0 lo)).take (HT.sIx its.length its.length hi - HT.sIx its.length 0 lo)).toArray := by
  obtain ⟨h1, h2, h3⟩ := slice_bounds lo hi its.toArray.size
  unfold slicePick
  rw [h1, h2, h3]
  simp only [sliceRange_one, pick_run, List.size_toArray] <;> rfl
def rSlL (K : PySem.W.Frag) : V → Option Int → Option Int → Hp → VK → Prop := fun x lo hi H Q => ∃ a xs, x = .ref a ∧ SqL K H a xs ∧ ∀ p, H p = none → Q (.ref p) (upd H p (.lst (cutV xs lo hi)))
theorem sl_list : SlR X (rSlL X.K) := by
  intro pins s σ H x v vl vu lo hi sl Q I rx hs pl pu h
  obtain ⟨a, xs, rfl, hx, q⟩ := h
  cases rx
  obtain ⟨its, r, ht, hz⟩ := I.list hx
  have hlen := r.length
  refine ⟨"list", _, slot_list_getitem.lookup, ht.isList.typeIs, ?_⟩
  refine wpAny_getItem_list_slice ht.isList hs pl pu .none (by simp) ?_ (by rw [List.size_toArray] <;> omega)
  rw [slicePick_cut, ← hlen]
  refine ⟨.ref s.heap.objs.size, _, I.laid (t' := s.toks) (o := .lst (cutV xs lo hi)) (fun b ob q => Heap.get?_push_of_some _ q) (Nat.le_refl _) ?_, rfl, q _ (I.hok.fresh (Nat.le_refl _))⟩
  exact ⟨Nat.le_trans (cutV_length xs lo hi) hz, _, 0, (r.drop (HT.sIx xs.length 0 lo)).take (HT.sIx xs.length xs.length hi - HT.sIx xs.length 0 lo), Heap.get?_push_size _ rfl⟩
theorem call_len_seq : CallR X (.builtin "len") (fun xs H Q => ∃ p ys, xs = [.ref p] ∧ (SqL X.K H p ys ∨ SqT X.K H p ys) ∧ Q (.int ys.length) H) := by
  intro pins s σ H xs us Q I r h
  obtain ⟨p, ys, rfl, hq, q⟩ := h
  obtain ⟨u, rfl, rx⟩ := vals1 r
  cases rx
  have hn := line63
  rcases hq with hq | hq
  · obtain ⟨its, r', pl, hz⟩ := I.list hq
    have hlen := r'.length
    exact Calls.call_len_list pl.isList (by simp only [List.size_toArray] <;> omega) ⟨.int ys.length, H, I.tok _, ⟨s.toks + 1, by rw [List.size_toArray, hlen]⟩, q⟩
  · obtain ⟨its, r', pl, hz⟩ := I.tuple hq
    have hlen := r'.length
    exact len_tuple pl (by simp only [List.size_toArray] <;> omega) ⟨.int ys.length, H, I.tok _, ⟨s.toks + 1, by rw [List.size_toArray, hlen]⟩, q⟩
def tyV (K : PySem.W.Frag) (T : String) (x : V) (H : Hp) : Prop := match x with
  | .str _ => T = "str"
  | .int _ => T = "int"
  | .ref p => (T = "list" ∧ ∃ xs, SqL K H p xs) ∨ (T = "tuple" ∧ ∃ o, K.lookup p = some o ∧ o.cls = .type "tuple" ∧ o.dict = none) ∨
      (T = "dict" ∧ ((∃ kvs, H p = some (.dK kvs)) ∨ ∃ kvs, H p = some (.dT kvs))) ∨ (T = "set" ∧ ∃ S n, H p = some (.set S n))
  | _ => False
theorem tyV_is {pins : List (Addr × Obj)} {σ : St} {H : Hp} {s : Shared} {T : String} {x : V} {v : Value} (I : Inv X pins σ H s) (r : RelV x v) (ty : tyV X.K T x H) :
    s.TypeIs v T ∧ ∀ a, v = .ref a → ∃ ob, s.heap.get? a = some ob ∧ ob.dict = none := by
  cases x with
  | str z =>
    obtain ⟨t, rfl⟩ := r
    cases (show T = "str" from ty)
    exact ⟨typeIs_str s z t, fun _ e => nomatch e⟩
  | int i =>
    obtain ⟨t, rfl⟩ := r
    cases (show T = "int" from ty)
    exact ⟨typeIs_int s i t, fun _ e => nomatch e⟩
  | ref p =>
    cases r
    rcases ty with ⟨rfl, xs, hq⟩ | ⟨rfl, o, hk, hc, hd⟩ | ⟨rfl, hk⟩ | ⟨rfl, S, n, hk⟩
    · obtain ⟨its, _, pl, _⟩ := I.list hq
      refine ⟨pl.isList.typeIs, fun a e => ?_⟩
      cases e
      obtain ⟨o, n, e, c, hd, _⟩ := pl
      exact ⟨o, e, hd⟩
    · refine ⟨⟨o, I.kIn p o hk, hc⟩, fun a e => ?_⟩
      cases e
      exact ⟨o, I.kIn _ o hk, hd⟩
    · have z : ∃ o, s.heap.get? p = some o ∧ o.ExactDict := by
        rcases hk with ⟨kvs, hk⟩ | ⟨kvs, hk⟩
        · obtain ⟨_, _, _, _, o, _, _, e, ex, _⟩ := I.hok p _ hk
          exact ⟨o, e, ex⟩
        · obtain ⟨_, _, _, _, o, _, _, e, ex, _⟩ := I.hok p _ hk
          exact ⟨o, e, ex⟩
      obtain ⟨o, e, ex⟩ := z
      refine ⟨⟨o, e, ex.1⟩, fun a e2 => ?_⟩
      cases e2
      exact ⟨o, e, ex.2.1⟩
    · obtain ⟨o, _, _, _, e, ex, _⟩ := I.hok p _ hk
      refine ⟨⟨o, e, ex.1⟩, fun a e2 => ?_⟩
      cases e2
      exact ⟨o, e, ex.2.1⟩
  | _ => exact False.elim ty
def tBM (K : PySem.W.Frag) (T : String) (r : V → List V → Hp → VK → Prop) (to : TE) (t : TA) : TE := fun σ H Q => to σ H fun x H1 => tyV K T x H1 ∧ t σ H1 fun xs H2 => r x xs H2 Q
variable {o e : Expr} {es : List Expr} {to : TE} {t : TA} {name : Str} {apos cpos : Pos} {T id : String} {r : V → List V → Hp → VK → Prop}
theorem pe_bm (pa : PlainAttrs T) (slot : Slot T name id) (hty : typeOf (.builtin id) = pure (.type "method_descriptor")) (hm : MtR X id r) (ho : PE X o to) (ha : PA X (e :: es) t)
    (hbase : attributeBase o name X.env (eval o X.env) = eval o X.env := by rfl)
    (hfew : ((backTo cpos (starEach (e :: es) X.env)).all (fun x => !x.1) && (backToKw cpos (keywordEach [] X.env)).all (fun x => x.1.isSome)
      && decide ((e :: es).length + ([] : List Keyword).length + (if ([] : List Keyword).isEmpty then 0 else 1) < 30)) = true := by rfl)
    (hline : (apos.endLine == cpos.line) = true := by rfl) (hs : starEach (e :: es) X.env = (false, eval e X.env) :: starEach es X.env := by rfl) (hplain : (backTo cpos (starEach es X.env)).any (·.1) = false := by rfl) :
    PE X (.Call (.Attribute o name apos) (e :: es) [] cpos) (tBM X.K T r to t) := by
  intro pins s σ H Q I h
  refine wpAny_Call_method_late hbase hfew hline rfl (thn (ho pins s σ H _ I h) fun v s1 ⟨x, H1, I1, r1, ty, q1⟩ => ?_)
  obtain ⟨h1, h2⟩ := tyV_is I1 r1 ty
  refine ⟨T, id, pa, slot, hty, h1, h2, ?_⟩
  have hA := ha cpos pins s1 σ H1 _ I1 q1
  rw [hs] at hA ⊢
  refine Calls.callWith_builtin (by show (false || (backTo cpos (starEach es X.env)).any (·.1)) = false; rw [hplain] <;> rfl) (Calls.evalArgs_plain ?_)
  exact thn hA fun us s2 ⟨vs, H2, I2, r2, q2⟩ => hm pins s2 σ H2 x vs v us Q I2 r1 r2 q2
/- xs.append(e), list.index on a module's tuple .. are MtR facts of 06m -/
end
end L2
namespace L2
open PySem PySem.Spec PyProof.Rows
def MtM (X : Cx) (id : String) (r : V → List V → Hp → VK → Prop) : Prop :=
  ∀ (pins : List (Addr × Obj)) (s : Shared) (σ : St) (H : Hp) (x : V) (xs : List V) (v : Value) (us : List Value) (Q : VK), Inv X pins σ H s → RelV x v → Vals xs us → r x xs H Q →
    wpAny (model X.prog X.w) X.A (call (.builtin id) (v :: us)) (EP X pins σ Q) X.xe s
theorem Vals.one : ∀ {x : V} {us : List Value}, Vals [x] us → ∃ u, us = [u] ∧ RelV x u
  | _, _, .cons r .nil => ⟨_, rfl, r⟩
theorem Vals.reverse {xs : List V} {us : List Value} (h : Vals xs us) : Vals xs.reverse us.reverse := by
  induction h with
  | nil => exact .nil
  | cons r t ih => rw [List.reverse_cons, List.reverse_cons]; exact Vals.append ih (.cons r .nil)
theorem Vals.rep {xs : List V} {us : List Value} (h : Vals xs us) : ∀ k : Nat, Vals (List.replicate k xs).flatten (List.replicate k us).flatten
  | 0 => .nil
  | k + 1 => by
    rw [List.replicate_succ, List.replicate_succ, List.flatten_cons, List.flatten_cons]
    exact Vals.append h (Vals.rep h k)
theorem foldl_rep (its : List Value) : ∀ (k : Nat) (acc : List Value),
    List.foldl (fun x1 x2 => x1 ++ x2) acc.toArray (List.replicate k its.toArray) = (acc ++ (List.replicate k its).flatten).toArray
  | 0, acc => by simp
  | k + 1, acc => by
    have e : acc.toArray ++ its.toArray = (acc ++ its).toArray := by simp
    have e2 : (acc ++ its) ++ (List.replicate k its).flatten = acc ++ (List.replicate (k + 1) its).flatten := by
      rw [List.replicate_succ, List.flatten_cons, List.append_assoc]
    rw [← e2, ← foldl_rep its k (acc ++ its), ← e, List.replicate_succ, List.foldl_cons]
section
variable {X : Cx} {pins : List (Addr × Obj)} {σ : St} {H : Hp} {s : Shared} {l b : Addr} {xs ys zs : List V}
theorem Inv.lset {its its' : List Value} {n : Nat} {f : Array Value → Array Value} {t' : Nat} (I : Inv X pins σ H s) (hH : H l = some (.lst xs))
    (e : s.heap.get? l = some { cls := .type "list", data := .seq its.toArray n }) (hf : f its.toArray = its'.toArray) (hv : Vals ys its') (hz : ys.length ≤ sizeLine) :
    Inv X pins σ (upd H l (.lst ys)) { s with heap := s.heap.update l (Obj.mapSeq f), toks := t' } := by
  have q := PySem.IsL.update e f
  rw [hf] at q
  refine I.write (x := l) (e := l) (by rw [hH]; exact trivial) (.inl rfl) (fun b' u hb hu => (Heap.get?_update_other s.heap (Obj.mapSeq f) (Ne.symm hb)).trans hu) ⟨_, q⟩ ?_
  exact ⟨hz, its', _, hv, q⟩
theorem Inv.lnew {its : List Value} {t' : Nat} (I : Inv X pins σ H s) (hv : Vals ys its) (hz : ys.length ≤ sizeLine) :
    Inv X pins σ (upd H s.heap.objs.size (.lst ys)) { s with heap := s.heap.push { cls := .type "list", data := .seq its.toArray }, toks := t' } :=
  I.laid (fun _ _ q => Heap.get?_push_of_some _ q) (Nat.le_refl _) ⟨hz, its, 0, hv, Heap.get?_push_size _ rfl⟩
theorem Inv.fresh (I : Inv X pins σ H s) : H s.heap.objs.size = none := I.hok.fresh (Nat.le_refl _)
theorem Inv.lstM (I : Inv X pins σ H s) (hH : H l = some (.lst xs)) : xs.length ≤ sizeLine ∧ ∃ (its : List Value) (n : Nat), Vals xs its ∧ xs.length = its.length ∧ s.heap.get? l = some { cls := .type "list", data := .seq its.toArray n } := by
  obtain ⟨z, its, n, r, e⟩ := I.hok l _ hH
  exact ⟨z, its, n, r, r.length, e⟩
theorem notLongL {n : Nat} (h : n ≤ sizeLine) : Builtin.List.listTooLong n = false := by
  unfold Builtin.List.listTooLong
  exact decide_eq_false (by omega)
end
section
variable {X : Cx}
def rAppend : V → List V → Hp → VK → Prop := fun x vs H Q => ∃ l xs y, x = .ref l ∧ vs = [y] ∧ H l = some (.lst xs) ∧ xs.length < sizeLine ∧ Q .non (upd H l (.lst (xs ++ [y])))
theorem mt_append : MtM X "list.append" rAppend := by
  intro pins s σ H x vs v us Q I rx rv h
  obtain ⟨l, xs, y, rfl, rfl, hH, hz, q⟩ := h
  cases rx
  obtain ⟨u, rfl, ru⟩ := rv.one
  obtain ⟨z, its, n, r, hl, e⟩ := I.lstM hH
  refine call_meets F.slot_list_append ⟨_, e, rfl⟩ F.entry_list_append (F.args_list_append_2 _ _) (PySem.list_append l its.toArray n u (by rw [List.size_toArray]; omega)) ⟨e, ?_⟩
  refine ⟨.non, _, I.lset (its' := its ++ [u]) hH e (by simp) (r.append (.cons ru .nil)) ?_, rfl, q⟩
  rw [List.length_append, List.length_singleton]
  omega
def rExtend : V → List V → Hp → VK → Prop := fun x vs H Q => ∃ l b xs zs, x = .ref l ∧ vs = [.ref b] ∧ H l = some (.lst xs) ∧ H b = some (.lst zs) ∧ xs.length + zs.length ≤ sizeLine ∧ Q .non (upd H l (.lst (xs ++ zs)))
theorem mt_extend : MtM X "list.extend" rExtend := by
  intro pins s σ H x vs v us Q I rx rv h
  obtain ⟨l, b, xs, zs, rfl, rfl, hH, hB, hz, q⟩ := h
  cases rx
  obtain ⟨u, rfl, ru⟩ := rv.one
  cases ru
  obtain ⟨z, its, n, r, hl, e⟩ := I.lstM hH
  obtain ⟨z2, its2, n2, r2, hl2, e2⟩ := I.lstM hB
  have hsz : its.toArray.size + its2.toArray.size ≤ sizeLine := by rw [List.size_toArray, List.size_toArray]; omega
  have hlong : ¬ (!its.toArray.isEmpty && Builtin.List.listTooLong (its.toArray.size + its2.toArray.size)) = true := by
    rw [notLongL hsz, Bool.and_false]
    exact Bool.false_ne_true
  refine call_meets F.slot_list_extend ⟨_, e, rfl⟩ F.entry_list_extend (F.args_list_extend_2 _ _)
    (AutoSeq1.list_extend_list_list_0 l its.toArray n b its2.toArray n2 hlong (by rw [List.size_toArray]; omega) (by omega)) ⟨e, e2, ?_⟩
  refine ⟨.non, _, I.lset (its' := its ++ its2) hH e (by simp) (r.append r2) ?_, rfl, q⟩
  rw [List.length_append]
  omega
def rCat : R2 := fun x y H Q => ∃ l b xs zs, x = .ref l ∧ y = .ref b ∧ H l = some (.lst xs) ∧ H b = some (.lst zs) ∧ xs.length + zs.length ≤ sizeLine ∧ ∀ p, H p = none → Q (.ref p) (upd H p (.lst (xs ++ zs)))
theorem op_cat : OpR X (binaryOp .Add) rCat := by
  intro pins s σ H x y v u Q I rx ry h
  obtain ⟨l, b, xs, zs, rfl, rfl, hH, hB, hz, q⟩ := h
  cases rx
  cases ry
  obtain ⟨z, its, n, r, hl, e⟩ := I.lstM hH
  obtain ⟨z2, its2, n2, r2, hl2, e2⟩ := I.lstM hB
  refine PySem.P.add_list e e2 ?_ (by rw [List.size_toArray, List.size_toArray]; omega)
  have ea : its.toArray ++ its2.toArray = (its ++ its2).toArray := by simp
  rw [ea]
  exact ⟨.ref _, _, I.lnew (t' := s.toks) (r.append r2) (by rw [List.length_append]; omega), rfl, q _ I.fresh⟩
def rRep : R2 := fun x y H Q => ∃ l k xs, x = .ref l ∧ y = .int k ∧ H l = some (.lst xs) ∧ -(2 ^ 63) ≤ k ∧ k < 2 ^ 63 ∧ xs.length * k.toNat ≤ sizeLine ∧
  ∀ p, H p = none → Q (.ref p) (upd H p (.lst (List.replicate k.toNat xs).flatten))
theorem len_rep {α : Type} (xs : List α) (k : Nat) : (List.replicate k xs).flatten.length = k * xs.length := by
  induction k with
  | zero => simp
  | succ k ih => rw [List.replicate_succ, List.flatten_cons, List.length_append, ih, Nat.succ_mul, Nat.add_comm]
theorem op_rep : OpR X (binaryOp .Mult) rRep := by
  intro pins s σ H x y v u Q I rx ry h
  obtain ⟨l, k, xs, rfl, rfl, hH, h1, h2, hz, q⟩ := h
  cases rx
  obtain ⟨t, rfl⟩ := ry
  obtain ⟨z, its, n, r, hl, e⟩ := I.lstM hH
  have hlen : its.toArray.size * k.toNat ≤ sizeLine := by rw [List.size_toArray, ← hl]; exact hz
  have hcap : ¬ its.toArray.size * k.toNat > (2 ^ 63 - 1) / 8 := by
    have : (sizeLine : Nat) ≤ (2 ^ 63 - 1) / 8 := by decide
    omega
  have hfit : ¬ (!Builtin.List.listFitsIndex k) = true := by
    rw [fitsIndex_both h1 h2]
    exact Bool.false_ne_true
  have hlong : ¬ Builtin.List.listTooLong (its.toArray.size * k.toNat) = true := by
    rw [notLongL hlen]
    exact Bool.false_ne_true
  have hnew : List.foldl (fun x1 x2 => x1 ++ x2) #[] (List.replicate (if its.toArray.isEmpty = true then 0 else k.toNat) its.toArray) = (List.replicate k.toNat its).flatten.toArray := by
    have f0 : ∀ m : Nat, List.foldl (fun x1 x2 => x1 ++ x2) #[] (List.replicate m its.toArray) = (List.replicate m its).flatten.toArray := fun m => by
      have := foldl_rep its m []
      rw [List.nil_append] at this
      exact this
    rw [f0]
    cases its with
    | nil => simp
    | cons a r' => rw [if_neg (by simp)]
  refine wpAny_binaryOp_repeat_ref (T := "list") (U := "int") (by decide) ⟨_, e, rfl⟩ (fun s' => typeIs_int s' k t) noFill_list_mul F.fills_int_mul F.slot_int_rmul repeat_list F.slot_int_index.lookup
    (call_meets F.slot_int_rmul (typeIs_int s k t) F.entry_int_rmul (F.args_int_rmul_2 _ _) (int___rmul___int_list k t l its.toArray n)
      ⟨e, rfl, ⟨_, e, rfl⟩, call_meets F.slot_list_mul ⟨_, e, rfl⟩ F.entry_list_mul (F.args_list_mul_2 _ _) (AutoListH.list___mul___list_int_3 l its.toArray n k t hfit hcap hlong) ⟨e, ?_⟩⟩)
  rw [hnew]
  exact ⟨.ref _, _, I.lnew (t' := s.toks) (r.rep k.toNat) (by rw [len_rep, Nat.mul_comm]; exact hz), rfl, q _ I.fresh⟩
end
section
variable {prog : Program} {w : World} {A : Around} {E : Value → Shared → Prop} {s : Shared}
set_option maxRecDepth 100000 in
end
section
variable {X : Cx}
end
end L2
namespace L2
open PySem PySem.Spec PyProof.Rows
theorem Vals.ints : ∀ {ns : List Int} {us : List Value}, Vals (ns.map V.int) us → IntsAre us ns
  | [], us, h => by
    rw [List.map_nil] at h
    cases h
    exact IntsAre.nil
  | n :: ns, us, h => by
    rw [List.map_cons] at h
    cases h with
    | cons r t =>
      obtain ⟨k, rfl⟩ := r
      exact IntsAre.cons n k (Vals.ints t)
theorem vals_of_ints : ∀ {us : List Value} {ns : List Int}, IntsAre us ns → Vals (ns.map V.int) us
  | _, _, .nil => by rw [List.map_nil]; exact Paired.nil
  | _, _, .cons n t h => by rw [List.map_cons]; exact Paired.cons (show RelV (V.int n) (Value.int n t) from ⟨t, rfl⟩) (vals_of_ints h)
theorem Vals.bls : ∀ {bs : List Bool} {us : List Value}, Vals (bs.map V.bl) us → us = bs.map Value.bool
  | [], us, h => by
    rw [List.map_nil] at h
    cases h
    rfl
  | b :: bs, us, h => by
    rw [List.map_cons] at h
    cases h with
    | cons r t =>
      cases r
      rw [Vals.bls t, List.map_cons]
theorem Vals.ref1 {a : Addr} {us : List Value} (r : Vals [V.ref a] us) : us = [Value.ref a] := by
  cases r with
  | cons r t =>
    cases t
    cases r
    rfl
section
variable {prog : Program} {w : World} {A : Around} {E : Value → Shared → Prop} {s : Shared} {l : Addr} {its : List Value} {ns : List Int} {Q : Value → Shared → Prop}
theorem sum_raw (hh : A.handled = none) (hl : s.heap.IsList l its.toArray) (hi : IntsAre its ns)
    (h : ∀ h' tk t', (∀ b o, s.heap.get? b = some o → h'.get? b = some o) → Q (.int ns.sum t') { s with heap := h', toks := tk }) : wpAny (model prog w) A (call (.builtin "sum") [.ref l]) Q E s := by
  obtain ⟨xs, e⟩ := hi.allInts.items
  have hn : numsOf (intItems xs).toList = ns := by rw [← e]; exact hi.numsOf
  rw [nums_intItems] at hn
  rw [e] at hl
  refine PySem.sum_intListG hh hl fun h' tk t' hk => ?_
  have := h h' tk t' hk
  rw [preSum_eq, List.take_of_length_le (by simp), hn]; exact this
end
section
variable {X : Cx}
def rSum (K : PySem.W.Frag) : List V → Hp → VK → Prop := fun vs H Q => ∃ (a : Addr) (ns : List Int), vs = [V.ref a] ∧ SqL K H a (ns.map V.int) ∧ Q (.int ns.sum) H
theorem cr_sum (hc : X.calm = true) : CallR X (.builtin "sum") (rSum X.K) := by
  intro pins s σ H vs us Q I r h
  obtain ⟨a, ns, rfl, hs, q⟩ := h
  obtain ⟨its, rv, hl, _⟩ := I.list hs
  rw [Vals.ref1 r]
  exact sum_raw (I.ok.hd hc) hl.isList rv.ints fun h' tk t' hk => ⟨.int _, H, I.kept hk, ⟨_, rfl⟩, q⟩
theorem small64 {n : Nat} (h : n < 64) : n ≤ sizeLine := by rw [sizeLine_eq]; omega
end
section
variable {X : Cx}
end
section
variable {X : Cx}
end
theorem iter_any {prog : Program} {w : World} {A : Around} {E : Value → Shared → Prop} {s : Shared} {l : Addr} {items : Array Value} {Q : Value → Shared → Prop} (hl : s.heap.IsList l items)
    (h : ∀ s₂ : Shared, s₂ = { s with heap := s.heap.push { cls := .type "list_iterator", data := .fields #[.ref l, .int 0 0] } } →
      (s₂.heap.IsListIter s.heap.objs.size l 0 ∧ s₂.heap.IsList l items) → l ≠ s.heap.objs.size → Q (.ref s.heap.objs.size) s₂) : wpAny (model prog w) A (pyIter (.ref l)) Q E s := by
  have hlt : l < s.heap.objs.size := by obtain ⟨_, e, _⟩ := hl; exact Heap.lt_size e
  exact wpAny_pyIter_list hl (h _ rfl ⟨⟨_, Heap.get?_push_size _ rfl, rfl, rfl⟩, hl.push _⟩ (Nat.ne_of_lt hlt))
theorem truth_bools {prog : Program} {w : World} {A : Around} {bs : List Bool} {its : List Value} (e : its = bs.map Value.bool) :
    TruthOf prog w A (fun i v => its.toArray[i]? = some v) (fun i => bs.getD i false) := fun i v s Q E hv hq => by
  have hv' : its[i]? = some v := by simpa using hv
  rw [e, List.getElem?_map] at hv'
  obtain ⟨b, hb, rfl⟩ := Option.map_eq_some_iff.mp hv'
  have hg : bs.getD i false = b := by rw [List.getD_eq_getElem?_getD, hb] <;> rfl
  have hq' : Q (bs.getD i false) s := hq
  rw [hg] at hq'
  exact wpAny_truthy_bool hq'
theorem any_range : ∀ bs : List Bool, (List.range bs.length).any (fun i => bs.getD i false) = bs.any id
  | [] => rfl
  | b :: bs => by
    rw [List.length_cons, List.range_succ_eq_map, List.any_cons, List.any_map, List.any_cons, ← any_range bs]
    all_goals rfl
theorem all_range : ∀ bs : List Bool, (List.range bs.length).all (fun i => bs.getD i false) = bs.all id
  | [] => rfl
  | b :: bs => by
    rw [List.length_cons, List.range_succ_eq_map, List.all_cons, List.all_map, List.all_cons, ← all_range bs]
    all_goals rfl
section
variable {X : Cx}
def rAny (K : PySem.W.Frag) : List V → Hp → VK → Prop := fun vs H Q => ∃ (a : Addr) (bs : List Bool), vs = [V.ref a] ∧ SqL K H a (bs.map V.bl) ∧ Q (.bl (bs.any id)) H
def rAll (K : PySem.W.Frag) : List V → Hp → VK → Prop := fun vs H Q => ∃ (a : Addr) (bs : List Bool), vs = [V.ref a] ∧ SqL K H a (bs.map V.bl) ∧ Q (.bl (bs.all id)) H
theorem cr_any (hc : X.calm = true) : CallR X (.builtin "any") (rAny X.K) := by
  intro pins s σ H vs us Q I r h
  obtain ⟨a, bs, rfl, hs, q⟩ := h
  obtain ⟨its, rv, hl, _⟩ := I.list hs
  rw [Vals.ref1 r]
  have hb := rv.bls
  refine call_any_walk (iter_any hl.isList fun s₂ e2 st hne => ?_)
  subst e2
  refine ⟨_, _, _, _, _, _, _, rfl, Walks.list (A := X.A.in1) (I.ok.hd hc) _ a hne its.toArray, st, truth_bools hb, fun h' tk hk => ?_⟩
  refine ⟨.bl _, H, I.kept fun b o eo => hk b o (fun hmem => ?_) (Heap.get?_push_of_some _ eo), ?_, q⟩
  · rcases List.mem_cons.mp hmem with e1 | hmem
    · exact absurd (e1 ▸ Heap.lt_size eo) (Nat.lt_irrefl _)
    · cases hmem
  · show Value.bool _ = Value.bool _
    rw [← any_range, hb, List.size_toArray, List.length_map]
theorem cr_all (hc : X.calm = true) : CallR X (.builtin "all") (rAll X.K) := by
  intro pins s σ H vs us Q I r h
  obtain ⟨a, bs, rfl, hs, q⟩ := h
  obtain ⟨its, rv, hl, _⟩ := I.list hs
  rw [Vals.ref1 r]
  have hb := rv.bls
  refine call_all_walk (iter_any hl.isList fun s₂ e2 st hne => ?_)
  subst e2
  refine ⟨_, _, _, _, _, _, _, rfl, Walks.list (A := X.A.in1) (I.ok.hd hc) _ a hne its.toArray, st, truth_bools hb, fun h' tk hk => ?_⟩
  refine ⟨.bl _, H, I.kept fun b o eo => hk b o (fun hmem => ?_) (Heap.get?_push_of_some _ eo), ?_, q⟩
  · rcases List.mem_cons.mp hmem with e1 | hmem
    · exact absurd (e1 ▸ Heap.lt_size eo) (Nat.lt_irrefl _)
    · cases hmem
  · show Value.bool _ = Value.bool _
    rw [← all_range, hb, List.size_toArray, List.length_map]
end
mutual
inductive Dp (K : PySem.W.Frag) (H : Hp) : V → PyData → Prop
  | non : Dp K H .non .none
  | bl (b : Bool) : Dp K H (.bl b) (.bool b)
  | int (i : Int) : Dp K H (.int i) (.int i)
  | str (x : Str) : Dp K H (.str x) (.str x)
  | lst {a : Addr} {xs : List V} {ds : List PyData} : SqL K H a xs → DpAll K H xs ds → Dp K H (.ref a) (.list ds)
  | tup {a : Addr} {xs : List V} {ds : List PyData} : SqT K H a xs → DpAll K H xs ds → Dp K H (.ref a) (.tuple ds)
inductive DpAll (K : PySem.W.Frag) (H : Hp) : List V → List PyData → Prop
  | nil : DpAll K H [] []
  | cons {v : V} {vs : List V} {d : PyData} {ds : List PyData} : Dp K H v d → DpAll K H vs ds → DpAll K H (v :: vs) (d :: ds)
end
section
variable {X : Cx} {pins : List (Addr × Obj)} {σ : St} {H : Hp} {s : Shared}
end
section
variable {X : Cx}
end
end L2
namespace L2
open PySem PySem.Spec PyProof.Rows
abbrev CellAt (h : Heap) (c : Addr) (v : Option Value) : Prop := h.IsCell c v
def relS (scope sc : Scope) : Scope :=
  { scope with names := scope.names.map fun (n, k) => if (k == .free && sc.kind == .function && sc.names.lookup n == some .cell) then (n, .cell) else (n, k) }
def cloFrom (cells : List (Str × Addr)) : List (Str × NameKind) → List (Str × Addr) → List (Str × Addr)
  | [], acc => acc
  | (n, k) :: r, acc => if k == .free then cloFrom cells r ((n, (cells.lookup n).getD 0) :: acc) else cloFrom cells r acc
theorem closure_loop (env : Env) (f : Str × NameKind → List (Str × Addr) → Sem (ForInStep (List (Str × Addr))))
    (hf : ∀ n k c, f (n, k) c = if k == .free then (do let a ← cellOf env n; pure (.yield ((n, a) :: c))) else pure (.yield c)) :
    ∀ (names : List (Str × NameKind)) (acc : List (Str × Addr)), (∀ y ∈ names, y.2 = .free → ∃ c, env.cells.lookup y.1 = some c) → forIn names acc f = pure (cloFrom env.cells names acc)
  | [], acc, _ => by rw [List.forIn_nil]; rfl
  | (n, k) :: r, acc, h => by
    rw [List.forIn_cons, hf]
    have ih := fun acc => closure_loop env f hf r acc fun y hy => h y (List.mem_cons_of_mem _ hy)
    unfold cloFrom
    by_cases hk : (k == NameKind.free) = true
    · rw [if_pos hk, if_pos hk]
      obtain ⟨c, hc⟩ := h (n, k) List.mem_cons_self (by simpa using hk)
      have e : cellOf env n = pure c := by unfold cellOf; rw [hc]
      rw [e]
      have e2 : (env.cells.lookup n).getD 0 = c := by rw [hc]; rfl
      rw [e2]
      exact ih _
    · rw [if_neg hk, if_neg hk]
      exact ih _
theorem closure_ok {scope : Scope} {env : Env} (h : ∀ y ∈ scope.names, y.2 = .free → ∃ c, env.cells.lookup y.1 = some c) : closureFor scope env = pure (cloFrom env.cells scope.names []) := by
  simp only [closureFor]
  rw [closure_loop env _ (fun n k c => rfl) scope.names [] h]
  rfl
theorem mem_lookup {α : Type} : ∀ {l : List (Str × α)} {n : Str} {c : α}, (n, c) ∈ l → ∃ c', l.lookup n = some c'
  | (k, v) :: r, n, c, h => by
    rw [List.lookup_cons]
    cases hb : n == k with
    | true => exact ⟨_, rfl⟩
    | false =>
      rcases List.mem_cons.mp h with e | h
      · cases e; simp at hb
      · exact mem_lookup h
theorem cloFrom_mem {cells : List (Str × Addr)} : ∀ {names : List (Str × NameKind)} {acc : List (Str × Addr)} {n : Str} {c : Addr}, (n, c) ∈ cloFrom cells names acc → (n, c) ∈ acc ∨ ((n, .free) ∈ names ∧ c = (cells.lookup n).getD 0)
  | [], _, _, _, h => .inl h
  | (m, k) :: r, acc, n, c, h => by
    unfold cloFrom at h
    split at h
    · rename_i hk
      have hk : k = .free := by simpa using hk
      rcases cloFrom_mem h with h | ⟨h1, h2⟩
      · rcases List.mem_cons.mp h with e | h
        · cases e; exact .inr ⟨hk ▸ List.mem_cons_self, rfl⟩
        · exact .inl h
      · exact .inr ⟨List.mem_cons_of_mem _ h1, h2⟩
    · rcases cloFrom_mem h with h | ⟨h1, h2⟩
      · exact .inl h
      · exact .inr ⟨List.mem_cons_of_mem _ h1, h2⟩
theorem cloFrom_acc {cells : List (Str × Addr)} : ∀ {names : List (Str × NameKind)} {acc : List (Str × Addr)} {p : Str × Addr}, p ∈ acc → p ∈ cloFrom cells names acc
  | [], _, _, h => h
  | (m, k) :: r, acc, p, h => by
    unfold cloFrom
    split
    · exact cloFrom_acc (List.mem_cons_of_mem _ h)
    · exact cloFrom_acc h
theorem cloFrom_has {cells : List (Str × Addr)} : ∀ {names : List (Str × NameKind)} {acc : List (Str × Addr)} {n : Str}, (n, .free) ∈ names → (n, (cells.lookup n).getD 0) ∈ cloFrom cells names acc
  | (m, k) :: r, acc, n, h => by
    unfold cloFrom
    rcases List.mem_cons.mp h with e | h
    · cases e
      exact cloFrom_acc List.mem_cons_self
    · split
      · exact cloFrom_has h
      · exact cloFrom_has h
theorem cells_mem : ∀ {names : List (Str × NameKind)} {h : Heap} {acc : List (Str × Addr)} {x : Str} {c : Addr}, (x, c) ∈ cellsFrom h.objs.size names acc →
    (x, c) ∈ acc ∨ ((x, .cell) ∈ names ∧ h.objs.size ≤ c ∧ CellAt (pushCells h names) c none)
  | [], _, _, _, _, h => .inl h
  | (n, k) :: r, h, acc, x, c, hm => by
    unfold cellsFrom at hm
    unfold pushCells
    split at hm
    · rename_i hk
      rw [if_pos hk]
      have hk : k = .cell := by simpa using hk
      rw [← Heap.size_push h { cls := .type "cell", data := .cell none }] at hm
      rcases cells_mem hm with hm | ⟨h1, h2, h3⟩
      · rcases List.mem_cons.mp hm with e | hm
        · cases e
          exact .inr ⟨hk ▸ List.mem_cons_self, Nat.le_refl _, _, pushCells_keeps r _ _ _ (Heap.get?_push_size _ rfl), rfl⟩
        · exact .inl hm
      · rw [Heap.size_push] at h2
        exact .inr ⟨List.mem_cons_of_mem _ h1, Nat.le_of_succ_le h2, h3⟩
    · rename_i hk
      rw [if_neg hk]
      rcases cells_mem hm with hm | ⟨h1, h2, h3⟩
      · exact .inl hm
      · exact .inr ⟨List.mem_cons_of_mem _ h1, h2, h3⟩
theorem cells_acc : ∀ {names : List (Str × NameKind)} {n : Nat} {acc : List (Str × Addr)} {p : Str × Addr}, p ∈ acc → p ∈ cellsFrom n names acc
  | [], _, _, _, h => h
  | (m, k) :: r, n, acc, p, h => by
    unfold cellsFrom
    split
    · exact cells_acc (List.mem_cons_of_mem _ h)
    · exact cells_acc h
theorem cells_has : ∀ {names : List (Str × NameKind)} {n : Nat} {acc : List (Str × Addr)} {x : Str}, (x, .cell) ∈ names → ∃ c, (x, c) ∈ cellsFrom n names acc
  | (m, k) :: r, n, acc, x, h => by
    unfold cellsFrom
    rcases List.mem_cons.mp h with e | h
    · cases e
      exact ⟨n, cells_acc List.mem_cons_self⟩
    · split
      · exact cells_has h
      · exact cells_has h
theorem cells_inj : ∀ {names : List (Str × NameKind)} {h : Heap} {acc : List (Str × Addr)} {x y : Str} {c : Addr}, (∀ p ∈ acc, p.2 < h.objs.size) → (∀ x y c, (x, c) ∈ acc → (y, c) ∈ acc → x = y) →
    (x, c) ∈ cellsFrom h.objs.size names acc → (y, c) ∈ cellsFrom h.objs.size names acc → x = y
  | [], _, _, _, _, _, _, hi, h1, h2 => hi _ _ _ h1 h2
  | (n, k) :: r, h, acc, x, y, c, hl, hi, h1, h2 => by
    unfold cellsFrom at h1 h2
    split at h1
    · rename_i hk
      rw [if_pos hk] at h2
      rw [← Heap.size_push h { cls := .type "cell", data := .cell none }] at h1 h2
      refine cells_inj (h := h.push _) (fun p hp => ?_) (fun x y c a b => ?_) h1 h2
      · rw [Heap.size_push]
        rcases List.mem_cons.mp hp with rfl | hp
        · exact Nat.lt_succ_self _
        · exact Nat.lt_succ_of_lt (hl p hp)
      · rcases List.mem_cons.mp a with e | a <;> rcases List.mem_cons.mp b with e' | b
        · cases e; cases e'; rfl
        · cases e; exact absurd (hl _ b) (Nat.lt_irrefl _)
        · cases e'; exact absurd (hl _ a) (Nat.lt_irrefl _)
        · exact hi _ _ _ a b
    · rename_i hk
      rw [if_neg hk] at h2
      exact cells_inj hl hi h1 h2
theorem newEnv_comp {M : Model} {A : Around} {E : Value → Shared → Prop} {s : Shared} {scope : Scope} {globals : Addr} {closure : List (Str × Addr)} {qual : Str} {func : Option Addr} {code : Value} {around : Env} {builtins : Addr} {Q : Env → Shared → Prop}
    (h : Q (newEnv scope s.heap.objs.size globals (cellsFrom (s.heap.objs.size + 1) scope.names closure) qual func code (some around) builtins)
      { s with heap := pushCells (s.heap.push { cls := .type "dict", data := .dict #[] }) scope.names }) :
    wpAny M A (newFunctionEnv scope globals closure [] qual func code (some around) builtins) Q E s := by
  simp only [newFunctionEnv, Option.isSome_some, if_true]
  refine wpAny_bind (wpAny_alloc ?_)
  refine wpAny_bind (wpAny_layCells _ (fun n k c => rfl) scope.names closure _ _ ?_)
  rw [show ({ s with heap := s.heap.push { cls := .type "dict", data := .dict #[] } } : Shared).heap.objs.size = s.heap.objs.size + 1 from Heap.size_push ..]
  rw [List.forIn_nil]
  exact wpAny_bind (wpAny_pure (wpAny_pure h))
theorem lookup_relS {sc : Scope} : ∀ {names : List (Str × NameKind)} {x : Str} {k : NameKind},
    (names.map fun (n, k) => if (k == NameKind.free && sc.kind == .function && sc.names.lookup n == some .cell) then (n, NameKind.cell) else (n, k)).lookup x = some k →
    ∃ k', names.lookup x = some k' ∧ (k = k' ∨ (k' = .free ∧ k = .cell))
  | [], _, _, h => by simp at h
  | (n, k₀) :: r, x, k, h => by
    have ih := @lookup_relS sc r x k
    have h' : List.lookup x ((if (k₀ == NameKind.free && sc.kind == .function && sc.names.lookup n == some .cell) = true then (n, NameKind.cell) else (n, k₀)) :: (r.map _)) = some k := h
    cases hx : x == n with
    | true =>
      simp only [List.lookup_cons, hx]
      by_cases hc : (k₀ == NameKind.free && sc.kind == .function && sc.names.lookup n == some .cell) = true
      · rw [if_pos hc] at h'
        simp only [List.lookup_cons, hx] at h'
        cases h'
        simp only [Bool.and_eq_true, beq_iff_eq] at hc
        exact ⟨k₀, rfl, .inr ⟨hc.1.1, rfl⟩⟩
      · rw [if_neg hc] at h'
        simp only [List.lookup_cons, hx] at h'
        cases h'
        exact ⟨_, rfl, .inl rfl⟩
    | false =>
      simp only [List.lookup_cons, hx]
      by_cases hc : (k₀ == NameKind.free && sc.kind == .function && sc.names.lookup n == some .cell) = true
      · rw [if_pos hc] at h'
        simp only [List.lookup_cons, hx] at h'
        exact ih h'
      · rw [if_neg hc] at h'
        simp only [List.lookup_cons, hx] at h'
        exact ih h'
/-- the names of a comprehension's block: its own (with their places in N), or captured -/
structure BlkOk (N : List Str) (sc scope : Scope) (own : List (Str × Nat)) : Prop where
  kind : scope.kind = .function
  uniq : ∀ y ∈ scope.names, scope.names.lookup y.1 = some y.2
  ix : ∀ p ∈ own, N[p.2]? = some p.1
  free : ∀ y ∈ scope.names, y.2 = .free → sc.names.lookup y.1 = some .cell ∨ sc.names.lookup y.1 = some .free
  own : ∀ y ∈ scope.names, y.2 = .local ∨ y.2 = .cell → y.1 ∈ own.map (·.1) ∨ y.1 ∉ N
def wipe (σ : St) : List Nat → St
  | [] => σ
  | v :: vs => (wipe σ vs).set v none
theorem wipe_length (σ : St) : ∀ vs : List Nat, (wipe σ vs).length = σ.length
  | [] => rfl
  | v :: vs => by unfold wipe; rw [List.length_set, wipe_length σ vs]
theorem wipe_some {σ : St} {i : Nat} {x : V} : ∀ {vs : List Nat}, (wipe σ vs)[i]? = some (some x) → σ[i]? = some (some x) ∧ i ∉ vs
  | [], h => ⟨h, by simp⟩
  | v :: vs, h => by
    unfold wipe at h
    by_cases hi : v = i
    · subst hi
      by_cases hv : v < (wipe σ vs).length
      · rw [List.getElem?_set_self hv] at h; cases h
      · rw [List.getElem?_eq_none (by simpa using hv)] at h; cases h
    · rw [List.getElem?_set_ne hi] at h
      obtain ⟨h1, h2⟩ := wipe_some h
      exact ⟨h1, by simp only [List.mem_cons, not_or]; exact ⟨fun e => hi e.symm, h2⟩⟩
abbrev Cx.blk (X : Cx) (s : Shared) (H : Hp) (scope : Scope) (cenv : Env) (fp : List Addr) : Cx := { X with s_0 := s, H_0 := H, env := cenv, outer := X.stack, ex := fp, fn := fun x => scope.names.lookup x == some .cell, pn := [], xe := fun _ _ => False }
section
variable {X : Cx} {pins : List (Addr × Obj)} {σ : St} {H : Hp} {s : Shared}
theorem block_start {scope : Scope} {own : List (Str × Nat)} {fp : List Addr} (I : Inv X pins σ H s) (ok : BlkOk X.N X.env.scope scope own) (hN : X.N.Nodup) (hfp : ∀ b ∈ fp, FpOk X pins H b ∧ b < s.heap.objs.size) :
    Inv (X.blk s H scope (compEnvC scope (cellsFrom (s.heap.objs.size + 1) scope.names (cloFrom X.env.cells scope.names [])) s.heap.objs.size X.env) fp) [] (wipe σ (own.map (·.2))) H { s with heap := pushCells (s.heap.push { cls := .type "dict", data := .dict #[] }) scope.names } := by
  have hfree : ∀ y ∈ scope.names, y.2 = .free → ∃ c, X.env.cells.lookup y.1 = some c := fun y hy e => by
    rcases ok.free y hy e with k | k
    · exact I.ok.has _ (.inl k)
    · exact I.ok.has _ (.inr k)
  generalize hcenv : compEnvC scope (cellsFrom (s.heap.objs.size + 1) scope.names (cloFrom X.env.cells scope.names [])) s.heap.objs.size X.env = cenv
  have kp : ∀ b o, s.heap.get? b = some o → (pushCells (s.heap.push { cls := .type "dict", data := .dict #[] }) scope.names).get? b = some o := fun b o e => pushCells_keeps _ _ _ _ (Heap.get?_push_of_some _ e)
  have hL : cenv.locals = s.heap.objs.size := by rw [← hcenv]; rfl
  have hcl : cenv.cells = cellsFrom (s.heap.objs.size + 1) scope.names (cloFrom X.env.cells scope.names []) := by rw [← hcenv]; rfl
  have hsc : cenv.scope = relS scope X.env.scope := by rw [← hcenv]; rfl
  rw [← Heap.size_push s.heap { cls := .type "dict", data := .dict #[] }] at hcl
  have cm : ∀ {y c}, (y, c) ∈ cloFrom X.env.cells scope.names [] → X.env.cells.lookup y = some c ∧ c < s.heap.objs.size := fun {y c} hm => by
    rcases cloFrom_mem hm with hm | ⟨h1, rfl⟩
    · cases hm
    · obtain ⟨c, hc⟩ := hfree _ h1 rfl
      rw [hc]
      obtain ⟨w, z⟩ := I.cell _ _ hc
      exact ⟨rfl, z.lt⟩
  have mem : ∀ {y c}, cenv.cells.lookup y = some c → (X.env.cells.lookup y = some c ∧ c < s.heap.objs.size) ∨ (s.heap.objs.size + 1 ≤ c ∧ CellAt (pushCells (s.heap.push { cls := .type "dict", data := .dict #[] }) scope.names) c none) := fun {y c} e => by
    rw [hcl] at e
    rcases cells_mem (PySem.mem_of_lookup e) with hm | ⟨_, h2, h3⟩
    · exact .inl (cm hm)
    · rw [Heap.size_push] at h2; exact .inr ⟨h2, h3⟩
  have look : ∀ {y}, scope.names.lookup y = some .free → ∃ c, cenv.cells.lookup y = some c ∧ X.env.cells.lookup y = some c := fun {y} hl => by
    have hy : (y, NameKind.free) ∈ scope.names := PySem.mem_of_lookup hl
    obtain ⟨c', e'⟩ := mem_lookup (cells_acc (names := scope.names) (n := (s.heap.push { cls := .type "dict", data := .dict #[] }).objs.size) (cloFrom_has (cells := X.env.cells) (acc := []) hy))
    rw [← hcl] at e'
    refine ⟨c', e', ?_⟩
    rw [hcl] at e'
    rcases cells_mem (PySem.mem_of_lookup e') with hm | ⟨h1, _, _⟩
    · exact (cm hm).1
    · have := ok.uniq _ h1
      rw [hl] at this; cases this
  have okB : (X.blk s H scope cenv fp).Ok := by
    refine ⟨I.ok.mod, by show cenv.scope.kind = _; rw [hsc]; exact ok.kind, by show cenv.globals = _; rw [← hcenv]; exact I.ok.glob, by show cenv.builtins = _; rw [← hcenv]; exact I.ok.blt, by show s.heap.objs.size ≤ cenv.locals; rw [hL]; exact Nat.le_refl _,
      fun y z c e1 e2 => ?_, fun y hy => ?_, fun y c z e => ?_, I.ok.hd, I.ok.frames, .inl rfl, fun b hb => ⟨?_, fun y c e z => ?_⟩, I.bs, Nat.le_trans I.ok.bsz I.sz, fun b o e hb => ?_, fun b hb z => ?_, I.stack, I.stkFree⟩
    · have e1 : cenv.cells.lookup y = some c := e1
      have e2 : cenv.cells.lookup z = some c := e2
      rw [hcl] at e1 e2
      refine cells_inj (fun p hp => ?_) (fun y z c a b => I.ok.inj y z c (cm a).1 (cm b).1) (PySem.mem_of_lookup e1) (PySem.mem_of_lookup e2)
      rw [Heap.size_push]
      exact Nat.lt_succ_of_lt (cm (y := p.1) (c := p.2) hp).2
    · show ∃ c, cenv.cells.lookup y = some c
      have key : ∀ k, cenv.kindOf y = some k → (k = .cell ∨ k = .free) → ∃ c, cenv.cells.lookup y = some c := fun k hk hk' => by
        unfold Env.kindOf at hk
        rw [hsc] at hk
        obtain ⟨k', e, r⟩ := lookup_relS hk
        have : k' = .cell ∨ k' = .free := by
          rcases r with rfl | ⟨rfl, _⟩
          · exact hk'
          · exact .inr rfl
        rcases this with rfl | rfl
        · obtain ⟨c, hm⟩ := cells_has (n := (s.heap.push { cls := .type "dict", data := .dict #[] }).objs.size) (acc := cloFrom X.env.cells scope.names []) (PySem.mem_of_lookup e)
          obtain ⟨c', e'⟩ := mem_lookup hm
          exact ⟨c', by rw [hcl]; exact e'⟩
        · obtain ⟨c, h1, _⟩ := look e
          exact ⟨c, h1⟩
      rcases hy with hy | hy
      · exact key _ hy (.inl rfl)
      · exact key _ hy (.inr rfl)
    · have z : (scope.names.lookup y == some NameKind.cell) = true := z
      have z : scope.names.lookup y = some .cell := by simpa using z
      have e : cenv.cells.lookup y = some c := e
      rw [hcl] at e
      rcases cells_mem (PySem.mem_of_lookup e) with hm | ⟨_, h2, _⟩
      · rcases cloFrom_mem hm with hm | ⟨h1, _⟩
        · cases hm
        · have q := ok.uniq _ h1
          rw [z] at q; cases q
      · rw [Heap.size_push] at h2
        exact Nat.le_of_succ_le h2
    · show b ≠ cenv.locals
      rw [hL]; exact Nat.ne_of_lt (hfp b hb).2
    · have e : cenv.cells.lookup y = some c := e
      rcases mem e with ⟨h1, _⟩ | ⟨h1, _⟩
      · exact (hfp b hb).1.2.2.2.2.1 y c h1 z
      · have h2 : s.heap.objs.size + 1 ≤ b := by rw [← z]; exact h1
        exact absurd (Nat.lt_of_lt_of_le (hfp b hb).2 (Nat.le_of_succ_le h2)) (Nat.lt_irrefl _)
    · rcases (hfp b hb).1.2.2.2.1 with z | z
      · exact I.ok.noex b o e z
      · exact absurd (Nat.lt_of_lt_of_le (Heap.lt_size e) (Nat.le_trans I.ok.bsz z)) (Nat.lt_irrefl _)
    · rcases List.mem_cons.mp (I.stkSub b z) with z | z
      · exact (hfp b hb).1.2.1 z
      · exact (hfp b hb).1.2.2.1 z
  refine ⟨okB, rfl, I.bare, Un.kept kp, ⟨fun _ => none, ?_, fun i y av e1 e2 e3 => ?_⟩, fun y c e => ?_, ?_, fun y c e => ?_, fun p hp => ?_, I.hok.kept kp, by rw [wipe_length]; exact I.len⟩
  · show Heap.Ns _ cenv.locals _
    rw [hL]
    exact Heap.Ns.keeps (Heap.Ns.new ..) fun b o e => pushCells_keeps _ _ _ _ e
  · obtain ⟨e2, hne⟩ := wipe_some e2
    have hfr : scope.names.lookup y = some .free ∧ (cenv.kindOf y = some .cell ∨ cenv.kindOf y = some .free) := by
      have key : ∀ k, cenv.scope.names.lookup y = some k → k = .local ∨ k = .cell ∨ k = .free → scope.names.lookup y = some .free ∧ (cenv.kindOf y = some .cell ∨ cenv.kindOf y = some .free) := fun k hk hk' => by
        have hk0 := hk
        rw [hsc] at hk
        obtain ⟨k', e, r⟩ := lookup_relS hk
        have no : ¬ (k' = .local ∨ k' = .cell) := fun hh => by
          rcases ok.own _ (PySem.mem_of_lookup e) hh with e' | e'
          · obtain ⟨p, hp, hpy⟩ := List.mem_map.mp e'
            have e3 := ok.ix p hp
            have : p.1 = y := hpy
            rw [this] at e3
            exact hne (List.mem_map.mpr ⟨p, hp, nodup_ix hN e3 e1⟩)
          · exact e' (List.mem_of_getElem? e1)
        rcases r with rfl | ⟨rfl, rfl⟩
        · rcases hk' with rfl | rfl | rfl
          · exact absurd (.inl rfl) no
          · exact absurd (.inr rfl) no
          · exact ⟨e, .inr hk0⟩
        · exact ⟨e, .inl hk0⟩
      have e3 : Vis cenv.scope y := e3
      rcases e3 with e3 | e3 | e3
      · exact key _ e3 (.inl rfl)
      · exact key _ e3 (.inr (.inl rfl))
      · exact key _ e3 (.inr (.inr rfl))
    obtain ⟨m, hn, hl⟩ := I.loc
    have hvis : Vis X.env.scope y := (ok.free _ (PySem.mem_of_lookup hfr.1) rfl).elim (fun k => .inr (.inl k)) (fun k => .inr (.inr k))
    obtain ⟨w, r, q⟩ := hl i y av e1 e2 hvis
    refine ⟨w, r, .inr ⟨hfr.2, ?_⟩⟩
    obtain ⟨c, h1, h2⟩ := look hfr.1
    rcases q with ⟨k, _⟩ | ⟨_, c', e', z⟩
    · have k : X.env.scope.names.lookup y = some .local := k
      rcases ok.free _ (PySem.mem_of_lookup hfr.1) rfl with k' | k' <;> rw [show X.env.scope.names.lookup y = _ from k'] at k <;> cases k
    · rw [h2] at e'; cases e'
      exact ⟨c, h1, z.keeps kp⟩
  · have e : cenv.cells.lookup y = some c := e
    rcases mem e with ⟨h1, _⟩ | ⟨_, z⟩
    · obtain ⟨w, z⟩ := I.cell y c h1
      exact ⟨w, z.keeps kp⟩
    · exact ⟨_, z⟩
  · show H cenv.locals = none
    rw [hL]; exact I.hok.fresh (Nat.le_refl _)
  · have e : cenv.cells.lookup y = some c := e
    rcases mem e with ⟨h1, _⟩ | ⟨h1, _⟩
    · exact I.freeC y c h1
    · exact I.hok.fresh (Nat.le_of_succ_le h1)
  · exact absurd (show p ∈ ([] : List (Addr × Obj)) ++ [] from hp) (by simp)
theorem app_ok {E : Value → Shared → Prop} {D : Addr} {xs : List V} {y : V} {v : Value} {Q : Value → Shared → Prop} (I : Inv X pins σ H s) (hD : H D = some (.lst xs)) (hz : xs.length < sizeLine) (r : RelV y v)
    (h : ∀ s', Inv X pins σ (upd H D (.lst (xs ++ [y]))) s' → Q .none s') : wpAny (model X.prog X.w) X.A (call (.builtin "list.append") [.ref D, v]) Q E s := by
  obtain ⟨hz', its, n, ri, e⟩ := I.hok D _ hD
  have hl := ri.length
  refine append_at (hsz := by rw [List.size_toArray]; omega) e fun h' sb ho' => ?_
  refine h { s with heap := h' } (I.write (t' := s.toks) (by rw [hD]; trivial) (.inl rfl) (fun b u hb q => (sb.2 b hb).trans q) ⟨_, ho'⟩ ⟨by rw [List.length_append]; exact hz, its ++ [v], n + 1, ri.append (.cons r .nil), ?_⟩)
  rw [ho']
  simp
def PTs (X : Cx) (ifs : List Expr) (t : TT) : Prop :=
  ∀ (pins : List (Addr × Obj)) (s : Shared) (σ : St) (H : Hp) (Q : Bool → Hp → Prop), Inv X pins σ H s → t σ H Q →
    wpAny (model X.prog X.w) X.A (forIn ifs true fun c r => if r = true then do let ok ← isTrue c X.env (eval c X.env); pure (ForInStep.yield ok) else pure (ForInStep.yield r)) (TP X pins σ Q) X.xe s
def tYes : TT := fun _ H Q => Q true H
theorem pts_nil : PTs X [] tYes := fun _ _ _ H _ I h => wpAny_tests_nil ⟨H, I, h⟩
theorem pts_one {c : Expr} {t : TT} (h : PT X c t) : PTs X [c] t := fun pins s σ H Q I hw => wpAny_tests_one (h pins s σ H Q I hw)
end
theorem thnF {α : Type} {t : Sem α} {Q Q' : α → Shared → Prop} {M : Model} {A : Around} {E : Value → Shared → Prop} {s : Shared} (h : wpAny M A t Q (fun _ _ => False) s) (hQ : ∀ a s, Q a s → Q' a s) : wpAny M A t Q' E s := wpAny_mono h hQ fun _ _ z => False.elim z
theorem compLoop_any {prog : Program} {w : World} {A : Around} {R : Result → Shared → Prop} {s : Shared} {elt target iter : Expr} {ifs : List Expr} {scope : Scope} {pos : Pos} {it acc : Value} {env : Env} (I : Nat → Shared → Prop)
    (turn : ∀ n s, I n s → wpAny (model prog w) A (pyNext it) (fun r s₁ => match r with
      | none => R (.ok .next) s₁
      | some v => wpAny (model prog w) A (letOwnedTupleGo target it v) (fun _ s₁' => wpAny (model prog w) A (assign target env v) (fun _ s₂ =>
          wpAny (model prog w) A (forIn ifs true fun c r => if r = true then do let ok ← isTrue c env (eval c env); pure (ForInStep.yield ok) else pure (ForInStep.yield r)) (fun ok s₃ =>
            if ok = true then wpAny (model prog w) A (eval elt env) (fun x s₄ =>
              wpAny (model prog w) A (call (.builtin "list.append") [acc, x]) (fun _ s₅ => ∃ m, m < n ∧ I m s₅) (notedBy (model prog w) A env fun e s' => R (.error e) s') s₄) (notedBy (model prog w) A env fun e s' => R (.error e) s') s₃
            else ∃ m, m < n ∧ I m s₃) (notedBy (model prog w) A env fun e s' => R (.error e) s') s₂) (notedBy (model prog w) A env fun e s' => R (.error e) s') s₁') (notedBy (model prog w) A env fun e s' => R (.error e) s') s₁) (notedBy (model prog w) A env fun e s' => R (.error e) s') s)
    (n : Nat) (h : I n s) :
    codeAny (model prog w) A (.compLoop (.ListComp elt [⟨target, iter, ifs, 0⟩] scope pos) 0 it acc env) R s := by
  refine codeAny_loop rfl I (fun n s hI => ?_) n h
  show wpAny _ A ((compTurn (.ListComp elt [⟨target, iter, ifs, 0⟩] scope pos) 0 it acc env).onRaise (fun x => do noteFrame x env; theTreesLotGoes x)) _ _ s
  refine wpAny_noted ?_
  rw [compTurn_list]
  refine wpAny_bind (wpAny_standAt (wpAny_bind (wpAny_mono (turn n s hI) (fun r s₁ h₁ => ?_) fun _ _ h' => h')))
  cases r with
  | none => exact wpAny_pure h₁
  | some v =>
    refine wpAny_bind (wpAny_mono h₁ (fun _ s₁' h₁' => ?_) fun _ _ h' => h')
    refine wpAny_bind (wpAny_mono h₁' (fun _ s₂ h₂ => wpAny_bind (wpAny_mono h₂ (fun ok s₃ h₃ => ?_) fun _ _ h' => h')) fun _ _ h' => h')
    cases ok with
    | false => exact wpAny_pure ⟨rfl, h₃⟩
    | true =>
      exact wpAny_bind (wpAny_bind (wpAny_mono h₃ (fun x s₄ h₄ => wpAny_bind (wpAny_mono h₄ (fun _ s₅ h₅ => wpAny_pure (wpAny_pure ⟨rfl, h₅⟩)) fun _ _ h' => h')) fun _ _ h' => h'))
section
variable {X : Cx}
def tLc (wi : TI) (g : TG) (tt : TT) (te : TE) (vs : List Nat) : TE := fun σ H Q => wi σ H fun J H1 => ∀ D, H1 D = none → ∃ W : Nat → Nat → Hp → Prop, (∃ m, W 0 m (upd H1 D (.lst []))) ∧ ∀ i m H, W i m H →
  (J.stop i H ∧ Q (.ref D) H) ∨ (J.go i H ∧ ∃ Nx : Hp → Prop, (∀ H', Nx H' → ∃ m', m' < m ∧ W (i + 1) m' H') ∧ ∀ x H', J.yld i H x H' → g x (wipe σ vs) H' fun σ2 H2 => wipe σ2 vs = wipe σ vs ∧ tt σ2 H2 fun b H3 =>
    if b = true then te σ2 H3 fun y H4 => ∃ acc, H4 D = some (.lst acc) ∧ acc.length < sizeLine ∧ Nx (upd H4 D (.lst (acc ++ [y]))) else Nx H3)
theorem lc_core {pins : List (Addr × Obj)} {s : Shared} {σ : St} {H : Hp} {Q : VK} {elt tg iter : Expr} {ifs : List Expr} {scope : Scope} {own : List (Str × Nat)} {pos pos' : Pos} {wi : TI} {g : TG} {tt : TT} {te : TE} {use : Option (Value → Sem Unit)} {Qf : Value → Shared → Prop}
    (hc : X.calm = true) (hN : X.N.Nodup) (I : Inv X pins σ H s) (hi : PI X tg iter wi) (ok : BlkOk X.N X.env.scope scope own)
    (hg : ∀ (s : Shared) (H : Hp) (C : Addr) (cl : List (Str × Addr)) (fp : List Addr), PG (X.blk s H scope (compEnvC scope cl C X.env) fp) tg g) (ht : ∀ (s : Shared) (H : Hp) (C : Addr) (cl : List (Str × Addr)) (fp : List Addr), PTs (X.blk s H scope (compEnvC scope cl C X.env) fp) ifs tt)
    (he : ∀ (s : Shared) (H : Hp) (C : Addr) (cl : List (Str × Addr)) (fp : List Addr), PE (X.blk s H scope (compEnvC scope cl C X.env) fp) elt te) (hs : ∀ x, foldedSetIterable iter X.env x = pure x)
    (h : tLc wi g tt te (own.map (·.2)) σ H Q)
    (hRR : ∀ D C s' m H', Inv X pins σ H' s' → Q (.ref D) H' → s'.heap.Ns C m → FpOk X pins H' C → compPost (model X.prog X.w) X.A X.xe use Qf (.ref D) C (.ok .next) s') :
    wpAny (model X.prog X.w) X.A (comprehension (.ListComp elt [⟨tg, iter, ifs, 0⟩] scope pos) scope X.env pos' (newList []) false (eval iter X.env) use) Qf X.xe s := by
  have hfree : ∀ y ∈ scope.names, y.2 = .free → ∃ c, X.env.cells.lookup y.1 = some c := fun y hy e => by
    rcases ok.free y hy e with k | k
    · exact I.ok.has _ (.inl k)
    · exact I.ok.has _ (.inr k)
  refine wpAny_comprehension_free (use := use) rfl hs (closure_ok hfree) ok.kind (fun y hy e => by rw [ok.uniq y hy, e])
    (thn (hi pins s σ H _ I h) fun xv s1 hx => thn hx fun itv s2 h2 => ?_)
  obtain ⟨it, fp, tn, J, H2, e, I2, T, st2, f2, q⟩ := h2
  subst e
  refine wpAny_newObj_type (newEnv_comp ?_) (by show 0 ≤ sizeLine; decide)
  generalize hD : s2.heap.objs.size = D
  have hDn : H2 D = none := I2.hok.fresh (Nat.le_of_eq hD)
  obtain ⟨W, ⟨m0, w0⟩, turn⟩ := q D hDn
  -- the new list
  generalize hs3 : ({ s2 with heap := s2.heap.push { cls := .type "list", data := .seq ([] : List Value).toArray } } : Shared) = s3
  have I3 : Inv X pins σ (upd H2 D (.lst [])) s3 := by
    rw [← hs3]
    refine I2.laid (t' := s2.toks) (fun b o e => Heap.get?_push_of_some _ e) (Nat.le_of_eq hD) ⟨Nat.zero_le _, [], 0, .nil, ?_⟩
    rw [← hD]
    exact Heap.get?_push_size _ rfl
  have h3 : s3.heap = s2.heap.push { cls := .type "list", data := .seq ([] : List Value).toArray } := by rw [← hs3]
  have sz : ∀ b ∈ fp, b < s2.heap.objs.size := fun b hb => by
    obtain ⟨o, e, _⟩ := T.obj _ _ st2 b hb
    exact Heap.lt_size e
  have f3 : ∀ b ∈ fp, FpOk X pins (upd H2 D (.lst [])) b ∧ b < s3.heap.objs.size := fun b hb => by
    have hlt := sz b hb
    refine ⟨⟨?_, (f2 b hb).2⟩, by rw [h3, Heap.size_push]; exact Nat.lt_succ_of_lt hlt⟩
    rw [upd_ne (by rw [← hD]; exact Nat.ne_of_lt hlt)]
    exact (f2 b hb).1
  have st3 : tn 0 s3.heap := T.keep _ _ _ st2 fun b _ o e => by rw [h3]; exact Heap.get?_push_of_some _ e
  have I4 := block_start I3 ok hN f3
  have pg := hg s3 (upd H2 D (.lst [])) s3.heap.objs.size (cellsFrom (s3.heap.objs.size + 1) scope.names (cloFrom X.env.cells scope.names [])) fp
  have pt := ht s3 (upd H2 D (.lst [])) s3.heap.objs.size (cellsFrom (s3.heap.objs.size + 1) scope.names (cloFrom X.env.cells scope.names [])) fp
  have pe := he s3 (upd H2 D (.lst [])) s3.heap.objs.size (cellsFrom (s3.heap.objs.size + 1) scope.names (cloFrom X.env.cells scope.names [])) fp
  show codeAny _ _ (.compStart (.ListComp elt [⟨tg, iter, ifs, 0⟩] scope pos) 0 (.ref it) (.ref D) (compEnvC scope (cellsFrom (s3.heap.objs.size + 1) scope.names (cloFrom X.env.cells scope.names [])) s3.heap.objs.size X.env)) (compPost (model X.prog X.w) X.A X.xe use Qf (.ref D) s3.heap.objs.size) { s3 with heap := pushCells (s3.heap.push { cls := .type "dict", data := .dict #[] }) scope.names }
  have nfp : ∀ b ∈ fp, (upd H2 D (.lst [])) b = none := fun b hb => (f3 b hb).1.1
  generalize hce : compEnvC scope (cellsFrom (s3.heap.objs.size + 1) scope.names (cloFrom X.env.cells scope.names [])) s3.heap.objs.size X.env = ce at I4 pg pt pe ⊢
  have cL : ce.locals = s3.heap.objs.size := by subst hce; rfl
  generalize hH3 : upd H2 D (.lst []) = H3 at I3 I4 pg pt pe w0 nfp f3
  generalize hs4 : ({ s3 with heap := pushCells (s3.heap.push { cls := .type "dict", data := .dict #[] }) scope.names } : Shared) = s4 at I4 ⊢
  have st4 : tn 0 s4.heap := T.keep _ _ _ st3 fun b _ o e => by rw [← hs4]; exact pushCells_keeps _ _ _ _ (Heap.get?_push_of_some _ e)
  have stat : ∀ {σ' : St} {H' : Hp} {s' : Shared}, Inv (X.blk s3 H3 scope ce fp) [] σ' H' s' → (∀ b ∈ fp, H' b = none) → ∀ b ∈ fp, FpOk (X.blk s3 H3 scope ce fp) [] H' b := fun {σ' H' s'} I' hn b hb =>
    ⟨hn b hb, (I'.ok.exf b hb).1, I'.ok.exfs b hb, .inl hb, fun x c e => (I'.ok.exf b hb).2 x c e, fun p hp => absurd (show p ∈ ([] : List (Addr × Obj)) ++ [] from hp) (by simp)⟩
  have loop : codeAny (model X.prog X.w) X.A (.compLoop (.ListComp elt [⟨tg, iter, ifs, 0⟩] scope pos) 0 (.ref it) (.ref D) ce) (compPost (model X.prog X.w) X.A X.xe use Qf (.ref D) s3.heap.objs.size) s4 := by
    refine compLoop_any (fun n s' => ∃ i H', Inv (X.blk s3 H3 scope ce fp) [] (wipe σ (own.map (·.2))) H' s' ∧ tn i s'.heap ∧ (∀ b ∈ fp, H' b = none) ∧ W i n H') ?_ m0 ⟨0, H3, I4, st4, nfp, w0⟩
    rintro n s5 ⟨i, H5, I5, st5, n5, w5⟩
    rcases turn i n H5 w5 with ⟨stop, qq⟩ | ⟨go, Nx, hNx, step⟩
    · have td := T.done (X.blk s3 H3 scope ce fp) rfl rfl rfl hc i [] s5 _ H5 (fun _ _ => False) I5 (stat I5 n5) st5 stop
      refine thnF td fun r s6 ⟨hr, I6⟩ => ?_
      subst hr
      -- back in the def's context
      have I7 : Inv X pins σ H5 s6 := I3.call' (ch := fp) I6.os I6.base I6.hok I6.bare fun b hb => ⟨(f3 b hb).1.2.2.2.1, (f3 b hb).1.2.1, (f3 b hb).1.2.2.2.2.1, (f3 b hb).1.2.2.2.2.2⟩
      have nC : H5 s3.heap.objs.size = none := by
        have z : H5 ce.locals = none := I6.free
        rw [cL] at z
        exact z
      obtain ⟨m, hn, _⟩ := I6.loc
      have hn : s6.heap.Ns ce.locals m := hn
      rw [cL] at hn
      exact hRR D s3.heap.objs.size s6 m H5 I7 qq hn (I3.fpOk (Nat.le_refl _) nC)
    · have ti := T.item (X.blk s3 H3 scope ce fp) rfl rfl rfl hc i [] s5 _ H5 (fun _ _ => False) I5 (stat I5 n5) st5 go
      refine thnF ti fun r s6 ⟨u, hr, h6⟩ => ?_
      subst hr
      refine thnF h6 fun _ s7 ⟨x, H7, I7, r7, y7, st7, n7⟩ => ?_
      have I7' := I7.pinned (stat I7 n7) (T.obj _ _ st7)
      refine thnF (pg _ s7 _ H7 x u _ I7' r7 (step x H7 y7)) fun _ s8 ⟨σ8, H8, I8, hw8, q8⟩ => ?_
      refine thnF (pt _ s8 σ8 H8 _ I8 q8) fun b s9 ⟨H9, I9, q9⟩ => ?_
      -- the turn's end
      have fin : ∀ {s' : Shared} {H' : Hp}, Inv (X.blk s3 H3 scope ce fp) ([] ++ pinsAt fp s7.heap) σ8 H' s' → Nx H' → ∃ m, m < n ∧ ∃ i H', Inv (X.blk s3 H3 scope ce fp) [] (wipe σ (own.map (·.2))) H' s' ∧ tn i s'.heap ∧ (∀ b ∈ fp, H' b = none) ∧ W i m H' := fun {s' H'} I' nx => by
        obtain ⟨m', hm, w'⟩ := hNx H' nx
        have pin' : ∀ b ∈ fp, ∀ o, s7.heap.get? b = some o → s'.heap.get? b = some o ∧ H' b = none := fun b hb o e =>
          let z := I'.pin (b, o) (List.mem_append_right _ (List.mem_append_right _ (mem_pinsAt hb e)))
          ⟨z.1, z.2.1⟩
        have hl : (wipe σ (own.map (·.2))).length = σ8.length := by rw [← hw8, wipe_length]
        refine ⟨m', hm, i + 1, H', (I'.unpinned (pins := [])).weak hl (fun j v e => ?_), T.keep _ _ _ st7 fun b hb o e => (pin' b hb o e).1, fun b hb => ?_, w'⟩
        · rw [← hw8] at e
          exact (wipe_some e).1
        · obtain ⟨o, e, _⟩ := T.obj _ _ st7 b hb
          exact (pin' b hb o e).2
      cases b with
      | false =>
        simp only [Bool.false_eq_true, if_false] at q9 ⊢
        exact fin I9 q9
      | true =>
        simp only [if_true] at q9 ⊢
        refine thnF (pe _ s9 σ8 H9 _ I9 q9) fun z s10 ⟨yv, H10, I10, r10, acc, hD10, hz10, nx⟩ => ?_
        exact app_ok (X := X.blk s3 H3 scope ce fp) I10 hD10 hz10 r10 fun s11 I11 => fin I11 nx
  exact codeAny_compStart_list loop (T.self X.A 0 _ _ _ st4 loop)
theorem pe_lc {elt tg iter : Expr} {ifs : List Expr} {scope : Scope} {own : List (Str × Nat)} {pos : Pos} {wi : TI} {g : TG} {tt : TT} {te : TE} (hc : X.calm = true) (hN : X.N.Nodup) (hi : PI X tg iter wi) (ok : BlkOk X.N X.env.scope scope own)
    (hg : ∀ (s : Shared) (H : Hp) (C : Addr) (cl : List (Str × Addr)) (fp : List Addr), PG (X.blk s H scope (compEnvC scope cl C X.env) fp) tg g) (ht : ∀ (s : Shared) (H : Hp) (C : Addr) (cl : List (Str × Addr)) (fp : List Addr), PTs (X.blk s H scope (compEnvC scope cl C X.env) fp) ifs tt)
    (he : ∀ (s : Shared) (H : Hp) (C : Addr) (cl : List (Str × Addr)) (fp : List Addr), PE (X.blk s H scope (compEnvC scope cl C X.env) fp) elt te) (hs : ∀ x, foldedSetIterable iter X.env x = pure x := by intro _; rfl) :
    PE X (.ListComp elt [⟨tg, iter, ifs, 0⟩] scope pos) (tLc wi g tt te (own.map (·.2))) := by
  intro pins s σ H Q I h
  rw [eval_ListComp]
  refine lc_core hc hN I hi ok hg ht he hs h fun D C s' m H' I' q hn f => ⟨m, hn, fun h'' sb => ?_⟩
  obtain ⟨f0, f1, f2, f3, f4, f5⟩ := f
  exact ⟨.ref D, H', I'.turned (t' := s'.toks) (fun b o hb e => (sb.2 b hb).trans e) f0 f1 f3 f4 f5, rfl, q⟩
end
theorem lc_range {lo : Int} {n : Nat} {g : TG} {tt : TT} {te : TE} {vs : List Nat} {σ : St} {H1 : Hp} {D : Addr} {Qd : Hp → Prop} (Pv : Nat → Hp → Prop) (h0 : Pv 0 (upd H1 D (.lst [])))
    (hs : ∀ i H, i < n → Pv i H → g (.int (lo + i)) (wipe σ vs) H fun σ2 H2 => wipe σ2 vs = wipe σ vs ∧ tt σ2 H2 fun b H3 =>
      if b = true then te σ2 H3 fun y H4 => ∃ acc, H4 D = some (.lst acc) ∧ acc.length < sizeLine ∧ Pv (i + 1) (upd H4 D (.lst (acc ++ [y]))) else Pv (i + 1) H3) (hd : ∀ H, Pv n H → Qd H) :
    ∃ W : Nat → Nat → Hp → Prop, (∃ m, W 0 m (upd H1 D (.lst []))) ∧ ∀ i m H, W i m H →
      ((Itr lo n).stop i H ∧ Qd H) ∨ ((Itr lo n).go i H ∧ ∃ Nx : Hp → Prop, (∀ H', Nx H' → ∃ m', m' < m ∧ W (i + 1) m' H') ∧ ∀ x H', (Itr lo n).yld i H x H' → g x (wipe σ vs) H' fun σ2 H2 => wipe σ2 vs = wipe σ vs ∧ tt σ2 H2 fun b H3 =>
        if b = true then te σ2 H3 fun y H4 => ∃ acc, H4 D = some (.lst acc) ∧ acc.length < sizeLine ∧ Nx (upd H4 D (.lst (acc ++ [y]))) else Nx H3) := by
  refine ⟨fun i m H => m = n - i ∧ i ≤ n ∧ Pv i H, ⟨n, by simp, Nat.zero_le _, h0⟩, ?_⟩
  rintro i m H ⟨rfl, hi, p⟩
  by_cases hlt : i < n
  · refine .inr ⟨hlt, Pv (i + 1), fun H' p' => ⟨n - (i + 1), by omega, rfl, hlt, p'⟩, fun x H' y => ?_⟩
    obtain ⟨e, y⟩ := y
    subst e y
    exact hs i _ hlt p
  · have e : i = n := by omega
    subst e
    exact .inl ⟨Nat.le_refl _, hd H p⟩
theorem lc_list {K : PySem.W.Frag} {a : Addr} {xs : List V} {g : TG} {tt : TT} {te : TE} {vs : List Nat} {σ : St} {H1 : Hp} {D : Addr} {Qd : Hp → Prop} (Pv : Nat → Hp → Prop) (h0 : Pv 0 (upd H1 D (.lst []))) (hl : ∀ i H, i ≤ xs.length → Pv i H → SqL K H a xs)
    (hs : ∀ i x H, xs[i]? = some x → Pv i H → g x (wipe σ vs) H fun σ2 H2 => wipe σ2 vs = wipe σ vs ∧ tt σ2 H2 fun b H3 =>
      if b = true then te σ2 H3 fun y H4 => ∃ acc, H4 D = some (.lst acc) ∧ acc.length < sizeLine ∧ Pv (i + 1) (upd H4 D (.lst (acc ++ [y]))) else Pv (i + 1) H3) (hd : ∀ H, Pv xs.length H → Qd H) :
    ∃ W : Nat → Nat → Hp → Prop, (∃ m, W 0 m (upd H1 D (.lst []))) ∧ ∀ i m H, W i m H →
      ((Itl K a).stop i H ∧ Qd H) ∨ ((Itl K a).go i H ∧ ∃ Nx : Hp → Prop, (∀ H', Nx H' → ∃ m', m' < m ∧ W (i + 1) m' H') ∧ ∀ x H', (Itl K a).yld i H x H' → g x (wipe σ vs) H' fun σ2 H2 => wipe σ2 vs = wipe σ vs ∧ tt σ2 H2 fun b H3 =>
        if b = true then te σ2 H3 fun y H4 => ∃ acc, H4 D = some (.lst acc) ∧ acc.length < sizeLine ∧ Nx (upd H4 D (.lst (acc ++ [y]))) else Nx H3) := by
  refine ⟨fun i m H => m = xs.length - i ∧ i ≤ xs.length ∧ Pv i H, ⟨xs.length, by simp, Nat.zero_le _, h0⟩, ?_⟩
  rintro i m H ⟨rfl, hi, p⟩
  have q := hl i H hi p
  by_cases hlt : i < xs.length
  · refine .inr ⟨⟨xs, xs[i], q, by simp [hlt]⟩, Pv (i + 1), fun H' p' => ⟨xs.length - (i + 1), by omega, rfl, hlt, p'⟩, fun x H' y => ?_⟩
    obtain ⟨e, y⟩ := y
    subst e
    exact hs i x _ (y xs q) p
  · have e : i = xs.length := by omega
    subst e
    exact .inl ⟨⟨xs, q, Nat.le_refl _⟩, hd H p⟩
def blkC (N : List Str) (sc scope : Scope) (own : List (Str × Nat)) : Bool :=
  (match scope.kind with | .function => true | _ => false) && (scope.names.all fun y => decide (scope.names.lookup y.1 = some y.2)) && (own.all fun p => decide (N[p.2]? = some p.1)) &&
    (scope.names.all fun y => match y.2 with
      | .free => (match sc.names.lookup y.1 with | some .cell => true | some .free => true | _ => false)
      | .local => decide (y.1 ∈ own.map (·.1)) || decide (y.1 ∉ N)
      | .cell => decide (y.1 ∈ own.map (·.1)) || decide (y.1 ∉ N)
      | _ => true)
theorem blkOk_by {N : List Str} {sc scope : Scope} {own : List (Str × Nat)} (h : blkC N sc scope own = true) : BlkOk N sc scope own := by
  unfold blkC at h
  simp only [Bool.and_eq_true, List.all_eq_true, decide_eq_true_eq] at h
  obtain ⟨⟨⟨h1, h2⟩, h3⟩, h4⟩ := h
  refine ⟨?_, h2, h3, fun y hy e => ?_, fun y hy e => ?_⟩
  · split at h1
    · assumption
    · cases h1
  · have q := h4 y hy
    simp only [e] at q
    split at q <;> first | exact .inl (by assumption) | exact .inr (by assumption) | cases q
  · have q := h4 y hy
    rcases e with e | e <;> (simp only [e, Bool.or_eq_true, decide_eq_true_eq] at q; exact q)
end L2
namespace L2
open PySem PySem.Spec PyProof.Rows
section
variable {prog : Program} {w : World} {A : Around} {R : Result → Shared → Prop} {s : Shared} {elt t0 i0 t1 i1 : Expr} {ifs0 ifs1 : List Expr} {scope : Scope} {pos : Pos} {it acc : Value} {env : Env}
end
section
variable {X : Cx}
end
end L2
namespace L2
open PySem PySem.Spec PyProof.Rows
section
variable {κ : Type} [DecidableEq κ]
def valV (kvs : List (κ × V)) (k : κ) : Option V := (kvs.find? fun kv => decide (kv.1 = k)).map (·.2)
def putK (kvs : List (κ × V)) (k : κ) (v : V) : List (κ × V) :=
  if (kvs.any fun kv => decide (kv.1 = k)) = true then kvs.map (fun kv => if kv.1 = k then (kv.1, v) else kv) else kvs ++ [(k, v)]
def dropK (kvs : List (κ × V)) (k : κ) : List (κ × V) := kvs.filter fun kv => decide (kv.1 ≠ k)
theorem valV_pos {p : κ × V} {r : List (κ × V)} {k : κ} (e : p.1 = k) : valV (p :: r) k = some p.2 := by simp [valV, List.find?_cons, e]
theorem valV_neg {p : κ × V} {r : List (κ × V)} {k : κ} (e : ¬ p.1 = k) : valV (p :: r) k = valV r k := by simp [valV, List.find?_cons, e]
theorem valV_any (k : κ) : ∀ kvs : List (κ × V), (kvs.any fun kv => decide (kv.1 = k)) = (valV kvs k).isSome
  | [] => rfl
  | p :: r => by
    rw [List.any_cons]
    by_cases e : p.1 = k
    · simp only [valV_pos e, decide_eq_true e, Bool.true_or, Option.isSome_some]
    · rw [valV_neg e, decide_eq_false e, Bool.false_or]; exact valV_any k r
theorem length_putK (kvs : List (κ × V)) (k : κ) (v : V) : (putK kvs k v).length ≤ kvs.length + 1 := by
  unfold putK
  split
  · rw [List.length_map]; omega
  · rw [List.length_append, List.length_cons, List.length_nil]; omega
theorem RelO.isSome_eq {o : Option V} {u : Option Value} (r : RelO o u) : o.isSome = u.isSome := by
  cases o with
  | none => cases u with
    | none => rfl
    | some _ => exact (show False from r).elim
  | some _ => cases u with
    | none => exact (show False from r).elim
    | some _ => rfl
theorem RelO.getD {o : Option V} {u : Option Value} {d : V} {d' : Value} (r : RelO o u) (rd : RelV d d') : RelV (o.getD d) (u.getD d') := by
  cases o with
  | none => cases u with
    | none => exact rd
    | some _ => exact (show False from r).elim
  | some _ => cases u with
    | none => exact (show False from r).elim
    | some _ => exact r
theorem KV.val {kvs : List (κ × V)} {vs : List (κ × Value)} (r : KV kvs vs) (k : κ) : RelO (valV kvs k) (valueAt vs k) := by
  unfold KV at r
  induction r with
  | nil => exact True.intro
  | @cons p q ps qs h t ih =>
    obtain ⟨h1, h2⟩ := h
    by_cases e : p.1 = k
    · have e' : q.1 = k := h1.symm.trans e
      have b : valueAt (q :: qs) k = some q.2 := by simp [valueAt, List.find?_cons, e']
      rw [valV_pos e, b]; exact h2
    · have e' : ¬ q.1 = k := fun z => e (h1.trans z)
      have b : valueAt (q :: qs) k = valueAt qs k := by simp [valueAt, List.find?_cons, e']
      rw [valV_neg e, b]; exact ih
theorem KV.any {kvs : List (κ × V)} {vs : List (κ × Value)} (r : KV kvs vs) (k : κ) : (kvs.any fun kv => decide (kv.1 = k)) = vs.any fun kv => decide (kv.1 = k) := by
  unfold KV at r
  induction r with
  | nil => rfl
  | cons h t ih => rw [List.any_cons, List.any_cons, ih, h.1]
theorem KV.repl {kvs : List (κ × V)} {vs : List (κ × Value)} (r : KV kvs vs) (k : κ) {y : V} {u : Value} (ry : RelV y u) :
    KV (kvs.map fun kv => if kv.1 = k then (kv.1, y) else kv) (vs.map fun kv => if kv.1 = k then (kv.1, u) else kv) := by
  unfold KV at r ⊢
  induction r with
  | nil => exact .nil
  | @cons p q ps qs h t ih =>
    rw [List.map_cons, List.map_cons]
    refine .cons ?_ ih
    obtain ⟨h1, h2⟩ := h
    by_cases e : p.1 = k
    · rw [if_pos e, if_pos (h1.symm.trans e)]; exact ⟨h1, ry⟩
    · rw [if_neg e, if_neg (fun z => e (h1.trans z))]; exact ⟨h1, h2⟩
theorem KV.put {kvs : List (κ × V)} {vs : List (κ × Value)} (r : KV kvs vs) (k : κ) {y : V} {u : Value} (ry : RelV y u) : KV (putK kvs k y) (stored vs k u) := by
  unfold putK stored
  rw [r.any k]
  by_cases e : (vs.any fun kv => decide (kv.1 = k)) = true
  · rw [if_pos e, if_pos e]; exact r.repl k ry
  · rw [if_neg e, if_neg e]; exact Paired.snoc r ⟨rfl, ry⟩
theorem KV.drop {kvs : List (κ × V)} {vs : List (κ × Value)} (r : KV kvs vs) (k : κ) : KV (dropK kvs k) (without vs k) := by
  unfold KV at r ⊢
  unfold dropK without
  induction r with
  | nil => exact .nil
  | @cons p q ps qs h t ih =>
    obtain ⟨h1, h2⟩ := h
    rw [List.filter_cons, List.filter_cons]
    by_cases e : p.1 = k
    · have a : ¬ decide (p.1 ≠ k) = true := by simp [e]
      have b : ¬ decide (q.1 ≠ k) = true := by simp [h1.symm.trans e]
      rw [if_neg a, if_neg b]; exact ih
    · have e' : ¬ q.1 = k := fun z => e (h1.trans z)
      have a : decide (p.1 ≠ k) = true := by simp [e]
      have b : decide (q.1 ≠ k) = true := by simp [e']
      rw [if_pos a, if_pos b]; exact .cons ⟨h1, h2⟩ ih
theorem KV.keys {kvs : List (κ × V)} {vs : List (κ × Value)} (r : KV kvs vs) : kvs.map (·.1) = vs.map (·.1) := by
  unfold KV at r
  induction r with
  | nil => rfl
  | cons h t ih => rw [List.map_cons, List.map_cons, ih, h.1]
theorem KV.length {kvs : List (κ × V)} {vs : List (κ × Value)} (r : KV kvs vs) : kvs.length = vs.length := Paired.length r
theorem dropK_le (kvs : List (κ × V)) (k : κ) : (dropK kvs k).length ≤ kvs.length := List.length_filter_le _ _
end
theorem kV_is {P : Program} {w : World} {k : Key} {u : Value} (r : RelV (kV k) u) : (mixKind P w).is k u = true := by
  cases k with
  | inl i => obtain ⟨t, e⟩ := (show ∃ t, u = Value.int i t from r); subst e; exact mixKind_int P w i t
  | inr x => obtain ⟨t, e⟩ := (show ∃ t, u = Value.str x t from r); subst e; exact mixKind_str P w x t
theorem items_are {P : Program} {w : World} : ∀ {ks : List Key} {us : List Value}, Vals (ks.map kV) us → ItemsAre (mixKind P w) ks us
  | [], _, r => by rw [List.map_nil] at r; cases r; exact .nil
  | k :: ks, _, r => by
    rw [List.map_cons] at r
    cases r with
    | cons h t => exact .cons (kV_is h) (items_are t)
abbrev KT (H : Hp) : List (List Key × V) → List (List Key × Addr × Value) → Prop := Paired fun p q => p.1 = q.1 ∧ H q.2.1 = some (.tup (p.1.map kV)) ∧ RelV p.2 q.2.2
theorem KT.val {H : Hp} {kvs : List (List Key × V)} {xs : List (List Key × Addr × Value)} (r : KT H kvs xs) (k : List Key) : RelO (valV kvs k) ((atKey xs k).map (·.2)) := by
  induction r with
  | nil => exact True.intro
  | @cons p q ps qs h t ih =>
    obtain ⟨h1, _, h2⟩ := h
    by_cases e : p.1 = k
    · have e' : q.1 = k := h1.symm.trans e
      have b : atKey (q :: qs) k = some q.2 := by simp [atKey, List.find?_cons, e']
      rw [valV_pos e, b]; exact h2
    · have e' : ¬ q.1 = k := fun z => e (h1.trans z)
      have b : atKey (q :: qs) k = atKey qs k := by simp [atKey, List.find?_cons, e']
      rw [valV_neg e, b]; exact ih
theorem KT.repl {H : Hp} {kvs : List (List Key × V)} {xs : List (List Key × Addr × Value)} (r : KT H kvs xs) (k : List Key) {y : V} {u : Value} (ry : RelV y u) :
    KT H (kvs.map fun kv => if kv.1 = k then (kv.1, y) else kv) (xs.map (putAt k u)) := by
  induction r with
  | nil => exact .nil
  | @cons p q ps qs h t ih =>
    rw [List.map_cons, List.map_cons]
    refine .cons ?_ ih
    obtain ⟨h1, h2, h3⟩ := h
    unfold putAt
    by_cases e : p.1 = k
    · rw [if_pos e, if_pos (h1.symm.trans e)]; exact ⟨h1, h2, ry⟩
    · rw [if_neg e, if_neg (fun z => e (h1.trans z))]; exact ⟨h1, h2, h3⟩
theorem KT.put {H : Hp} {kvs : List (List Key × V)} {xs : List (List Key × Addr × Value)} (r : KT H kvs xs) (k : List Key) {b : Addr} {y : V} {u : Value} (hb : H b = some (.tup (k.map kV))) (ry : RelV y u) :
    KT H (putK kvs k y) (storedH xs k b u) := by
  have e : (kvs.any fun kv => decide (kv.1 = k)) = (atKey xs k).isSome := by
    rw [valV_any, (r.val k).isSome_eq, Option.isSome_map]
  unfold putK storedH
  rw [e]
  by_cases q : (atKey xs k).isSome = true
  · rw [if_pos q, if_pos q]; exact r.repl k ry
  · rw [if_neg q, if_neg q]; exact Paired.snoc r ⟨rfl, hb, ry⟩
theorem KT.keeps {H H' : Hp} {kvs : List (List Key × V)} {xs : List (List Key × Addr × Value)} (r : KT H kvs xs) (ht : ∀ b ys, H b = some (.tup ys) → H' b = some (.tup ys)) : KT H' kvs xs :=
  Paired.mapP r fun _ _ z => ⟨z.1, ht _ _ z.2.1, z.2.2⟩
section
variable {P : Program} {w : World} {H : Hp} {h : Heap} {a : Addr}
theorem rd_of {u : HO} (ok : HOk P w H h) (e : Rd H a u) : ObjOk P w H h a u := e.ok ok
theorem dk_rd {kvs : List (Key × V)} (ok : HOk P w H h) (e : Rd H a (.dK kvs)) : kvs.length ≤ sizeLine ∧ (a == sysModules) = false ∧ ∃ vs, KV kvs vs ∧ h.DictOf (mixKind P w) a vs :=
  show ObjOk P w H h a (.dK kvs) from rd_of ok e
theorem dk_of {kvs : List (Key × V)} (ok : HOk P w H h) (e : H a = some (.dK kvs)) : kvs.length ≤ sizeLine ∧ (a == sysModules) = false ∧ ∃ vs, KV kvs vs ∧ h.DictOf (mixKind P w) a vs := dk_rd ok (.inl e)
theorem key_of {ks : List Key} (ok : HOk P w H h) (e : H a = some (.tup (ks.map kV))) : (tupleKind (mixKind P w)).is h ks a := by
  obtain ⟨_, its, r, o, h1, h2, n, h3⟩ := (show ObjOk P w H h a (.tup (ks.map kV)) from ok a _ e)
  exact ⟨o, its.toArray, n, h1, h2, h3, by simpa using items_are r⟩
theorem dt_rd {kvs : List (List Key × V)} (ok : HOk P w H h) (e : Rd H a (.dT kvs)) : kvs.length ≤ sizeLine ∧ (a == sysModules) = false ∧
    ∃ xs, KT H kvs xs ∧ h.DictOfH (tupleKind (mixKind P w)) a xs := by
  obtain ⟨z, y, xs, r, o, es, ep, h1, h2, h3, h4, h5⟩ := (show ObjOk P w H h a (.dT kvs) from rd_of ok e)
  refine ⟨z, y, xs, r, o, es, ep, h1, h2, h3, h4, fun x hx => ?_, h5⟩
  have all : ∀ {l : List (List Key × V)} {m : List (List Key × Addr × Value)}, KT H l m → ∀ x ∈ m, (tupleKind (mixKind P w)).is h x.1 x.2.1 := by
    intro l m q
    induction q with
    | nil => intro x hx; exact nomatch hx
    | @cons p q ps qs hq t ih =>
      intro x hx
      rcases List.mem_cons.mp hx with e | hx
      · subst e
        exact key_of ok (by rw [← hq.1]; exact hq.2.1)
      · exact ih x hx
  exact all r x hx
theorem dt_of {kvs : List (List Key × V)} (ok : HOk P w H h) (e : H a = some (.dT kvs)) : kvs.length ≤ sizeLine ∧ (a == sysModules) = false ∧
    ∃ xs, KT H kvs xs ∧ h.DictOfH (tupleKind (mixKind P w)) a xs := dt_rd ok (.inl e)
end
def DGet (H : Hp) (a : Addr) (y : V) (r : Option V) : Prop :=
  (∃ kvs k, Rd H a (.dK kvs) ∧ y = kV k ∧ r = valV kvs k) ∨ ∃ kvs k b, Rd H a (.dT kvs) ∧ y = .ref b ∧ H b = some (.tup (k.map kV)) ∧ r = valV kvs k
def DPut (H : Hp) (a : Addr) (y v : V) (H' : Hp) : Prop :=
  (∃ kvs k, H a = some (.dK kvs) ∧ y = kV k ∧ kvs.length < sizeLine ∧ H' = upd H a (.dK (putK kvs k v))) ∨
  ∃ kvs k b, H a = some (.dT kvs) ∧ y = .ref b ∧ H b = some (.tup (k.map kV)) ∧ kvs.length < sizeLine ∧ H' = upd H a (.dT (putK kvs k v))
theorem DGet.k {H : Hp} {a : Addr} {kvs : List (Key × V)} {k : Key} (e : H a = some (.dK kvs)) : DGet H a (kV k) (valV kvs k) := .inl ⟨kvs, k, .inl e, rfl, rfl⟩
theorem DPut.k {H : Hp} {a : Addr} {kvs : List (Key × V)} {k : Key} {v : V} (e : H a = some (.dK kvs)) (hl : kvs.length < sizeLine) : DPut H a (kV k) v (upd H a (.dK (putK kvs k v))) := .inl ⟨kvs, k, e, rfl, hl, rfl⟩
section
variable {X : Cx} {pins : List (Addr × Obj)} {σ : St} {H : Hp} {s : Shared} {a : Addr} {y v : V} {u r : Value} {o : Option V} {A : Around} {E : Value → Shared → Prop}
theorem Inv.big (I : Inv X pins σ H s) : sysModules < s.heap.objs.size := by
  have h : mainGlobals < s.heap.objs.size := (I.mod.glob.keeps I.bk).lt
  exact Nat.lt_trans (by decide) h
theorem d_getItem {Q : Value → Shared → Prop} (hu : A.units + 1 < cLine) (I : Inv X pins σ H s) (g : DGet H a y (some v)) (ry : RelV y u) (h : ∀ w' s', Inv X pins σ H s' → RelV v w' → Q w' s') :
    wpAny (model X.prog X.w) A (getItem (.ref a) u) Q E s := by
  rcases g with ⟨kvs, k, e, ey, l⟩ | ⟨kvs, k, b, e, ey, eb, l⟩
  · subst ey
    obtain ⟨z, hd, vs, rel, dd⟩ := dk_rd I.hok e
    obtain ⟨w', hw, rw'⟩ := RelO.some_of (v := v) (o := valueAt vs k) (by rw [l]; exact rel.val k)
    exact wpAny_getItem_of (kV_is ry) dd.mapOf hw (h w' _ (I.tok _) rw')
  · subst ey
    cases (show u = Value.ref b from ry)
    obtain ⟨z, hd, xs, rel, dd⟩ := dt_rd I.hok e
    obtain ⟨w', hw, rw'⟩ := RelO.some_of (v := v) (o := (atKey xs k).map (·.2)) (by rw [l]; exact rel.val k)
    obtain ⟨p, hp, hp2⟩ := Option.map_eq_some_iff.mp hw
    refine wpAny_getItem_heap (tupleKind_room_in1 hu) (key_of I.hok eb) dd hp ?_
    rw [hp2]
    exact h w' _ (I.tok _) rw'
theorem d_notIn {Q : Value → Shared → Prop} (hu : A.units + 1 < cLine) (I : Inv X pins σ H s) (g : DGet H a y o) (ry : RelV y u) (h : ∀ s', Inv X pins σ H s' → Q (.bool (!o.isSome)) s') :
    wpAny (model X.prog X.w) A (compareOp .NotIn u (.ref a)) Q E s := by
  rcases g with ⟨kvs, k, e, ey, l⟩ | ⟨kvs, k, b, e, ey, eb, l⟩
  · subst ey
    obtain ⟨z, hd, vs, rel, dd⟩ := dk_rd I.hok e
    refine wpAny_notIn_of (kV_is ry) hd dd.mapOf ?_
    rw [← (rel.val k).isSome_eq, ← l]
    exact h _ (I.tok _)
  · subst ey
    cases (show u = Value.ref b from ry)
    obtain ⟨z, hd, xs, rel, dd⟩ := dt_rd I.hok e
    refine wpAny_notIn_heap (tupleKind_room_in1 hu) (key_of I.hok eb) hd dd ?_
    have q := (rel.val k).isSome_eq
    rw [Option.isSome_map] at q
    rw [← q, ← l]
    exact h _ (I.tok _)
theorem d_write {h' : Heap} {t' : Nat} {ob : HO} (I : Inv X pins σ H s) (mu : Mut (H a)) (hs : Heap.SameBut a s.heap h') (he : ∃ q, h'.get? a = some q) (new : ObjOk X.prog X.w (upd H a ob) h' a ob) :
    Inv X pins σ (upd H a ob) { s with heap := h', toks := t' } :=
  I.write (x := a) (e := a) mu (.inl rfl) (fun b q hb z => (hs.2 b hb).trans z) he new
theorem dk_new {P : Program} {w : World} {H' : Hp} {h' : Heap} {kvs : List (Key × V)} {vs : List (Key × Value)} (z : kvs.length ≤ sizeLine) (hd : (a == sysModules) = false) (rel : KV kvs vs) (dd : h'.DictOf (mixKind P w) a vs) :
    ObjOk P w H' h' a (.dK kvs) := ⟨z, hd, vs, rel, dd⟩
theorem d_setItem {H' : Hp} {Q : Unit → Shared → Prop} (hu : A.units + 1 < cLine) (I : Inv X pins σ H s) (g : DPut H a y v H') (ry : RelV y u) (rv : RelV v r) (h : ∀ s', Inv X pins σ H' s' → Q () s') :
    wpAny (model X.prog X.w) A (setItem (.ref a) u r) Q E s := by
  rcases g with ⟨kvs, k, e, ey, l, eH⟩ | ⟨kvs, k, b, e, ey, eb, l, eH⟩
  · subst ey eH
    obtain ⟨z, hd, vs, rel, dd⟩ := dk_of I.hok e
    have hz : vs.length ≤ sizeLine := by rw [← rel.length]; exact z
    have hl : (putK kvs k v).length ≤ sizeLine := by have := length_putK kvs k v; omega
    refine wpAny_setItem_pairs (hsz := hz) (kV_is ry) dd fun h' dd' hs => h _ ?_
    have he : ∃ q, h'.get? a = some q := let ⟨q, _, _, hq, _⟩ := dd'; ⟨q, hq⟩
    exact d_write I (by rw [e]; exact True.intro) hs he (dk_new hl hd (rel.put k rv) dd')
  · subst ey eH
    cases (show u = Value.ref b from ry)
    obtain ⟨z, hd, xs, rel, dd⟩ := dt_of I.hok e
    have hz : xs.length ≤ sizeLine := by rw [← Paired.length rel]; exact z
    have hl : (putK kvs k v).length ≤ sizeLine := by have := length_putK kvs k v; omega
    refine wpAny_setItem_heap (hsz := hz) (tupleKind_room_in1 hu) (key_of I.hok eb) dd fun h' dd' hs => h _ ?_
    obtain ⟨q, es, ep, hq, h2, h3, h4, _, h5⟩ := dd'
    refine d_write I (by rw [e]; exact True.intro) hs ⟨q, hq⟩ ⟨hl, hd, _, (rel.put k eb rv).keeps fun c ys ec => ?_, q, es, ep, hq, h2, h3, h4, h5⟩
    rw [upd_ne (ne_of ec e (fun z => nomatch z))]
    exact ec
end
section
variable {X : Cx} {pins : List (Addr × Obj)} {σ : St} {H : Hp} {s : Shared} {a : Addr} {kvs : List (Key × V)} {k : Key} {u : Value} {A : Around} {E : Value → Shared → Prop}
theorem d_delItem {Q : Unit → Shared → Prop} (I : Inv X pins σ H s) (e : H a = some (.dK kvs)) (ry : RelV (kV k) u) (l : (valV kvs k).isSome = true) (h : ∀ s', Inv X pins σ (upd H a (.dK (dropK kvs k))) s' → Q () s') :
    wpAny (model X.prog X.w) A (delItem (.ref a) u) Q E s := by
  obtain ⟨z, hd, vs, rel, dd⟩ := dk_of I.hok e
  refine wpAny_delItem_slot dd.typeIs (by decide) PySem.F.slot_dict_delitem
    (call_meetsIn PySem.F.slot_dict_delitem dd.typeIs PySem.F.entry_dict_delitem (PySem.F.args_dict_delitem_2 _ _) (meets_dict_delitem_pairs (mixKind X.prog X.w) a (kV_is ry)) ⟨vs, dd, by rw [← rel.length]; exact z, by rw [← (rel.val k).isSome_eq]; exact l, fun h' dd' hs => h _ ?_⟩)
  have he : ∃ q, h'.get? a = some q := let ⟨q, _, _, hq, _⟩ := dd'; ⟨q, hq⟩
  exact d_write I (by rw [e]; exact True.intro) hs he (dk_new (Nat.le_trans (dropK_le kvs k) z) hd (rel.drop k) dd')
theorem d_pop {v : V} {more : List Value} {Q : Value → Shared → Prop} (I : Inv X pins σ H s) (e : H a = some (.dK kvs)) (ry : RelV (kV k) u) (l : valV kvs k = some v) (hm : more = [] ∨ ∃ x, more = [x])
    (h : ∀ w' s', Inv X pins σ (upd H a (.dK (dropK kvs k))) s' → RelV v w' → Q w' s') : wpAny (model X.prog X.w) A (call (.builtin "dict.pop") (.ref a :: u :: more)) Q E s := by
  obtain ⟨z, hd, vs, rel, dd⟩ := dk_of I.hok e
  obtain ⟨w', hw, rw'⟩ := RelO.some_of (v := v) (o := valueAt vs k) (by rw [← l]; exact rel.val k)
  have hp : (keyPart u).isSome = true := by
    cases k with
    | inl i => obtain ⟨t, q⟩ := (show ∃ t, u = Value.int i t from ry); subst q; rfl
    | inr x => obtain ⟨t, q⟩ := (show ∃ t, u = Value.str x t from ry); subst q; rfl
  have ha : argsOk "dict.pop" ⟨.ref a :: u :: more, []⟩ := by
    rcases hm with q | ⟨x, q⟩
    · subst q; exact PySem.F.args_dict_pop_2 _ _
    · subst q; exact PySem.F.args_dict_pop_3 _ _ _
  refine call_meetsIn PySem.F.slot_dict_pop dd.typeIs PySem.F.entry_dict_pop ha (meets_dict_pop_there (mixKind X.prog X.w) a (kV_is ry) more hm hp)
    ⟨vs, w', dd, by rw [← rel.length]; exact z, hw, fun h' dd' hs => h w' _ ?_ rw'⟩
  have he : ∃ q, h'.get? a = some q := let ⟨q, _, _, hq, _⟩ := dd'; ⟨q, hq⟩
  exact d_write I (by rw [e]; exact True.intro) hs he (dk_new (Nat.le_trans (dropK_le kvs k) z) hd (rel.drop k) dd')
theorem d_len {Q : Value → Shared → Prop} (I : Inv X pins σ H s) (e : Rd H a (.dK kvs)) (h : ∀ t s', Inv X pins σ H s' → Q (.int kvs.length t) s') : wpAny (model X.prog X.w) A (call (.builtin "len") [.ref a]) Q E s := by
  obtain ⟨z, hd, vs, rel, dd⟩ := dk_rd I.hok e
  refine call_len_dict hd dd (by rw [← rel.length]; rw [sizeLine_eq] at z; omega) ?_
  rw [← rel.length]
  exact h _ _ (I.tok _)
end
def NoSl (i : Expr) : Prop := ∀ ov iv, subscripted i false ov iv = operate [ov, iv] (getItem ov iv)
theorem subD_of {prog : Program} {w : World} {A : Around} {E : Value → Shared → Prop} {s : Shared} {env : Env} {value slice : Expr} {pos : Pos} {T id : String} {Q : Value → Shared → Prop}
    (hl : typeLookup (.type T) "__getitem__" = pure (some (.builtin id))) (hs : NoSl slice)
    (h : wpAny (model prog w) A (eval value env) (fun o s₁ => wpAny (model prog w) A (eval slice env) (fun i s₂ => s₂.TypeIs o T ∧ wpAny (model prog w) A (getItem o i) Q E s₂) E s₁) E s) :
    wpAny (model prog w) A (eval (.Subscript value slice pos) env) Q E s := by
  refine Subscript_ (wpAny_mono h (fun o s₁ h₁ => wpAny_mono h₁ (fun i s₂ h₂ => ?_) fun _ _ x => x) fun _ _ x => x)
  obtain ⟨hT, h₂⟩ := h₂
  unfold subscriptTail
  refine wpAny_bind ?_
  rw [getitemInPython_of_ne hT.not_modules]
  refine wpAny_bind (wpAny_specialOf hT hl ?_)
  have fin : wpAny (model prog w) A (subscripted slice false o i) (fun r s₃ => wpAny (model prog w) A (letTemporaryGo value o r >>= fun _ => pure r) Q E s₃) E s₂ := by
    rw [hs o i]
    exact wpAny_operating (wpAny_mono h₂ (fun r s₃ h₃ => wpAny_bind (wpAny_letTemporaryGo (wpAny_pure h₃))) fun _ _ x => x)
  first
    | exact wpAny_pure (wpAny_bind fin)
    | exact wpAny_bind (wpAny_pure (wpAny_bind fin))
    | exact wpAny_bind fin
theorem dict_typeIs {X : Cx} {pins : List (Addr × Obj)} {σ : St} {H : Hp} {s : Shared} {a : Addr} {y : V} {o : Option V} (I : Inv X pins σ H s) (g : DGet H a y o) : s.TypeIs (.ref a) "dict" := by
  rcases g with ⟨kvs, k, e, _, _⟩ | ⟨kvs, k, b, e, _, _, _⟩
  · obtain ⟨_, _, vs, _, dd⟩ := dk_rd I.hok e
    exact dd.typeIs
  · obtain ⟨_, _, xs, _, dd⟩ := dt_rd I.hok e
    exact dd.typeIs
def tDGet (td ty : TE) : TE := fun σ H Q => td σ H fun x H1 => ty σ H1 fun y H2 => ∃ a v, x = .ref a ∧ DGet H2 a y (some v) ∧ Q v H2
def tDNotIn (ty td : TE) : TE := fun σ H Q => ty σ H fun y H1 => td σ H1 fun x H2 => ∃ a o, x = .ref a ∧ DGet H2 a y o ∧ Q (.bl (!o.isSome)) H2
def sDPut (td ty tv : TE) : TS := fun D σ H => tv σ H fun v H1 => td σ H1 fun x H2 => ty σ H2 fun y H3 => ∃ a H4, x = .ref a ∧ DPut H3 a y v H4 ∧ D.nx σ H4
section
variable {X : Cx} {o i e value : Expr} {pos pos' tpos : Pos} {td ty tv : TE}
theorem pe_dget (hu : X.A.units + 1 < cLine) (ho : PE X o td) (hi : PE X i ty) (hs : NoSl i) : PE X (.Subscript o i pos) (tDGet td ty) := by
  intro pins s σ H Q I h
  refine subD_of PySem.F.slot_dict_getitem.lookup hs (thn (ho pins s σ H _ I h) fun u s1 ⟨x, H1, I1, rx, q1⟩ => thn (hi pins s1 σ H1 _ I1 q1) fun iv s2 ⟨y, H2, I2, ry, a, v, ex, g, q2⟩ => ?_)
  subst ex
  obtain rfl : u = Value.ref a := rx
  exact ⟨dict_typeIs I2 g, d_getItem hu I2 g ry fun w' s3 I3 rw' => ⟨v, H2, I3, rw', q2⟩⟩
theorem pc_dnotin (hu : X.A.units + 1 < cLine) (hi : PE X i ty) (ho : PE X o td) : PC X .NotIn i o (tDNotIn ty td) := by
  intro pins s σ H Q I h
  refine thn (hi pins s σ H _ I h) fun iv s1 ⟨y, H1, I1, ry, q1⟩ => thn (ho pins s1 σ H1 _ I1 q1) fun u s2 ⟨x, H2, I2, rx, a, ov, ex, g, q2⟩ => ?_
  subst ex
  obtain rfl : u = Value.ref a := rx
  exact d_notIn hu I2 g ry fun s3 I3 => ⟨.bl (!ov.isSome), H2, I3, rfl, q2⟩
theorem ps_dput (hu : X.A.units + 1 < cLine) (ho : PE X o td) (hi : PE X i ty) (hv : PE X value tv) (hs : swapsWith value (some (.Subscript o i pos')) pos.line X.env = pure false) :
    PS X (.Assign [.Subscript o i pos'] value pos) (sDPut td ty tv) := by
  intro pins s σ H D I h
  refine wpAny_Assign_Subscript (thn (hv pins s σ H _ I h) fun r s1 ⟨v, H1, I1, rv, q1⟩ => thn (ho pins s1 σ H1 _ I1 q1) fun u s2 ⟨x, H2, I2, rx, q2⟩ => thn (hi pins s2 σ H2 _ I2 q2) fun iv s3 ⟨y, H3, I3, ry, a, H4, ex, g, q3⟩ => ?_) hs
  subst ex
  obtain rfl : u = Value.ref a := rx
  exact d_setItem hu I3 g ry rv fun s4 I4 => ⟨σ, H4, I4, q3⟩
end
theorem dk_empty {P : Program} {w : World} {H : Hp} (h : Heap) (hb : sysModules < h.objs.size) : ObjOk P w H (h.push { cls := .type "dict", data := .dict #[] }) h.objs.size (.dK []) :=
  ⟨Nat.zero_le _, beq_eq_false_iff_ne.mpr (Ne.symm (Nat.ne_of_lt hb)), [], .nil, Heap.DictOf.new h⟩
def tDNewK : TE := fun _ H Q => ∀ p, H p = none → Q (.ref p) (upd H p (.dK []))
section
variable {X : Cx} {pos : Pos}
theorem pe_dnewK : PE X (.Dict [] [] pos) tDNewK := fun pins s σ H Q I h =>
  wpAny_Dict_empty ⟨.ref s.heap.objs.size, _, I.laid (a := s.heap.objs.size) (o := .dK []) (t' := s.toks) (fun _ _ q => Heap.get?_push_of_some _ q) (Nat.le_refl _) (dk_empty s.heap I.big), rfl, h _ (I.hok.fresh (Nat.le_refl _))⟩
end
/-- a method call o.m(e) of a built-in, with one argument: what must be seen of the text -/
structure M1 (X : Cx) (o : Expr) (m : Str) (apos : Pos) (e : Expr) (cpos : Pos) : Prop where
  base : attributeBase o m X.env (eval o X.env) = eval o X.env
  few : ((backTo cpos (starEach [e] X.env)).all (fun x => !x.1) && (backToKw cpos (keywordEach [] X.env)).all (fun x => x.1.isSome)
    && decide (([e] : List Expr).length + ([] : List Keyword).length + (if ([] : List Keyword).isEmpty then 0 else 1) < 30)) = true
  line : (apos.endLine == cpos.line) = true
  trees : backTo cpos (starEach [e] X.env) = [(false, eval e X.env)]
structure M2 (X : Cx) (o : Expr) (m : Str) (apos : Pos) (e f : Expr) (cpos : Pos) : Prop where
  base : attributeBase o m X.env (eval o X.env) = eval o X.env
  few : ((backTo cpos (starEach [e, f] X.env)).all (fun x => !x.1) && (backToKw cpos (keywordEach [] X.env)).all (fun x => x.1.isSome)
    && decide (([e, f] : List Expr).length + ([] : List Keyword).length + (if ([] : List Keyword).isEmpty then 0 else 1) < 30)) = true
  line : (apos.endLine == cpos.line) = true
  trees : backTo cpos (starEach [e, f] X.env) = [(false, eval e X.env), (false, eval f X.env)]
def IsD (H : Hp) (a : Addr) : Prop := (∃ kvs, Rd H a (.dK kvs)) ∨ ∃ kvs, Rd H a (.dT kvs)
theorem isD_at {X : Cx} {pins : List (Addr × Obj)} {σ : St} {H : Hp} {s : Shared} {a : Addr} (I : Inv X pins σ H s) (d : IsD H a) :
    s.TypeIs (.ref a) "dict" ∧ (∀ b, Value.ref a = .ref b → ∃ ob, s.heap.get? b = some ob ∧ ob.dict = none) ∧ (a == sysModules) = false := by
  rcases d with ⟨kvs, e⟩ | ⟨kvs, e⟩
  · obtain ⟨_, hd, vs, _, dd⟩ := dk_rd I.hok e
    refine ⟨dd.typeIs, fun b q => ?_, hd⟩
    cases q
    obtain ⟨ob, _, _, h1, h2, _⟩ := dd
    exact ⟨ob, h1, h2.2.1⟩
  · obtain ⟨_, hd, xs, _, dd⟩ := dt_rd I.hok e
    refine ⟨dd.typeIs, fun b q => ?_, hd⟩
    cases q
    obtain ⟨ob, _, _, h1, h2, _⟩ := dd
    exact ⟨ob, h1, h2.2.1⟩
section
variable {X : Cx} {pins : List (Addr × Obj)} {σ : St} {H : Hp} {s : Shared} {a : Addr} {y d : V} {u r : Value} {o : Option V} {A : Around} {E : Value → Shared → Prop}
theorem d_get2 {Q : Value → Shared → Prop} (hu : A.units + 1 < cLine) (I : Inv X pins σ H s) (g : DGet H a y o) (ry : RelV y u) (rd : RelV d r) (h : ∀ w' s', Inv X pins σ H s' → RelV (o.getD d) w' → Q w' s') :
    wpAny (model X.prog X.w) A (call (.builtin "dict.get") [.ref a, u, r]) Q E s := by
  rcases g with ⟨kvs, k, e, ey, l⟩ | ⟨kvs, k, b, e, ey, eb, l⟩
  · subst ey
    obtain ⟨z, hd, vs, rel, dd⟩ := dk_rd I.hok e
    refine call_meetsIn PySem.F.slot_dict_get dd.typeIs PySem.F.entry_dict_get (PySem.F.args_dict_get_3 _ _ _) (meets_dict_get_default (mixKind X.prog X.w) a (kV_is ry) hd r) ⟨_, dd.mapOf, h _ _ (I.tok _) ?_⟩
    rw [l]
    exact (rel.val k).getD rd
  · subst ey
    cases (show u = Value.ref b from ry)
    obtain ⟨z, hd, xs, rel, dd⟩ := dt_rd I.hok e
    refine call_meetsIn PySem.F.slot_dict_get dd.typeIs PySem.F.entry_dict_get (PySem.F.args_dict_get_3 _ _ _) (meetsH_dict_get_default (tupleKind (mixKind X.prog X.w)) a b hd r) ⟨tupleKind_room_in1 hu, k, xs, key_of I.hok eb, dd, h _ _ (I.tok _) ?_⟩
    rw [l]
    exact (rel.val k).getD rd
end
def tDGet2 (td ty tx : TE) : TE := fun σ H Q => td σ H fun x H1 => ∃ a, x = .ref a ∧ IsD H1 a ∧ ty σ H1 fun y H2 => tx σ H2 fun z H3 => ∃ o, DGet H3 a y o ∧ Q (o.getD z) H3
def tDPop1 (td ty : TE) : TE := fun σ H Q => td σ H fun x H1 => ∃ a, x = .ref a ∧ IsD H1 a ∧ ty σ H1 fun y H2 => ∃ kvs k v, H2 a = some (.dK kvs) ∧ y = kV k ∧ valV kvs k = some v ∧ Q v (upd H2 a (.dK (dropK kvs k)))
section
variable {X : Cx} {o e f : Expr} {apos cpos : Pos} {td ty tx : TE}
theorem pe_dget2 (hu : X.A.units + 1 < cLine) (ho : PE X o td) (he : PE X e ty) (hf : PE X f tx) (m : M2 X o "get" apos e f cpos) : PE X (.Call (.Attribute o "get" apos) [e, f] [] cpos) (tDGet2 td ty tx) := by
  intro pins s σ H Q I h
  refine wpAny_Call_method m.base m.few m.line PySem.F.plainAttrs_dict PySem.F.slot_dict_get PySem.F.type_dict_get (thn (ho pins s σ H _ I h) fun u s1 ⟨x, H1, I1, rx, a, ex, d, q1⟩ => ?_)
  subst ex
  obtain rfl : u = Value.ref a := rx
  obtain ⟨t1, t2, _⟩ := isD_at I1 d
  refine ⟨t1, t2, ?_⟩
  rw [m.trees]
  refine Calls.callWith_builtin rfl (Calls.evalArgs_plain (Calls.spliced_cons (thn (he pins s1 σ H1 _ I1 q1) fun iv s2 ⟨y, H2, I2, ry, q2⟩ =>
    Calls.spliced_cons (thn (hf pins s2 σ H2 _ I2 q2) fun fv s3 ⟨z, H3, I3, rz, ov, g, q3⟩ => Calls.spliced_nil ?_))))
  exact d_get2 hu I3 g ry rz fun w' s4 I4 rw' => ⟨_, H3, I4, rw', q3⟩
theorem pe_dpop1 (ho : PE X o td) (he : PE X e ty) (m : M1 X o "pop" apos e cpos) : PE X (.Call (.Attribute o "pop" apos) [e] [] cpos) (tDPop1 td ty) := by
  intro pins s σ H Q I h
  refine wpAny_Call_method m.base m.few m.line PySem.F.plainAttrs_dict PySem.F.slot_dict_pop PySem.F.type_dict_pop (thn (ho pins s σ H _ I h) fun u s1 ⟨x, H1, I1, rx, a, ex, d, q1⟩ => ?_)
  subst ex
  obtain rfl : u = Value.ref a := rx
  obtain ⟨t1, t2, _⟩ := isD_at I1 d
  refine ⟨t1, t2, ?_⟩
  rw [m.trees]
  refine Calls.callWith_builtin rfl (Calls.evalArgs_plain (Calls.spliced_cons (thn (he pins s1 σ H1 _ I1 q1) fun iv s2 ⟨y, H2, I2, ry, kvs, k, v, ea, ey, l, q2⟩ => Calls.spliced_nil ?_)))
  subst ey
  exact d_pop I2 ea ry l (.inl rfl) fun w' s3 I3 rw' => ⟨v, _, I3, rw', q2⟩
end
section
variable {X : Cx} {pins : List (Addr × Obj)} {σ : St} {H : Hp} {s : Shared} {a : Addr} {kvs : List (Key × V)} {A : Around} {E : Value → Shared → Prop}
theorem d_copyOf {Q : Value → Shared → Prop} (I : Inv X pins σ H s) (e : Rd H a (.dK kvs)) (h : ∀ p s', H p = none → Inv X pins σ (upd H p (.dK kvs)) s' → Q (.ref p) s') : wpAny (model X.prog X.w) A (call (.type "dict") [.ref a]) Q E s := by
  obtain ⟨z, hd, vs, rel, dd⟩ := dk_rd I.hok e
  refine kt_call_dict hd dd (by rw [← rel.length]; exact z) fun h' dd' hs => ?_
  refine h _ _ (I.hok.fresh (Nat.le_refl _)) (I.laid (a := s.heap.objs.size) (o := .dK kvs) (t' := s.toks) (fun b q hq => ?_) (Nat.le_refl _) (dk_new z (beq_eq_false_iff_ne.mpr (Ne.symm (Nat.ne_of_lt I.big))) rel dd'))
  exact (hs.2 b (Nat.ne_of_lt (Heap.lt_size hq))).trans (Heap.get?_push_of_some _ hq)
end
section
variable {X : Cx} {pins : List (Addr × Obj)} {σ : St} {H : Hp} {s : Shared} {a : Addr} {y : V} {u : Value} {A : Around} {E : Value → Shared → Prop}
end
end L2
namespace L2
open PySem PySem.Spec PyProof.Rows
section
variable {prog : Program} {w : World} {A : Around} {E : Value → Shared → Prop}
end
section
variable {X : Cx}
end
end L2
namespace L2
open PySem PySem.Spec PyProof.Rows
theorem boot_reversed5 : bootBuiltins "reversed" = some (.type "reversed") := by decide +kernel
section
variable {X : Cx} {pins : List (Addr × Obj)} {σ : St} {H : Hp} {s : Shared} {h' : Heap}
theorem Inv.lock {d : Addr} {u : HO} (I : Inv X pins σ H s) (h : H d = some u) (mu : Mut (some u)) : ∃ od, Inv X pins σ (upd H d (.frz od u)) s := by
  have x := I.hok d u h
  have ex : ∃ od, s.heap.get? d = some od := by
    cases u with
    | lst xs => obtain ⟨_, _, _, _, e⟩ := x; exact ⟨_, e⟩
    | dK kvs => obtain ⟨_, _, _, _, o, _, _, e, _⟩ := x; exact ⟨o, e⟩
    | dT kvs => obtain ⟨_, _, _, _, o, _, _, e, _⟩ := x; exact ⟨o, e⟩
    | set S n => obtain ⟨o, _, _, _, e, _⟩ := x; exact ⟨o, e⟩
    | ins C dx fs => obtain ⟨_, _, _, e, _⟩ := x; exact ⟨_, e⟩
    | ext φ => obtain ⟨_, ⟨_, e⟩, _⟩ := x; exact ⟨_, e⟩
    | _ => exact False.elim mu
  obtain ⟨od, e⟩ := ex
  have new : ObjOk X.prog X.w (upd H d (.frz od u)) s.heap d (.frz od u) := by
    refine ⟨e, x.stay (fun b v _ q => q) (fun b q => ?_) fun b xs q => ?_⟩
    · rw [upd_ne (fun z => by rw [z, h] at q; cases q; exact mu)]; exact q
    · rw [upd_ne (fun z => by rw [z, h] at q; cases q; exact mu)]; exact q
  exact ⟨od, I.write (x := d) (e := d) (t' := s.toks) (h' := s.heap) (by rw [h]; exact mu) (.inl rfl) (fun b v _ q => q) ⟨od, e⟩ new⟩
theorem Inv.nofrz {d : Addr} {u : HO} (I : Inv X pins σ H s) (h : H d = some u) (mu : Mut (some u)) : ∀ o' u', X.H_0 d ≠ some (.frz o' u') := fun o' u' e => by
  have q := I.base.frzs d o' u' e
  rw [h] at q
  cases q
  exact mu
theorem Inv.unlock {d : Addr} {od : Obj} {u : HO} (I : Inv X pins σ H s) (h : H d = some (.frz od u)) (hn : ∀ o' u', X.H_0 d ≠ some (.frz o' u')) : Inv X pins σ (upd H d u) s := by
  have neH : ∀ b o, H b = some o → (∀ o' u', o ≠ .frz o' u') → b ≠ d := fun b o e hne z => by
    rw [z, h] at e
    cases e
    exact hne _ _ rfl
  have neN : ∀ b, H b = none → b ≠ d := fun b e z => by rw [z, h] at e; cases e
  refine ⟨I.ok, I.os, I.bare, ⟨I.base.keep, I.base.slot, fun b o e n hx => ?_, I.base.there, fun b xs e => ?_, fun b o x e => ?_, fun b ps e => ?_⟩, I.loc, I.cell, ?_, fun x c e => ?_, fun p hp => ?_, fun b o e => ?_, I.len⟩
  · rw [upd_ne (neN b (I.base.free b o e n hx))]; exact I.base.free b o e n hx
  · have q := I.base.tups b xs e
    rw [upd_ne (neH b _ q (fun _ _ z => nomatch z))]; exact q
  · have q := I.base.frzs b o x e
    rw [upd_ne (fun z => by rw [z] at e; exact hn _ _ e)]; exact q
  · obtain ⟨m, q⟩ := I.base.tbls b ps e
    exact ⟨m, by rw [upd_ne (neH b _ q (fun _ _ z => nomatch z))]; exact q⟩
  · rw [upd_ne (neN _ I.free)]; exact I.free
  · rw [upd_ne (neN c (I.freeC x c e))]; exact I.freeC x c e
  · obtain ⟨e, n, r⟩ := I.pin p hp
    exact ⟨e, by rw [upd_ne (neN _ n)]; exact n, r⟩
  · by_cases hb : b = d
    · rw [hb, upd_same] at e
      cases e
      rw [hb]
      obtain ⟨_, x⟩ := I.hok d _ h
      exact x.stay (fun c v _ q => q) (fun c q => by rw [upd_ne (neH c _ q (fun _ _ z => nomatch z))]; exact q) fun c xs q => by rw [upd_ne (neH c _ q (fun _ _ z => nomatch z))]; exact q
    · rw [upd_ne hb] at e
      exact (I.hok b o e).stay (fun c v _ q => q) (fun c q => by rw [upd_ne (neH c _ q (fun _ _ z => nomatch z))]; exact q) fun c xs q => by rw [upd_ne (neH c _ q (fun _ _ z => nomatch z))]; exact q
end
def tLockE (t : TE) : TE := fun σ H Q => ∃ d u, H d = some u ∧ Mut (some u) ∧ ∀ od, t σ (upd H d (.frz od u)) fun v H' => H' d = some (.frz od u) ∧ Q v (upd H' d u)
section
variable {X : Cx}
theorem pe_lock {e : Expr} {t : TE} (h : PE X e t) : PE X e (tLockE t) := by
  intro pins s σ H Q I hw
  obtain ⟨d, u, hd, mu, hw⟩ := hw
  obtain ⟨od, I1⟩ := I.lock hd mu
  refine thn (h pins s σ _ _ I1 (hw od)) fun v s1 ⟨x, H1, I2, r, e2, q⟩ => ?_
  exact ⟨x, _, I2.unlock e2 (I.nofrz hd mu), r, q⟩
theorem pi_one {tg : Expr} {pins : List (Addr × Obj)} {σ : St} {H : Hp} {s : Shared} {R : It → Hp → Prop} {J : It} {tn : Nat → Heap → Prop} {tk : Nat} (I : Inv X pins σ H s) (o : Obj)
    (T : Turn X.prog X.w X.K tg J [s.heap.objs.size] s.heap.objs.size tn) (st : tn 0 (s.heap.push o)) (q : R J H) : PIE X pins σ tg R (.ref s.heap.objs.size) { s with heap := s.heap.push o, toks := tk } := by
  refine ⟨s.heap.objs.size, [s.heap.objs.size], tn, J, H, rfl, I.kept fun b ob e => Heap.get?_push_of_some _ e, T, st, fun b hb => ?_, q⟩
  have e : b = s.heap.objs.size := by simpa using hb
  subst e
  exact I.fpOk (Nat.le_refl _) (I.hok.fresh (Nat.le_refl _))
end
section
variable {X : Cx} {tg : Expr}
end
section
variable {X : Cx} {tg : Expr}
end
section
variable {prog : Program} {w : World} {A : Around} {E : Value → Shared → Prop} {s : Shared}
theorem iter_keys {d : Addr} {o : Obj} {es : Array DictEntry} {ep : Nat} {Q : Value → Shared → Prop} (hd : (d == sysModules) = false) (ho : s.heap.get? d = some o) (hc : o.ExactDict) (hdat : o.data = .dict es ep)
    (hQ : Q (.ref s.heap.objs.size) { s with heap := s.heap.push { cls := .type "dict_keyiterator", data := .fields #[.ref d, .int 0 0, .int es.size 0, .int ep 0] } }) :
    wpAny (model prog w) A (pyIter (.ref d)) Q E s := by
  have hT : s.TypeIs (.ref d) "dict" := ⟨o, ho, hc.1⟩
  refine wpAny_pyIter_slot hT F.slot_dict_iter (wpAny_call_entry F.slot_dict_iter hT F.entry_dict_iter ?_ (F.args_dict_iter_1 _))
  unfold Builtin.«dict.__iter__»
  refine wpAny_bind ?_
  unfold Builtin.Dict.dictSlotNone
  refine wpAny_bind (wpAny_notOrdered_dict hT ?_)
  show wpAny _ _ (pure (Value.ref d)) _ _ s
  refine wpAny_pure ?_
  show wpAny _ _ (Builtin.Dict.showsAll d >>= _) _ _ s
  unfold Builtin.Dict.showsAll
  rw [if_neg (by rw [hd]; exact Bool.false_ne_true)]
  refine wpAny_bind (wpAny_pure ?_)
  refine wpAny_bind (wpAny_dictEntries ho hdat ?_)
  refine wpAny_bind (wpAny_dictEpoch ho hdat ?_)
  refine wpAny_bind (wpAny_newObj_type (wpAny_pure ⟨_, rfl, "dict_keyiterator", _, ⟨_, Heap.get?_push_size _ rfl, rfl⟩, F.slot_dict_keyiterator_next.lookup, ?_⟩))
  simpa [rawInt] using hQ
theorem next_key_item {it d : Addr} {i n ep : Nat} {od : Obj} {es : Array DictEntry} {en : DictEntry} {Q : Option Value → Shared → Prop} (hit : s.heap.IsKeyIter it d i n ep) (hod : s.heap.get? d = some od) (hdd : od.data = .dict es ep)
    (hsz : es.size = n) (hx : es[i]? = some en) (hQ : ∀ h', h'.IsKeyIter it d (i + 1) n ep → Heap.SameBut it s.heap h' → Q (some en.key) { s with heap := h' }) : wpAny (model prog w) A (pyNext (.ref it)) Q E s := by
  obtain ⟨o, ho, hc, hd⟩ := id hit
  unfold pyNext
  refine wpAny_bind (wpAny_attempt (wpAny_callSpecial?_slot (name := Str.ofString "__next__") hit.typeIs F.slot_dict_keyiterator_next
    (wpAny_call_entry F.slot_dict_keyiterator_next hit.typeIs F.entry_dict_keyiterator_next ?_ (F.args_dict_keyiterator_next_1 _))))
  refine wpAny_bind (wpAny_pure ?_)
  refine wpAny_bind ?_
  refine wpAny_bind ?_
  first | refine wpAny_bind (wpAny_typeNameOfWhole_keyiter hit.typeIs (wpAny_pure ?_)) | refine wpAny_bind (wpAny_typeNameOf_keyiter hit.typeIs (wpAny_pure ?_))
  refine wpAny_bind (wpAny_fieldsOf ho hd ?_)
  have hown : Builtin.Dict_items.ownsTuple "dict_keyiterator" = false := by decide
  simp only [hown, Bool.false_eq_true, if_false]
  show wpAny _ _ (if (Value.ref d == Value.none) = true then _ else _) _ _ s
  rw [if_neg (show ¬ ((Value.ref d == Value.none) = true) from Bool.false_ne_true)]
  refine wpAny_bind (wpAny_pure ?_)
  refine wpAny_bind (wpAny_dictEntries hod hdd ?_)
  rw [if_neg (by rw [hsz]; simp)]
  refine wpAny_bind (wpAny_pure ?_)
  refine wpAny_bind (wpAny_dictEpoch hod hdd ?_)
  rw [if_neg (by simp)]
  refine wpAny_pure ?_
  obtain ⟨hlt', hen⟩ := Array.getElem?_eq_some_iff.mp hx
  simp only [show ¬ ((i : Int) < 0) from by omega, if_false, Int.toNat_natCast, Array.getElem?_eq_getElem hlt']
  refine wpAny_bind ?_
  first | refine wpAny_bind (wpAny_typeNameOfWhole_keyiter hit.typeIs (wpAny_pure ?_)) | refine wpAny_bind (wpAny_typeNameOf_keyiter hit.typeIs (wpAny_pure ?_))
  refine wpAny_bind (wpAny_isOneOf_keyiter hit.typeIs ?_)
  show wpAny _ _ (setField (.ref it) 1 (rawInt ((i : Int) + 1)) >>= _) _ _ s
  refine wpAny_bind (wpAny_setField ho hd (by simp) ?_)
  have hit' : (s.heap.update it (Obj.mapFields (·.setIfInBounds 1 (rawInt ((i : Int) + 1))))).IsKeyIter it d (i + 1) n ep :=
    ⟨_, Heap.get?_update_self _ ho (Obj.isFreed_of_fields (Obj.data_mapFields hd _)), (Obj.cls_mapFields ..).trans hc, by rw [Obj.data_mapFields hd]; simp [rawInt]⟩
  refine wpAny_bind (wpAny_holding ?_)
  refine wpAny_bind (wpAny_isOneOf_keyiter (s := { s with heap := s.heap.update it (Obj.mapFields (·.setIfInBounds 1 (rawInt ((i : Int) + 1)))) }) hit'.typeIs ?_)
  show wpAny _ _ (pure es[i].key) _ _ _
  rw [hen]
  exact wpAny_pure (wpAny_pure ⟨_, rfl, wpAny_pure (hQ _ hit' (Heap.SameBut.update ..))⟩)
theorem next_key_end {it d : Addr} {i n ep : Nat} {od : Obj} {es : Array DictEntry} {Q : Option Value → Shared → Prop} (hh : A.handled = none) (hit : s.heap.IsKeyIter it d i n ep) (hod : s.heap.get? d = some od) (hdd : od.data = .dict es ep)
    (hsz : es.size = n) (hge : n ≤ i) (hQ : ∀ h', Heap.ExtBut it s.heap h' → Q none { s with heap := h' }) : wpAny (model prog w) A (pyNext (.ref it)) Q E s := by
  obtain ⟨o, ho, hc, hd⟩ := id hit
  unfold pyNext
  refine wpAny_bind (wpAny_attempt (wpAny_callSpecial?_slot (name := Str.ofString "__next__") hit.typeIs F.slot_dict_keyiterator_next
    (wpAny_call_entry F.slot_dict_keyiterator_next hit.typeIs F.entry_dict_keyiterator_next ?_ (F.args_dict_keyiterator_next_1 _))))
  refine wpAny_bind (wpAny_pure ?_)
  refine wpAny_bind ?_
  refine wpAny_bind ?_
  first | refine wpAny_bind (wpAny_typeNameOfWhole_keyiter hit.typeIs (wpAny_pure ?_)) | refine wpAny_bind (wpAny_typeNameOf_keyiter hit.typeIs (wpAny_pure ?_))
  refine wpAny_bind (wpAny_fieldsOf ho hd ?_)
  have hown : Builtin.Dict_items.ownsTuple "dict_keyiterator" = false := by decide
  simp only [hown, Bool.false_eq_true, if_false]
  show wpAny _ _ (if (Value.ref d == Value.none) = true then _ else _) _ _ s
  rw [if_neg (show ¬ ((Value.ref d == Value.none) = true) from Bool.false_ne_true)]
  refine wpAny_bind (wpAny_pure ?_)
  refine wpAny_bind (wpAny_dictEntries hod hdd ?_)
  rw [if_neg (by rw [hsz]; simp)]
  refine wpAny_bind (wpAny_pure ?_)
  refine wpAny_bind (wpAny_dictEpoch hod hdd ?_)
  rw [if_neg (by simp)]
  refine wpAny_pure ?_
  have hge' : es.size ≤ i := by rw [hsz]; exact hge
  simp only [show ¬ ((i : Int) < 0) from by omega, if_false, Int.toNat_natCast, Array.getElem?_eq_none hge']
  refine wpAny_bind ?_
  first | refine wpAny_bind (wpAny_typeNameOfWhole_keyiter hit.typeIs (wpAny_pure ?_)) | refine wpAny_bind (wpAny_typeNameOf_keyiter hit.typeIs (wpAny_pure ?_))
  show wpAny _ _ (setField (.ref it) 0 .none >>= _) _ _ s
  refine wpAny_bind (wpAny_setField ho hd (by simp) ?_)
  show wpAny _ _ (newExc (.type "StopIteration") [] >>= _) _ _ _
  refine wpAny_bind ?_
  simp only [newExc, newTuple]
  refine wpAny_bind (wpAny_newObj_type ?_ (by size_fits))
  refine wpAny_bind (m := firstArgMember _ _) (wpAny_of_eq (a := Value.none) (by first | rfl | (simp only [firstArgMember]; rfl)) ?_)
  refine wpAny_newObj_type ?_ (by size_fits)
  simp only [raiseNew]
  refine wpAny_bind (wpAny_handled ?_)
  rw [show A.in1.handled = none from hh]
  refine wpAny_bind (wpAny_pure (wpAny_throw ?_))
  refine wpAny_bind (wpAny_isInstance (T := "StopIteration") (b := true) ⟨_, Heap.get?_push_size _ rfl, rfl⟩ isSubtype_stop ?_)
  exact wpAny_pure (hQ _ (((Heap.SameBut.update ..).extBut.push _).push _))
end
theorem kv_get {κ : Type} {kvs : List (κ × V)} {vs : List (κ × Value)} (h : KV kvs vs) : ∀ {i : Nat} {k : κ} {v : V}, kvs[i]? = some (k, v) → ∃ u, vs[i]? = some (k, u) ∧ RelV v u := by
  unfold KV at h
  induction h with
  | nil => intro i k v e; simp at e
  | @cons a b l₁ l₂ r t ih =>
    intro i k v e
    cases i with
    | zero =>
      simp only [List.getElem?_cons_zero, Option.some.injEq] at e
      subst e
      refine ⟨b.2, ?_, r.2⟩
      simp only [List.getElem?_cons_zero]
      exact congrArg some (Prod.ext r.1.symm rfl)
    | succ j =>
      simp only [List.getElem?_cons_succ] at e ⊢
      exact ih e
theorem paired_get {α β : Type} {G : α → β → Prop} {l₁ : List α} {l₂ : List β} (h : Paired G l₁ l₂) : ∀ {i : Nat} {a : α}, l₁[i]? = some a → ∃ b, l₂[i]? = some b ∧ G a b := by
  induction h with
  | nil => intro i a e; simp at e
  | @cons a b l₁ l₂ r t ih =>
    intro i a' e
    cases i with
    | zero =>
      simp only [List.getElem?_cons_zero, Option.some.injEq] at e
      subst e
      exact ⟨b, rfl, r⟩
    | succ j =>
      simp only [List.getElem?_cons_succ] at e ⊢
      exact ih e
theorem relV_key {k : Key} {u : Value} (h : keyIs k u = true) : RelV (kV k) u := by
  rcases keyIs_shape h with ⟨i, t, rfl, rfl⟩ | ⟨x, t, rfl, rfl⟩
  · exact ⟨t, rfl⟩
  · exact ⟨t, rfl⟩
section
variable {X : Cx} {pins : List (Addr × Obj)} {σ : St} {H : Hp} {s : Shared} {d : Addr} {o : Obj}
theorem Inv.frzK {kvs : List (Key × V)} (I : Inv X pins σ H s) (h : H d = some (.frz o (.dK kvs))) :
    (d == sysModules) = false ∧ s.heap.get? d = some o ∧ o.ExactDict ∧ ∃ (es : Array DictEntry) (ep : Nat) (vs : List (Key × Value)), o.data = .dict es ep ∧ es.size = kvs.length ∧ KV kvs vs ∧ s.heap.DictAt (mixKind X.prog X.w) d vs ep := by
  obtain ⟨hd, z, hs, vs, kv, o', es, ep, ho, hx, hdt, r⟩ := I.hok d _ h
  rw [hd] at ho
  cases ho
  refine ⟨hs, hd, hx, es, ep, vs, hdt, ?_, kv, o, es, hd, hx, hdt, r⟩
  have l1 := r.2.1.length
  have l2 : kvs.length = vs.length := Paired.length kv
  rw [Array.length_toList] at l1
  omega
theorem Inv.frzT {kvs : List (List Key × V)} (I : Inv X pins σ H s) (h : H d = some (.frz o (.dT kvs))) :
    (d == sysModules) = false ∧ s.heap.get? d = some o ∧ o.ExactDict ∧ ∃ (es : Array DictEntry) (ep : Nat), o.data = .dict es ep ∧ es.size = kvs.length ∧
      ∀ (i : Nat) (k : List Key) (v : V), kvs[i]? = some (k, v) → ∃ (en : DictEntry) (q : Addr), es[i]? = some en ∧ en.key = .ref q ∧ H q = some (.tup (k.map kV)) := by
  obtain ⟨hd, z, hs, xs, pr, o', es, ep, ho, hx, hdt, he, _⟩ := I.hok d _ h
  rw [hd] at ho
  cases ho
  refine ⟨hs, hd, hx, es, ep, hdt, ?_, fun i k v e => ?_⟩
  · have l1 : es.size = xs.length := size_of_entries he
    have l2 : kvs.length = xs.length := Paired.length pr
    omega
  · obtain ⟨b, hb, e1, e2, _⟩ := paired_get pr e
    have q := entry_at he i
    rw [hb] at q
    exact ⟨_, b.2.1, q, rfl, e2⟩
end
def Itk (d : Addr) (o : Obj) (kvs : List (Key × V)) : It :=
  ⟨fun i H => H d = some (.frz o (.dK kvs)) ∧ i < kvs.length, fun i H x H' => H' = H ∧ ∃ k v, kvs[i]? = some (k, v) ∧ x = kV k, fun i H => H d = some (.frz o (.dK kvs)) ∧ kvs.length ≤ i⟩
def Itkt (d : Addr) (o : Obj) (kvs : List (List Key × V)) : It :=
  ⟨fun i H => H d = some (.frz o (.dT kvs)) ∧ i < kvs.length, fun i H x H' => H' = H ∧ ∃ (k : List Key) (v : V) (q : Addr), kvs[i]? = some (k, v) ∧ x = .ref q ∧ H q = some (.tup (k.map kV)), fun i H => H d = some (.frz o (.dT kvs)) ∧ kvs.length ≤ i⟩
theorem dict_ep {o : Obj} {es es' : Array DictEntry} {ep ep' : Nat} (h : o.data = .dict es ep) (h' : o.data = .dict es' ep') : es' = es ∧ ep' = ep := by
  rw [h] at h'
  cases h'
  exact ⟨rfl, rfl⟩
section
variable {P : Program} {w : World} {K : PySem.W.Frag} {tg : Expr} {d : Addr} {o : Obj} {es : Array DictEntry} {ep : Nat}
theorem turn_keys {kvs : List (Key × V)} (it : Addr) (hod : o.data = .dict es ep) : Turn P w K tg (Itk d o kvs) [it] it (fun i h => h.IsKeyIter it d i kvs.length ep) where
  mem := by simp
  obj := fun i h st b hb => by
    have e : b = it := by simpa using hb
    subst e
    obtain ⟨oi, e, c, dd⟩ := st
    exact ⟨oi, e, fun v z => by rw [dd] at z; cases z⟩
  keep := fun i h h' st k => st.at fun oi e => k it (by simp) oi e
  item := by
    intro X hP hw hK hc i pins s σ H E I hf st hg
    subst hP hw hK
    obtain ⟨hd, hi⟩ := hg
    obtain ⟨f0, f1, f2, f3, f4, f5⟩ := hf it (by simp)
    obtain ⟨hs, hgd, hx, es', ep', vs, hdt, hsz, kv, hm⟩ := I.frzK hd
    obtain ⟨rfl, rfl⟩ := dict_ep hod hdt
    obtain ⟨⟨k, v⟩, hkv⟩ : ∃ p, kvs[i]? = some p := ⟨kvs[i], List.getElem?_eq_getElem hi⟩
    obtain ⟨u, hu, ru⟩ := kv_get kv hkv
    have hl : kvs.length = vs.length := Paired.length kv
    rw [hl] at st
    refine wpAny_pyNext_dict_item st hm hu fun key h' hkey st' sb => ?_
    have I1 : Inv X pins σ H { s with heap := h' } := I.turned (t' := s.toks) (fun b ob hb e => (sb.2 b hb).trans e) f0 f1 f3 f4 f5
    obtain ⟨oi, e, c, dd⟩ := id st'
    refine ⟨key, rfl, go_of (s := { s with heap := h' }) e c dd (by decide) ⟨kV k, H, I1, relV_key (show keyIs k key = true from hkey), ⟨rfl, k, v, hkv, rfl⟩, ?_, fun b hb => (hf b hb).1⟩⟩
    show h'.IsKeyIter it d (i + 1) kvs.length _
    rw [hl]
    exact st'
  done := by
    intro X hP hw hK hc i pins s σ H E I hf st hg
    subst hP hw hK
    obtain ⟨hd, hi⟩ := hg
    obtain ⟨f0, f1, f2, f3, f4, f5⟩ := hf it (by simp)
    obtain ⟨hs, hgd, hx, es', ep', vs, hdt, hsz, kv, hm⟩ := I.frzK hd
    obtain ⟨rfl, rfl⟩ := dict_ep hod hdt
    exact next_key_end (I.ok.hd hc) st hgd hdt hsz hi fun h' eb => ⟨rfl, I.turned (t' := s.toks) (fun b ob hb e => eb b ob hb e) f0 f1 f3 f4 f5⟩
  self := fun A i s Q E st h => wpAny_pyIter_keyiter st h
theorem turn_keysT {kvs : List (List Key × V)} (it : Addr) (hod : o.data = .dict es ep) : Turn P w K tg (Itkt d o kvs) [it] it (fun i h => h.IsKeyIter it d i kvs.length ep) where
  mem := by simp
  obj := fun i h st b hb => by
    have e : b = it := by simpa using hb
    subst e
    obtain ⟨oi, e, c, dd⟩ := st
    exact ⟨oi, e, fun v z => by rw [dd] at z; cases z⟩
  keep := fun i h h' st k => st.at fun oi e => k it (by simp) oi e
  item := by
    intro X hP hw hK hc i pins s σ H E I hf st hg
    subst hP hw hK
    obtain ⟨hd, hi⟩ := hg
    obtain ⟨f0, f1, f2, f3, f4, f5⟩ := hf it (by simp)
    obtain ⟨hs, hgd, hx, es', ep', hdt, hsz, ent⟩ := I.frzT hd
    obtain ⟨rfl, rfl⟩ := dict_ep hod hdt
    obtain ⟨⟨k, v⟩, hkv⟩ : ∃ p, kvs[i]? = some p := ⟨kvs[i], List.getElem?_eq_getElem hi⟩
    obtain ⟨en, q, hen, hkey, hq⟩ := ent i k v hkv
    refine next_key_item st hgd hdt hsz hen fun h' st' sb => ?_
    have I1 : Inv X pins σ H { s with heap := h' } := I.turned (t' := s.toks) (fun b ob hb e => (sb.2 b hb).trans e) f0 f1 f3 f4 f5
    obtain ⟨oi, e, c, dd⟩ := id st'
    exact ⟨en.key, rfl, go_of (s := { s with heap := h' }) e c dd (by decide) ⟨.ref q, H, I1, hkey, ⟨rfl, k, v, q, hkv, rfl, hq⟩, st', fun b hb => (hf b hb).1⟩⟩
  done := by
    intro X hP hw hK hc i pins s σ H E I hf st hg
    subst hP hw hK
    obtain ⟨hd, hi⟩ := hg
    obtain ⟨f0, f1, f2, f3, f4, f5⟩ := hf it (by simp)
    obtain ⟨hs, hgd, hx, es', ep', hdt, hsz, ent⟩ := I.frzT hd
    obtain ⟨rfl, rfl⟩ := dict_ep hod hdt
    exact next_key_end (I.ok.hd hc) st hgd hdt hsz hi fun h' eb => ⟨rfl, I.turned (t' := s.toks) (fun b ob hb e => eb b ob hb e) f0 f1 f3 f4 f5⟩
  self := fun A i s Q E st h => by
    refine wpAny_pyIter_slot st.typeIs F.slot_dict_keyiterator_iter (wpAny_call_entry F.slot_dict_keyiterator_iter st.typeIs F.entry_dict_keyiterator_iter ?_ (F.args_dict_keyiterator_iter_1 _))
    show wpAny _ _ (ret (.ref it)) _ _ s
    exact wpAny_pure ⟨_, rfl, "dict_keyiterator", _, st.typeIs, F.slot_dict_keyiterator_next.lookup, h⟩
end
def iKeys (td : TE) : TI := fun σ H R => td σ H fun x H1 => ∃ d o, x = .ref d ∧ ((∃ kvs, H1 d = some (.frz o (.dK kvs)) ∧ R (Itk d o kvs) H1) ∨ ∃ kvs, H1 d = some (.frz o (.dT kvs)) ∧ R (Itkt d o kvs) H1)
section
variable {X : Cx} {tg e : Expr} {td : TE} {apos cpos : Pos}
theorem pi_keys (he : PE X e td) : PI X tg e (iKeys td) := by
  intro pins s σ H R I h
  refine thn (he pins s σ H _ I h) fun u s1 ⟨x, H1, I1, rx, d, o, ex, q⟩ => ?_
  subst ex
  obtain rfl : u = Value.ref d := rx
  rcases q with ⟨kvs, hd, q⟩ | ⟨kvs, hd, q⟩
  · obtain ⟨hs, hgd, hx, es, ep, vs, hdt, hsz, kv, hm⟩ := I1.frzK hd
    refine iter_keys hs hgd hx hdt (pi_one (tk := s1.toks) I1 _ (turn_keys _ hdt) ⟨_, Heap.get?_push_size _ rfl, rfl, ?_⟩ q)
    rw [hsz] <;> rfl
  · obtain ⟨hs, hgd, hx, es, ep, hdt, hsz, ent⟩ := I1.frzT hd
    refine iter_keys hs hgd hx hdt (pi_one (tk := s1.toks) I1 _ (turn_keysT _ hdt) ⟨_, Heap.get?_push_size _ rfl, rfl, ?_⟩ q)
    rw [hsz] <;> rfl
end
end L2
section 
namespace Bits
open PySem PyProof.Rows
end Bits
end 
section 
namespace TL
open PySem PySem.Builtin PySem.Builtin.Str PySem.StrLaws
end TL
end 
namespace L2
open PySem PySem.Spec PyProof.Rows
section
variable {X : Cx} {pins : List (Addr × Obj)} {σ : St} {H : Hp} {s : Shared} {Q : VK}
end
section
variable {X : Cx}
end
section
variable {X : Cx} {o e : Expr} {to te : TE}
end
end L2
namespace L2
open PySem PySem.Spec PyProof.Rows
section
variable {X : Cx}
end
end L2
namespace Att
open PySem PySem.W PySem.Calls PyProof.Rows
section
variable {prog : Program} {w : World} {A : Around} {E : Value → Shared → Prop} {s : Shared} {K : Frag}
end
end Att
namespace L2
open PySem PySem.Spec PyProof.Rows
end L2
namespace L2
open PySem PySem.Spec PyProof.Rows
abbrev KOf {K : PySem.W.Frag} {h : Heap} (_ : K.In h) : PySem.W.Frag := K
end L2
/- THE LAST THEOREM (shape; LID, My.* are yours):
   My.Adr: a structure of the addresses that your layer names (classes, functions); My.Txt K t: a structure (Prop) of the equations over K;
   My.txt_mk : {K} {implicit addresses ..} (e1 : nsIn K mainGlobals "law" = some (some (.ref f))) (e2 : K.lookup f = some ⟨oc, od, .func (fnOf "law" "law" params body scope dV kV doc pm an cdv ct), sl⟩) (e3 : codeIn K cdv "law" = true) .. : ∃ t, My.Txt K t
set_option maxRecDepth 100000 in
set_option maxHeartbeats 0 in
(the tactic k_is has no namespace: write k_is) -/
namespace L2
open PySem PySem.Spec PyProof.Rows
def inClass (s : Stmt) (j : Nat) : Stmt := match s with
  | .ClassDef _ _ _ body _ _ _ _ _ _ _ => body.getD j (.Pass ⟨0, 0, 0, 0⟩)
  | _ => .Pass ⟨0, 0, 0, 0⟩
def defArgs (s : Stmt) : Arguments := match s with
  | .FunctionDef _ a _ _ _ _ _ _ _ _ => a
  | _ => { posonlyargs := [], args := [], vararg := none, kwonlyargs := [], kw_defaults := [], kwarg := none, defaults := [] }
def defBody (s : Stmt) : List Stmt := match s with
  | .FunctionDef _ _ b _ _ _ _ _ _ _ => b
  | _ => []
def defScope (s : Stmt) : Scope := match s with
  | .FunctionDef _ _ _ _ _ _ sc _ _ _ => sc
  | _ => { kind := .function, names := [], isGenerator := false, isCoroutine := false }
abbrev CX0 : CXT := fun _ _ _ _ _ _ => False
abbrev E0 : XK := fun _ _ _ => False
theorem pass0 {X : Cx} : Passes CX0 X E0 := fun _ _ _ _ _ _ _ h => h.elim
structure Fun (K : PySem.W.Frag) (x qual : Str) (st : Stmt) (f : Addr) (fd : FuncData) : Prop where
  ex : ∃ (oc : Value) (od : Option Addr) (kV doc pm : Value) (an : Option Addr) (cdv ct : Value) (osl : Array (Option Value)),
    fd = PySem.W.fnOf x qual (defArgs st) (defBody st) (defScope st) .none kV doc pm an cdv ct ∧ K.lookup f = some ⟨oc, od, .func fd, osl⟩ ∧ PySem.W.codeIn K cdv qual = true
  kp : PySem.W.keepIn K (.ref f) = true
section
variable {P : Program} {w : World} {K : PySem.W.Frag} {mg : Str → Option Value} {base : Heap}
theorem Fun.ok {x qual : Str} {st : Stmt} {f : Addr} {fd : FuncData} {N ps : List Str} {k : Nat} {sp : Sp} (F : Fun K x qual st f fd) (S : FnScope N ps (defScope st)) (len : ∀ vs H Q E, sp vs H Q E → vs.length = ps.length)
    (hbody : ∀ (cdv : Value) (A : Around) (outer : List Env) (s : Shared) (H : Hp) (vs : List V) (Q : VK) (E : XK), Room k (A.deeper (envOfC qual (defScope st) s.heap.objs.size f cdv)) → sp vs H Q E →
      ∃ t, PSs (cxOf CX0 P w K mg base N qual (defScope st) f cdv A outer s H E).nox (defBody st) t ∧ t { nx := fun _ H' => Q .non H', rt := Q } (start N vs) H) : FnOk P w K mg base CX0 (k + 1) f fd ps sp := by
  obtain ⟨oc, od, kV, doc, pm, an, cdv, ct, osl, rfl, lk, hcd⟩ := F.ex
  refine fn_of lk hcd S len fun A outer s H vs Q E hr hsp => ?_
  obtain ⟨t, h, q⟩ := hbody cdv A outer s H vs Q E hr hsp
  exact ⟨t, h.nox, q⟩
theorem Fun.binds {x qual : Str} {st : Stmt} {f : Addr} {fd : FuncData} {ps : List Str} (F : Fun K x qual st f fd)
    (h : ∀ (kV doc pm : Value) (an : Option Addr) (cdv ct : Value) (us : List Value), us.length = ps.length → bindArgs (PySem.W.fnOf x qual (defArgs st) (defBody st) (defScope st) .none kV doc pm an cdv ct) ⟨us, []⟩ = pure (ps.zip us)) : Binds K fd ps [] := by
  obtain ⟨oc, od, kV, doc, pm, an, cdv, ct, osl, rfl, lk, hcd⟩ := F.ex
  exact .all (h kV doc pm an cdv ct)
theorem fun_mk {x qual : Str} {st : Stmt} {f : Addr} {oc : Value} {od an : Option Addr} {osl : Array (Option Value)} {kV doc pm cdv ct : Value} (l : K.lookup f = some ⟨oc, od, .func (PySem.W.fnOf x qual (defArgs st) (defBody st) (defScope st) .none kV doc pm an cdv ct), osl⟩)
    (c : PySem.W.codeIn K cdv qual = true) (k : PySem.W.keepIn K (.ref f) = true) : Fun K x qual st f (PySem.W.fnOf x qual (defArgs st) (defBody st) (defScope st) .none kV doc pm an cdv ct) := ⟨⟨oc, od, kV, doc, pm, an, cdv, ct, osl, rfl, l, c⟩, k⟩
end
theorem hu_of {A : Around} {k : Nat} (hr : Room k A) : A.units + 1 < cLine := Nat.lt_of_le_of_lt (Nat.add_le_add_left (by decide : 1 ≤ 64) _) hr.units
section
variable {X : Cx}
theorem pv (i : Nat) {x : Str} {pos : Pos} (hN : X.N[i]? = some x := by rfl) (hv : Vis X.env.scope x := by first | exact Or.inl rfl | exact Or.inr (Or.inl rfl) | exact Or.inr (Or.inr rfl)) (hd : (x == ("__debug__" : Str)) = false := by decide)
    (hcd : (x == ("__classdict__" : Str)) = false := by decide) : PE X (.Name x pos) (tVar i) := pe_var hN hv hd hcd
end
theorem iteF {A B : Prop} (h : B) : if false = true then A else B := by
  rw [if_neg Bool.false_ne_true]
  exact h
theorem iteT {A B : Prop} (h : A) : if true = true then A else B := by
  rw [if_pos rfl]
  exact h
def Same (H H' : Hp) : Prop := ∀ b o, H b = some o → H' b = some o
theorem Same.refl (H : Hp) : Same H H := fun _ _ h => h
theorem Same.trans {H H1 H2 : Hp} (a : Same H H1) (b : Same H1 H2) : Same H H2 := fun c o h => b c o (a c o h)
theorem Same.free {H H' : Hp} (e : Same H H') {l : Addr} (h : H' l = Option.none) : H l = Option.none := by
  cases q : H l with
  | none => rfl
  | some o =>
    rw [e l o q] at h
    cases h
theorem Same.seq {K : PySem.W.Frag} {H H' : Hp} {a : Addr} {xs : List V} (e : Same H H') (h : SqL K H a xs) : SqL K H' a xs := by
  rcases h with (h | ⟨o, h⟩) | h
  · exact .inl (.inl (e _ _ h))
  · exact .inl (.inr ⟨o, e _ _ h⟩)
  · exact .inr h
section
variable {κ : Type} [DecidableEq κ]
theorem dropK_pos {p : κ × V} {r : List (κ × V)} {k : κ} (e : p.1 = k) : dropK (p :: r) k = dropK r k := by
  unfold dropK
  rw [List.filter_cons, if_neg (by simp [e])]
theorem dropK_neg {p : κ × V} {r : List (κ × V)} {k : κ} (e : ¬ p.1 = k) : dropK (p :: r) k = p :: dropK r k := by
  unfold dropK
  rw [List.filter_cons, if_pos (by simp [e])]
theorem dropK_mem {kvs : List (κ × V)} {k : κ} {p : κ × V} (h : p ∈ dropK kvs k) : p ∈ kvs := (List.mem_filter.mp h).1
end
theorem at_of {xs : List V} {z : Int} {j : Nat} {v : V} (e : z = (j : Int)) (h : xs[j]? = some v) : atI xs z = some v := by
  rw [e]
  exact atI_nat h
theorem Same.made {H H1 : Hp} {x dx C : Addr} (nx : H x = Option.none) (nd : H dx = Option.none) (k : ∀ b o, (upd (upd H dx (.own x)) x (.ins C dx [])) b = some o → b ≠ x → H1 b = some o) : Same H H1 := fun b o e =>
  k b o (by rw [upd_ne (ne_of_none e nx), upd_ne (ne_of_none e nd)]; exact e) (ne_of_none e nx)
end L2
end
section
section
set_option Elab.async false
set_option linter.all false
set_option maxRecDepth 100000
set_option maxHeartbeats 2000000
namespace L2
open PySem PySem.Spec PyProof.Rows
open PySem.W (WData Codec OpenSpec Well WellAll ReadsW ReadsAllW)
mutual
/-- x stands for the datum d, lists and tuples all the way -/
inductive Dw (K : PySem.W.Frag) (H : Hp) : V → WData → Prop
  | non : Dw K H .non .none
  | bl (b : Bool) : Dw K H (.bl b) (.bool b)
  | int (i : Int) : Dw K H (.int i) (.int i)
  | str (x : Str) : Dw K H (.str x) (.str x)
  | byt (b : Array UInt8) : Dw K H (.byt b) (.bytes b.toList)
  | lst {a : Addr} {xs : List V} {ds : List WData} : SqL K H a xs → DwAll K H xs ds → Dw K H (.ref a) (.list ds)
  | tup {a : Addr} {xs : List V} {ds : List WData} : SqT K H a xs → DwAll K H xs ds → Dw K H (.ref a) (.tuple ds)
inductive DwAll (K : PySem.W.Frag) (H : Hp) : List V → List WData → Prop
  | nil : DwAll K H [] []
  | cons {v : V} {vs : List V} {d : WData} {ds : List WData} : Dw K H v d → DwAll K H vs ds → DwAll K H (v :: vs) (d :: ds)
end
theorem dw_ints {K : PySem.W.Frag} {H : Hp} : ∀ ns : List Int, DwAll K H (ns.map V.int) (ns.map WData.int)
  | [] => .nil
  | n :: r => .cons (.int n) (dw_ints r)
theorem ints_dw {K : PySem.W.Frag} {H : Hp} : ∀ (ns : List Int) (xs : List V), DwAll K H xs (ns.map WData.int) → xs = ns.map V.int
  | [], xs, h => by
    cases h
    rfl
  | n :: r, xs, h => by
    cases h with
    | cons h1 h2 =>
      cases h1
      rw [ints_dw r _ h2] <;> rfl
section
variable {P : Program} {w : World} {K : PySem.W.Frag} {H : Hp} {h : Heap} {R : PySem.W.WRecords} {cl : Str → Option Addr}
theorem sqL_at {a : Addr} {xs : List V} (hok : HOk P w H h) (KX : K.In h) (q : SqL K H a xs) : ∃ (its : List Value) (o : Obj) (n : Nat), Vals xs its ∧ h.get? a = some o ∧ o.cls = .type "list" ∧ o.data = .seq its.toArray n := by
  rcases q with q | ⟨o, its, n, e, hc, _, hd, _, hv⟩
  · obtain ⟨_, its, n, hv, e⟩ := (show ObjOk P w H h a (.lst xs) from q.ok hok)
    exact ⟨its, _, n, hv, e, rfl, rfl⟩
  · exact ⟨its.toList, o, n, hv, KX _ _ e, hc, by simp [hd]⟩
theorem sqT_at {a : Addr} {xs : List V} (hok : HOk P w H h) (KX : K.In h) (q : SqT K H a xs) : ∃ (its : List Value) (o : Obj) (n : Nat), Vals xs its ∧ h.get? a = some o ∧ o.cls = .type "tuple" ∧ o.data = .seq its.toArray n := by
  rcases q with q | ⟨o, its, n, e, hc, hd, _, hv⟩
  · obtain ⟨_, its, hv, o, e, hc, n, hd⟩ := (show ObjOk P w H h a (.tup xs) from q.ok hok)
    exact ⟨its, o, n, hv, e, hc, hd⟩
  · exact ⟨its.toList, o, n, hv, KX _ _ e, hc, by simp [hd]⟩
mutual
theorem Dw.reads (hok : HOk P w H h) (KX : K.In h) : ∀ (d : WData) (v : V) (u : Value), Dw K H v d → RelV v u → ∃ as, ReadsW R cl h u d as
  | .none, _, _, x, r => by
    cases x
    cases r
    exact ⟨_, ReadsW.none⟩
  | .bool b, _, _, x, r => by
    cases x
    cases r
    exact ⟨_, ReadsW.bool b⟩
  | .int i, _, _, x, r => by
    cases x
    obtain ⟨t, rfl⟩ := r
    exact ⟨_, ReadsW.int i t⟩
  | .str s, _, _, x, r => by
    cases x
    obtain ⟨t, rfl⟩ := r
    exact ⟨_, ReadsW.str s t⟩
  | .bytes b, _, _, x, r => by
    cases x
    obtain ⟨t, rfl⟩ := r
    exact ⟨_, ReadsW.bytes _ t⟩
  | .list ds, _, _, x, r => by
    cases x with
    | lst hs ha =>
      cases r
      obtain ⟨its, o, n, rv, ho, hc, hd⟩ := sqL_at hok KX hs
      obtain ⟨as, hr⟩ := Dw.readsAll hok KX ds _ its ha rv
      exact ⟨_, ReadsW.list ho hc hd hr⟩
  | .tuple ds, _, _, x, r => by
    cases x with
    | tup hs ha =>
      cases r
      obtain ⟨its, o, n, rv, ho, hc, hd⟩ := sqT_at hok KX hs
      obtain ⟨as, hr⟩ := Dw.readsAll hok KX ds _ its ha rv
      exact ⟨_, ReadsW.tuple ho hc hd hr⟩
  | .float _, _, _, x, _ => by cases x
  | .dict _, _, _, x, _ => by cases x
  | .bytearray _, _, _, x, _ => by cases x
  | .set _, _, _, x, _ => by cases x
  | .frozenset _, _, _, x, _ => by cases x
  | .obj _ _, _, _, x, _ => by cases x
theorem Dw.readsAll (hok : HOk P w H h) (KX : K.In h) : ∀ (ds : List WData) (vs : List V) (us : List Value), DwAll K H vs ds → Vals vs us → ∃ as, ReadsAllW R cl h us ds as
  | [], _, _, x, r => by
    cases x
    cases r
    exact ⟨_, ReadsAllW.nil⟩
  | d :: ds, _, _, x, r => by
    cases x with
    | cons h1 h2 =>
      cases r with
      | cons r1 r2 =>
        obtain ⟨as, q1⟩ := Dw.reads hok KX d _ _ h1 r1
        obtain ⟨bs, q2⟩ := Dw.readsAll hok KX ds _ _ h2 r2
        exact ⟨_, ReadsAllW.cons q1 q2⟩
end
end
mutual
def plW : WData → Bool
  | .none => true
  | .bool _ => true
  | .int _ => true
  | .str _ => true
  | .bytes _ => true
  | .list xs => plWs xs
  | .tuple xs => plWs xs
  | _ => false
def plWs : List WData → Bool
  | [] => true
  | x :: r => plW x && plWs r
end
theorem plWs_map {α : Type} {f : α → WData} (h : ∀ a, plW (f a) = true) : ∀ l : List α, plWs (l.map f) = true
  | [] => rfl
  | x :: r => by
    show (plW (f x) && plWs (r.map f)) = true
    rw [h x, plWs_map h r] <;> rfl
theorem pl_enc : ∀ (c : Codec) (a : c.denote), plW (c.enc a) = true
  | .unit, _ => rfl
  | .bool, _ => rfl
  | .int _ _, _ => rfl
  | .nat _ _, _ => rfl
  | .u8, _ => rfl
  | .bytes _ _, _ => rfl
  | .text _ _ _ _, _ => rfl
  | .list _ _ c, a => plWs_map (fun x => pl_enc c x) a
  | .pair c d, a => by
    show (plW (c.enc a.1) && (plW (d.enc a.2) && true)) = true
    rw [pl_enc c a.1, pl_enc d a.2] <;> rfl
  | .triple c d e, a => by
    show (plW (c.enc a.1) && (plW (d.enc a.2.1) && (plW (e.enc a.2.2) && true))) = true
    rw [pl_enc c a.1, pl_enc d a.2.1, pl_enc e a.2.2] <;> rfl
  | .option c, none => rfl
  | .option c, some x => pl_enc c x
theorem pl_encAll : ∀ (cs : List Codec) (a : Codec.denoteAll cs), plWs (Codec.encAll cs a) = true
  | [], _ => rfl
  | c :: cs, a => by
    show (plW (c.enc a.1) && plWs (Codec.encAll cs a.2)) = true
    rw [pl_enc c a.1, pl_encAll cs a.2] <;> rfl
theorem weight_mem : ∀ {xs : List WData} {d : WData}, d ∈ xs → d.weight ≤ WData.weightAll xs
  | [], d, h => absurd h (by simp)
  | x :: r, d, h => by
    show d.weight ≤ x.weight + 1 + WData.weightAll r
    rcases List.mem_cons.mp h with e | m
    · rw [e]
      omega
    · have z := weight_mem m
      omega
def toV : Value → V
  | .none => .non
  | .bool b => .bl b
  | .int i _ => .int i
  | .str x _ => .str x
  | .bytes b _ => .byt b
  | .ref a => .ref a
  | _ => .non
def OkU (A : List Addr) : Value → Prop
  | .none => True
  | .bool _ => True
  | .int _ _ => True
  | .str _ _ => True
  | .bytes _ _ => True
  | .ref a => a ∈ A
  | _ => False
theorem OkU.mono {A B : List Addr} (h : ∀ a ∈ A, a ∈ B) : ∀ {u : Value}, OkU A u → OkU B u := fun {u} x => by
  cases u with
  | ref a => exact h a x
  | none => trivial
  | bool b => trivial
  | int i t => trivial
  | str s t => trivial
  | bytes b t => trivial
  | _ => exact False.elim x
theorem relV_toV {A : List Addr} {u : Value} (x : OkU A u) : RelV (toV u) u := by
  cases u with
  | ref a => rfl
  | none => rfl
  | bool b => rfl
  | int i t => exact ⟨t, rfl⟩
  | str s t => exact ⟨t, rfl⟩
  | bytes b t => exact ⟨t, rfl⟩
  | _ => exact False.elim x
theorem vals_toV {A : List Addr} : ∀ {vs : List Value}, (∀ u ∈ vs, OkU A u) → Vals (vs.map toV) vs
  | [], _ => .nil
  | u :: r, h => .cons (relV_toV (h u (List.mem_cons_self ..))) (vals_toV fun x hx => h x (List.mem_cons_of_mem _ hx))
def ArgOb (h : Heap) (A : List Addr) (a : Addr) : Prop := ∃ vs : List Value, vs.length ≤ sizeLine ∧ (∀ u ∈ vs, OkU A u) ∧
  (h.get? a = some { cls := .type "list", data := .seq vs.toArray } ∨ h.get? a = some { cls := .type "tuple", data := .seq vs.toArray })
theorem ArgOb.mono {h : Heap} {A B : List Addr} {a : Addr} (k : ∀ a ∈ A, a ∈ B) (x : ArgOb h A a) : ArgOb h B a := by
  obtain ⟨vs, h1, h2, h3⟩ := x
  exact ⟨vs, h1, fun u hu => (h2 u hu).mono k, h3⟩
theorem wellAll_len {P : Params} {h : Heap} : ∀ {vs : List Value} {ds : List WData}, WellAll P h vs ds → vs.length = ds.length
  | _, _, .nil => rfl
  | _, _, .cons _ b => by
    show _ + 1 = _ + 1
    rw [wellAll_len b]
theorem well_list {P : Params} {h : Heap} {v : Value} {ds : List WData} (x : Well P h v (.list ds)) : ∃ (a : Addr) (vs : List Value), v = .ref a ∧ h.get? a = some { cls := .type "list", data := .seq vs.toArray } ∧ WellAll P h vs ds := by
  cases x with
  | list ho hall => exact ⟨_, _, rfl, ho, hall⟩
theorem well_tuple {P : Params} {h : Heap} {v : Value} {ds : List WData} (x : Well P h v (.tuple ds)) : ∃ (a : Addr) (vs : List Value), v = .ref a ∧ h.get? a = some { cls := .type "tuple", data := .seq vs.toArray } ∧ WellAll P h vs ds := by
  cases x with
  | tuple ho hall => exact ⟨_, _, rfl, ho, hall⟩
theorem well_cons {P : Params} {h : Heap} {us : List Value} {d : WData} {ds : List WData} (x : WellAll P h us (d :: ds)) : ∃ (v : Value) (vs : List Value), us = v :: vs ∧ Well P h v d ∧ WellAll P h vs ds := by
  cases x with
  | cons a b => exact ⟨_, _, rfl, a, b⟩
theorem line_of {n : Nat} (h : n ≤ 1048576) : n ≤ sizeLine := Nat.le_trans h (by decide)
section
variable {P : Params} {h : Heap}
mutual
theorem area_one : ∀ (d : WData) (v : Value), Well P h v d → plW d = true → d.weight ≤ 1048576 → ∃ A : List Addr, OkU A v ∧ ∀ a ∈ A, ArgOb h A a
  | .none, _, x, _, _ => by
    cases x
    exact ⟨[], trivial, fun a m => absurd m (by simp)⟩
  | .bool b, _, x, _, _ => by
    cases x
    exact ⟨[], trivial, fun a m => absurd m (by simp)⟩
  | .int i, _, x, _, _ => by
    cases x
    exact ⟨[], trivial, fun a m => absurd m (by simp)⟩
  | .str s, _, x, _, _ => by
    cases x
    exact ⟨[], trivial, fun a m => absurd m (by simp)⟩
  | .bytes b, _, x, _, _ => by
    cases x
    exact ⟨[], trivial, fun a m => absurd m (by simp)⟩
  | .list ds, _, x, p, z => by
    obtain ⟨a, vs, rfl, ho, hall⟩ := well_list x
    have z2 : WData.weightAll ds ≤ 1048576 := z
    obtain ⟨A, h1, h2⟩ := area_all ds _ hall p fun d hd => Nat.le_trans (weight_mem hd) z2
    have k : ∀ b ∈ A, b ∈ a :: A := fun b hb => List.mem_cons_of_mem _ hb
    refine ⟨a :: A, List.mem_cons_self .., fun b hb => ?_⟩
    rcases List.mem_cons.mp hb with e | m
    · rw [e]
      exact ⟨vs, line_of (by rw [wellAll_len hall]; exact Nat.le_trans (PySem.W.length_le_weightAllW ds) z2), fun u hu => (h1 u hu).mono k, .inl ho⟩
    · exact (h2 b m).mono k
  | .tuple ds, _, x, p, z => by
    obtain ⟨a, vs, rfl, ho, hall⟩ := well_tuple x
    have z2 : WData.weightAll ds ≤ 1048576 := z
    obtain ⟨A, h1, h2⟩ := area_all ds _ hall p fun d hd => Nat.le_trans (weight_mem hd) z2
    have k : ∀ b ∈ A, b ∈ a :: A := fun b hb => List.mem_cons_of_mem _ hb
    refine ⟨a :: A, List.mem_cons_self .., fun b hb => ?_⟩
    rcases List.mem_cons.mp hb with e | m
    · rw [e]
      exact ⟨vs, line_of (by rw [wellAll_len hall]; exact Nat.le_trans (PySem.W.length_le_weightAllW ds) z2), fun u hu => (h1 u hu).mono k, .inr ho⟩
    · exact (h2 b m).mono k
  | .float _, _, _, p, _ => Bool.noConfusion (show false = true from p)
  | .dict _, _, _, p, _ => Bool.noConfusion (show false = true from p)
  | .bytearray _, _, _, p, _ => Bool.noConfusion (show false = true from p)
  | .set _, _, _, p, _ => Bool.noConfusion (show false = true from p)
  | .frozenset _, _, _, p, _ => Bool.noConfusion (show false = true from p)
  | .obj _ _, _, _, p, _ => Bool.noConfusion (show false = true from p)
theorem area_all : ∀ (ds : List WData) (vs : List Value), WellAll P h vs ds → plWs ds = true → (∀ d ∈ ds, d.weight ≤ 1048576) → ∃ A : List Addr, (∀ u ∈ vs, OkU A u) ∧ ∀ a ∈ A, ArgOb h A a
  | [], _, x, _, _ => by
    cases x
    exact ⟨[], fun u m => absurd m (by simp), fun a m => absurd m (by simp)⟩
  | d :: ds, _, x, p, z => by
    obtain ⟨v, vs, rfl, x1, x2⟩ := well_cons x
    have q : plW d = true ∧ plWs ds = true := Bool.and_eq_true_iff.mp p
    obtain ⟨A, a1, a2⟩ := area_one d v x1 q.1 (z d (List.mem_cons_self ..))
    obtain ⟨B, b1, b2⟩ := area_all ds vs x2 q.2 fun e he => z e (List.mem_cons_of_mem _ he)
    have kA : ∀ b ∈ A, b ∈ A ++ B := fun b hb => List.mem_append.mpr (.inl hb)
    have kB : ∀ b ∈ B, b ∈ A ++ B := fun b hb => List.mem_append.mpr (.inr hb)
    refine ⟨A ++ B, fun u hu => ?_, fun b hb => ?_⟩
    · rcases List.mem_cons.mp hu with e | m
      · rw [e]
        exact a1.mono kA
      · exact (b1 u m).mono kB
    · rcases List.mem_append.mp hb with m | m
      · exact (a2 b m).mono kA
      · exact (b2 b m).mono kB
end
end
def hoOf (o : Obj) : Option HO := match o.data with
  | .seq vs _ => if (o.cls == Value.type "list") = true then some (.frz o (.lst (vs.toList.map toV))) else some (.frz o (.tup (vs.toList.map toV)))
  | _ => none
def argH (K : PySem.W.Frag) (h : Heap) (A : List Addr) : Hp := fun b => if b ∈ A then (if (K.lookup b).isNone = true then (h.get? b).bind hoOf else none) else none
def OnlyF (H : Hp) : Prop := ∀ b, H b = none ∨ ∃ o u, H b = some (.frz o u)
theorem hoOf_lst (vs : List Value) : hoOf { cls := .type "list", data := .seq vs.toArray } = some (.frz { cls := .type "list", data := .seq vs.toArray } (.lst (vs.map toV))) := by
  show (if (Value.type "list" == Value.type "list") = true then some (HO.frz { cls := .type "list", data := .seq vs.toArray } (.lst (vs.toArray.toList.map toV))) else some (HO.frz { cls := .type "list", data := .seq vs.toArray } (.tup (vs.toArray.toList.map toV)))) = _
  rw [if_pos (beq_self_eq_true _)]
theorem hoOf_tup (vs : List Value) : hoOf { cls := .type "tuple", data := .seq vs.toArray } = some (.frz { cls := .type "tuple", data := .seq vs.toArray } (.tup (vs.map toV))) := by
  show (if (Value.type "tuple" == Value.type "list") = true then some (HO.frz { cls := .type "tuple", data := .seq vs.toArray } (.lst (vs.toArray.toList.map toV))) else some (HO.frz { cls := .type "tuple", data := .seq vs.toArray } (.tup (vs.toArray.toList.map toV)))) = _
  rw [if_neg (by decide)]
section
variable {P : Program} {w : World} {K : PySem.W.Frag} {h : Heap} {A : List Addr}
theorem argH_at {b : Addr} {o : Obj} (hb : b ∈ A) (hk : K.lookup b = none) (e : h.get? b = some o) : argH K h A b = hoOf o := by
  unfold argH
  rw [if_pos hb, hk, if_pos (show (none : Option Obj).isNone = true from rfl), e] <;> rfl
theorem of_argH {b : Addr} {u : HO} (q : argH K h A b = some u) : b ∈ A ∧ K.lookup b = none := by
  unfold argH at q
  by_cases hb : b ∈ A
  · rw [if_pos hb] at q
    cases hk : K.lookup b with
    | none => exact ⟨hb, rfl⟩
    | some o =>
      rw [hk, if_neg (by simp)] at q
      cases q
  · rw [if_neg hb] at q
    cases q
theorem argH_is (ar : ∀ a ∈ A, ArgOb h A a) {b : Addr} {u : HO} (q : argH K h A b = some u) : K.lookup b = none ∧ ∃ vs : List Value, vs.length ≤ sizeLine ∧ (∀ u ∈ vs, OkU A u) ∧
    ((h.get? b = some { cls := .type "list", data := .seq vs.toArray } ∧ u = .frz { cls := .type "list", data := .seq vs.toArray } (.lst (vs.map toV))) ∨
     (h.get? b = some { cls := .type "tuple", data := .seq vs.toArray } ∧ u = .frz { cls := .type "tuple", data := .seq vs.toArray } (.tup (vs.map toV)))) := by
  obtain ⟨hb, hk⟩ := of_argH q
  obtain ⟨vs, h1, h2, h3⟩ := ar b hb
  refine ⟨hk, vs, h1, h2, ?_⟩
  rcases h3 with e | e
  · rw [argH_at hb hk e, hoOf_lst] at q
    exact .inl ⟨e, (Option.some.inj q).symm⟩
  · rw [argH_at hb hk e, hoOf_tup] at q
    exact .inr ⟨e, (Option.some.inj q).symm⟩
theorem argH_only (ar : ∀ a ∈ A, ArgOb h A a) : OnlyF (argH K h A) := fun b => by
  cases q : argH K h A b with
  | none => exact .inl rfl
  | some u =>
    obtain ⟨_, vs, _, _, ⟨_, e⟩ | ⟨_, e⟩⟩ := argH_is ar q
    · exact .inr ⟨_, _, by rw [e]⟩
    · exact .inr ⟨_, _, by rw [e]⟩
theorem argH_ok (ar : ∀ a ∈ A, ArgOb h A a) : HOk P w (argH K h A) h := fun b u q => by
  obtain ⟨_, vs, h1, h2, ⟨e, rfl⟩ | ⟨e, rfl⟩⟩ := argH_is ar q
  · exact ⟨e, by rw [List.length_map]; exact h1, vs, _, vals_toV h2, e⟩
  · exact ⟨e, by rw [List.length_map]; exact h1, vs, vals_toV h2, _, e, rfl, _, rfl⟩
theorem seq_inj {c c' : Value} {vs us : List Value} (e : (some { cls := c, data := .seq vs.toArray } : Option Obj) = some { cls := c', data := .seq us.toArray }) : c = c' ∧ vs = us := by
  have e1 := Option.some.inj e
  have e2 : c = c' := congrArg Obj.cls e1
  have e3 : Data.seq vs.toArray = Data.seq us.toArray := congrArg Obj.data e1
  injection e3 with e4
  refine ⟨e2, ?_⟩
  have e5 := congrArg Array.toList e4
  simpa using e5
theorem argL (KX : K.In h) (ar : ∀ a ∈ A, ArgOb h A a) {a : Addr} {vs : List Value} (ha : a ∈ A) (e : h.get? a = some { cls := .type "list", data := .seq vs.toArray }) : (∀ u ∈ vs, OkU A u) ∧ SqL K (argH K h A) a (vs.map toV) := by
  obtain ⟨us, h1, h2, h3⟩ := ar a ha
  have hu : us = vs := by
    rcases h3 with q | q
    · rw [e] at q
      exact (seq_inj q).2.symm
    · rw [e] at q
      exact absurd (Value.type.inj (seq_inj q).1) (by decide)
  subst hu
  refine ⟨h2, ?_⟩
  cases hk : K.lookup a with
  | none => exact .inl (.inr ⟨_, by rw [argH_at ha hk e, hoOf_lst]⟩)
  | some o =>
    have e2 := KX a o hk
    rw [e] at e2
    obtain rfl := Option.some.inj e2
    exact .inr ⟨_, us.toArray, _, hk, rfl, rfl, rfl, by rw [List.size_toArray]; exact h1, by simpa using vals_toV h2⟩
theorem argT (KX : K.In h) (ar : ∀ a ∈ A, ArgOb h A a) {a : Addr} {vs : List Value} (ha : a ∈ A) (e : h.get? a = some { cls := .type "tuple", data := .seq vs.toArray }) : (∀ u ∈ vs, OkU A u) ∧ SqT K (argH K h A) a (vs.map toV) := by
  obtain ⟨us, h1, h2, h3⟩ := ar a ha
  have hu : us = vs := by
    rcases h3 with q | q
    · rw [e] at q
      exact absurd (Value.type.inj (seq_inj q).1) (by decide)
    · rw [e] at q
      exact (seq_inj q).2.symm
  subst hu
  refine ⟨h2, ?_⟩
  cases hk : K.lookup a with
  | none => exact .inl (.inr ⟨_, by rw [argH_at ha hk e, hoOf_tup]⟩)
  | some o =>
    have e2 := KX a o hk
    rw [e] at e2
    obtain rfl := Option.some.inj e2
    exact .inr ⟨_, us.toArray, _, hk, rfl, rfl, by rw [List.size_toArray]; exact h1, by simpa using vals_toV h2⟩
mutual
theorem dw_one {Pm : Params} (KX : K.In h) (ar : ∀ a ∈ A, ArgOb h A a) : ∀ (d : WData) (v : Value), Well Pm h v d → plW d = true → OkU A v → Dw K (argH K h A) (toV v) d
  | .none, _, x, _, _ => by
    cases x
    exact .non
  | .bool b, _, x, _, _ => by
    cases x
    exact .bl b
  | .int i, _, x, _, _ => by
    cases x
    exact .int i
  | .str s, _, x, _, _ => by
    cases x
    exact .str s
  | .bytes b, _, x, _, _ => by
    cases x
    have z := Dw.byt (K := K) (H := argH K h A) b.toArray
    exact z
  | .list ds, _, x, p, hu => by
    obtain ⟨a, vs, rfl, ho, hall⟩ := well_list x
    obtain ⟨h2, hs⟩ := argL KX ar hu ho
    exact .lst hs (dw_all KX ar ds _ hall p h2)
  | .tuple ds, _, x, p, hu => by
    obtain ⟨a, vs, rfl, ho, hall⟩ := well_tuple x
    obtain ⟨h2, hs⟩ := argT KX ar hu ho
    exact .tup hs (dw_all KX ar ds _ hall p h2)
  | .float _, _, _, p, _ => Bool.noConfusion (show false = true from p)
  | .dict _, _, _, p, _ => Bool.noConfusion (show false = true from p)
  | .bytearray _, _, _, p, _ => Bool.noConfusion (show false = true from p)
  | .set _, _, _, p, _ => Bool.noConfusion (show false = true from p)
  | .frozenset _, _, _, p, _ => Bool.noConfusion (show false = true from p)
  | .obj _ _, _, _, p, _ => Bool.noConfusion (show false = true from p)
theorem dw_all {Pm : Params} (KX : K.In h) (ar : ∀ a ∈ A, ArgOb h A a) : ∀ (ds : List WData) (vs : List Value), WellAll Pm h vs ds → plWs ds = true → (∀ u ∈ vs, OkU A u) → DwAll K (argH K h A) (vs.map toV) ds
  | [], _, x, _, _ => by
    cases x
    exact .nil
  | d :: ds, _, x, p, hu => by
    obtain ⟨v, vs, rfl, x1, x2⟩ := well_cons x
    have q : plW d = true ∧ plWs ds = true := Bool.and_eq_true_iff.mp p
    exact .cons (dw_one KX ar d v x1 q.1 (hu _ (List.mem_cons_self ..))) (dw_all KX ar ds vs x2 q.2 fun u m => hu u (List.mem_cons_of_mem _ m))
end
end
theorem spec_call {P : Program} {w : World} {K : PySem.W.Frag} {mg mb : Str → Option Value} {CX : CXT} {k : Nat} {fa : Addr} {fd : FuncData} {ps : List Str} {sp : Sp} {s₁ : Shared} {vals : List Value} {ds : List WData} {R : PySem.W.WRecords} {cl : Str → Option Addr} {d0 : WData}
    (KX : K.In s₁.heap) (hns : s₁.heap.Ns mainGlobals mg) (hb : s₁.heap.Ns builtinsNs mb) (hbb : ∀ x : Str, x ≠ "__name__" → mb x = bootBuiltins x) (hlim : s₁.heap.NoLimit) (hg : s₁.gens = #[])
    (hwl : WellAll w.params s₁.heap vals ds) (hpl : plWs ds = true) (hwt : ∀ d ∈ ds, d.weight ≤ 1048576) (hr : Room k callerA)
    (F : ∀ base : Heap, K.In base → base.Ns mainGlobals mg → FnOk P w K mg base CX k fa fd ps sp) (hbind : ∀ (s : Shared) (us : List Value), us.length = ps.length → BindsTo s fd ⟨us, []⟩ (ps.zip us)) (hlen : ds.length = ps.length)
    (hsp : ∀ (H : Hp) (xs : List V), OnlyF H → DwAll K H xs ds → sp xs H (fun v H' => Dw K H' v d0) fun _ _ _ => False)
    (hCX : ∀ H e s', CX [] H s₁ (fun _ _ _ => False) e s' → False) :
    codeAny (model P w) callerA (.call (.ref fa) ⟨vals, []⟩) (fun r s' => ∃ u as, r = .ok (.ret u) ∧ ReadsW R cl s'.heap u d0 as ∧ OldK s₁.heap s'.heap ∧ s'.os = s₁.os ∧ AllBare s'.gens) s₁ := by
  obtain ⟨A, ho, ar⟩ := area_all ds vals hwl hpl hwt
  have hO : OnlyF (argH K s₁.heap A) := argH_only ar
  have hok : HOk P w (argH K s₁.heap A) s₁.heap := argH_ok ar
  have hS := dw_all KX ar ds vals hwl hpl ho
  have hV := vals_toV ho
  have hK : ∀ b u, argH K s₁.heap A b = some u → K.lookup b = none := fun b u q => (argH_is ar q).1
  have noA : ∀ {b : Addr} {o : Obj} {es : Array DictEntry} {ep : Nat}, s₁.heap.get? b = some o → o.data = .dict es ep → argH K s₁.heap A b = none := fun {b o es ep} e d => by
    cases q : argH K s₁.heap A b with
    | none => rfl
    | some u =>
      obtain ⟨_, vs, _, _, ⟨e2, _⟩ | ⟨e2, _⟩⟩ := argH_is ar q
      · rw [e2] at e
        cases e
        have d' : Data.seq vs.toArray _ = Data.dict es ep := d
        cases d'
      · rw [e2] at e
        cases e
        have d' : Data.seq vs.toArray _ = Data.dict es ep := d
        cases d'
  generalize argH K s₁.heap A = H at hO hok hS hK noA
  have base_of : ∀ {b : Addr} {o : Obj}, s₁.heap.get? b = some o → H b = none → (hidT s₁.heap H).get? b = some o := fun e n => hidT_get e n
  have nsK : ∀ {b : Addr} {m : Str → Option Value}, s₁.heap.Ns b m → (hidT s₁.heap H).Ns b m := fun {b m} ⟨o, es, ep, e, d, r⟩ => ⟨o, es, ep, base_of e (noA e d), d, r⟩
  have nK : ∀ b o, K.lookup b = some o → H b = none := fun b o e => by
    cases q : H b with
    | none => rfl
    | some u =>
      rw [hK b u q] at e
      cases e
  have hKb : K.In (hidT s₁.heap H) := fun b o e => base_of (KX b o e) (nK b o e)
  have hM : Mod K mg (hidT s₁.heap H) := ⟨hKb, nsK hns, ⟨mb, nsK hb, hbb⟩, let ⟨mc, h1, h2⟩ := hlim; ⟨mc, nsK h1, h2⟩⟩
  have e0 : Env0 P w K mg (hidT s₁.heap H) callerA [] s₁ H := ⟨rfl, hM, fun b o e => of_hidT e, Nat.le_of_eq (hidT_size _ _), trivial, fun b hb => absurd (show b ∈ ([] : List Addr) from hb) (by simp), hok, .of_eq hg⟩
  have hl : vals.length = ps.length := by rw [wellAll_len hwl]; exact hlen
  refine codeAny_mono ((F _ hKb (nsK hns)).run callerA [] s₁ H ⟨vals, []⟩ vals (vals.map toV) _ _ hr e0 (hbind s₁ vals hl) hV (hsp H _ hO hS)) fun r s' x => ?_
  cases r with
  | error e => exact (hCX H e s' x).elim
  | ok fl =>
    cases fl with
    | next => exact False.elim x
    | brk => exact False.elim x
    | cont => exact False.elim x
    | ret u =>
      obtain ⟨v, H', os, bare, un, hok', r', q⟩ := x
      have kept : ∀ b o, s₁.heap.get? b = some o → s'.heap.get? b = some o := fun b o e => by
        cases q2 : H b with
        | none => exact un.keep b o e q2 (by intro z; exact absurd (show b ∈ ([] : List Addr) from z) (by simp)) (by simp)
        | some u2 =>
          rcases hO b with z | ⟨ob, u3, z⟩
          · rw [q2] at z
            cases z
          · have z2 := un.frzs b ob _ z
            obtain ⟨e1, _⟩ := hok b _ z
            obtain ⟨e2, _⟩ := hok' b _ z2
            rw [e] at e1
            cases e1
            exact e2
      have KX' : K.In s'.heap := fun b o e => kept b o (KX b o e)
      obtain ⟨as, hrd⟩ := Dw.reads (R := R) (cl := cl) hok' KX' d0 v u q r'
      exact ⟨u, as, rfl, hrd, OldK.of_keep kept, os, bare⟩
theorem layable_weight {ds : List WData} (h : WData.layableAll ds = true) : ∀ d ∈ ds, d.weight ≤ 1048576 := fun d hd =>
  (PySem.W.layableW_iff.mp (List.all_eq_true.mp h d hd)).2.2
theorem encAll_len : ∀ (cs : List Codec) (a : Codec.denoteAll cs), (Codec.encAll cs a).length = cs.length
  | [], _ => rfl
  | c :: cs, a => by
    show (Codec.encAll cs a.2).length + 1 = cs.length + 1
    rw [encAll_len cs a.2]
theorem walk_spec {r : OpenSpec} {k : Nat} {q : Program} {loose : List Str} {XP : (Str → Option Value) → Heap → Prop} {YP : World → Heap → Prop} {d : DefRec} {K : Params → PySem.W.Frag} {CX : World → CXT} {ps : List Str} {sp : World → Sp}
    (hwell : r.wellSaid = true) (hdf : d.params.defaults = []) (hlen : r.args.length = ps.length) (hr : Room k callerA)
    (hY : ∀ (w : World) (h : Heap), YP w h → (K w.params).In h)
    (F : ∀ (w : World) (mg : Str → Option Value) (fa : Addr) (h : Heap), YP w h → (K w.params).In h → h.Ns mainGlobals mg → mg d.name = some (.ref fa) →
      ∃ fd : FuncData, (∀ (s : Shared) (us : List Value), us.length = ps.length → BindsTo s fd ⟨us, []⟩ (ps.zip us)) ∧
        ∀ base : Heap, (K w.params).In base → base.Ns mainGlobals mg → FnOk r.prog w (K w.params) mg base (CX w) k fa fd ps (sp w))
    (hsp : ∀ (w : World) (H : Hp) (xs : List V) (a : Codec.denoteAll r.args), OnlyF H → Codec.withinAll r.args a = true → Codec.app r.args r.asked a = true → DwAll (K w.params) H xs (Codec.encAll r.args a) →
      sp w xs H (fun v H' => Dw (K w.params) H' v (r.ret.enc (Codec.app r.args r.f a))) fun _ _ _ => False)
    (hCX : ∀ (w : World) (H : Hp) (s : Shared) (e : Value) (s' : Shared), CX w [] H s (fun _ _ _ => False) e s' → False) :
    PySem.W.WalkOS q loose XP YP r d [] (fun f vs => PySem.call f vs) := by
  intro w s_0 s₁ mg mb G Y fa o pm cd doc dV kV ho hd hcd hD hmg hg args vals as hpre hlay hrd hwl hlo
  obtain ⟨a, e1, e2⟩ := PySem.W.os_pre_some hpre
  obtain ⟨e3, hwi⟩ := Codec.encAll_of_decAll r.args args a e1
  subst e3
  have KX := hY w _ Y
  obtain ⟨fd, hb, hF⟩ := F w mg fa _ Y KX G.T.g hmg
  refine PySem.W.enter_call (codeAny_mono (spec_call (R := []) (cl := classAt s_0.heap) (d0 := r.ret.enc (Codec.app r.args r.f a)) KX G.T.g G.T.b G.T.builtins G.T.nolimit hg hwl (pl_encAll _ _) (layable_weight hlay) hr hF hb (by rw [encAll_len]; exact hlen)
    (fun H xs hO hS => hsp w H xs a hO hwi e2 hS) fun H e s' => hCX w H s₁ e s') fun r' s' hq => ?_)
  obtain ⟨u, as', rfl, h1, h2, h3, h4⟩ := hq
  exact ⟨.inl ⟨u, _, as', rfl, fun _ => rfl, h1, (OpenSpec.post_iff hwell hwi _ _).mpr rfl, fun z => Bool.noConfusion (show false = true from z)⟩, h2, h3, h4⟩
theorem walk_specK {r : OpenSpec} {k : Nat} {q : Program} {loose : List Str} {XP : (Str → Option Value) → Heap → Prop} {YP : World → Heap → Prop} {d : DefRec} {K : Params → PySem.W.Frag} {CX : CXT} {ps : List Str} {sp : PySem.W.Frag → Sp}
    (hwell : r.wellSaid = true) (hdf : d.params.defaults = []) (hlen : r.args.length = ps.length) (hr : Room k callerA)
    (hY : ∀ (w : World) (h : Heap), YP w h → (K w.params).In h)
    (F : ∀ (w : World) (mg : Str → Option Value) (fa : Addr) (h : Heap), YP w h → (K w.params).In h → h.Ns mainGlobals mg → mg d.name = some (.ref fa) →
      ∃ fd : FuncData, (∀ (s : Shared) (us : List Value), us.length = ps.length → BindsTo s fd ⟨us, []⟩ (ps.zip us)) ∧
        ∀ base : Heap, (K w.params).In base → base.Ns mainGlobals mg → FnOk r.prog w (K w.params) mg base CX k fa fd ps (sp (K w.params)))
    (hsp : ∀ (K : PySem.W.Frag) (H : Hp) (xs : List V) (a : Codec.denoteAll r.args), OnlyF H → Codec.withinAll r.args a = true → Codec.app r.args r.asked a = true → DwAll K H xs (Codec.encAll r.args a) →
      sp K xs H (fun v H' => Dw K H' v (r.ret.enc (Codec.app r.args r.f a))) fun _ _ _ => False)
    (hCX : ∀ (H : Hp) (s : Shared) (e : Value) (s' : Shared), CX [] H s (fun _ _ _ => False) e s' → False) :
    PySem.W.WalkOS q loose XP YP r d [] (fun f vs => PySem.call f vs) :=
  walk_spec (K := K) (CX := fun _ => CX) (sp := fun w => sp (K w.params)) hwell hdf hlen hr hY F (fun w H xs a h1 h2 h3 h4 => hsp (K w.params) H xs a h1 h2 h3 h4) fun _ H s e s' => hCX H s e s'
end L2
end
end
section
set_option Elab.async false
namespace Ss
open Vbchag
/-! ### sums -/
theorem foldl_add : ∀ (l : List Int) (z : Int), l.foldl (fun a b => a + b) z = z + l.sum
  | [], z => by simp
  | a :: r, z => by
    rw [List.foldl_cons, foldl_add r, List.sum_cons]
    omega
theorem total_sum (l : List Int) : total l = l.sum := by
  unfold total
  rw [foldl_add]
  omega
/-! ### a list in an order by a key, equal keys as they came: there is one -/
section
variable {α : Type}
theorem nil_of_rows {k : α → Int} {b : List α} (h : ∀ c, b.filter (fun x => k x == c) = []) : b = [] := by
  cases b with
  | nil => rfl
  | cons y r =>
    have e := h (k y)
    rw [List.filter_cons, if_pos (by simp)] at e
    cases e
theorem same_rows {k : α → Int} : ∀ {a b : List α}, a.Pairwise (fun x y => k x ≤ k y) → b.Pairwise (fun x y => k x ≤ k y) →
    (∀ c, a.filter (fun x => k x == c) = b.filter (fun x => k x == c)) → a = b
  | [], b, _, _, h => (nil_of_rows (k := k) fun c => (h c).symm.trans List.filter_nil).symm
  | x :: a, [], _, _, h => by
    have e := h (k x)
    rw [List.filter_cons, if_pos (by simp)] at e
    cases e
  | x :: a, y :: b, ha, hb, h => by
    obtain ⟨a1, a2⟩ := List.pairwise_cons.mp ha
    obtain ⟨b1, b2⟩ := List.pairwise_cons.mp hb
    have mx : x ∈ y :: b := by
      have m : x ∈ (x :: a).filter (fun z => k z == k x) := List.mem_filter.mpr ⟨List.mem_cons_self, by simp⟩
      rw [h] at m
      exact (List.mem_filter.mp m).1
    have my : y ∈ x :: a := by
      have m : y ∈ (y :: b).filter (fun z => k z == k y) := List.mem_filter.mpr ⟨List.mem_cons_self, by simp⟩
      rw [← h] at m
      exact (List.mem_filter.mp m).1
    have h1 : k y ≤ k x := by
      rcases List.mem_cons.mp mx with e | e
      · rw [e]; exact Int.le_refl _
      · exact b1 x e
    have h2 : k x ≤ k y := by
      rcases List.mem_cons.mp my with e | e
      · rw [e]; exact Int.le_refl _
      · exact a1 y e
    have hk : k x = k y := Int.le_antisymm h2 h1
    have e := h (k x)
    rw [List.filter_cons, if_pos (by simp), List.filter_cons, if_pos (by simp [hk])] at e
    obtain ⟨e1, _⟩ := List.cons.inj e
    subst e1
    have t : a = b := same_rows a2 b2 fun c => by
      have ec := h c
      rw [List.filter_cons, List.filter_cons] at ec
      by_cases hc : (k x == c) = true
      · rw [if_pos hc, if_pos hc] at ec
        exact (List.cons.inj ec).2
      · rw [if_neg hc, if_neg hc] at ec
        exact ec
    rw [t]
end
/-! ### the specification's order is that order -/
/-- of equal offers the earlier one stands ahead -/
def Tidy (l : List Offer) : Prop := l.Pairwise fun x y => x.amount = y.amount → ahead x y = true
theorem ahead_lt {x y : Offer} (h : y.amount < x.amount) : ahead x y = true := by
  unfold ahead
  rw [decide_eq_true h, Bool.true_or]
theorem ahead_gt {x y : Offer} (h : x.amount < y.amount) : ahead x y = false := by
  unfold ahead
  rw [decide_eq_false (by omega), Bool.false_or]
  have e : (x.amount == y.amount) = false := by simp; omega
  rw [e, Bool.false_and]
theorem mem_insert {x z : Offer} : ∀ {l : List Offer}, z ∈ insertOffer x l → z = x ∨ z ∈ l
  | [], h => by
    have h : z ∈ [x] := h
    simp at h
    exact Or.inl h
  | y :: r, h => by
    unfold insertOffer at h
    by_cases c : ahead x y = true
    · rw [if_pos c] at h
      exact List.mem_cons.mp h
    · rw [if_neg c] at h
      rcases List.mem_cons.mp h with e | e
      · exact Or.inr (by rw [e]; exact List.mem_cons_self)
      · rcases mem_insert e with q | q
        · exact Or.inl q
        · exact Or.inr (List.mem_cons_of_mem _ q)
theorem mem_order {z : Offer} : ∀ {l : List Offer}, z ∈ inOrder l → z ∈ l
  | [], h => h
  | x :: l, h => by
    have h : z ∈ insertOffer x (inOrder l) := h
    rcases mem_insert h with e | e
    · rw [e]; exact List.mem_cons_self
    · exact List.mem_cons_of_mem _ (mem_order e)
theorem insert_sorted {x : Offer} : ∀ {l : List Offer}, l.Pairwise (fun a b => b.amount ≤ a.amount) → (∀ y ∈ l, x.amount = y.amount → ahead x y = true) →
    (insertOffer x l).Pairwise (fun a b => b.amount ≤ a.amount)
  | [], _, _ => List.pairwise_singleton _ _
  | y :: r, h, t => by
    obtain ⟨h1, h2⟩ := List.pairwise_cons.mp h
    unfold insertOffer
    by_cases c : ahead x y = true
    · rw [if_pos c]
      have hy : y.amount ≤ x.amount := by
        by_cases q : x.amount < y.amount
        · rw [ahead_gt q] at c; cases c
        · omega
      refine List.pairwise_cons.mpr ⟨fun z hz => ?_, h⟩
      rcases List.mem_cons.mp hz with e | e
      · rw [e]; exact hy
      · exact Int.le_trans (h1 z e) hy
    · rw [if_neg c]
      have hy : x.amount < y.amount := by
        by_cases q : y.amount < x.amount
        · exact absurd (ahead_lt q) c
        · by_cases q2 : x.amount = y.amount
          · exact absurd (t y List.mem_cons_self q2) c
          · omega
      refine List.pairwise_cons.mpr ⟨fun z hz => ?_, insert_sorted h2 fun y' m => t y' (List.mem_cons_of_mem _ m)⟩
      rcases mem_insert hz with e | e
      · rw [e]; omega
      · exact h1 z e
theorem insert_row {x : Offer} (c : Int) : ∀ {l : List Offer}, l.Pairwise (fun a b => b.amount ≤ a.amount) → (∀ y ∈ l, x.amount = y.amount → ahead x y = true) →
    (insertOffer x l).filter (fun o => o.amount == c) = (x :: l).filter (fun o => o.amount == c)
  | [], _, _ => rfl
  | y :: r, h, t => by
    obtain ⟨h1, h2⟩ := List.pairwise_cons.mp h
    unfold insertOffer
    by_cases q : ahead x y = true
    · rw [if_pos q]
    · rw [if_neg q]
      have hy : x.amount < y.amount := by
        by_cases q1 : y.amount < x.amount
        · exact absurd (ahead_lt q1) q
        · by_cases q2 : x.amount = y.amount
          · exact absurd (t y List.mem_cons_self q2) q
          · omega
      rw [List.filter_cons, insert_row c h2 fun y' m => t y' (List.mem_cons_of_mem _ m), List.filter_cons (x := x), List.filter_cons (x := x), List.filter_cons (x := y)]
      by_cases e1 : (y.amount == c) = true
      · have e2 : ¬ (x.amount == c) = true := by
          simp at e1 ⊢
          omega
        simp only [if_pos e1, if_neg e2]
      · simp only [if_neg e1]
theorem order_both : ∀ {l : List Offer}, Tidy l → (inOrder l).Pairwise (fun a b => b.amount ≤ a.amount) ∧ ∀ c, (inOrder l).filter (fun o => o.amount == c) = l.filter (fun o => o.amount == c)
  | [], _ => ⟨List.Pairwise.nil, fun _ => rfl⟩
  | x :: l, h => by
    obtain ⟨h1, h2⟩ := List.pairwise_cons.mp h
    obtain ⟨i1, i2⟩ := order_both h2
    have t : ∀ y ∈ inOrder l, x.amount = y.amount → ahead x y = true := fun y m => h1 y (mem_order m)
    refine ⟨insert_sorted i1 t, fun c => ?_⟩
    show (insertOffer x (inOrder l)).filter _ = _
    rw [insert_row c i1 t, List.filter_cons, List.filter_cons, i2 c]
/-- whoever puts the pairs (whose, how much) in order by falling amount, equal ones as they came, has the specification's order -/
def pr (o : Offer) : Int × Int := ((o.who : Int), o.amount)
theorem order_of {l : List Offer} {ps : List (Int × Int)} (h : Tidy l) (hs : ps.Pairwise (fun a b => -a.2 ≤ -b.2)) (hr : ∀ c, ps.filter (fun p => -p.2 == c) = (l.map pr).filter (fun p => -p.2 == c)) : ps = (inOrder l).map pr := by
  obtain ⟨i1, i2⟩ := order_both h
  refine same_rows (k := fun p : Int × Int => -p.2) hs ?_ fun c => ?_
  · rw [List.pairwise_map]
    refine i1.imp fun {a b} q => ?_
    show -a.amount ≤ -b.amount
    omega
  · rw [hr c, List.filter_map, List.filter_map]
    refine congrArg (List.map pr) ?_
    have e : ∀ m : List Offer, m.filter ((fun p : Int × Int => -p.2 == c) ∘ pr) = m.filter (fun o => o.amount == -c) := fun m => by
      refine List.filter_congr fun o _ => ?_
      show (-o.amount == c) = (o.amount == -c)
      by_cases q : o.amount = -c
      · rw [q]; simp
      · have q1 : (-o.amount == c) = false := by simp; omega
        have q2 : (o.amount == -c) = false := by simp; omega
        rw [q1, q2]
    rw [e, e, i2]
end Ss
end
section
set_option Elab.async false
namespace Ss
open Vbchag
/-! ### the bids as a table in the order in which they came -/
abbrev Tb := List (Int × List Int)
def lk (bs : Tb) (w : Int) : Option (List Int) := (bs.find? fun b => decide (b.1 = w)).map (·.2)
def putB (bs : Tb) (w : Int) (os : List Int) : Tb :=
  if (bs.any fun b => decide (b.1 = w)) = true then bs.map (fun b => if b.1 = w then (b.1, os) else b) else bs ++ [(w, os)]
def dropB (bs : Tb) (w : Int) : Tb := bs.filter fun b => decide (b.1 ≠ w)
theorem lk_pos {p : Int × List Int} {r : Tb} {w : Int} (e : p.1 = w) : lk (p :: r) w = some p.2 := by simp [lk, e]
theorem lk_neg {p : Int × List Int} {r : Tb} {w : Int} (e : ¬ p.1 = w) : lk (p :: r) w = lk r w := by simp [lk, e]
theorem any_lk (w : Int) : ∀ bs : Tb, (bs.any fun b => decide (b.1 = w)) = (lk bs w).isSome
  | [] => rfl
  | p :: r => by
    rw [List.any_cons]
    by_cases e : p.1 = w
    · rw [lk_pos e, decide_eq_true e]; rfl
    · rw [lk_neg e, decide_eq_false e, Bool.false_or, any_lk w r]
theorem lk_snoc (w j : Int) (os : List Int) : ∀ bs : Tb, lk (bs ++ [(w, os)]) j = (lk bs j).or (if w = j then some os else none)
  | [] => by
    by_cases e : w = j
    · rw [List.nil_append, lk_pos (p := (w, os)) e, if_pos e]; rfl
    · rw [List.nil_append, lk_neg (p := (w, os)) e, if_neg e]; rfl
  | p :: r => by
    rw [List.cons_append]
    by_cases e : p.1 = j
    · rw [lk_pos e, lk_pos e]; rfl
    · rw [lk_neg e, lk_neg e, lk_snoc w j os r]
theorem lk_repl (w j : Int) (os : List Int) : ∀ bs : Tb, lk (bs.map fun b => if b.1 = w then (b.1, os) else b) j = if j = w then (lk bs j).map fun _ => os else lk bs j
  | [] => by
    have e : lk [] j = none := rfl
    rw [List.map_nil, e, Option.map_none]
    split <;> rfl
  | p :: r => by
    rw [List.map_cons]
    by_cases c : p.1 = w
    · rw [if_pos c]
      by_cases e : p.1 = j
      · rw [lk_pos (p := (p.1, os)) e, lk_pos e, if_pos (e.symm.trans c)]; rfl
      · rw [lk_neg (p := (p.1, os)) e, lk_neg e, lk_repl w j os r]
    · rw [if_neg c]
      by_cases e : p.1 = j
      · rw [lk_pos e, lk_pos e, if_neg (fun z => c (e.trans z))]
      · rw [lk_neg e, lk_neg e, lk_repl w j os r]
theorem lk_put (bs : Tb) (w j : Int) (os : List Int) : lk (putB bs w os) j = if j = w then some os else lk bs j := by
  unfold putB
  by_cases a : (bs.any fun b => decide (b.1 = w)) = true
  · rw [if_pos a, lk_repl]
    rw [any_lk] at a
    by_cases e : j = w
    · obtain ⟨x, hx⟩ := Option.isSome_iff_exists.mp a
      rw [if_pos e, if_pos e, e, hx]; rfl
    · rw [if_neg e, if_neg e]
  · rw [if_neg a, lk_snoc]
    rw [any_lk] at a
    by_cases e : j = w
    · have n : lk bs j = none := by
        rw [e]
        cases q : lk bs w with
        | none => rfl
        | some x => rw [q] at a; exact (a rfl).elim
      rw [if_pos e, n, if_pos e.symm]; rfl
    · rw [if_neg e, if_neg (fun z => e z.symm), Option.or_none]
theorem lk_drop (w j : Int) : ∀ bs : Tb, lk (dropB bs w) j = if j = w then none else lk bs j
  | [] => by
    have e : lk [] j = none := rfl
    show lk [] j = _
    rw [e]
    split <;> rfl
  | p :: r => by
    unfold dropB
    rw [List.filter_cons]
    by_cases c : p.1 = w
    · rw [if_neg (by simp [c])]
      have ih := lk_drop w j r
      unfold dropB at ih
      rw [ih]
      by_cases e : j = w
      · rw [if_pos e, if_pos e]
      · rw [if_neg e, if_neg e, lk_neg (fun z => e (z.symm.trans c))]
    · rw [if_pos (by simp [c])]
      have ih := lk_drop w j r
      unfold dropB at ih
      by_cases e : p.1 = j
      · rw [lk_pos e, lk_pos e, if_neg (fun z => c (e.trans z))]
      · rw [lk_neg e, ih, lk_neg e]
/-! ### as the specification keeps them: by rising bidders -/
def canF (ws : List Nat) (g : Int → Option (List Int)) : List Bid := ws.filterMap fun (w : Nat) => (g (w : Int)).map fun os => ({ who := w, offers := os } : Bid)
def can (bs : Tb) : List Bid := canF everyone (lk bs)
theorem canF_cons (w : Nat) (ws : List Nat) (g : Int → Option (List Int)) : canF (w :: ws) g = (match g (w : Int) with | some os => [({ who := w, offers := os } : Bid)] | none => []) ++ canF ws g := by
  unfold canF
  rw [List.filterMap_cons]
  cases g (w : Int) with
  | none => rfl
  | some os => rfl
theorem canF_congr {ws : List Nat} {g h : Int → Option (List Int)} (e : ∀ w ∈ ws, g (w : Int) = h (w : Int)) : canF ws g = canF ws h := by
  unfold canF
  induction ws with
  | nil => rfl
  | cons w ws ih =>
    rw [List.filterMap_cons, List.filterMap_cons, e w List.mem_cons_self, ih fun v m => e v (List.mem_cons_of_mem _ m)]
theorem canF_who {ws : List Nat} {g : Int → Option (List Int)} {b : Bid} (h : b ∈ canF ws g) : b.who ∈ ws ∧ g (b.who : Int) = some b.offers := by
  obtain ⟨w, hw, e⟩ := List.mem_filterMap.mp h
  cases q : g (w : Int) with
  | none => rw [q] at e; cases e
  | some os =>
    rw [q] at e
    have e' : ({ who := w, offers := os } : Bid) = b := Option.some.inj e
    subst e'
    exact ⟨hw, q⟩
theorem put_front {b : Bid} : ∀ {l : List Bid}, (∀ y ∈ l, b.who < y.who) → putBid b l = b :: l
  | [], _ => rfl
  | y :: r, h => by
    unfold putBid
    rw [if_pos (h y List.mem_cons_self)]
theorem put_canF {w : Nat} {os : List Int} : ∀ {ws : List Nat} {g : Int → Option (List Int)}, ws.Pairwise (· < ·) → w ∈ ws →
    putBid { who := w, offers := os } (canF ws g) = canF ws fun j => if j = (w : Int) then some os else g j
  | [], _, _, m => by cases m
  | v :: ws, g, hp, m => by
    obtain ⟨h1, h2⟩ := List.pairwise_cons.mp hp
    rw [canF_cons, canF_cons]
    by_cases e : w = v
    · subst e
      have c : canF ws (fun j => if j = (w : Int) then some os else g j) = canF ws g := canF_congr fun u hu => by
        rw [if_neg (by have := h1 u hu; omega)]
      have big : ∀ y ∈ canF ws g, ({ who := w, offers := os } : Bid).who < y.who := fun y hy => h1 _ (canF_who hy).1
      rw [c, if_pos rfl]
      cases q : g (w : Int) with
      | none =>
        show putBid _ ([] ++ canF ws g) = _
        rw [List.nil_append, put_front big]; rfl
      | some x =>
        show putBid _ ({ who := w, offers := x } :: canF ws g) = _
        unfold putBid
        rw [if_neg (Nat.lt_irrefl w), if_pos rfl]; rfl
    · have m' : w ∈ ws := (List.mem_cons.mp m).resolve_left e
      have lt : v < w := h1 w m'
      rw [if_neg (show ¬ (v : Int) = (w : Int) by omega)]
      cases q : g (v : Int) with
      | none => exact put_canF h2 m'
      | some x =>
        show putBid { who := w, offers := os } ({ who := v, offers := x } :: canF ws g) = { who := v, offers := x } :: canF ws _
        unfold putBid
        rw [if_neg (show ¬ w < v by omega), if_neg e, put_canF h2 m']
theorem everyone_up : everyone.Pairwise (· < ·) := by decide
theorem mem_everyone {w : Int} (h1 : 1 ≤ w) (h8 : w ≤ 8) : w.toNat ∈ everyone ∧ ((w.toNat : Nat) : Int) = w := by
  have e : ((w.toNat : Nat) : Int) = w := Int.toNat_of_nonneg (by omega)
  refine ⟨?_, e⟩
  have : w.toNat = 1 ∨ w.toNat = 2 ∨ w.toNat = 3 ∨ w.toNat = 4 ∨ w.toNat = 5 ∨ w.toNat = 6 ∨ w.toNat = 7 ∨ w.toNat = 8 := by omega
  rcases this with q | q | q | q | q | q | q | q <;> rw [q] <;> decide
theorem can_put {bs : Tb} {w : Int} {os : List Int} (h1 : 1 ≤ w) (h8 : w ≤ 8) : can (putB bs w os) = putBid { who := w.toNat, offers := os } (can bs) := by
  obtain ⟨m, e⟩ := mem_everyone h1 h8
  unfold can
  rw [put_canF everyone_up m, e]
  exact canF_congr fun v _ => lk_put bs w v os
theorem filter_canF (c : Int → Bool) {g : Int → Option (List Int)} : ∀ {ws : List Nat}, (canF ws g).filter (fun b => c (b.who : Int)) = canF ws fun j => if c j = true then g j else none
  | [] => rfl
  | v :: ws => by
    rw [canF_cons, canF_cons, List.filter_append, filter_canF c]
    cases q : g (v : Int) with
    | none =>
      have e : (if c (v : Int) = true then (none : Option (List Int)) else none) = none := by split <;> rfl
      rw [e]; rfl
    | some x =>
      by_cases d : c (v : Int) = true
      · rw [if_pos d]
        show List.filter _ [({ who := v, offers := x } : Bid)] ++ _ = _
        rw [List.filter_cons, if_pos (show c (((⟨v, x⟩ : Bid).who : Nat) : Int) = true from d)]; rfl
      · rw [if_neg d]
        show List.filter _ [({ who := v, offers := x } : Bid)] ++ _ = _
        rw [List.filter_cons, if_neg (show ¬ c (((⟨v, x⟩ : Bid).who : Nat) : Int) = true from d)]; rfl
theorem can_drop (bs : Tb) (w : Int) : can (dropB bs w) = (can bs).filter fun b => (b.who : Int) != w := by
  unfold can
  rw [filter_canF (fun j => j != w)]
  refine canF_congr fun v _ => ?_
  rw [lk_drop]
  by_cases e : (v : Int) = w
  · rw [if_pos e, if_neg (by simp [e])]
  · rw [if_neg e, if_pos (by simp [e])]
theorem can_others {bs : Tb} {w : Int} (h1 : 1 ≤ w) : can (dropB bs w) = others w.toNat (can bs) := by
  rw [can_drop]
  unfold others
  refine List.filter_congr fun b _ => ?_
  show (!((b.who : Int) == w)) = (!(b.who == w.toNat))
  refine congrArg (fun z => !z) ?_
  have e : ((w.toNat : Nat) : Int) = w := Int.toNat_of_nonneg (by omega)
  by_cases q : b.who = w.toNat
  · rw [beq_iff_eq.mpr q, beq_iff_eq.mpr (by omega)]
  · rw [beq_eq_false_iff_ne.mpr q, beq_eq_false_iff_ne.mpr (by omega)]
/-! ### what holds of the table -/
structure TbOk (n : Nat) (bs : Tb) : Prop where
  nd : (bs.map (·.1)).Nodup
  who : ∀ b ∈ bs, 1 ≤ b.1 ∧ b.1 ≤ 8
  len : ∀ b ∈ bs, b.2.length ≤ n
theorem lk_mem {bs : Tb} {w : Int} {os : List Int} (h : lk bs w = some os) : (w, os) ∈ bs := by
  unfold lk at h
  cases q : bs.find? (fun b => decide (b.1 = w)) with
  | none => rw [q] at h; cases h
  | some p =>
    rw [q] at h
    have e : p.2 = os := Option.some.inj h
    have e1 : p.1 = w := of_decide_eq_true (p := p.1 = w) (List.find?_some (p := fun b : Int × List Int => decide (b.1 = w)) q)
    have m := List.mem_of_find?_eq_some q
    rw [← e, ← e1]
    exact m
theorem lk_of_mem : ∀ {bs : Tb} {w : Int} {os : List Int}, (bs.map (·.1)).Nodup → (w, os) ∈ bs → lk bs w = some os
  | [], _, _, _, m => by cases m
  | p :: r, w, os, nd, m => by
    obtain ⟨h1, h2⟩ := List.nodup_cons.mp (show (p.1 :: r.map (·.1)).Nodup from nd)
    rcases List.mem_cons.mp m with e | e
    · rw [← e]; exact lk_pos rfl
    · have ne : ¬ p.1 = w := fun z => h1 (List.mem_map.mpr ⟨(w, os), e, z.symm⟩)
      rw [lk_neg ne]
      exact lk_of_mem h2 e
theorem TbOk.nil (n : Nat) : TbOk n [] := ⟨List.nodup_nil, fun _ m => (by cases m), fun _ m => (by cases m)⟩
theorem TbOk.drop {n : Nat} {bs : Tb} (h : TbOk n bs) (w : Int) : TbOk n (dropB bs w) := by
  refine ⟨?_, fun b m => h.who b (List.mem_filter.mp m).1, fun b m => h.len b (List.mem_filter.mp m).1⟩
  exact h.nd.sublist (List.filter_sublist.map _)
theorem TbOk.put {n : Nat} {bs : Tb} (h : TbOk n bs) {w : Int} {os : List Int} (h1 : 1 ≤ w) (h8 : w ≤ 8) (hl : os.length ≤ n) : TbOk n (putB bs w os) := by
  unfold putB
  by_cases a : (bs.any fun b => decide (b.1 = w)) = true
  · rw [if_pos a]
    have e : (bs.map fun b => if b.1 = w then (b.1, os) else b).map (·.1) = bs.map (·.1) := by
      rw [List.map_map]
      refine List.map_congr_left fun b _ => ?_
      show (if b.1 = w then (b.1, os) else b).1 = b.1
      split <;> rfl
    refine ⟨by rw [e]; exact h.nd, fun b m => ?_, fun b m => ?_⟩
    · obtain ⟨c, hc, ec⟩ := List.mem_map.mp m
      rw [← ec]
      have q := h.who c hc
      split <;> exact q
    · obtain ⟨c, hc, ec⟩ := List.mem_map.mp m
      rw [← ec]
      have q := h.len c hc
      split
      · exact hl
      · exact q
  · rw [if_neg a]
    have nm : ¬ w ∈ bs.map (·.1) := fun m => by
      obtain ⟨b, hb, e⟩ := List.mem_map.mp m
      exact a (List.any_eq_true.mpr ⟨b, hb, decide_eq_true e⟩)
    refine ⟨?_, fun b m => ?_, fun b m => ?_⟩
    · rw [List.map_append]
      show (bs.map (·.1) ++ [w]).Nodup
      rw [List.nodup_append]
      refine ⟨h.nd, by simp, fun x hx y hy e => ?_⟩
      rw [List.mem_singleton.mp hy] at e
      exact nm (e ▸ hx)
    · rcases List.mem_append.mp m with q | q
      · exact h.who b q
      · rw [List.mem_singleton.mp q]; exact ⟨h1, h8⟩
    · rcases List.mem_append.mp m with q | q
      · exact h.len b q
      · rw [List.mem_singleton.mp q]; exact hl
theorem nodup_of_map {α β : Type} (f : α → β) : ∀ {l : List α}, (l.map f).Nodup → l.Nodup
  | [], _ => List.nodup_nil
  | a :: l, h => by
    obtain ⟨h1, h2⟩ := List.nodup_cons.mp (show (f a :: l.map f).Nodup from h)
    exact List.nodup_cons.mpr ⟨fun m => h1 (List.mem_map.mpr ⟨a, m, rfl⟩), nodup_of_map f h2⟩
theorem perm_sum {a b : List Int} (h : a.Perm b) : a.sum = b.sum := by
  induction h with
  | nil => rfl
  | cons x _ ih => rw [List.sum_cons, List.sum_cons, ih]
  | swap x y l => rw [List.sum_cons, List.sum_cons, List.sum_cons, List.sum_cons]; omega
  | trans _ _ i1 i2 => exact i1.trans i2
theorem filterMap_perm_aux {bs : Tb} (hw : ∀ b ∈ bs, 1 ≤ b.1 ∧ b.1 ≤ 8) (nd : (bs.map (·.1)).Nodup) : ((can bs).map fun b => ((b.who : Int), b.offers)).Perm bs := by
  refine (List.perm_ext_iff_of_nodup ?_ ?_).mpr fun x => ?_
  · have q : ∀ ws : List Nat, ws.Nodup → ((canF ws (lk bs)).map fun b => ((b.who : Int), b.offers)).Nodup := by
      intro ws
      induction ws with
      | nil => intro _; exact (List.nodup_nil (α := Int × List Int))
      | cons w ws ih =>
        intro hn
        obtain ⟨h1, h2⟩ := List.nodup_cons.mp hn
        rw [canF_cons, List.map_append]
        cases e : lk bs (w : Int) with
        | none => exact ih h2
        | some os =>
          refine List.nodup_cons.mpr ⟨fun m => ?_, ih h2⟩
          obtain ⟨b, hb, eb⟩ := List.mem_map.mp m
          have z := (canF_who hb).1
          have e2 : (b.who : Int) = (w : Int) := congrArg Prod.fst eb
          have e3 : b.who = w := by omega
          exact h1 (e3 ▸ z)
    exact q everyone (by decide)
  · exact nodup_of_map (·.1) nd
  · constructor
    · intro m
      obtain ⟨b, hb, eb⟩ := List.mem_map.mp m
      rw [← eb]
      exact lk_mem (canF_who hb).2
    · intro m
      obtain ⟨h1, h8⟩ := hw x m
      obtain ⟨me, e⟩ := mem_everyone h1 h8
      have l := lk_of_mem nd (show (x.1, x.2) ∈ bs from m)
      refine List.mem_map.mpr ⟨{ who := x.1.toNat, offers := x.2 }, ?_, ?_⟩
      · refine List.mem_filterMap.mpr ⟨x.1.toNat, me, ?_⟩
        rw [e, l]; rfl
      · show ((x.1.toNat : Int), x.2) = x
        rw [e]
theorem TbOk.perm {n : Nat} {bs : Tb} (h : TbOk n bs) : ((can bs).map fun b => ((b.who : Int), b.offers)).Perm bs := filterMap_perm_aux h.who h.nd
theorem TbOk.count {n : Nat} {bs : Tb} (h : TbOk n bs) : (can bs).length = bs.length := by
  have q := h.perm.length_eq
  rw [List.length_map] at q
  exact q
theorem TbOk.sum {n : Nat} {bs : Tb} (h : TbOk n bs) (f : Int → Int) : ((can bs).map fun b => f (b.who : Int)).sum = (bs.map fun b => f b.1).sum := by
  have q := perm_sum (h.perm.map fun (p : Int × List Int) => f p.1)
  rw [List.map_map] at q
  exact q
theorem TbOk.has {n : Nat} {bs : Tb} (h : TbOk n bs) (w : Int) : ((can bs).any fun b => (b.who : Int) == w) = (lk bs w).isSome := by
  cases q : lk bs w with
  | none =>
    rw [Option.isSome_none, List.any_eq_false]
    intro b hb e
    have e1 : (b.who : Int) = w := by simpa using e
    have z := (canF_who hb).2
    rw [e1, q] at z
    cases z
  | some os =>
    rw [Option.isSome_some, List.any_eq_true]
    have m := h.perm.mem_iff.mpr (lk_mem q)
    obtain ⟨b, hb, eb⟩ := List.mem_map.mp m
    refine ⟨b, hb, ?_⟩
    have e2 : (b.who : Int) = w := congrArg Prod.fst eb
    simp [e2]
end Ss
end
section
set_option Elab.async false
namespace Ss
open Vbchag
/-! ### all offers, as the program lists them -/
def offersOf (bs : Tb) (w : Int) : List (Int × Int) := ((lk bs w).getD []).map fun a => (w, a)
def offersTo (bs : Tb) (i : Nat) : List (Int × Int) := (List.range i).flatMap fun (j : Nat) => offersOf bs (1 + (j : Int))
theorem offersTo_succ (bs : Tb) (i : Nat) : offersTo bs (i + 1) = offersTo bs i ++ offersOf bs (1 + (i : Int)) := by
  unfold offersTo
  rw [List.range_succ, List.flatMap_append, List.flatMap_singleton]
def offersL (n : Nat) (r : Int) (bs : Tb) : List (Int × Int) := offersTo bs 8 ++ List.replicate n (0, r)
theorem from_pr (w : Nat) : ∀ (os : List Int) (k : Nat), (offersFrom w k os).map pr = os.map fun a => ((w : Int), a)
  | [], _ => rfl
  | a :: os, k => by
    show pr _ :: (offersFrom w (k + 1) os).map pr = _
    rw [from_pr w os (k + 1)]; rfl
theorem canF_pr (g : Int → Option (List Int)) : ∀ ws : List Nat, ((canF ws g).flatMap fun b => offersFrom b.who 0 b.offers).map pr = ws.flatMap fun (w : Nat) => ((g (w : Int)).getD []).map fun a => ((w : Int), a)
  | [] => rfl
  | w :: ws => by
    rw [canF_cons, List.flatMap_append, List.map_append, canF_pr g ws, List.flatMap_cons]
    cases g (w : Int) with
    | none => rfl
    | some os =>
      refine congrArg (· ++ _) ?_
      show List.map pr (List.flatMap _ [({ who := w, offers := os } : Bid)]) = _
      rw [List.flatMap_singleton, from_pr]; rfl
theorem all_pr (n : Nat) (r : Int) (bs : Tb) : (allOffers n r (can bs)).map pr = offersL n r bs := by
  unfold allOffers offersL houseOffers can
  rw [List.map_append, canF_pr, from_pr, List.map_replicate]
  rfl
/-! ### they stand in order but for the amounts -/
def Up (l : List Offer) : Prop := l.Pairwise fun x y => rank x < rank y ∨ (rank x = rank y ∧ x.place < y.place)
theorem Up.tidy {l : List Offer} (h : Up l) : Tidy l := by
  refine List.Pairwise.imp (fun {x y} q e => ?_) h
  unfold ahead
  have e1 : (x.amount == y.amount) = true := by simp [e]
  rw [e1, Bool.true_and, Bool.or_eq_true]
  refine Or.inr ?_
  rcases q with q | ⟨q1, q2⟩
  · rw [decide_eq_true q, Bool.true_or]
  · rw [decide_eq_true q2, q1]; simp
theorem from_all (w : Nat) : ∀ (os : List Int) (k : Nat), ∀ o ∈ offersFrom w k os, o.who = w ∧ k ≤ o.place
  | [], _, o, m => by cases m
  | a :: os, k, o, m => by
    rcases List.mem_cons.mp m with e | e
    · rw [e]; exact ⟨rfl, Nat.le_refl _⟩
    · obtain ⟨h1, h2⟩ := from_all w os (k + 1) o e
      exact ⟨h1, by omega⟩
theorem rank_who {x y : Offer} (h : x.who = y.who) : rank x = rank y := by unfold rank; rw [h]
theorem from_up (w : Nat) : ∀ (os : List Int) (k : Nat), Up (offersFrom w k os)
  | [], _ => List.Pairwise.nil
  | a :: os, k => by
    refine List.pairwise_cons.mpr ⟨fun y m => Or.inr ?_, from_up w os (k + 1)⟩
    obtain ⟨h1, h2⟩ := from_all w os (k + 1) y m
    refine ⟨rank_who ?_, ?_⟩
    · show w = y.who
      exact h1.symm
    · show k < y.place
      omega
theorem flat_who {g : Int → Option (List Int)} {ws : List Nat} {o : Offer} (m : o ∈ (canF ws g).flatMap fun b => offersFrom b.who 0 b.offers) : o.who ∈ ws := by
  obtain ⟨b, hb, ho⟩ := List.mem_flatMap.mp m
  rw [(from_all b.who b.offers 0 o ho).1]
  exact (canF_who hb).1
theorem flat_up (g : Int → Option (List Int)) : ∀ ws : List Nat, ws.Pairwise (· < ·) → (∀ w ∈ ws, 1 ≤ w) → Up ((canF ws g).flatMap fun b => offersFrom b.who 0 b.offers)
  | [], _, _ => List.Pairwise.nil
  | w :: ws, hp, h1 => by
    obtain ⟨p1, p2⟩ := List.pairwise_cons.mp hp
    have ih := flat_up g ws p2 fun v m => h1 v (List.mem_cons_of_mem _ m)
    rw [canF_cons, List.flatMap_append]
    cases g (w : Int) with
    | none => exact ih
    | some os =>
      show Up (List.flatMap _ [({ who := w, offers := os } : Bid)] ++ _)
      rw [List.flatMap_singleton]
      refine List.pairwise_append.mpr ⟨from_up w os 0, ih, fun x hx y hy => Or.inl ?_⟩
      have ex := (from_all w os 0 x hx).1
      have ey := flat_who hy
      have lt := p1 _ ey
      have w1 := h1 w List.mem_cons_self
      unfold rank
      rw [ex, if_neg (by omega), if_neg (by omega)]
      exact lt
theorem all_up (n : Nat) (r : Int) (bs : Tb) : Up (allOffers n r (can bs)) := by
  unfold allOffers houseOffers
  refine List.pairwise_append.mpr ⟨flat_up (lk bs) everyone everyone_up (by decide), from_up 0 _ 0, fun x hx y hy => Or.inl ?_⟩
  have ex : x.who ∈ everyone := flat_who hx
  have ey := (from_all 0 _ 0 y hy).1
  have b : 1 ≤ x.who ∧ x.who ≤ 8 := by
    have q : ∀ v ∈ everyone, 1 ≤ v ∧ v ≤ 8 := by decide
    exact q _ ex
  unfold rank
  rw [ey, if_pos rfl, if_neg (by omega)]
  show x.who < 9
  omega
theorem all_tidy (n : Nat) (r : Int) (bs : Tb) : Tidy (allOffers n r (can bs)) := (all_up n r bs).tidy
/-! ### the offers met -/
theorem insert_len (x : Offer) : ∀ l : List Offer, (insertOffer x l).length = l.length + 1
  | [] => rfl
  | y :: l => by
    unfold insertOffer
    by_cases c : ahead x y = true
    · rw [if_pos c]; rfl
    · rw [if_neg c, List.length_cons, insert_len x l]; rfl
theorem order_len : ∀ l : List Offer, (inOrder l).length = l.length
  | [] => rfl
  | x :: l => by
    show (insertOffer x (inOrder l)).length = _
    rw [insert_len, order_len l]; rfl
theorem from_len (w : Nat) : ∀ (os : List Int) (k : Nat), (offersFrom w k os).length = os.length
  | [], _ => rfl
  | a :: os, k => by
    show (offersFrom w (k + 1) os).length + 1 = _
    rw [from_len w os]; rfl
theorem all_len (n : Nat) (r : Int) (bids : List Bid) : n ≤ (allOffers n r bids).length := by
  unfold allOffers houseOffers
  rw [List.length_append, from_len, List.length_replicate]
  omega
theorem met_len (n : Nat) (r : Int) (bids : List Bid) : (met n r bids).length = n := by
  unfold met
  rw [List.length_take, order_len]
  exact Nat.min_eq_left (all_len n r bids)
def metL (n : Nat) (r : Int) (bs : Tb) : List (Int × Int) := (met n r (can bs)).map pr
theorem metL_len (n : Nat) (r : Int) (bs : Tb) : (metL n r bs).length = n := by unfold metL; rw [List.length_map, met_len]
theorem order_all {n : Nat} {r : Int} {bs : Tb} {ps : List (Int × Int)} (hs : ps.Pairwise (fun a b => -a.2 ≤ -b.2)) (hr : ∀ c, ps.filter (fun p => -p.2 == c) = (offersL n r bs).filter (fun p => -p.2 == c)) :
    ps = (inOrder (allOffers n r (can bs))).map pr := order_of (all_tidy n r bs) hs fun c => by rw [hr c, all_pr]
theorem order_met {n : Nat} {r : Int} {bs : Tb} {ps : List (Int × Int)} (e : ps = (inOrder (allOffers n r (can bs))).map pr) : ps.take n = metL n r bs := by
  rw [e]
  unfold metL met
  rw [List.map_take]
/-! ### what is read off them -/
theorem met_sum (n : Nat) (r : Int) (bs : Tb) : ((metL n r bs).map (·.2)).sum = sumOf n r (can bs) := by
  unfold sumOf metL
  rw [total_sum, List.map_map]; rfl
theorem own_won (l : List Offer) (w : Nat) : ((l.map pr).filter fun p => decide (p.1 = (w : Int))).length = won l w := by
  unfold won
  rw [List.filter_map, List.length_map]
  refine congrArg List.length (List.filter_congr fun o _ => ?_)
  show decide ((o.who : Int) = (w : Int)) = (o.who == w)
  by_cases q : o.who = w
  · rw [decide_eq_true (by omega), beq_iff_eq.mpr q]
  · rw [decide_eq_false (by omega), beq_eq_false_iff_ne.mpr q]
theorem not_own_sum (l : List Offer) (w : Nat) : (((l.map pr).filter fun p => !decide (p.1 = (w : Int))).map (·.2)).sum = total ((l.filter fun o => o.who != w).map fun o => o.amount) := by
  rw [total_sum, List.filter_map, List.map_map]
  have e : l.filter ((fun p : Int × Int => !decide (p.1 = (w : Int))) ∘ pr) = l.filter fun o => o.who != w := List.filter_congr fun o _ => by
    show (!decide ((o.who : Int) = (w : Int))) = (!(o.who == w))
    by_cases q : o.who = w
    · rw [decide_eq_true (by omega), beq_iff_eq.mpr q]
    · rw [decide_eq_false (by omega), beq_eq_false_iff_ne.mpr q]
  rw [e]; rfl
/-- what a bidder gets, pays, its prices: as the program reckons them -/
def gotL (n : Nat) (r : Int) (bs : Tb) (w : Int) : Nat := ((metL n r bs).filter fun p => decide (p.1 = w)).length
def paysL (n : Nat) (r : Int) (bs : Tb) (w : Int) : Int := ((metL n r (dropB bs w)).map (·.2)).sum - (((metL n r bs).filter fun p => !decide (p.1 = w)).map (·.2)).sum
def pricesL (n : Nat) (r : Int) (bs : Tb) (w : Int) : List Int := (((metL n r (dropB bs w)).drop ((metL n r (dropB bs w)).length - gotL n r bs w)).reverse).map (·.2)
theorem gotL_le (n : Nat) (r : Int) (bs : Tb) (w : Int) : gotL n r bs w ≤ n := by
  unfold gotL
  exact Nat.le_trans (List.length_filter_le _ _) (Nat.le_of_eq (metL_len n r bs))
theorem gotL_won (n : Nat) (r : Int) (bs : Tb) {w : Int} (h : 0 ≤ w) : gotL n r bs w = won (met n r (can bs)) w.toNat := by
  rw [← own_won, Int.toNat_of_nonneg h]; rfl
theorem paysL_eq (n : Nat) (r : Int) (bs : Tb) {w : Int} (h : 1 ≤ w) : paysL n r bs w = pays n r (can bs) w.toNat := by
  unfold paysL pays
  rw [met_sum, can_others h, ← not_own_sum, Int.toNat_of_nonneg (by omega)]; rfl
theorem pricesL_eq (n : Nat) (r : Int) (bs : Tb) {w : Int} (h : 1 ≤ w) : pricesL n r bs w = prices n r (can bs) w.toNat := by
  unfold pricesL prices
  rw [gotL_won n r bs (show 0 ≤ w by omega), ← can_others h, List.take_reverse, met_len, metL_len]
  unfold metL
  rw [← List.map_drop, ← List.map_reverse, List.map_map]; rfl
end Ss
end
section
set_option Elab.async false
namespace Ss
open Vbchag
theorem small_iff (z : Int) : small z = decide (-1000000000 ≤ z ∧ z ≤ 1000000000) := by
  unfold small MOST
  by_cases h : -1000000000 ≤ z ∧ z ≤ 1000000000
  · rw [decide_eq_true h, decide_eq_true (by omega)]
  · rw [decide_eq_false h, decide_eq_false (by omega)]
theorem within_iff (z : Int) (lo hi : Nat) : within z lo hi = decide ((lo : Int) ≤ z ∧ z ≤ (hi : Int)) := by
  unfold within
  by_cases h1 : (lo : Int) ≤ z
  · by_cases h2 : z ≤ (hi : Int)
    · rw [decide_eq_true h1, decide_eq_true h2, decide_eq_true ⟨h1, h2⟩]; rfl
    · rw [decide_eq_true h1, decide_eq_false h2, decide_eq_false (p := (lo : Int) ≤ z ∧ z ≤ (hi : Int)) fun q => h2 q.2]; rfl
  · rw [decide_eq_false h1, Bool.false_and, decide_eq_false (p := (lo : Int) ≤ z ∧ z ≤ (hi : Int)) fun q => h1 q.1]
/-- the steps from one offer to the next -/
def ups (os : List Int) : List Bool := (List.range (os.length - 1)).map fun (i : Nat) => decide (os.getD i 0 < os.getD (i + 1) 0)
theorem ups_cons (a b : Int) (r : List Int) : ups (a :: b :: r) = decide (a < b) :: ups (b :: r) := by
  unfold ups
  show (List.range (r.length + 1)).map _ = _
  rw [List.range_succ_eq_map, List.map_cons, List.map_map]
  rfl
theorem ups_any : ∀ os : List Int, (ups os).any id = !falling os
  | [] => rfl
  | [_] => rfl
  | a :: b :: r => by
    rw [ups_cons, List.any_cons, ups_any (b :: r)]
    show (decide (a < b) || !falling (b :: r)) = !(decide (b ≤ a) && falling (b :: r))
    by_cases h : a < b
    · rw [decide_eq_true h, decide_eq_false (by omega)]; rfl
    · rw [decide_eq_false h, decide_eq_true (by omega)]; rfl
/-- what is wrong with a bid -/
def refusal (n : Nat) (z : Int) (os : List Int) : Int := if within z 1 BIDDERS = false then -1 else wrongOffers n os
theorem wrong_cases (n : Nat) (os : List Int) : (wrongOffers n os = 0 ∧ os.length ≤ n) ∨ wrongOffers n os < 0 := by
  unfold wrongOffers
  by_cases h1 : n < os.length
  · rw [if_pos h1]; exact Or.inr (by decide)
  · rw [if_neg h1]
    by_cases h2 : os.all small = false
    · rw [if_pos h2]; exact Or.inr (by decide)
    · rw [if_neg h2]
      by_cases h3 : falling os = false
      · rw [if_pos h3]; exact Or.inr (by decide)
      · rw [if_neg h3]; exact Or.inl ⟨rfl, by omega⟩
end Ss
end
section
set_option Elab.async false
namespace Ss
open Vbchag
abbrev stepOf (S : State) (k : Int) (ns : List Int) (rows : List (List Int)) : State × List Int := VbchagNeutral.step S ((k :: ns) :: rows)
theorem TbOk.eight {n : Nat} {bs : Tb} (h : TbOk n bs) : bs.length ≤ 8 := by
  rw [← h.count]
  unfold can canF
  exact List.length_filterMap_le _ _
/-! ### slices -/
theorem st0 (S : State) (a b : Int) : stepOf S 0 [a, b] [] = if within a 1 SLICES = false then (S, [-1]) else if small b = false then (S, [-2]) else ({ n := a.toNat, reserve := b, bids := [] }, [0]) := rfl
theorem within_no {z : Int} {hi : Nat} (h : ¬ (1 ≤ z ∧ z ≤ (hi : Int))) : within z 1 hi = false := by rw [within_iff]; exact decide_eq_false h
theorem within_yes {z : Int} {hi : Nat} (h1 : 1 ≤ z) (h2 : z ≤ (hi : Int)) : ¬ within z 1 hi = false := by rw [within_iff, decide_eq_true ⟨h1, h2⟩]; decide
theorem st0_far (S : State) {a : Int} (b : Int) (h : ¬ (1 ≤ a ∧ a ≤ 60)) : stepOf S 0 [a, b] [] = (S, [-1]) := by rw [st0, if_pos (within_no (hi := SLICES) h)]
theorem st0_res (S : State) {a b : Int} (h1 : 1 ≤ a) (h2 : a ≤ 60) (h : small b = false) : stepOf S 0 [a, b] [] = (S, [-2]) := by rw [st0, if_neg (within_yes (hi := SLICES) h1 h2), if_pos h]
theorem st0_ok (S : State) {a b : Int} (h1 : 1 ≤ a) (h2 : a ≤ 60) (h : small b = true) : stepOf S 0 [a, b] [] = ({ n := a.toNat, reserve := b, bids := [] }, [0]) := by rw [st0, if_neg (within_yes (hi := SLICES) h1 h2), if_neg (by rw [h]; decide)]
/-! ### the others, with slices -/
section
variable {n : Nat} {r : Int} {bs : Tb}
abbrev stOf (n : Nat) (r : Int) (bs : Tb) : State := { n := n, reserve := r, bids := can bs }
theorem st1_no (hn : 1 ≤ n) {z : Int} {os : List Int} (h : refusal n z os < 0) : stepOf (stOf n r bs) 1 [z] [os] = (stOf n r bs, [refusal n z os]) := by
  show (if n = 0 then _ else if within z 1 BIDDERS = false then (stOf n r bs, [-1]) else if wrongOffers n os < 0 then (stOf n r bs, [wrongOffers n os]) else _) = _
  rw [if_neg (by omega)]
  unfold refusal at h ⊢
  by_cases c : within z 1 BIDDERS = false
  · rw [if_pos c, if_pos c]
  · rw [if_neg c] at h ⊢
    rw [if_pos h, if_neg c]
theorem refusal_0 {z : Int} {os : List Int} (h : ¬ refusal n z os < 0) : refusal n z os = 0 ∧ 1 ≤ z ∧ z ≤ 8 ∧ os.length ≤ n := by
  unfold refusal at h ⊢
  by_cases c : within z 1 BIDDERS = false
  · rw [if_pos c] at h; exact absurd (by decide) h
  · rw [if_neg c] at h ⊢
    rw [within_iff] at c
    have c' : 1 ≤ z ∧ z ≤ 8 := by
      by_cases q : ((1 : Nat) : Int) ≤ z ∧ z ≤ ((BIDDERS : Nat) : Int)
      · exact q
      · rw [decide_eq_false q] at c; exact absurd rfl c
    rcases wrong_cases n os with ⟨q, l⟩ | q
    · exact ⟨q, c'.1, c'.2, l⟩
    · exact absurd q h
theorem st1_ok (hn : 1 ≤ n) (hb : TbOk n bs) {z : Int} {os : List Int} (h : ¬ refusal n z os < 0) : stepOf (stOf n r bs) 1 [z] [os] = (stOf n r (putB bs z os), [((putB bs z os).length : Int)]) := by
  obtain ⟨h0, h1, h8, hl⟩ := refusal_0 h
  show (if n = 0 then _ else if within z 1 BIDDERS = false then (stOf n r bs, [-1]) else if wrongOffers n os < 0 then (stOf n r bs, [wrongOffers n os]) else
    (({ n := n, reserve := r, bids := putBid { who := z.toNat, offers := os } (can bs) } : State), [((putBid { who := z.toNat, offers := os } (can bs)).length : Int)])) = _
  have c : ¬ within z 1 BIDDERS = false := within_yes h1 h8
  have c2 : ¬ wrongOffers n os < 0 := fun q => h (by unfold refusal; rw [if_neg c]; exact q)
  rw [if_neg (by omega), if_neg c, if_neg c2, ← can_put h1 h8, (hb.put h1 h8 hl).count]
theorem has_of (hb : TbOk n bs) (z : Int) : hasBid (stOf n r bs) z = (lk bs z).isSome := hb.has z
theorem st2_no (hn : 1 ≤ n) (hb : TbOk n bs) {z : Int} (h : lk bs z = none) : stepOf (stOf n r bs) 2 [z] [] = (stOf n r bs, [-2]) := by
  show (if n = 0 then _ else if hasBid (stOf n r bs) z = false then (stOf n r bs, [-2]) else _) = _
  rw [if_neg (by omega), has_of hb, h, Option.isSome_none, if_pos rfl]
theorem lk_range (hb : TbOk n bs) {z : Int} (h : (lk bs z).isSome = true) : 1 ≤ z ∧ z ≤ 8 := by
  obtain ⟨os, e⟩ := Option.isSome_iff_exists.mp h
  exact hb.who _ (lk_mem e)
theorem st2_ok (hn : 1 ≤ n) (hb : TbOk n bs) {z : Int} (h : (lk bs z).isSome = true) : stepOf (stOf n r bs) 2 [z] [] = (stOf n r (dropB bs z), [((dropB bs z).length : Int)]) := by
  show (if n = 0 then _ else if hasBid (stOf n r bs) z = false then (stOf n r bs, [-2]) else (({ n := n, reserve := r, bids := (can bs).filter fun b => (b.who : Int) != z } : State), [(((can bs).filter fun b => (b.who : Int) != z).length : Int)])) = _
  rw [if_neg (by omega), has_of hb, h, if_neg (by decide), ← can_drop, (hb.drop z).count]
def splitL (n : Nat) (r : Int) (bs : Tb) : List Int := (List.range 9).map fun (i : Nat) => (gotL n r bs (i : Int) : Int)
theorem st3 (hn : 1 ≤ n) : stepOf (stOf n r bs) 3 [] [] = (stOf n r bs, splitL n r bs) := by
  show (if n = 0 then _ else (stOf n r bs, (splitOf n r (can bs)).map fun x => (x.2 : Int))) = _
  rw [if_neg (by omega)]
  refine congrArg (fun l => (stOf n r bs, l)) ?_
  unfold splitOf splitL
  rw [List.map_map]
  have e : (0 :: everyone : List Nat) = List.range 9 := by decide
  rw [e]
  refine List.map_congr_left fun w _ => ?_
  show ((won (met n r (can bs)) w : Nat) : Int) = _
  rw [gotL_won n r bs (show (0 : Int) ≤ (w : Int) by omega), Int.toNat_natCast]
theorem st4 (hn : 1 ≤ n) : stepOf (stOf n r bs) 4 [] [] = (stOf n r bs, [0, ((metL n r bs).map (·.2)).sum]) := by
  show (if n = 0 then _ else (stOf n r bs, [0, sumOf n r (can bs)])) = _
  rw [if_neg (by omega), met_sum]
theorem st5_no (hn : 1 ≤ n) (hb : TbOk n bs) {z : Int} (h : lk bs z = none) : stepOf (stOf n r bs) 5 [z] [] = (stOf n r bs, [-2]) := by
  show (if n = 0 then _ else if hasBid (stOf n r bs) z = false then (stOf n r bs, [-2]) else _) = _
  rw [if_neg (by omega), has_of hb, h, Option.isSome_none, if_pos rfl]
theorem st5_ok (hn : 1 ≤ n) (hb : TbOk n bs) {z : Int} (h : (lk bs z).isSome = true) : stepOf (stOf n r bs) 5 [z] [] = (stOf n r bs, [0, paysL n r bs z]) := by
  show (if n = 0 then _ else if hasBid (stOf n r bs) z = false then (stOf n r bs, [-2]) else (stOf n r bs, [0, pays n r (can bs) z.toNat])) = _
  rw [if_neg (by omega), has_of hb, h, if_neg (by decide), paysL_eq n r bs (lk_range hb h).1]
theorem st6_no (hn : 1 ≤ n) (hb : TbOk n bs) {z : Int} (h : lk bs z = none) : stepOf (stOf n r bs) 6 [z] [] = (stOf n r bs, [-2]) := by
  show (if n = 0 then _ else if hasBid (stOf n r bs) z = false then (stOf n r bs, [-2]) else _) = _
  rw [if_neg (by omega), has_of hb, h, Option.isSome_none, if_pos rfl]
theorem st6_ok (hn : 1 ≤ n) (hb : TbOk n bs) {z : Int} (h : (lk bs z).isSome = true) : stepOf (stOf n r bs) 6 [z] [] = (stOf n r bs, ((pricesL n r bs z).length : Int) :: pricesL n r bs z) := by
  show (if n = 0 then _ else if hasBid (stOf n r bs) z = false then (stOf n r bs, [-2]) else (stOf n r bs, ((prices n r (can bs) z.toNat).length : Int) :: prices n r (can bs) z.toNat)) = _
  rw [if_neg (by omega), has_of hb, h, if_neg (by decide), pricesL_eq n r bs (lk_range hb h).1]
def incomeL (n : Nat) (r : Int) (bs : Tb) : Int := (bs.map fun b => paysL n r bs b.1).sum
theorem st7 (hn : 1 ≤ n) (hb : TbOk n bs) : stepOf (stOf n r bs) 7 [] [] = (stOf n r bs, [0, incomeL n r bs]) := by
  show (if n = 0 then _ else (stOf n r bs, [0, total ((can bs).map fun b => pays n r (can bs) b.who)])) = _
  rw [if_neg (by omega), total_sum]
  refine congrArg (fun x => (stOf n r bs, [0, x])) ?_
  unfold incomeL
  rw [← hb.sum fun z => paysL n r bs z]
  refine congrArg List.sum (List.map_congr_left fun b hb' => ?_)
  have w1 : 1 ≤ (b.who : Int) := by
    have q := (canF_who hb').1
    have q2 : ∀ v ∈ everyone, 1 ≤ v := by decide
    have := q2 _ q
    omega
  rw [paysL_eq n r bs w1, Int.toNat_natCast]
end
/-! ### without slices -/
theorem two_of {α : Type} {l : List α} (h : l.length = 2) : ∃ a b, l = [a, b] := by
  match l, h with
  | [a, b], _ => exact ⟨a, b, rfl⟩
theorem one_of {α : Type} {l : List α} (h : l.length = 1) : ∃ a, l = [a] := by
  match l, h with
  | [a], _ => exact ⟨a, rfl⟩
theorem zero_of {α : Type} {l : List α} (h : l.length = 0) : l = [] := by
  match l, h with
  | [], _ => rfl
def shapes : List (Nat × Nat) := [(2, 0), (1, 1), (1, 0), (0, 0), (0, 0), (1, 0), (1, 0), (0, 0), (1, 0), (0, 0), (0, 0), (1, 1), (2, 0), (1, 1), (1, 2), (0, 0)]
theorem shape_at {k : Int} {q : Nat × Nat} (h : PyVbchag.shape k = some q) : ∃ i : Nat, k = (i : Int) ∧ shapes[i]? = some q := by
  unfold PyVbchag.shape at h
  by_cases h0 : k = 0
  · rw [if_pos h0] at h
    exact ⟨0, h0, h⟩
  rw [if_neg h0] at h
  by_cases h1 : k = 1
  · rw [if_pos h1] at h
    exact ⟨1, h1, h⟩
  rw [if_neg h1] at h
  by_cases h2 : k = 2
  · rw [if_pos h2] at h
    exact ⟨2, h2, h⟩
  rw [if_neg h2] at h
  by_cases h3 : k = 3
  · rw [if_pos h3] at h
    exact ⟨3, h3, h⟩
  rw [if_neg h3] at h
  by_cases h4 : k = 4
  · rw [if_pos h4] at h
    exact ⟨4, h4, h⟩
  rw [if_neg h4] at h
  by_cases h5 : k = 5
  · rw [if_pos h5] at h
    exact ⟨5, h5, h⟩
  rw [if_neg h5] at h
  by_cases h6 : k = 6
  · rw [if_pos h6] at h
    exact ⟨6, h6, h⟩
  rw [if_neg h6] at h
  by_cases h7 : k = 7
  · rw [if_pos h7] at h
    exact ⟨7, h7, h⟩
  rw [if_neg h7] at h
  by_cases h8 : k = 8
  · rw [if_pos h8] at h
    exact ⟨8, h8, h⟩
  rw [if_neg h8] at h
  by_cases h9 : k = 9
  · rw [if_pos h9] at h
    exact ⟨9, h9, h⟩
  rw [if_neg h9] at h
  by_cases h10 : k = 10
  · rw [if_pos h10] at h
    exact ⟨10, h10, h⟩
  rw [if_neg h10] at h
  by_cases h11 : k = 11
  · rw [if_pos h11] at h
    exact ⟨11, h11, h⟩
  rw [if_neg h11] at h
  by_cases h12 : k = 12
  · rw [if_pos h12] at h
    exact ⟨12, h12, h⟩
  rw [if_neg h12] at h
  by_cases h13 : k = 13
  · rw [if_pos h13] at h
    exact ⟨13, h13, h⟩
  rw [if_neg h13] at h
  by_cases h14 : k = 14
  · rw [if_pos h14] at h
    exact ⟨14, h14, h⟩
  rw [if_neg h14] at h
  by_cases h15 : k = 15
  · rw [if_pos h15] at h
    exact ⟨15, h15, h⟩
  rw [if_neg h15] at h
  cases h
theorem st_none {S : State} (h : S.n = 0) {k : Int} {ns : List Int} {rows : List (List Int)} (hk : k ≠ 0) (hs : PyVbchag.shape k = some (ns.length, rows.length)) : stepOf S k ns rows = (S, [-7]) := by
  obtain ⟨i, rfl, e⟩ := shape_at hs
  match i, hk, e with
  | 0, hk, _ => exact absurd rfl hk
  | 1, _, e =>
    obtain ⟨e1, e2⟩ := Prod.mk.inj (Option.some.inj (show some ((1, 1) : Nat × Nat) = some (ns.length, rows.length) from e))
    obtain ⟨xa, rfl⟩ := one_of e1.symm
    obtain ⟨xb, rfl⟩ := one_of e2.symm
    exact if_pos h
  | 2, _, e =>
    obtain ⟨e1, e2⟩ := Prod.mk.inj (Option.some.inj (show some ((1, 0) : Nat × Nat) = some (ns.length, rows.length) from e))
    obtain ⟨xa, rfl⟩ := one_of e1.symm
    have zb := zero_of e2.symm
    subst zb
    exact if_pos h
  | 3, _, e =>
    obtain ⟨e1, e2⟩ := Prod.mk.inj (Option.some.inj (show some ((0, 0) : Nat × Nat) = some (ns.length, rows.length) from e))
    have za := zero_of e1.symm
    subst za
    have zb := zero_of e2.symm
    subst zb
    exact if_pos h
  | 4, _, e =>
    obtain ⟨e1, e2⟩ := Prod.mk.inj (Option.some.inj (show some ((0, 0) : Nat × Nat) = some (ns.length, rows.length) from e))
    have za := zero_of e1.symm
    subst za
    have zb := zero_of e2.symm
    subst zb
    exact if_pos h
  | 5, _, e =>
    obtain ⟨e1, e2⟩ := Prod.mk.inj (Option.some.inj (show some ((1, 0) : Nat × Nat) = some (ns.length, rows.length) from e))
    obtain ⟨xa, rfl⟩ := one_of e1.symm
    have zb := zero_of e2.symm
    subst zb
    exact if_pos h
  | 6, _, e =>
    obtain ⟨e1, e2⟩ := Prod.mk.inj (Option.some.inj (show some ((1, 0) : Nat × Nat) = some (ns.length, rows.length) from e))
    obtain ⟨xa, rfl⟩ := one_of e1.symm
    have zb := zero_of e2.symm
    subst zb
    exact if_pos h
  | 7, _, e =>
    obtain ⟨e1, e2⟩ := Prod.mk.inj (Option.some.inj (show some ((0, 0) : Nat × Nat) = some (ns.length, rows.length) from e))
    have za := zero_of e1.symm
    subst za
    have zb := zero_of e2.symm
    subst zb
    exact if_pos h
  | 8, _, e =>
    obtain ⟨e1, e2⟩ := Prod.mk.inj (Option.some.inj (show some ((1, 0) : Nat × Nat) = some (ns.length, rows.length) from e))
    obtain ⟨xa, rfl⟩ := one_of e1.symm
    have zb := zero_of e2.symm
    subst zb
    exact if_pos h
  | 9, _, e =>
    obtain ⟨e1, e2⟩ := Prod.mk.inj (Option.some.inj (show some ((0, 0) : Nat × Nat) = some (ns.length, rows.length) from e))
    have za := zero_of e1.symm
    subst za
    have zb := zero_of e2.symm
    subst zb
    exact if_pos h
  | 10, _, e =>
    obtain ⟨e1, e2⟩ := Prod.mk.inj (Option.some.inj (show some ((0, 0) : Nat × Nat) = some (ns.length, rows.length) from e))
    have za := zero_of e1.symm
    subst za
    have zb := zero_of e2.symm
    subst zb
    exact if_pos h
  | 11, _, e =>
    obtain ⟨e1, e2⟩ := Prod.mk.inj (Option.some.inj (show some ((1, 1) : Nat × Nat) = some (ns.length, rows.length) from e))
    obtain ⟨xa, rfl⟩ := one_of e1.symm
    obtain ⟨xb, rfl⟩ := one_of e2.symm
    exact if_pos h
  | 12, _, e =>
    obtain ⟨e1, e2⟩ := Prod.mk.inj (Option.some.inj (show some ((2, 0) : Nat × Nat) = some (ns.length, rows.length) from e))
    obtain ⟨xa, ya, rfl⟩ := two_of e1.symm
    have zb := zero_of e2.symm
    subst zb
    exact if_pos h
  | 13, _, e =>
    obtain ⟨e1, e2⟩ := Prod.mk.inj (Option.some.inj (show some ((1, 1) : Nat × Nat) = some (ns.length, rows.length) from e))
    obtain ⟨xa, rfl⟩ := one_of e1.symm
    obtain ⟨xb, rfl⟩ := one_of e2.symm
    exact if_pos h
  | 14, _, e =>
    obtain ⟨e1, e2⟩ := Prod.mk.inj (Option.some.inj (show some ((1, 2) : Nat × Nat) = some (ns.length, rows.length) from e))
    obtain ⟨xa, rfl⟩ := one_of e1.symm
    obtain ⟨xb, yb, rfl⟩ := two_of e2.symm
    exact if_pos h
  | 15, _, e =>
    obtain ⟨e1, e2⟩ := Prod.mk.inj (Option.some.inj (show some ((0, 0) : Nat × Nat) = some (ns.length, rows.length) from e))
    have za := zero_of e1.symm
    subst za
    have zb := zero_of e2.symm
    subst zb
    exact if_pos h
  | i + 16, _, e => simp [shapes] at e
end Ss
end
section
set_option Elab.async false
namespace Ss
/-! ### the calls, read off the list -/
theorem drop_cons {α : Type} {l : List α} {i : Nat} {x : α} {r : List α} (h : l.drop i = x :: r) : l[i]? = some x ∧ r = l.drop (i + 1) ∧ i < l.length := by
  have lt : i < l.length := by
    by_cases c : i < l.length
    · exact c
    · rw [List.drop_of_length_le (by omega)] at h; cases h
  rw [List.drop_eq_getElem_cons lt] at h
  obtain ⟨e1, e2⟩ := List.cons.inj h
  exact ⟨by rw [List.getElem?_eq_getElem lt, e1], e2.symm, lt⟩
theorem row_at {ns : List Int} {i : Nat} {x s : List Int} (h : PyFlat.row (ns.drop i) = some (x, s)) : ∃ m : Nat, ns[i]? = some (m : Int) ∧ i + 1 + m ≤ ns.length ∧ x = (ns.drop (i + 1)).take m ∧ s = ns.drop (i + 1 + m) := by
  cases e : ns.drop i with
  | nil => rw [e] at h; cases h
  | cons z r =>
    rw [e] at h
    obtain ⟨e1, e2, lt⟩ := drop_cons e
    have h : (if 0 ≤ z ∧ z.toNat ≤ r.length then some (r.take z.toNat, r.drop z.toNat) else none) = some (x, s) := h
    by_cases c : 0 ≤ z ∧ z.toNat ≤ r.length
    · rw [if_pos c] at h
      obtain ⟨h1, h2⟩ := Prod.mk.inj (Option.some.inj h)
      have lr : r.length = ns.length - (i + 1) := by rw [e2, List.length_drop]
      refine ⟨z.toNat, by rw [Int.toNat_of_nonneg c.1]; exact e1, by omega, by rw [← h1, e2], ?_⟩
      rw [← h2, e2, List.drop_drop]
    · rw [if_neg c] at h; cases h
theorem rows_succ {k : Nat} {s t : List Int} {xs : List (List Int)} (h : PyFlat.rows (k + 1) s = some (xs, t)) : ∃ x s' xs', PyFlat.row s = some (x, s') ∧ PyFlat.rows k s' = some (xs', t) ∧ xs = x :: xs' := by
  unfold PyFlat.rows at h
  cases e : PyFlat.row s with
  | none => rw [e] at h; cases h
  | some p =>
    obtain ⟨x, s'⟩ := p
    rw [e] at h
    cases e2 : PyFlat.rows k s' with
    | none =>
      have h : (match PyFlat.rows k s' with | none => none | some (xs, t) => some (x :: xs, t)) = some (xs, t) := h
      rw [e2] at h; cases h
    | some q =>
      obtain ⟨ys, u⟩ := q
      have h : (match PyFlat.rows k s' with | none => none | some (xs, t) => some (x :: xs, t)) = some (xs, t) := h
      rw [e2] at h
      obtain ⟨h1, h2⟩ := Prod.mk.inj (Option.some.inj h)
      refine ⟨x, s', ys, rfl, ?_, h1.symm⟩
      rw [e2, ← h2]
theorem rows_len : ∀ {k : Nat} {s t : List Int} {xs : List (List Int)}, PyFlat.rows k s = some (xs, t) → xs.length = k
  | 0, _, _, _, h => by
    obtain ⟨h1, _⟩ := Prod.mk.inj (Option.some.inj h)
    rw [← h1]; rfl
  | k + 1, _, _, _, h => by
    obtain ⟨x, s', xs', _, h2, e⟩ := rows_succ h
    rw [e, List.length_cons, rows_len h2]
theorem call_at {ns : List Int} {i : Nat} {c : List (List Int)} {t : List Int} (h : PyFlat.call PyVbchag.shape (ns.drop i) = some (c, t)) : ∃ (k : Int) (a b : Nat) (rows : List (List Int)), ns[i]? = some k ∧ PyVbchag.shape k = some (a, b) ∧ i + 1 + a ≤ ns.length ∧
    PyFlat.rows b (ns.drop (i + 1 + a)) = some (rows, t) ∧ c = (k :: (ns.drop (i + 1)).take a) :: rows := by
  cases e : ns.drop i with
  | nil => rw [e] at h; cases h
  | cons z r =>
    rw [e] at h
    obtain ⟨e1, e2, lt⟩ := drop_cons e
    unfold PyFlat.call at h
    cases q : PyVbchag.shape z with
    | none =>
      have h : (match PyVbchag.shape z with | none => none | some (n, k) => if r.length < n then none else match PyFlat.rows k (r.drop n) with | none => none | some (xs, t) => some ((z :: r.take n) :: xs, t)) = some (c, t) := h
      rw [q] at h; cases h
    | some p =>
      obtain ⟨a, b⟩ := p
      have h : (match PyVbchag.shape z with | none => none | some (n, k) => if r.length < n then none else match PyFlat.rows k (r.drop n) with | none => none | some (xs, t) => some ((z :: r.take n) :: xs, t)) = some (c, t) := h
      rw [q] at h
      have h : (if r.length < a then none else match PyFlat.rows b (r.drop a) with | none => none | some (xs, t) => some ((z :: r.take a) :: xs, t)) = some (c, t) := h
      by_cases la : r.length < a
      · rw [if_pos la] at h; cases h
      · rw [if_neg la] at h
        have lr : r.length = ns.length - (i + 1) := by rw [e2, List.length_drop]
        cases w : PyFlat.rows b (r.drop a) with
        | none => rw [w] at h; cases h
        | some p =>
          obtain ⟨xs, u⟩ := p
          rw [w] at h
          obtain ⟨h1, h2⟩ := Prod.mk.inj (Option.some.inj h)
          refine ⟨z, a, b, xs, e1, q, by omega, ?_, ?_⟩
          · rw [← List.drop_drop, ← e2, w, ← h2]
          · rw [← h1, e2]
theorem calls_cons {f : Nat} {s : List Int} {cs : List (List (List Int))} (hs : s ≠ []) (h : PyFlat.calls PyVbchag.shape f s = some cs) : ∃ f' c t cs', PyFlat.call PyVbchag.shape s = some (c, t) ∧ PyFlat.calls PyVbchag.shape f' t = some cs' ∧ cs = c :: cs' := by
  match f, s, hs, h with
  | _, [], hs, _ => exact absurd rfl hs
  | 0, _ :: _, _, h => cases h
  | f + 1, p :: r, _, h =>
    unfold PyFlat.calls at h
    cases e : PyFlat.call PyVbchag.shape (p :: r) with
    | none => rw [e] at h; cases h
    | some q =>
      obtain ⟨c, t⟩ := q
      rw [e] at h
      have h : (match PyFlat.calls PyVbchag.shape f t with | none => none | some cs => some (c :: cs)) = some cs := h
      cases e2 : PyFlat.calls PyVbchag.shape f t with
      | none => rw [e2] at h; cases h
      | some cs' =>
        rw [e2] at h
        exact ⟨f, c, t, cs', rfl, e2, (Option.some.inj h).symm⟩
theorem calls_nil {f : Nat} {cs : List (List (List Int))} (h : PyFlat.calls PyVbchag.shape f [] = some cs) : cs = [] := by
  cases f <;> exact (Option.some.inj h).symm
theorem whole_id (c : List (List Int)) : PyVbchag.whole c = c := by
  unfold PyVbchag.whole
  split <;> rfl
/-- the bounds that a call's rows keep -/
def Short (c : List (List Int)) : Prop := ∀ r ∈ c.tail, r.length ≤ 64
theorem short_of {k : Int} {ns : List Int} {rows : List (List Int)} (hs : PyVbchag.shape k = some (ns.length, rows.length)) (h : VbchagNeutral.asked1 ((k :: ns) :: rows) = true) : ∀ r ∈ rows, r.length ≤ 64 := by
  obtain ⟨i, rfl, e⟩ := shape_at hs
  match i, e with
  | 0, e =>
    obtain ⟨e1, e2⟩ := Prod.mk.inj (Option.some.inj (show some ((2, 0) : Nat × Nat) = some (ns.length, rows.length) from e))
    obtain ⟨xa, ya, rfl⟩ := two_of e1.symm
    have zb := zero_of e2.symm
    subst zb
    exact fun r m => by cases m
  | 1, e =>
    obtain ⟨e1, e2⟩ := Prod.mk.inj (Option.some.inj (show some ((1, 1) : Nat × Nat) = some (ns.length, rows.length) from e))
    obtain ⟨xa, rfl⟩ := one_of e1.symm
    obtain ⟨xb, rfl⟩ := one_of e2.symm
    have h : (VbchagNeutral.whole60 xa && ((xb.all fun (z : Int) => VbchagNeutral.whole60 z) && decide (xb.length ≤ 64))) = true := h
    rw [Bool.and_eq_true, Bool.and_eq_true] at h
    exact fun r m => by rw [List.mem_singleton.mp m]; exact of_decide_eq_true h.2.2
  | 2, e =>
    obtain ⟨e1, e2⟩ := Prod.mk.inj (Option.some.inj (show some ((1, 0) : Nat × Nat) = some (ns.length, rows.length) from e))
    obtain ⟨xa, rfl⟩ := one_of e1.symm
    have zb := zero_of e2.symm
    subst zb
    exact fun r m => by cases m
  | 3, e =>
    obtain ⟨e1, e2⟩ := Prod.mk.inj (Option.some.inj (show some ((0, 0) : Nat × Nat) = some (ns.length, rows.length) from e))
    have za := zero_of e1.symm
    subst za
    have zb := zero_of e2.symm
    subst zb
    exact fun r m => by cases m
  | 4, e =>
    obtain ⟨e1, e2⟩ := Prod.mk.inj (Option.some.inj (show some ((0, 0) : Nat × Nat) = some (ns.length, rows.length) from e))
    have za := zero_of e1.symm
    subst za
    have zb := zero_of e2.symm
    subst zb
    exact fun r m => by cases m
  | 5, e =>
    obtain ⟨e1, e2⟩ := Prod.mk.inj (Option.some.inj (show some ((1, 0) : Nat × Nat) = some (ns.length, rows.length) from e))
    obtain ⟨xa, rfl⟩ := one_of e1.symm
    have zb := zero_of e2.symm
    subst zb
    exact fun r m => by cases m
  | 6, e =>
    obtain ⟨e1, e2⟩ := Prod.mk.inj (Option.some.inj (show some ((1, 0) : Nat × Nat) = some (ns.length, rows.length) from e))
    obtain ⟨xa, rfl⟩ := one_of e1.symm
    have zb := zero_of e2.symm
    subst zb
    exact fun r m => by cases m
  | 7, e =>
    obtain ⟨e1, e2⟩ := Prod.mk.inj (Option.some.inj (show some ((0, 0) : Nat × Nat) = some (ns.length, rows.length) from e))
    have za := zero_of e1.symm
    subst za
    have zb := zero_of e2.symm
    subst zb
    exact fun r m => by cases m
  | 8, e =>
    obtain ⟨e1, e2⟩ := Prod.mk.inj (Option.some.inj (show some ((1, 0) : Nat × Nat) = some (ns.length, rows.length) from e))
    obtain ⟨xa, rfl⟩ := one_of e1.symm
    have zb := zero_of e2.symm
    subst zb
    exact fun r m => by cases m
  | 9, e =>
    obtain ⟨e1, e2⟩ := Prod.mk.inj (Option.some.inj (show some ((0, 0) : Nat × Nat) = some (ns.length, rows.length) from e))
    have za := zero_of e1.symm
    subst za
    have zb := zero_of e2.symm
    subst zb
    exact fun r m => by cases m
  | 10, e =>
    obtain ⟨e1, e2⟩ := Prod.mk.inj (Option.some.inj (show some ((0, 0) : Nat × Nat) = some (ns.length, rows.length) from e))
    have za := zero_of e1.symm
    subst za
    have zb := zero_of e2.symm
    subst zb
    exact fun r m => by cases m
  | 11, e =>
    obtain ⟨e1, e2⟩ := Prod.mk.inj (Option.some.inj (show some ((1, 1) : Nat × Nat) = some (ns.length, rows.length) from e))
    obtain ⟨xa, rfl⟩ := one_of e1.symm
    obtain ⟨xb, rfl⟩ := one_of e2.symm
    have h : (VbchagNeutral.whole60 xa && ((xb.all fun (z : Int) => VbchagNeutral.whole60 z) && decide (xb.length ≤ 64))) = true := h
    rw [Bool.and_eq_true, Bool.and_eq_true] at h
    exact fun r m => by rw [List.mem_singleton.mp m]; exact of_decide_eq_true h.2.2
  | 12, e =>
    obtain ⟨e1, e2⟩ := Prod.mk.inj (Option.some.inj (show some ((2, 0) : Nat × Nat) = some (ns.length, rows.length) from e))
    obtain ⟨xa, ya, rfl⟩ := two_of e1.symm
    have zb := zero_of e2.symm
    subst zb
    exact fun r m => by cases m
  | 13, e =>
    obtain ⟨e1, e2⟩ := Prod.mk.inj (Option.some.inj (show some ((1, 1) : Nat × Nat) = some (ns.length, rows.length) from e))
    obtain ⟨xa, rfl⟩ := one_of e1.symm
    obtain ⟨xb, rfl⟩ := one_of e2.symm
    have h : (VbchagNeutral.whole60 xa && ((xb.all fun (z : Int) => VbchagNeutral.whole60 z) && decide (xb.length ≤ 64))) = true := h
    rw [Bool.and_eq_true, Bool.and_eq_true] at h
    exact fun r m => by rw [List.mem_singleton.mp m]; exact of_decide_eq_true h.2.2
  | 14, e =>
    obtain ⟨e1, e2⟩ := Prod.mk.inj (Option.some.inj (show some ((1, 2) : Nat × Nat) = some (ns.length, rows.length) from e))
    obtain ⟨xa, rfl⟩ := one_of e1.symm
    obtain ⟨xb, yb, rfl⟩ := two_of e2.symm
    have h : (VbchagNeutral.whole60 xa && (((xb.all fun (z : Int) => VbchagNeutral.whole60 z) && decide (xb.length ≤ 64)) && ((yb.all fun (z : Int) => VbchagNeutral.whole60 z) && decide (yb.length ≤ 64)))) = true := h
    rw [Bool.and_eq_true, Bool.and_eq_true, Bool.and_eq_true, Bool.and_eq_true] at h
    intro r m
    rcases List.mem_cons.mp m with q | q
    · rw [q]; exact of_decide_eq_true h.2.1.2
    · rw [List.mem_singleton.mp q]; exact of_decide_eq_true h.2.2.2
  | 15, e =>
    obtain ⟨e1, e2⟩ := Prod.mk.inj (Option.some.inj (show some ((0, 0) : Nat × Nat) = some (ns.length, rows.length) from e))
    have za := zero_of e1.symm
    subst za
    have zb := zero_of e2.symm
    subst zb
    exact fun r m => by cases m
  | i + 16, e => simp [shapes] at e
/-- the answers, call by call -/
abbrev tell (S : Vbchag.State) (cs : List (List (List Int))) : List Int := PyFlat.told (PyFlat.played VbchagNeutral.step S cs)
theorem tell_cons (S : Vbchag.State) (c : List (List Int)) (cs : List (List (List Int))) : tell S (c :: cs) = (((VbchagNeutral.step S c).2.length : Int) :: (VbchagNeutral.step S c).2) ++ tell (VbchagNeutral.step S c).1 cs := rfl
/-- what is asked of the list -/
theorem asked_open {ns : List Int} (h : PyVbchag.answers_asked ns = true) : ∃ cs, PyFlat.calls PyVbchag.shape ns.length ns = some cs ∧ (∀ c ∈ cs, VbchagNeutral.asked1 c = true) ∧ PyVbchag.answers ns = tell Vbchag.start cs ∧ (PyVbchag.answers ns).length ≤ 10000000 := by
  unfold PyVbchag.answers_asked at h
  cases e : PyFlat.calls PyVbchag.shape ns.length ns with
  | none => rw [e] at h; cases h
  | some cs =>
    rw [e] at h
    have h : (!cs.isEmpty && PyFlat.atMost 400 cs && PyInside.calls PyVbchag.bound cs && VbchagNeutral.asked (cs.map PyVbchag.whole) && PyFlat.short 10000000 (PyVbchag.answers ns)) = true := h
    have ew : cs.map PyVbchag.whole = cs := by
      have q : PyVbchag.whole = id := funext whole_id
      rw [q, List.map_id]
    rw [ew, Bool.and_eq_true, Bool.and_eq_true] at h
    refine ⟨cs, rfl, fun c m => ?_, ?_, of_decide_eq_true h.2⟩
    · have q : (cs.all VbchagNeutral.asked1 && (decide (1 ≤ cs.length) && decide (cs.length ≤ VbchagNeutral.CALLS))) = true := h.1.2
      rw [Bool.and_eq_true] at q
      exact List.all_eq_true.mp q.1 c m
    · unfold PyVbchag.answers PyVbchag.calls
      rw [e]
      show PyFlat.told (PyFlat.played VbchagNeutral.step VbchagNeutral.start (cs.map PyVbchag.whole)) = _
      rw [ew]; rfl
end Ss
end
section
set_option Elab.async false
namespace Ss
open Vbchag
section
variable {n : Nat} {r : Int} {bs : Tb}
/-! ### told -/
def toldL (n : Nat) (r : Int) (bs : Tb) (z : Int) : Int := (((metL n r bs).filter fun p => decide (p.1 = z)).map (·.2)).sum
theorem own_sum (l : List Offer) (z : Int) : (((l.map pr).filter fun p => decide (p.1 = z)).map (·.2)).sum = total ((l.filter fun o => (o.who : Int) == z).map fun o => o.amount) := by
  rw [total_sum, List.filter_map, List.map_map]
  have e : l.filter ((fun p : Int × Int => decide (p.1 = z)) ∘ pr) = l.filter fun o => (o.who : Int) == z := List.filter_congr fun o _ => by
    show decide ((o.who : Int) = z) = ((o.who : Int) == z)
    by_cases q : (o.who : Int) = z
    · rw [decide_eq_true q, beq_iff_eq.mpr q]
    · rw [decide_eq_false q, beq_eq_false_iff_ne.mpr q]
  rw [e]; rfl
theorem no_of (hn : 1 ≤ n) (hb : TbOk n bs) {z : Int} {x y : State × List Int} (h : lk bs z = none) : (if n = 0 then y else if hasBid (stOf n r bs) z = false then (stOf n r bs, [-2]) else x) = (stOf n r bs, [-2]) := by
  rw [if_neg (by omega), has_of hb, h, Option.isSome_none, if_pos rfl]
theorem yes_of (hn : 1 ≤ n) (hb : TbOk n bs) {z : Int} {x y : State × List Int} (h : (lk bs z).isSome = true) : (if n = 0 then y else if hasBid (stOf n r bs) z = false then (stOf n r bs, [-2]) else x) = x := by
  rw [if_neg (by omega), has_of hb, h, if_neg (by decide)]
theorem st8_no (hn : 1 ≤ n) (hb : TbOk n bs) {z : Int} (h : lk bs z = none) : stepOf (stOf n r bs) 8 [z] [] = (stOf n r bs, [-2]) := no_of hn hb h
theorem st8_ok (hn : 1 ≤ n) (hb : TbOk n bs) {z : Int} (h : (lk bs z).isSome = true) : stepOf (stOf n r bs) 8 [z] [] = (stOf n r bs, [0, toldL n r bs z]) := by
  refine (yes_of hn hb h).trans ?_
  unfold toldL metL
  rw [own_sum]
/-! ### one, between -/
def ordL (n : Nat) (r : Int) (bs : Tb) : List (Int × Int) := (inOrder (allOffers n r (can bs))).map pr
def leftL (n : Nat) (r : Int) (bs : Tb) : List (Int × Int) := (ordL n r bs).drop n
theorem ordL_met : (ordL n r bs).take n = metL n r bs := order_met rfl
theorem ordL_len : (ordL n r bs).length = (offersL n r bs).length := by
  unfold ordL
  rw [List.length_map, order_len, ← all_pr, List.length_map]
theorem left_eq : leftL n r bs = (unmet n r (can bs)).map pr := by
  unfold leftL ordL unmet
  rw [List.map_drop]
theorem left_some {p : Int × Int} {t : List (Int × Int)} (h : leftL n r bs = p :: t) : greatestLeft n r (can bs) = some p.2 := by
  rw [left_eq] at h
  unfold greatestLeft
  cases e : unmet n r (can bs) with
  | nil => rw [e] at h; cases h
  | cons o u =>
    rw [e] at h
    obtain ⟨h1, _⟩ := List.cons.inj (show pr o :: u.map pr = p :: t from h)
    rw [← h1]; rfl
theorem left_none (h : leftL n r bs = []) : greatestLeft n r (can bs) = none := by
  rw [left_eq] at h
  unfold greatestLeft
  cases e : unmet n r (can bs) with
  | nil => rfl
  | cons o u => rw [e] at h; cases h
theorem met_last {p : Int × Int} (h : (metL n r bs).getLast? = some p) : leastMet n r (can bs) = some p.2 := by
  unfold metL at h
  rw [List.getLast?_map] at h
  unfold leastMet
  cases e : (met n r (can bs)).getLast? with
  | none => rw [e] at h; cases h
  | some o =>
    rw [e] at h
    have q : pr o = p := Option.some.inj h
    rw [← q]; rfl
theorem st9_none (hn : 1 ≤ n) (h : leftL n r bs = []) : stepOf (stOf n r bs) 9 [] [] = (stOf n r bs, [0]) := by
  show (if n = 0 then _ else match greatestLeft n r (can bs) with | none => (stOf n r bs, [0]) | some p => (stOf n r bs, [1, p])) = _
  rw [if_neg (by omega), left_none h]
theorem st9_some (hn : 1 ≤ n) {p : Int × Int} {t : List (Int × Int)} (h : leftL n r bs = p :: t) : stepOf (stOf n r bs) 9 [] [] = (stOf n r bs, [1, p.2]) := by
  show (if n = 0 then _ else match greatestLeft n r (can bs) with | none => (stOf n r bs, [0]) | some p => (stOf n r bs, [1, p])) = _
  rw [if_neg (by omega), left_some h]
theorem st10_none (hn : 1 ≤ n) {q : Int × Int} (h : leftL n r bs = []) (h2 : (metL n r bs).getLast? = some q) : stepOf (stOf n r bs) 10 [] [] = (stOf n r bs, [0, q.2]) := by
  show (if n = 0 then _ else match greatestLeft n r (can bs), leastMet n r (can bs) with | some p, some q => (stOf n r bs, [1, p, q]) | _, some q => (stOf n r bs, [0, q]) | _, _ => (stOf n r bs, [0])) = _
  rw [if_neg (by omega), left_none h, met_last h2]
theorem st10_some (hn : 1 ≤ n) {p q : Int × Int} {t : List (Int × Int)} (h : leftL n r bs = p :: t) (h2 : (metL n r bs).getLast? = some q) : stepOf (stOf n r bs) 10 [] [] = (stOf n r bs, [1, p.2, q.2]) := by
  show (if n = 0 then _ else match greatestLeft n r (can bs), leastMet n r (can bs) with | some p, some q => (stOf n r bs, [1, p, q]) | _, some q => (stOf n r bs, [0, q]) | _, _ => (stOf n r bs, [0])) = _
  rw [if_neg (by omega), left_some h, met_last h2]
theorem met_at_last (hn : 1 ≤ n) : ∃ q, (metL n r bs).getLast? = some q ∧ (metL n r bs)[n - 1]? = some q := by
  have l := metL_len n r bs
  have lt : n - 1 < (metL n r bs).length := by omega
  refine ⟨(metL n r bs)[n - 1], ?_, List.getElem?_eq_getElem lt⟩
  rw [List.getLast?_eq_getElem?, l, List.getElem?_eq_getElem lt]
/-! ### wanted -/
def wantedL (n : Nat) (r : Int) (bs : Tb) (z p : Int) : Nat := ((offersL n r (dropB bs z)).filter fun o => decide (p < o.2)).length
theorem wanted_eq {z p : Int} (h : 1 ≤ z) : wanted n r (others z.toNat (can bs)) p = wantedL n r bs z p := by
  unfold wanted wantedL
  rw [← can_others h, ← all_pr, List.filter_map, List.length_map]; rfl
theorem st12_no (hn : 1 ≤ n) (hb : TbOk n bs) {z p : Int} (h : lk bs z = none) : stepOf (stOf n r bs) 12 [z, p] [] = (stOf n r bs, [-2]) := no_of hn hb h
theorem st12_ok (hn : 1 ≤ n) (hb : TbOk n bs) {z p : Int} (h : (lk bs z).isSome = true) : stepOf (stOf n r bs) 12 [z, p] [] = (stOf n r bs, [(wantedL n r bs z p : Int)]) := by
  refine (yes_of hn hb h).trans ?_
  rw [wanted_eq (lk_range hb h).1]
theorem drop_offers {z : Int} (hz : z ≠ 0) : offersL n r (dropB bs z) = (offersL n r bs).filter fun o => !decide (o.1 = z) := by
  unfold offersL
  rw [List.filter_append]
  have e2 : (List.replicate n ((0 : Int), r)).filter (fun o => !decide (o.1 = z)) = List.replicate n (0, r) := by
    rw [List.filter_eq_self]
    intro o m
    rw [(List.mem_replicate.mp m).2]
    show (!decide ((0 : Int) = z)) = true
    rw [decide_eq_false (fun q => hz q.symm)]; rfl
  rw [e2]
  refine congrArg (· ++ _) ?_
  unfold offersTo
  rw [List.filter_flatMap]
  refine congrArg (fun f => (List.range 8).flatMap f) (funext fun (j : Nat) => ?_)
  unfold offersOf
  rw [lk_drop]
  by_cases c : (1 + (j : Int)) = z
  · rw [if_pos c]
    symm
    show List.filter _ _ = []
    rw [List.filter_eq_nil_iff]
    intro o m
    obtain ⟨a, _, e⟩ := List.mem_map.mp m
    rw [← e]
    simp [c]
  · rw [if_neg c]
    symm
    rw [List.filter_eq_self]
    intro o m
    obtain ⟨a, _, e⟩ := List.mem_map.mp m
    rw [← e]
    simp [c]
/-! ### gain, ifbid -/
def gainL (n : Nat) (r : Int) (bs : Tb) (z : Int) (tr : List Int) : Int := (tr.take (gotL n r bs z)).sum - paysL n r bs z
theorem gain_eq {z : Int} (h : 1 ≤ z) (tr : List Int) : gainOf n r (can bs) z.toNat tr = gainL n r bs z tr := by
  unfold gainOf gainL
  rw [total_sum, ← gotL_won n r bs (show 0 ≤ z by omega), ← paysL_eq n r bs h]
def truthOk (n : Nat) (tr : List Int) : Bool := decide (tr.length = n) && tr.all small
theorem truth_no {tr : List Int} (h : truthOk n tr = false) : tr.length ≠ n ∨ tr.all small = false := by
  unfold truthOk at h
  by_cases c : tr.length = n
  · rw [decide_eq_true c, Bool.true_and] at h; exact Or.inr h
  · exact Or.inl c
theorem truth_yes {tr : List Int} (h : truthOk n tr = true) : ¬ (tr.length ≠ n ∨ tr.all small = false) := by
  unfold truthOk at h
  rw [Bool.and_eq_true] at h
  rintro (c | c)
  · exact c (of_decide_eq_true h.1)
  · rw [h.2] at c; cases c
theorem st13_no (hn : 1 ≤ n) (hb : TbOk n bs) {z : Int} {tr : List Int} (h : lk bs z = none) : stepOf (stOf n r bs) 13 [z] [tr] = (stOf n r bs, [-2]) := no_of hn hb h
theorem st13_bad (hn : 1 ≤ n) (hb : TbOk n bs) {z : Int} {tr : List Int} (h : (lk bs z).isSome = true) (ht : truthOk n tr = false) : stepOf (stOf n r bs) 13 [z] [tr] = (stOf n r bs, [-3]) :=
  (yes_of hn hb h).trans (if_pos (truth_no ht))
theorem st13_ok (hn : 1 ≤ n) (hb : TbOk n bs) {z : Int} {tr : List Int} (h : (lk bs z).isSome = true) (ht : truthOk n tr = true) : stepOf (stOf n r bs) 13 [z] [tr] = (stOf n r bs, [0, gainL n r bs z tr]) := by
  refine (yes_of hn hb h).trans ((if_neg (truth_yes ht)).trans ?_)
  show (stOf n r bs, [0, gainOf n r (can bs) z.toNat tr]) = _
  rw [gain_eq (lk_range hb h).1]
theorem st14_no (hn : 1 ≤ n) {z : Int} {os tr : List Int} (h : refusal n z os < 0) : stepOf (stOf n r bs) 14 [z] [os, tr] = (stOf n r bs, [refusal n z os]) := by
  show (if n = 0 then _ else if within z 1 BIDDERS = false then (stOf n r bs, [-1]) else if wrongOffers n os < 0 then (stOf n r bs, [wrongOffers n os]) else _) = _
  rw [if_neg (by omega)]
  unfold refusal at h ⊢
  by_cases c : within z 1 BIDDERS = false
  · rw [if_pos c, if_pos c]
  · rw [if_neg c] at h ⊢
    rw [if_pos h, if_neg c]
theorem st14_go (hn : 1 ≤ n) {z : Int} {os tr : List Int} (h : ¬ refusal n z os < 0) : stepOf (stOf n r bs) 14 [z] [os, tr] = if tr.length ≠ n ∨ tr.all small = false then (stOf n r bs, [-6]) else (stOf n r bs, [0, gainOf n r (putBid { who := z.toNat, offers := os } (can bs)) z.toNat tr]) := by
  obtain ⟨h0, h1, h8, hl⟩ := refusal_0 h
  show (if n = 0 then _ else if within z 1 BIDDERS = false then (stOf n r bs, [-1]) else if wrongOffers n os < 0 then (stOf n r bs, [wrongOffers n os]) else if tr.length ≠ n ∨ tr.all small = false then (stOf n r bs, [-6]) else (stOf n r bs, [0, gainOf n r (putBid { who := z.toNat, offers := os } (can bs)) z.toNat tr])) = _
  have c : ¬ within z 1 BIDDERS = false := within_yes h1 h8
  have c2 : ¬ wrongOffers n os < 0 := fun q => h (by unfold refusal; rw [if_neg c]; exact q)
  rw [if_neg (by omega), if_neg c, if_neg c2]
theorem st14_bad (hn : 1 ≤ n) {z : Int} {os tr : List Int} (h : ¬ refusal n z os < 0) (ht : truthOk n tr = false) : stepOf (stOf n r bs) 14 [z] [os, tr] = (stOf n r bs, [-6]) := by
  rw [st14_go hn h, if_pos (truth_no ht)]
theorem st14_ok (hn : 1 ≤ n) {z : Int} {os tr : List Int} (h : ¬ refusal n z os < 0) (ht : truthOk n tr = true) : stepOf (stOf n r bs) 14 [z] [os, tr] = (stOf n r bs, [0, gainL n r (putB bs z os) z tr]) := by
  obtain ⟨h0, h1, h8, hl⟩ := refusal_0 h
  rw [st14_go hn h, if_neg (truth_yes ht), ← can_put h1 h8, gain_eq h1]
/-! ### offers -/
def offersAns (bs : Tb) : List Int := (List.range 8).flatMap fun (j : Nat) => match lk bs (1 + (j : Int)) with | some os => (1 + (j : Int)) :: (os.length : Int) :: os | none => []
theorem canF_flat {g : Int → Option (List Int)} : ∀ ws : List Nat, ((canF ws g).flatMap fun b => (b.who : Int) :: (b.offers.length : Int) :: b.offers) = ws.flatMap fun (w : Nat) => match g (w : Int) with | some os => (w : Int) :: (os.length : Int) :: os | none => []
  | [] => rfl
  | w :: ws => by
    rw [canF_cons, List.flatMap_append, canF_flat ws, List.flatMap_cons]
    cases g (w : Int) with
    | none => rfl
    | some os =>
      refine congrArg (· ++ _) ?_
      show List.flatMap _ [({ who := w, offers := os } : Bid)] = _
      rw [List.flatMap_singleton]
theorem st15 (hn : 1 ≤ n) (hb : TbOk n bs) : stepOf (stOf n r bs) 15 [] [] = (stOf n r bs, (bs.length : Int) :: offersAns bs) := by
  show (if n = 0 then _ else (stOf n r bs, ((can bs).length : Int) :: (can bs).flatMap fun b => (b.who : Int) :: (b.offers.length : Int) :: b.offers)) = _
  rw [if_neg (by omega), hb.count]
  refine congrArg (fun l => (stOf n r bs, (bs.length : Int) :: l)) ?_
  exact canF_flat everyone
/-! ### shows -/
def ofW (n : Nat) (r : Int) (bs : Tb) (w : Nat) : List Int := if w = 0 then List.replicate n r else (lk bs (w : Int)).getD []
def fineL (p : Int) (l : List Int) (g : Nat) : Bool := (l.take g).all (fun a => decide (p ≤ a)) && (decide (g ≤ l.length) && (l.drop g).all fun a => decide (a ≤ p))
def showsL (n : Nat) (r : Int) (bs : Tb) (l : List Int) (p : Int) : Bool := decide (l.sum = (n : Int)) && (List.range 9).all fun w => fineL p (ofW n r bs w) (l.getD w 0).toNat
theorem pairs_find (w : Nat) : ∀ (l : List Int) (k : Nat), k ≤ w → (((pairs k l).find? fun x => x.1 == w).map fun x => x.2).getD 0 = (l.getD (w - k) 0).toNat
  | [], k, _ => rfl
  | a :: l, k, h => by
    unfold pairs
    by_cases e : k = w
    · subst e
      rw [List.find?_cons_of_pos (by simp), Nat.sub_self]; rfl
    · rw [List.find?_cons_of_neg (by simpa using e), pairs_find w l (k + 1) (by omega)]
      have q : w - k = (w - (k + 1)) + 1 := by omega
      rw [q]; rfl
theorem pairs_sum : ∀ (l : List Int) (k : Nat), (∀ x ∈ l, 0 ≤ x) → ((pairs k l).map fun x => (x.2 : Int)).sum = l.sum
  | [], _, _ => rfl
  | a :: l, k, h => by
    unfold pairs
    rw [List.map_cons, List.sum_cons, List.sum_cons, pairs_sum l (k + 1) fun x m => h x (List.mem_cons_of_mem _ m)]
    show ((a.toNat : Nat) : Int) + _ = _
    rw [Int.toNat_of_nonneg (h a List.mem_cons_self)]
theorem pairs_mem : ∀ {l : List Int} {k : Nat} {x : Nat × Nat}, x ∈ pairs k l ↔ ∃ i, i < l.length ∧ x = (k + i, (l.getD i 0).toNat)
  | [], k, x => ⟨fun h => (by cases h), fun ⟨i, h, _⟩ => absurd h (by simp)⟩
  | a :: l, k, x => by
    unfold pairs
    rw [List.mem_cons, pairs_mem]
    constructor
    · rintro (e | ⟨i, h, e⟩)
      · exact ⟨0, by simp, e⟩
      · exact ⟨i + 1, by simpa using h, by rw [e, Nat.add_right_comm, Nat.add_assoc]; rfl⟩
    · rintro ⟨i, h, e⟩
      cases i with
      | zero => exact Or.inl e
      | succ i => exact Or.inr ⟨i, by simpa using h, by rw [e, Nat.add_right_comm, Nat.add_assoc]; rfl⟩
theorem fineL_nil (p : Int) (g : Nat) : fineL p [] g = (g == 0) := by
  unfold fineL
  rw [List.take_nil, List.drop_nil]
  cases g <;> rfl
theorem shows_eq {l : List Int} {p : Int} (hb : TbOk n bs) (hl : l.length = 9) (h0 : ∀ x ∈ l, 0 ≤ x) : shows n r (can bs) (pairs 0 l) p = showsL n r bs l p := by
  have got : ∀ w : Nat, (((pairs 0 l).find? fun x => x.1 == w).map fun x => x.2).getD 0 = (l.getD w 0).toNat := fun w => pairs_find w l 0 (Nat.zero_le _)
  have e : shows n r (can bs) (pairs 0 l) p = (((can bs).all fun b => fineL p b.offers (l.getD b.who 0).toNat) && (fineL p (List.replicate n r) (l.getD 0 0).toNat && (total ((pairs 0 l).map fun x => (x.2 : Int)) == (n : Int) && (pairs 0 l).all fun x => x.2 == 0 || (x.1 == 0 || (can bs).any fun b => b.who == x.1)))) := by
    unfold shows fineL
    simp only [got]
  rw [e, total_sum, pairs_sum l 0 h0]
  unfold showsL
  rw [Bool.eq_iff_iff]
  simp only [Bool.and_eq_true, List.all_eq_true, beq_iff_eq, decide_eq_true_eq, Bool.or_eq_true, List.mem_range, List.any_eq_true]
  have bid : ∀ (w : Nat) (os : List Int), (1 ≤ w ∧ w ≤ 8) → lk bs (w : Int) = some os → ({ who := w, offers := os } : Bid) ∈ can bs := fun w os hw hk => by
    obtain ⟨me, ee⟩ := mem_everyone (w := (w : Int)) (by omega) (by omega)
    rw [Int.toNat_natCast] at me
    exact List.mem_filterMap.mpr ⟨w, me, by rw [hk]; rfl⟩
  have ev : ∀ v ∈ everyone, 1 ≤ v ∧ v ≤ 8 := by decide
  constructor
  · rintro ⟨h1, h2, h3, h4⟩
    refine ⟨h3, fun w hw => ?_⟩
    unfold ofW
    by_cases c : w = 0
    · rw [if_pos c, c]; exact h2
    · rw [if_neg c]
      cases k : lk bs (w : Int) with
      | some os => exact h1 _ (bid w os (by omega) k)
      | none =>
        have q := h4 (w, (l.getD w 0).toNat) (pairs_mem.mpr ⟨w, by omega, by rw [Nat.zero_add]⟩)
        rcases q with q | q | ⟨b, hb', q⟩
        · show fineL p [] _ = true
          rw [fineL_nil]
          exact beq_iff_eq.mpr q
        · exact absurd q c
        · have z := (canF_who hb').2
          have q : b.who = w := q
          rw [q, k] at z
          cases z
  · rintro ⟨h3, h⟩
    refine ⟨fun b hb' => ?_, ?_, h3, fun x hx => ?_⟩
    · obtain ⟨z1, z2⟩ := canF_who hb'
      have z3 := ev _ z1
      have q := h b.who (by omega)
      unfold ofW at q
      rw [if_neg (by omega), z2] at q
      exact q
    · have q := h 0 (by omega)
      unfold ofW at q
      rw [if_pos rfl] at q
      exact q
    · obtain ⟨i, hi, ex⟩ := pairs_mem.mp hx
      subst ex
      rw [Nat.zero_add]
      by_cases c : i = 0
      · exact Or.inr (Or.inl c)
      · cases k : lk bs (i : Int) with
        | some os => exact Or.inr (Or.inr ⟨_, bid i os (by omega) k, rfl⟩)
        | none =>
          have q := h i (by omega)
          unfold ofW at q
          rw [if_neg c, k] at q
          have q : fineL p [] (l.getD i 0).toNat = true := q
          rw [fineL_nil] at q
          exact Or.inl (beq_iff_eq.mp q)
def splitOk (l : List Int) : Bool := decide (l.length = 9) && l.all fun x => decide (0 ≤ x ∧ x ≤ 60)
theorem splitOk_iff (l : List Int) : (l.length ≠ BIDDERS + 1 ∨ (l.all fun x => within x 0 SLICES) = false) ↔ splitOk l = false := by
  have e : (l.all fun x => within x 0 SLICES) = l.all fun x => decide (0 ≤ x ∧ x ≤ 60) := congrArg (fun f => l.all f) (funext fun x => within_iff x 0 60)
  rw [e]
  unfold splitOk
  by_cases c : l.length = 9
  · rw [decide_eq_true c, Bool.true_and]
    exact ⟨fun q => q.resolve_left fun z => z c, Or.inr⟩
  · rw [decide_eq_false c, Bool.false_and]
    exact ⟨fun _ => rfl, fun _ => Or.inl c⟩
theorem st11_bad (hn : 1 ≤ n) {p : Int} {l : List Int} (h : splitOk l = false) : stepOf (stOf n r bs) 11 [p] [l] = (stOf n r bs, [-3]) := by
  show (if n = 0 then _ else if l.length ≠ BIDDERS + 1 ∨ (l.all fun x => within x 0 SLICES) = false then (stOf n r bs, [-3]) else _) = _
  rw [if_neg (by omega), if_pos ((splitOk_iff l).mpr h)]
theorem st11_ok (hn : 1 ≤ n) (hb : TbOk n bs) {p : Int} {l : List Int} (h : splitOk l = true) : stepOf (stOf n r bs) 11 [p] [l] = (stOf n r bs, [if showsL n r bs l p = true then 1 else 0]) := by
  show (if n = 0 then _ else if l.length ≠ BIDDERS + 1 ∨ (l.all fun x => within x 0 SLICES) = false then (stOf n r bs, [-3]) else (stOf n r bs, [if shows n r (can bs) (pairs 0 l) p = true then 1 else 0])) = _
  rw [if_neg (by omega), if_neg (fun q => by rw [(splitOk_iff l).mp q] at h; cases h)]
  unfold splitOk at h
  rw [Bool.and_eq_true] at h
  rw [shows_eq hb (of_decide_eq_true h.1) fun x m => (of_decide_eq_true (List.all_eq_true.mp h.2 x m)).1]
end
end Ss
end
section
set_option Elab.async false
namespace Ss
open Vbchag
/-! ### offers, by the sorted keys -/
def ansOf (bs : Tb) (z : Int) : List Int := match lk bs z with | some os => z :: (os.length : Int) :: os | none => []
theorem flat_filter {α β : Type} {p : α → Bool} {g : α → List β} (h : ∀ x, p x = false → g x = []) : ∀ l : List α, (l.filter p).flatMap g = l.flatMap g
  | [] => rfl
  | x :: l => by
    rw [List.flatMap_cons, List.filter_cons]
    by_cases c : p x = true
    · rw [if_pos c, List.flatMap_cons, flat_filter h l]
    · rw [if_neg c, flat_filter h l, h x (by simpa using c), List.nil_append]
def sortedKeys (bs : Tb) : List Int := ((List.range 8).map fun (j : Nat) => 1 + (j : Int)).filter fun z => (lk bs z).isSome
theorem sortedKeys_up (bs : Tb) : (sortedKeys bs).Pairwise (· ≤ ·) := by
  refine List.Pairwise.filter _ ?_
  decide
theorem eightUp_nd : ((List.range 8).map fun (j : Nat) => 1 + (j : Int)).Nodup := by decide
theorem isSome_key {n : Nat} {bs : Tb} (hb : TbOk n bs) (z : Int) : (lk bs z).isSome = true ↔ z ∈ bs.map (·.1) := by
  constructor
  · intro h
    obtain ⟨os, e⟩ := Option.isSome_iff_exists.mp h
    exact List.mem_map.mpr ⟨_, lk_mem e, rfl⟩
  · intro h
    obtain ⟨b, m, e⟩ := List.mem_map.mp h
    subst e
    rw [lk_of_mem hb.nd (show (b.1, b.2) ∈ bs from m)]; rfl
theorem keys_perm {n : Nat} {bs : Tb} (hb : TbOk n bs) : (bs.map (·.1)).Perm (sortedKeys bs) := by
  refine (List.perm_ext_iff_of_nodup hb.nd (List.Nodup.sublist List.filter_sublist eightUp_nd)).mpr fun z => ?_
  rw [List.mem_filter, ← isSome_key hb]
  constructor
  · intro h
    have r := lk_range hb h
    exact ⟨List.mem_map.mpr ⟨(z - 1).toNat, List.mem_range.mpr (by omega), by omega⟩, h⟩
  · exact fun h => h.2
theorem keys_eq {n : Nat} {bs : Tb} (hb : TbOk n bs) {ns : List Int} (hp : ns.Perm (bs.map (·.1))) (hs : ns.Pairwise (· ≤ ·)) : ns = sortedKeys bs := by
  refine same_rows (k := fun x : Int => x) hs (sortedKeys_up bs) fun c => ?_
  have e := (hp.trans (keys_perm hb)).count_eq c
  rw [List.filter_beq, List.filter_beq, e]
theorem offers_flat {n : Nat} {bs : Tb} (hb : TbOk n bs) {ns : List Int} (hp : ns.Perm (bs.map (·.1))) (hs : ns.Pairwise (· ≤ ·)) : ns.flatMap (ansOf bs) = offersAns bs := by
  rw [keys_eq hb hp hs]
  unfold sortedKeys
  rw [flat_filter, List.flatMap_map]
  · rfl
  · intro z h
    unfold ansOf
    cases e : lk bs z with
    | none => rfl
    | some os => rw [e] at h; cases h
theorem flat_len {α : Type} {f : α → List Int} {m : Nat} : ∀ {l : List α}, (∀ x ∈ l, (f x).length ≤ m) → (l.flatMap f).length ≤ l.length * m
  | [], _ => Nat.zero_le _
  | x :: l, h => by
    rw [List.flatMap_cons, List.length_append, List.length_cons, Nat.succ_mul]
    have a := h x List.mem_cons_self
    have b := flat_len (l := l) fun y q => h y (List.mem_cons_of_mem _ q)
    omega
theorem ansOf_len {n : Nat} {bs : Tb} (hb : TbOk n bs) (hn : n ≤ 60) (z : Int) : (ansOf bs z).length ≤ 62 := by
  unfold ansOf
  cases e : lk bs z with
  | none => exact Nat.zero_le _
  | some os =>
    have l := hb.len _ (lk_mem e)
    have l : os.length ≤ n := l
    show os.length + 1 + 1 ≤ 62
    omega
end Ss
end
section
set_option Elab.async false
set_option linter.all false
set_option maxRecDepth 100000
set_option maxHeartbeats 4000000
namespace L2
open PySem PySem.Spec PyProof.Rows

/-! ### sorted(xs, key=f), f a def of the text: equal keys as they came -/
section
variable {X : Cx} {pins : List (Addr × Obj)} {σ : St} {k : Nat} {f : Addr} {fd : FuncData} {ps : List Str} {sp : Sp}

/-- a def's run two built-ins deep -/
theorem run_in2 {H : Hp} {s : Shared} {u : Value} {x : V} {Q : VK} (F : FnOk X.prog X.w X.K X.mg X.base CX0 k f fd ps sp) (hr : Room k X.A.in1.in1) (hb : Binds X.K fd ps [])
    (I : Inv X pins σ H s) (r : RelV x u) (h : sp [x] H Q E0) : wpAny (model X.prog X.w) X.A.in1.in1 (call (.ref f) [u]) (EP X pins σ Q) (fun _ _ => False) s := by
  have rv : Vals [x] [u] := .cons r .nil
  have hl : ([u] ++ ([] : List Value)).length = ps.length := F.len _ _ _ _ h
  refine wpAny_call (codeAny_mono (F.run X.A.in1.in1 X.stack s H ⟨[u], []⟩ [u] [x] Q E0 hr I.env0.in1.in1 (hb s [u] I.kIn hl) rv h) fun r s' hq => ?_)
  match r, hq with
  | .error e, hq => exact False.elim hq
  | .ok (.ret u'), hq => exact I.after hq
  | .ok .next, hq => exact False.elim hq
  | .ok .brk, hq => exact False.elim hq
  | .ok .cont, hq => exact False.elim hq

/-- what the key of each item is -/
def KeyTurn (sp : Sp) (xs : List V) (kz : List Int) (H : Hp) : Prop :=
  ∀ (i : Nat) (x : V) (z : Int) (H' : Hp), xs[i]? = some x → kz[i]? = some z → Same H H' → sp [x] H' (fun v H2 => v = .int z ∧ Same H H2) E0

/-- the items in order: ps are the keys with the items -/
def InRows (kz : List Int) (xs ys : List V) : Prop :=
  ∃ qs : List (Int × V), qs.Perm (kz.zip xs) ∧ ys = qs.map Prod.snd ∧ qs.Pairwise (fun p q => p.1 ≤ q.1) ∧ ∀ c, qs.filter (fun p => p.1 == c) = (kz.zip xs).filter (fun p => p.1 == c)

theorem zip_rel : ∀ (kz : List Int) {xs : List V} {vs : List Value}, Vals xs vs → (kz.zip vs).map (fun p => (p.1, (absV p.2).getD .non)) = kz.zip xs
  | [], xs, vs, _ => by rw [List.zip_nil_left, List.zip_nil_left]; rfl
  | c :: kz, _, _, .nil => rfl
  | c :: kz, _, _, .cons r t => by
    rw [List.zip_cons_cons, List.zip_cons_cons, List.map_cons, zip_rel kz t, r.abs]
    rfl
theorem vals_abs : ∀ {vs : List Value}, (∀ v ∈ vs, ∃ x, RelV x v) → Vals (vs.map fun v => (absV v).getD .non) vs
  | [], _ => .nil
  | v :: vs, h => by
    obtain ⟨x, r⟩ := h v List.mem_cons_self
    refine .cons ?_ (vals_abs fun u m => h u (List.mem_cons_of_mem _ m))
    show RelV ((absV v).getD .non) v
    rw [r.abs]
    exact r
theorem vals_mem : ∀ {xs : List V} {vs : List Value}, Vals xs vs → ∀ v ∈ vs, ∃ x, RelV x v
  | _, _, .nil, v, m => by cases m
  | _, _, .cons r t, v, m => by
    rcases List.mem_cons.mp m with e | e
    · rw [e]; exact ⟨_, r⟩
    · exact vals_mem t v e
theorem rows_of {kz : List Int} {xs : List V} {vs out : List Value} (r : Vals xs vs) (h : KskOutSt false kz vs out) : ∃ ys, Vals ys out ∧ InRows kz xs ys ∧ ys.length ≤ vs.length := by
  obtain ⟨qs, h1, h2, h3, h4⟩ := h
  have hz := zip_rel kz r
  have sub : ∀ v ∈ out, ∃ x, RelV x v := fun v m => by
    rw [h2] at m
    obtain ⟨p, hp, e⟩ := List.mem_map.mp m
    have q := h1.mem_iff.mp hp
    obtain ⟨z1, z2⟩ := List.of_mem_zip (show (p.1, p.2) ∈ kz.zip vs from q)
    rw [← e]
    exact vals_mem r p.2 z2
  refine ⟨out.map fun v => (absV v).getD .non, vals_abs sub, ⟨qs.map fun p => (p.1, (absV p.2).getD .non), ?_, ?_, ?_, fun c => ?_⟩, ?_⟩
  · rw [← hz]
    exact h1.map _
  · rw [h2, List.map_map, List.map_map]
    rfl
  · rw [List.pairwise_map]
    refine h3.imp fun {p q} e => ?_
    have e' : p.1 ≤ q.1 := e
    exact e'
  · have hc := congrArg (List.map fun p : Int × Value => (p.1, (absV p.2).getD V.non)) (h4 c)
    rw [← hz, List.filter_map, List.filter_map]
    exact hc
  · rw [List.length_map, h2, List.length_map, h1.length_eq, List.length_zip]
    exact Nat.min_le_right _ _

/-- between two keys -/
structure KeySt (X : Cx) (pins : List (Addr × Obj)) (σ : St) (H : Hp) (kz : List Int) (a kS : Addr) (e1 : Nat) (i : Nat) (s : Shared) : Prop where
  ex : ∃ (H' : Hp) (kA : Array Value) (e : Nat), Inv X pins σ H' s ∧ Same H H' ∧ s.heap.get? kS = some (seqObj "list" kA e) ∧ s.heap.get? a = some (seqObj "list" #[] e1) ∧ FpOk X pins H' kS ∧ FpOk X pins H' a ∧ IntsAre kA.toList (kz.take i)

theorem fp_again {H H' : Hp} {b : Addr} (h : FpOk X pins H b) (n : H' b = none) : FpOk X pins H' b := ⟨n, h.2⟩

/-- one key -/
theorem key_step {H : Hp} {kz : List Int} {xs : List V} {vs : List Value} {a kS : Addr} {e1 j : Nat} {s : Shared} {u : Value} (F : FnOk X.prog X.w X.K X.mg X.base CX0 k f fd ps sp) (hr : Room k X.A.in1.in1) (hb : Binds X.K fd ps [])
    (rv : Vals xs vs) (hlen : kz.length = vs.length) (hZ : vs.length ≤ sizeLine) (hka : kS ≠ a) (turn : KeyTurn sp xs kz H) (hu : vs[j]? = some u) (S : KeySt X pins σ H kz a kS e1 j s)
    {Q : Value → Shared → Prop} {E : Value → Shared → Prop} {g : Value → Sem (ForInStep PUnit)} (hg : ∀ v, g v = (do Builtin.List.listUpdate (.ref kS) (·.push v); pure (.yield ⟨⟩)))  :
    wpAny (model X.prog X.w) X.A.in1.in1 (call (.ref f) [u]) (fun v s' => wpAny (model X.prog X.w) X.A.in1.in1 (g v) (fun r s2 => r = .yield ⟨⟩ ∧ KeySt X pins σ H kz a kS e1 (j + 1) s2) E s') (fun _ _ => False) s := by
  obtain ⟨H', kA, e, I, sm, gk, ga, fk, fa, hk⟩ := S.ex
  have hj : j < vs.length := (List.getElem?_eq_some_iff.mp hu).1
  obtain ⟨z, hz⟩ : ∃ z, kz[j]? = some z := ⟨_, List.getElem?_eq_getElem (by omega)⟩
  obtain ⟨x, hx⟩ : ∃ x, xs[j]? = some x := ⟨_, List.getElem?_eq_getElem (by rw [rv.length]; exact hj)⟩
  obtain ⟨u', hu', rx⟩ := rv.get hx
  rw [hu] at hu'
  cases hu'
  have I2 : Inv X (pins ++ pinsAt [kS, a] s.heap) σ H' s := I.pinned (fp := [kS, a]) (fun b m => by
      rcases List.mem_cons.mp m with q | q
      · rw [q]; exact fk
      · rw [List.mem_singleton.mp q]; exact fa) (fun b m => by
      rcases List.mem_cons.mp m with q | q
      · rw [q]; exact ⟨_, gk, fun v => by intro w; cases w⟩
      · rw [List.mem_singleton.mp q]; exact ⟨_, ga, fun v => by intro w; cases w⟩)
  refine thn (run_in2 F hr hb I2 rx (turn j x z H' hx hz sm)) fun v s2 ⟨y, H2, I3, ry, ey, sm2⟩ => ?_
  rw [ey] at ry
  obtain ⟨t2, rfl⟩ := ry
  have pk := I3.pin (kS, seqObj "list" kA e) (List.mem_append_right _ (List.mem_append_right _ (mem_pinsAt List.mem_cons_self gk)))
  have pa := I3.pin (a, seqObj "list" #[] e1) (List.mem_append_right _ (List.mem_append_right _ (mem_pinsAt (List.mem_cons_of_mem _ List.mem_cons_self) ga)))
  have I4 := I3.unpinned
  have fk2 : FpOk X pins H2 kS := fp_again fk pk.2.1
  have fa2 : FpOk X pins H2 a := fp_again fa pa.2.1
  have sb := Heap.SameBut.update s2.heap kS (Obj.mapSeq (·.push (.int z t2)))
  obtain ⟨c2, hc2⟩ : ∃ c2, (s2.heap.update kS (Obj.mapSeq (·.push (.int z t2)))).get? kS = some (seqObj "list" (kA.push (.int z t2)) c2) := ⟨_, get?_update_seq pk.1 (·.push (.int z t2))⟩
  have hkz : kA.size ≤ vs.length := by
    have q := hk.length
    rw [Array.length_toList, List.length_take] at q
    omega
  have lim : sizeLine = sizeLine := rfl
  have hS : kA.size ≤ sizeLine := Nat.le_trans hkz hZ
  rw [hg]
  refine wpAny_bind (listUpdate_at pk.1 rfl ?_ hS (Nat.le_trans (Nat.le_of_eq (Array.size_push ..)) (Nat.succ_le_succ hS)))
  refine wpAny_pure ⟨rfl, ⟨H2, kA.push (.int z t2), c2, ?_, sm2, hc2, (sb.2 a hka.symm).trans pa.1, fk2, fa2, ?_⟩⟩
  · exact I4.turned (t' := s2.toks) (fun b o hb ho => (sb.2 b hb).trans ho) fk2.1 fk2.2.1 fk2.2.2.2.1 fk2.2.2.2.2.1 fk2.2.2.2.2.2
  · have e2 : kz.take (j + 1) = kz.take j ++ [z] := by rw [List.take_add_one, hz]; rfl
    have e3 : (kA.push (Value.int z t2)).toList = kA.toList ++ [Value.int z t2] := by simp
    rw [e2, e3]
    exact ksk_snoc hk
end
end L2
end
section
set_option Elab.async false
set_option linter.all false
set_option maxRecDepth 100000
set_option maxHeartbeats 4000000
namespace L2
open PySem PySem.Spec PyProof.Rows
section
variable {X : Cx} {pins : List (Addr × Obj)} {σ : St} {k : Nat} {f : Addr} {fd : FuncData} {ps : List Str} {sp : Sp}

/-- behind the sort: the list at a is tracked now, the keys' list is nobody's -/
theorem sorted_done {H : Hp} {s : Shared} {h' : Heap} {t' : Nat} {a kS : Addr} {m : Str → Option Value} {ys : List V} {out : Array Value} {c : Nat} (I : Inv X pins σ H s) (fk : FpOk X pins H kS) (fa : FpOk X pins H a)
    (hm : s.heap.Ns X.env.locals m) (hF : Fr X.base X.env.locals h' m) (hN : News X.base X.env.locals h' ((a, seqObj "list" out c) :: (allNews X.base s.heap X.env.locals).filter fun p => decide (p.1 ≠ kS ∧ p.1 ≠ a)))
    (rv : Vals ys out.toList) (hz : ys.length ≤ sizeLine) : Inv X pins σ (upd H a (.lst ys)) { s with heap := h', toks := t' } := by
  have kept : ∀ b o, b ≠ X.env.locals → b ≠ kS → b ≠ a → s.heap.get? b = some o → h'.get? b = some o := fun b o h1 h2 h3 e => by
    cases q : X.base.get? b with
    | some u =>
      have e2 := I.bk b u q
      rw [e] at e2
      cases e2
      exact hF.keep b _ q
    | none => exact (hN (b, o) (List.mem_cons_of_mem _ (List.mem_filter.mpr ⟨mem_allNews h1 q e, decide_eq_true ⟨h2, h3⟩⟩))).1
  have ha := (hN _ List.mem_cons_self).1
  have nL : ∀ b o, H b = some o → b ≠ X.env.locals := fun b o e z => by rw [z, I.free] at e; cases e
  have nk : ∀ b o, H b = some o → b ≠ kS := fun b o e z => by rw [z, fk.1] at e; cases e
  have na : ∀ b o, H b = some o → b ≠ a := fun b o e z => by rw [z, fa.1] at e; cases e
  have two : ∀ b, b ∉ [kS, a] → b ≠ kS ∧ b ≠ a := fun b hb => ⟨fun z => hb (by rw [z]; exact List.mem_cons_self), fun z => hb (by rw [z]; exact List.mem_cons_of_mem _ List.mem_cons_self)⟩
  refine I.step (H' := upd H a (.lst ys)) (g' := s.gens) (d' := s.drawn) (ch := [kS, a]) (fun b hb => ?_) (fun b o h1 _ h3 e _ => kept b o h1 (two b h3).1 (two b h3).2 e) (fun b o h1 _ h3 e _ => ⟨o.slots, kept b o h1 (two b h3).1 (two b h3).2 e⟩)
    (fun b o h1 _ n => by rw [upd_ne (two b h1).2]; exact n) (fun b o h1 e => ?_) (fun b zs e => by rw [upd_ne (na b _ e)]; exact e) (fun b o u e => by rw [upd_ne (na b _ e)]; exact e) (fun b zs e => ⟨#[], by rw [upd_ne (na b _ e), e]; simp⟩) (fun m' hm' => ?_) (fun b u e => ?_) I.bare
  · rcases List.mem_cons.mp hb with q | q
    · subst q; exact ⟨fk.2.2.2.1, fk.2.1, fk.2.2.2.2.1, fk.2.2.2.2.2⟩
    · have q := List.mem_singleton.mp q
      subst q; exact ⟨fa.2.2.2.1, fa.2.1, fa.2.2.2.2.1, fa.2.2.2.2.2⟩
  · by_cases q : b = X.env.locals
    · subst q
      obtain ⟨o', _, _, e', _⟩ := hF.ns
      exact ⟨o', e'⟩
    · exact ⟨o, kept b o q (two b h1).1 (two b h1).2 e⟩
  · have q : m' = m := funext fun x => hm'.agree hm x
    rw [q]
    exact hF.ns
  · by_cases q : b = a
    · subst q
      rw [upd_same] at e
      cases e
      exact ⟨hz, out.toList, c, rv, ha⟩
    · rw [upd_ne q] at e
      refine (I.hok b u e).stay (fun d v hd g => ?_) (fun d g => by rw [upd_ne (na d _ g)]; exact g) fun d zs g => by rw [upd_ne (na d _ g)]; exact g
      rcases hd with z | z
      · subst z; exact kept d v (nL d u e) (nk d u e) q g
      · exact kept d v (nL d _ z) (nk d _ z) (na d _ z) g

/-- the keys, then the sort -/
theorem rest_run {H : Hp} {kz : List Int} {xs : List V} {vs : List Value} {a kS : Addr} {e1 : Nat} {s : Shared} (F : FnOk X.prog X.w X.K X.mg X.base CX0 k f fd ps sp) (hr : Room k X.A.in1.in1) (hb : Binds X.K fd ps [])
    (rv : Vals xs vs) (hlen : kz.length = vs.length) (hZ : vs.length ≤ sizeLine) (hka : kS ≠ a) (turn : KeyTurn sp xs kz H) (S : KeySt X pins σ H kz a kS e1 0 s) {E : Value → Shared → Prop} {P : PySem.Fin → Shared → Prop}
    (done : ∀ ys H' s', Inv X pins σ (upd H' a (.lst ys)) s' → Same H H' → H' a = none → InRows kz xs ys → P (.done (.ret .none)) s') :
    wpAny (model X.prog X.w) X.A.in1.in1 (ksk_rest a (.ref f) false vs.toArray e1 (.ref kS)) P E s := by
  unfold ksk_rest
  refine wpAny_bind (wpAny_rule ?_)
  rw [List.forIn_toArray]
  refine wpAny_bind (ksk_fold (KeySt X pins σ H kz a kS e1) vs 0 s S (fun j u s' hu hS => ?_) fun s' hS => ?_)
  · rw [Nat.zero_add] at hS ⊢
    refine wpAny_bind (wpAny_attempt (wpAny_mono (key_step (E := E) (Q := fun _ _ => True) F hr hb rv hlen hZ hka turn hu hS (fun v => rfl)) (fun v s2 h2 => ?_) fun _ _ z => z.elim))
    exact h2
  · rw [Nat.zero_add, ← hlen] at hS
    obtain ⟨H', kA, e, I, sm, gk, ga, fk, fa, hk⟩ := hS.ex
    rw [List.take_length] at hk
    refine wpAny_bind (listItems_at gk rfl ?_)
    obtain ⟨m, hm, _⟩ := I.loc
    have hF : Fr X.base X.env.locals s'.heap m := ⟨hm, I.bk, Nat.le_trans I.ok.bsz I.ok.above⟩
    have nb : ∀ {b : Addr}, FpOk X pins H' b → b ∉ X.ex → X.base.get? b = none := fun {b} hb hx => by
      cases q : X.base.get? b with
      | none => rfl
      | some o =>
        rcases hb.2.2.2.1 with z | z
        · exact absurd z hx
        · exact absurd (Nat.lt_of_lt_of_le (Heap.lt_size q) (Nat.le_trans I.ok.bsz z)) (Nat.lt_irrefl _)
    have nb' : ∀ {b : Addr}, FpOk X pins H' b → X.base.get? b = none := fun {b} hb => by
      cases q : X.base.get? b with
      | none => rfl
      | some o => rw [← q]; exact nb hb (I.ok.noex b o q)
    have old : ∀ p ∈ (allNews X.base s'.heap X.env.locals).filter (fun p => decide (p.1 ≠ kS ∧ p.1 ≠ a)), p.1 ≠ kS ∧ p.1 ≠ a := fun p hp => of_decide_eq_true (List.mem_filter.mp hp).2
    have hN : News X.base X.env.locals s'.heap ((allNews X.base s'.heap X.env.locals).filter (fun p => decide (p.1 ≠ kS ∧ p.1 ≠ a)) ++ [(kS, seqObj "list" kA e), (a, seqObj "list" #[] e1)]) := fun p hp => by
      rcases List.mem_append.mp hp with z | z
      · exact news_all p (List.mem_filter.mp z).1
      · rcases List.mem_cons.mp z with q | q
        · subst q; exact ⟨gk, fk.2.1, nb' fk⟩
        · have q := List.mem_singleton.mp q
          subst q; exact ⟨ga, fa.2.1, nb' fa⟩
    have szk := Heap.lt_size gk
    refine ksk_end_St (b := false) hF hN hka (fun p hp => (old p hp).1) (fun p hp => (old p hp).2) hk hlen hZ fun h' tk out c F' N' ko => ?_
    obtain ⟨ys, ry, rows, ly⟩ := rows_of rv ko
    exact done ys H' _ (sorted_done I fk fa hm F' N' ry (Nat.le_trans ly hZ)) sm fa.1 rows

/-- sorted's list, as it is made -/
theorem sorted_run {H : Hp} {kz : List Int} {xs : List V} {vs : List Value} {l : Addr} {s : Shared} (F : FnOk X.prog X.w X.K X.mg X.base CX0 k f fd ps sp) (hr : Room k X.A.in1.in1) (hb : Binds X.K fd ps [])
    (I : Inv X pins σ H s) (rv : Vals xs vs) (hl : s.heap.IsList l vs.toArray) (hlen : kz.length = vs.length) (hZ : vs.length ≤ sizeLine) (turn : KeyTurn sp xs kz H) {E : Value → Shared → Prop} {Q : Value → Shared → Prop}
    (done : ∀ ys a H' s', Inv X pins σ (upd H' a (.lst ys)) s' → Same H H' → H' a = none → InRows kz xs ys → Q (.ref a) s') :
    wpAny (model X.prog X.w) X.A (call (.builtin "sorted") [.ref l] [(Str.ofString "key", .ref f)]) Q E s := by
  refine call_function_entry_kw kind_sorted plain_sorted entry_sorted (ksk_s1 _ _) ?_
  unfold Builtin.«sorted»
  refine wpAny_bind (m := checkCount "sorted" 1 1 _) (wpAny_pure (wpAny_bind (collect_list hl (wpAny_bind (wpAny_newList ?_ hZ)) hZ)))
  let h1 := (s.heap.push (seqObj "list" #[] 0)).update s.heap.objs.size (Obj.mapSeq (· ++ vs.toArray))
  have z1 : h1.objs.size = s.heap.objs.size + 1 := by show (Heap.update _ _ _).objs.size = _; rw [Heap.size_update, size_push']
  have k1 : ∀ b o, s.heap.get? b = some o → h1.get? b = some o := fun b o e => by
    have lt : b < s.heap.objs.size := Heap.lt_size e
    show (Heap.update _ _ _).get? b = _
    rw [Heap.get?_update_ne _ _ _ _ (Nat.ne_of_lt lt)]
    exact Heap.get?_push_of_some _ e
  show wpAny _ _ _ _ _ { s with heap := h1.push (seqObj "list" vs.toArray 0) }
  let a := h1.objs.size
  let h2 := h1.push (seqObj "list" vs.toArray 0)
  have g2 : h2.get? a = some (seqObj "list" vs.toArray 0) := Heap.get?_push_size _ rfl
  have k2 : ∀ b o, s.heap.get? b = some o → h2.get? b = some o := fun b o e => Heap.get?_push_of_some _ (k1 b o e)
  have la : s.heap.objs.size ≤ a := by show _ ≤ h1.objs.size; omega
  refine wpAny_bind (wpAny_holding (wpAny_call_entry_kw slot_list_sort ⟨_, g2, rfl⟩ entry_list_sort ?_ (ksk_l1 _ _)))
  show wpAny (model X.prog X.w) X.A.in1.in1 (Builtin.«list.sort» ⟨[.ref a], [(Str.ofString "key", .ref f)]⟩) _ _ _
  rw [ksk_t1]
  unfold ksk_tree
  let h3 := h2.update a (Obj.mapSeq fun _ => (#[] : Array Value))
  obtain ⟨e1, g3⟩ : ∃ e1, h3.get? a = some (seqObj "list" #[] e1) := ⟨_, get?_update_seq g2 fun _ => #[]⟩
  have sb := Heap.SameBut.update h2 a (Obj.mapSeq fun _ => (#[] : Array Value))
  have k3 : ∀ b o, s.heap.get? b = some o → h3.get? b = some o := fun b o e => (sb.2 b (Nat.ne_of_lt (Nat.lt_of_lt_of_le (Heap.lt_size e) la))).trans (k2 b o e)
  refine wpAny_bind (listItems_at g2 rfl (wpAny_bind (listUpdate_at g2 rfl ?_ (by rw [List.size_toArray]; exact hZ) (Nat.zero_le _))))
  refine wpAny_bind (seqEpoch_at g3 rfl (wpAny_bind (wpAny_newTuple ?_ hZ)))
  refine wpAny_bind (wpAny_newList (wpAny_holding ?_) (Nat.zero_le _))
  let h4 := h3.push (seqObj "tuple" vs.toArray 0)
  let h5 := h4.push (seqObj "list" #[] 0)
  have z3 : h3.objs.size = h2.objs.size := Heap.size_update _ _ _
  have z2 : h2.objs.size = h1.objs.size + 1 := size_push' _ _
  have z4 : h4.objs.size = h3.objs.size + 1 := size_push' _ _
  have k5 : ∀ b o, h3.get? b = some o → h5.get? b = some o := fun b o e => Heap.get?_push_of_some _ (Heap.get?_push_of_some _ e)
  have I5 : Inv X pins σ H { s with heap := h5 } := I.kept (t' := s.toks) fun b o e => k5 b o (k3 b o e)
  have lk : s.heap.objs.size ≤ h4.objs.size := by omega
  refine rest_run (kS := h4.objs.size) (a := a) F hr hb rv hlen hZ (by show h4.objs.size ≠ h1.objs.size; omega) turn ⟨H, #[], 0, I5, Same.refl H, Heap.get?_push_size _ rfl, k5 _ _ g3, I.fpOk lk (I.hok.fresh lk), I.fpOk la (I.hok.fresh la), by simpa using IntsAre.nil⟩ ?_
  intro ys H' s' I' sm n' rows
  exact ⟨_, rfl, wpAny_pure ⟨_, rfl, done ys a H' s' I' sm n' rows⟩⟩

/-- sorted(e, key=g) -/
def tSortK (sp : Sp) (K : PySem.W.Frag) (te : TE) : TE := fun σ H Q => te σ H fun x H1 => ∃ (a : Addr) (xs : List V) (kz : List Int), x = .ref a ∧ SqL K H1 a xs ∧ kz.length = xs.length ∧ KeyTurn sp xs kz H1 ∧
  ∀ ys p H2, InRows kz xs ys → Same H1 H2 → H2 p = none → Q (.ref p) (upd H2 p (.lst ys))
theorem pe_sortK {x g : Str} {p pos kp gp : Pos} {e : Expr} {te : TE} (F : FnOk X.prog X.w X.K X.mg X.base CX0 k f fd ps sp) (hr : Room (k + 2) X.A) (hb : Binds X.K fd ps []) (hg : Gl X x) (hm : X.mg x = none) (hv : bootBuiltins x = some (.builtin "sorted"))
    (hg2 : Gl X g) (hm2 : X.mg g = some (.ref f)) (ha : PE X e te) (hn : x ≠ "__name__" := by decide) (hdb : (x == ("__debug__" : Str)) = false := by decide) (hdb2 : (g == ("__debug__" : Str)) = false := by decide)
    (he : backTo pos (starEach [e] X.env) = (false, eval e X.env) :: backTo pos (starEach [] X.env) := by rfl) (hst : starEach [e] X.env = (false, eval e X.env) :: starEach [] X.env := by rfl)
    (hpl : (backTo pos (starEach [e] X.env)).any (·.1) = false := by rfl)  :
    PE X (.Call (.Name x p) [e] [⟨some (Str.ofString "key"), .Name g gp, kp⟩] pos) (tSortK sp X.K te) := by
  intro pins s σ H Q I h
  refine wpAny_Call_Name_kw (ld_blt I hg hm hv ?_ hn hdb)
  let R : V → Hp → Prop := fun x H1 => ∃ (a : Addr) (xs : List V) (kz : List Int), x = .ref a ∧ SqL X.K H1 a xs ∧ kz.length = xs.length ∧ KeyTurn sp xs kz H1 ∧
    ∀ ys p H2, InRows kz xs ys → Same H1 H2 → H2 p = none → Q (.ref p) (upd H2 p (.lst ys))
  have h0 : tCons te tNil σ H (fun vs H1 => match vs with | [x] => R x H1 | _ => False) := h
  refine callWith_kw (thn (pa_cons ha pa_nil hst pos pins s σ H _ I h0) fun us s1 ⟨vs, H1, I1, r1, q1⟩ => ?_) he hpl
  match vs, r1, q1 with
  | [x1], r1, q1 =>
  obtain ⟨a, xs, kz, ex, hl, hlen, turn, q⟩ := q1
  subst ex
  have hk := pk_cons (nm := some (Str.ofString "key")) (kpos := kp) (kws := []) (pe_glob (pos := gp) hg2 hm2 (v := .ref f) rfl hdb2) pk_nil
  refine thn (hk pos pins s1 σ H1 (fun zs H2 => zs = [.ref f] ∧ H2 = H1) I1 ⟨rfl, rfl⟩) fun ws s2 ⟨zs, H2, I2, rz, ez, eH⟩ => ?_
  subst ez
  subst eH
  obtain ⟨its, rv, hL, hz⟩ := I2.list hl
  rw [Vals.ref1 r1, Vals.ref1 rz]
  exact sorted_run F hr.in1.in1 hb I2 rv hL.isList (by rw [hlen, rv.length]) (by rw [← rv.length]; exact hz) turn fun ys a' H' s' I' sm n' rows => ⟨.ref a', _, I', rfl, q ys a' H' rows sm n'⟩
end
end L2
end
section
set_option Elab.async false
set_option linter.all false
set_option maxRecDepth 100000
set_option maxHeartbeats 4000000
namespace L2
open PySem PySem.Spec PyProof.Rows
/-! ### list(reversed(xs)) -/
theorem lri_no_len : typeLookup (.type "list_reverseiterator") "__len__" = pure none := by rw [typeLookup_type, builtinLookup_eq_fast]; kernel_rfl
theorem lri_hint : typeLookup (.type "list_reverseiterator") "__length_hint__" = pure (some (.builtin "list_reverseiterator.__length_hint__")) := by rw [typeLookup_type, builtinLookup_eq_fast]; kernel_rfl
section
variable {prog : Program} {w : World} {A : Around} {E : Value → Shared → Prop} {s : Shared}
theorem hint_rev {I : Addr} {Q : Bool → Shared → Prop} (hT : s.TypeIs (.ref I) "list_reverseiterator") (h : Q false s) : wpAny (model prog w) A (Builtin.List.listLengthHint (.ref I)) Q E s := by
  unfold Builtin.List.listLengthHint
  refine wpAny_bind (wpAny_specialOf hT lri_no_len ?_)
  show wpAny _ _ (specialOf (Value.ref I) (Str.ofString "__length_hint__") >>= _) _ _ _
  refine wpAny_bind (wpAny_specialOf hT lri_hint ?_)
  generalize hid : ("list_reverseiterator.__length_hint__" : String) = id0
  wp_delta
  rw [show splitId id0 = some ("list_reverseiterator", "__length_hint__") from by subst hid; decide +kernel]
  subst hid
  refine wpAny_bind (wpAny_isInstance (T := "list_reverseiterator") (b := true) hT (by rw [isSubtype_type]; kernel_rfl) ?_)
  refine wpAny_ite_split (fun hab => absurd hab (by decide)) (fun _ => ?_)
  refine wpAny_ite_split (fun _ => ?_) (fun hab => absurd (by decide +kernel) hab)
  refine wpAny_ite_split (fun hab => absurd hab (by decide +kernel)) (fun _ => ?_)
  exact wpAny_pure h
/-- what a walk from the end gathers -/
abbrev RevP (items : Array Value) : Nat → Value → Prop := fun i v => items[items.size - 1 - i]? = some v
theorem extend_rev {R : Result → Shared → Prop} (hh : A.handled = none) {I l : Addr} {items : Array Value} (hne : l ≠ I) (hI : s.heap.IsRevIter I l ((items.size : Int) - 1)) (hl : s.heap.IsList l items) (hz : items.size ≤ sizeLine) (S : Addr) (hSI : S ≠ I) (hSl : S ≠ l) (c₀ : Nat)
    (hS : s.heap.get? S = some { cls := .type "list", data := .seq #[] c₀ })
    (hR : ∀ h' tk acc' c', (∀ b o, b ≠ S → b ≠ I → s.heap.get? b = some o → h'.get? b = some o) → h'.get? S = some { cls := .type "list", dict := none, data := .seq acc' c', slots := #[] } → ItemsOf (RevP items) acc' items.size → R (.ok (.ret .none)) { s with heap := h', toks := tk }) :
    wpAny (model prog w) A.in1 (Builtin.List.listExtendWith (.ref S) (.ref I) .none)
      (fun fin s' => match fin with | .done f => R (.ok f) s' | .again c' => c'.quiet = true ∧ codeAny (model prog w) A c' R s') (fun e s' => R (.error e) s') s := by
  have W := (Walks.listRev (prog := prog) (w := w) (A := A.in1) hh I l hne items).toS
  have hSf : S ∉ [I, l] := fun hm => by
    rcases List.mem_cons.mp hm with e | e
    · exact hSI e
    · exact hSl (List.mem_singleton.mp e)
  unfold Builtin.List.listExtendWith
  refine wpAny_bind (wpAny_typeOf hI.typeIs ?_)
  have h1 : Builtin.List.listSameRef (.ref S) (.ref I) = false := by simp [Builtin.List.listSameRef, hSI]
  have h2 : (Value.type "list_reverseiterator" == Value.type "list") = false := by decide
  have h3 : (Value.type "list_reverseiterator" == Value.type "tuple") = false := by decide
  simp only [h1, h2, h3, Bool.or_false, Bool.false_eq_true, if_false]
  refine wpAny_bind (wpAny_pyIter_revIter hI (wpAny_bind (wpAny_holding (hint_rev hI.typeIs ?_))))
  refine wpAny_ite_split (fun hab => absurd hab (by decide +kernel)) (fun _ => ?_)
  have e0 : (items.size : Int) - 1 - ((0 : Nat) : Int) = (items.size : Int) - 1 := by omega
  refine wpAny_pure ⟨plainId_quiet F.plain_extend_loop _, codeAny_extend_loopS W hz S hSf _ items.size 0 _ _ _ rfl (Nat.zero_le _) ⟨Nat.zero_le _, by rw [e0]; exact hI, hl⟩ hS (ItemsOf.nil _) fun s' acc' c' hm hS' hacc => ?_⟩
  rw [Moved.eq_with hm]
  refine hR s'.heap s'.toks acc' c' (fun b o h1 h2 e => hm.heap b o (fun hmem => ?_) e) hS' hacc
  rcases List.mem_cons.mp hmem with z | z
  · exact h1 z
  · exact h2 (List.mem_singleton.mp z)
theorem init_rev {R : Result → Shared → Prop} (hh : A.handled = none) {I l : Addr} {items : Array Value} (hne : l ≠ I) (hI : s.heap.IsRevIter I l ((items.size : Int) - 1)) (hl : s.heap.IsList l items) (hz : items.size ≤ sizeLine) (S : Addr) (hSI : S ≠ I) (hSl : S ≠ l)
    (hS : s.heap.get? S = some { cls := .type "list", data := .seq #[] })
    (hR : ∀ h' tk acc' c', (∀ b o, b ≠ S → b ≠ I → s.heap.get? b = some o → h'.get? b = some o) → h'.get? S = some { cls := .type "list", dict := none, data := .seq acc' c', slots := #[] } → ItemsOf (RevP items) acc' items.size → R (.ok (.ret .none)) { s with heap := h', toks := tk }) :
    wpAny (model prog w) A.in1 (Builtin.«list.__init__» ⟨[.ref S, .ref I], []⟩)
      (fun fin s' => match fin with | .done f => R (.ok f) s' | .again c' => c'.quiet = true ∧ codeAny (model prog w) A c' R s') (fun e s' => R (.error e) s') s := by
  show wpAny _ _ (do let old ← Builtin.List.listItems (.ref S); Builtin.List.listUpdate (.ref S) (fun _ => #[]); letGo old.toList.reverse; Builtin.List.listExtendWith (.ref S) (.ref I) .none) _ _ s
  refine wpAny_bind (listItems_at hS rfl ?_)
  refine wpAny_bind (listUpdate_at hS rfl ?_ (Nat.zero_le _) (Nat.zero_le _))
  obtain ⟨c2, g2⟩ : ∃ c2, (s.heap.update S (Obj.mapSeq fun _ => (#[] : Array Value))).get? S = some (seqObj "list" #[] c2) := ⟨_, get?_update_seq hS fun _ => #[]⟩
  have sb := Heap.SameBut.update s.heap S (Obj.mapSeq fun _ => (#[] : Array Value))
  refine wpAny_bind (wpAny_letGo (extend_rev hh hne (hI.at fun o e => (sb.2 I hSI.symm).trans e) (hl.at fun o e => (sb.2 l hSl.symm).trans e) hz S hSI hSl c2 g2 fun h' tk acc' c' k g a => ?_))
  exact hR h' tk acc' c' (fun b o h1 h2 e => k b o h1 h2 ((sb.2 b h1).trans e)) g a
theorem call_list_rev {Q : Value → Shared → Prop} (hh : A.handled = none) {I l : Addr} {items : Array Value} (hne : l ≠ I) (hI : s.heap.IsRevIter I l ((items.size : Int) - 1)) (hl : s.heap.IsList l items) (hz : items.size ≤ sizeLine)
    (hQ : ∀ h' tk acc' c', (∀ b o, b ≠ I → s.heap.get? b = some o → h'.get? b = some o) → h'.get? s.heap.objs.size = some { cls := .type "list", dict := none, data := .seq acc' c', slots := #[] } → ItemsOf (RevP items) acc' items.size → Q (.ref s.heap.objs.size) { s with heap := h', toks := tk }) :
    wpAny (model prog w) A (call (.type "list") [.ref I]) Q E s := by
  refine callType_codes (Q₁ := fun obj t => obj = .ref s.heap.objs.size ∧ t = { s with heap := s.heap.push { cls := .type "list", data := .seq #[] } }) F.called_list (F.typeCall_list_1 _) F.entry_list_init (code_list_new _ ⟨rfl, rfl⟩) fun obj t h₁ => ?_
  obtain ⟨rfl, rfl⟩ := h₁
  have gS : (s.heap.push { cls := .type "list", data := .seq #[] }).get? s.heap.objs.size = some { cls := .type "list", data := .seq #[] } := Heap.get?_push_size _ rfl
  obtain ⟨oI, eI, _⟩ := id hI
  obtain ⟨oL, eL, _⟩ := id hl
  refine ⟨⟨_, gS, rfl⟩, F.args_list_init_2 _ _, init_rev (A := A.in1) hh hne (hI.at fun o e => Heap.get?_push_of_some _ e) (hl.at fun o e => Heap.get?_push_of_some _ e) hz _ (Nat.ne_of_gt (Heap.lt_size eI)) (Nat.ne_of_gt (Heap.lt_size eL)) gS fun h' tk acc' c' hk g a => ?_⟩
  exact ⟨rfl, hQ h' tk acc' c' (fun b o hb e => hk b o (Nat.ne_of_lt (Heap.lt_size e)) hb (Heap.get?_push_of_some _ e)) g a⟩
end
/-- the items gathered from the end -/
theorem rev_items {its : List Value} {xs : List V} {acc : Array Value} (r : Vals xs its) (h : ItemsOf (RevP its.toArray) acc its.toArray.size) : Vals xs.reverse acc.toList := by
  have e : acc.toList = its.reverse := by
    have h2 := h.2
    have h1 : acc.size = its.length := h.1.trans List.size_toArray
    refine List.ext_getElem? fun j => ?_
    by_cases hj : j < its.length
    · have hj' : j < acc.size := by omega
      have q := h2 j acc[j] (Array.getElem?_eq_getElem hj')
      rw [List.getElem?_reverse hj]
      have q' : its.toArray[its.toArray.size - 1 - j]? = some acc[j] := q
      rw [List.size_toArray, List.getElem?_toArray] at q'
      rw [q', Array.getElem?_toList, Array.getElem?_eq_getElem hj']
    · rw [List.getElem?_eq_none (by rw [Array.length_toList]; omega), List.getElem?_eq_none (by rw [List.length_reverse]; omega)]
  rw [e]
  exact r.reverse
/-- list(reversed(e)) -/
def tRev (K : PySem.W.Frag) (ta : TA) : TE := fun σ H Q => ta σ H fun vs H1 => ∃ (a : Addr) (xs : List V), vs = [.ref a] ∧ SqL K H1 a xs ∧ ∀ p, H1 p = none → Q (.ref p) (upd H1 p (.lst xs.reverse))
theorem pe_listRev {X : Cx} {e : Expr} {ta : TA} {p p2 pos pos2 : Pos} (hc : X.calm = true) (hg : Gl X "list") (hm : X.mg "list" = none) (hg2 : Gl X "reversed") (hm2 : X.mg "reversed" = none) (ha : PA X [e] ta) (hs : starEach [e] X.env = [(false, eval e X.env)] := by rfl)
    (ho : starEach [.Call (.Name "reversed" p2) [e] [] pos2] X.env = [(false, eval (.Call (.Name "reversed" p2) [e] [] pos2) X.env)] := by rfl) :
    PE X (.Call (.Name "list" p) [.Call (.Name "reversed" p2) [e] [] pos2] [] pos) (tRev X.K ta) := by
  intro pins s σ H Q I h
  refine wpAny_Call_Name_kw (ld_blt I hg hm PyProof.Rows.boot_list ?_)
  refine PyProof.Rows.callWith_type1 ?_ ho rfl
  rw [ho]
  refine Calls.spliced_cons (wpAny_Call_Name_kw (ld_blt I hg2 hm2 boot_reversed5 ?_))
  refine PyProof.Rows.callWith_type1 (thn (ha pos2 pins s σ H _ I h) fun us s1 ⟨vs, H1, I1, r1, q1⟩ => ?_) hs rfl
  obtain ⟨a, xs, e, hq, q⟩ := q1
  subst e
  rw [Vals.ref1 r1]
  obtain ⟨its, rv, pl, hz⟩ := I1.list hq
  have hl := rv.length
  refine call_reversed_list pl.isList (Calls.spliced_nil ?_)
  have la : a < s1.heap.objs.size := by
    obtain ⟨o, e, _⟩ := pl.isList
    exact Heap.lt_size e
  refine call_list_rev (s := { s1 with heap := s1.heap.push (revObj a ((its.toArray.size : Int) - 1)) }) (l := a) (I := s1.heap.objs.size) (items := its.toArray) (I1.ok.hd hc) (Nat.ne_of_lt la) ⟨_, Heap.get?_push_size _ rfl, rfl, rfl⟩ (pl.isList.at fun o e => Heap.get?_push_of_some _ e) (by rw [List.size_toArray, ← hl]; exact hz) fun h' tk acc c k g items => ?_
  have z1 : (s1.heap.push (revObj a ((its.toArray.size : Int) - 1))).objs.size = s1.heap.objs.size + 1 := size_push' _ _
  have big : s1.heap.objs.size ≤ (s1.heap.push (revObj a ((its.toArray.size : Int) - 1))).objs.size := by omega
  have ry := rev_items rv items
  refine ⟨.ref _, upd H1 _ (.lst xs.reverse), I1.laid (t' := tk) (fun b o e => k b o (Nat.ne_of_lt (Heap.lt_size e)) (Heap.get?_push_of_some _ e)) big ?_, rfl, q _ (I1.hok.fresh big)⟩
  exact ⟨by rw [List.length_reverse]; exact hz, acc.toList, c, ry, g⟩
end L2
end
section
set_option Elab.async false
set_option linter.all false
set_option maxRecDepth 100000
set_option maxHeartbeats 4000000
namespace L2
open PySem PySem.Spec PyProof.Rows
theorem vals_by : ∀ {xs : List V} {l : List Value}, xs.length = l.length → (∀ (j : Nat) (x : V) (v : Value), xs[j]? = some x → l[j]? = some v → RelV x v) → Vals xs l
  | [], [], _, _ => .nil
  | x :: xs, v :: l, e, h => .cons (h 0 x v rfl rfl) (vals_by (by simpa using e) fun j y u h1 h2 => h (j + 1) y u (by simpa using h1) (by simpa using h2))
  | [], _ :: _, e, _ => by simp at e
  | _ :: _, [], e, _ => by simp at e
/-! ### list(range(a, b)) -/
def tListRng (ta : TA) : TE := fun σ H Q => ta σ H fun vs H1 => ∃ i j : Int, vs = [.int i, .int j] ∧ (-(2 ^ 62) ≤ i ∧ i < 2 ^ 62 ∧ -(2 ^ 62) ≤ j ∧ j < 2 ^ 62) ∧ (j - i).toNat ≤ 1000 ∧
  ∀ p, H1 p = none → Q (.ref p) (upd H1 p (.lst ((List.range (j - i).toNat).map fun (k : Nat) => V.int (i + (k : Int)))))
theorem pe_listRng {X : Cx} {a b : Expr} {ta : TA} {p p2 pos pos2 : Pos} (hc : X.calm = true) (hg : Gl X "list") (hm : X.mg "list" = none) (hg2 : Gl X "range") (hm2 : X.mg "range" = none) (ha : PA X [a, b] ta) (hs : starEach [a, b] X.env = [(false, eval a X.env), (false, eval b X.env)] := by rfl) (hs2 : starEach [b] X.env = [(false, eval b X.env)] := by rfl)
    (ho : starEach [.Call (.Name "range" p2) [a, b] [] pos2] X.env = [(false, eval (.Call (.Name "range" p2) [a, b] [] pos2) X.env)] := by rfl) :
    PE X (.Call (.Name "list" p) [.Call (.Name "range" p2) [a, b] [] pos2] [] pos) (tListRng ta) := by
  intro pins s σ H Q I h
  refine wpAny_Call_Name_kw (ld_blt I hg hm PyProof.Rows.boot_list ?_)
  refine PyProof.Rows.callWith_type1 ?_ ho rfl
  rw [ho]
  refine Calls.spliced_cons (wpAny_Call_Name_kw (ld_blt I hg2 hm2 boot_range ?_))
  refine PyProof.Rows.callWith_type1 (thn (ha pos2 pins s σ H _ I h) fun us s1 ⟨vs, H1, I1, r1, q1⟩ => ?_) (by rw [hs, hs2]) (by rw [hs2]; rfl)
  obtain ⟨i, j, e, ⟨q1, q2, q3, q4⟩, hz, q⟩ := q1
  subst e
  cases r1 with
  | cons r rr =>
    cases rr with
    | cons r' rr =>
      cases rr
      obtain ⟨t, rfl⟩ := r
      obtain ⟨t', rfl⟩ := r'
      refine call_range_2 (Calls.spliced_nil ?_)
      refine call_list_range (I1.ok.hd hc) (IsRange.new ..) (small_one q1 q2 q3 q4) (n := (j - i).toNat) (by rw [rangeSize_one]; split <;> omega) (by omega) fun h' tk acc c k g items => ?_
      have z1 : (s1.heap.push { cls := .type "range", data := .fields #[.int i t, .int j t', .int 1 s1.toks] }).objs.size = s1.heap.objs.size + 1 := size_push' _ _
      have big : s1.heap.objs.size ≤ (s1.heap.push { cls := .type "range", data := .fields #[.int i t, .int j t', .int 1 s1.toks] }).objs.size := by omega
      have hlen : ((List.range (j - i).toNat).map fun (k : Nat) => V.int (i + (k : Int))).length = (j - i).toNat := by rw [List.length_map, List.length_range]
      refine ⟨.ref _, upd H1 _ (.lst ((List.range (j - i).toNat).map fun (k : Nat) => V.int (i + (k : Int)))), I1.laid (t' := tk) (fun b o e => k b o (Heap.get?_push_of_some _ e)) big ?_, rfl, q _ (I1.hok.fresh big)⟩
      refine ⟨by rw [hlen]; exact Nat.le_trans hz (by decide), acc.toList, c, ?_, g⟩
      refine vals_by (by rw [hlen, Array.length_toList]; exact items.1.symm) fun m x v hx hv => ?_
      obtain ⟨t2, rfl⟩ := items.2 m v (by rw [← Array.getElem?_toList]; exact hv)
      have lt : m < (j - i).toNat := by
        have := (List.getElem?_eq_some_iff.mp hx).1
        rw [hlen] at this
        exact this
      rw [List.getElem?_map, List.getElem?_range lt] at hx
      obtain rfl := Option.some.inj hx
      rw [Int.mul_one]
      exact ⟨t2, rfl⟩
/-! ### sorted(d), a dict whose keys are ints -/
def rSortedD : List V → Hp → VK → Prop := fun vs H Q => ∃ (a : Addr) (kvs : List (Key × V)) (ns : List Int), vs = [V.ref a] ∧ Rd H a (.dK kvs) ∧ kvs.map (·.1) = ns.map (fun z => (Sum.inl z : Key)) ∧ ns.length < 64 ∧
  ∀ (ns' : List Int) (p : Addr), ns'.Perm ns → ns'.Pairwise (· ≤ ·) → H p = none → Q (.ref p) (upd H p (.lst (ns'.map V.int)))
theorem cr_sortedD {X : Cx} (hc : X.calm = true) : CallR X (.builtin "sorted") rSortedD := by
  intro pins s σ H xs us Q I r h
  obtain ⟨a, kvs, ns, rfl, hd, hk, h64, q⟩ := h
  rw [Vals.ref1 r]
  obtain ⟨hz, hs, vs, kv, o, es, ep, e1, e2, e3, e4⟩ := dk_rd I.hok hd
  have keys : vs.map (·.1) = ns.map (fun z => (Sum.inl z : Key)) := (KV.keys kv).symm.trans hk
  have lk : vs.length = ns.length := by
    have := congrArg List.length keys
    rwa [List.length_map, List.length_map] at this
  refine Calls.call_function_entry kind_sorted plain_sorted entry_sorted (args_sorted1 _) ?_
  unfold Builtin.«sorted»
  refine wpAny_bind (m := checkCount "sorted" 1 1 _) (wpAny_pure (wpAny_bind (PySem.W.kdu_collect (PySem.W.kdl_dict (knd := mixKind X.prog X.w) (kvs := vs) (ep := ep) hs) (I.ok.hd hc) ⟨o, es, e1, e2, e3, e4⟩ (by rw [lk]; exact small64 h64) fun h' tk acc k items => ?_)))
  have la : acc.toList.length = ns.length := by rw [Array.length_toList, items.1, lk]
  have hi : IntsAre acc.toList ns := by
    have all : ∀ {l : List Value} {ms : List Int}, l.length = ms.length → (∀ (j : Nat) (v : Value) (m : Int), l[j]? = some v → ms[j]? = some m → ∃ t, v = .int m t) → IntsAre l ms := by
      intro l
      induction l with
      | nil => intro ms e _; cases ms with
        | nil => exact .nil
        | cons => simp at e
      | cons v l ih => intro ms e h; cases ms with
        | nil => simp at e
        | cons m ms =>
          obtain ⟨t, rfl⟩ := h 0 v m rfl rfl
          exact .cons _ _ (ih (by simpa using e) fun j u x h1 h2 => h (j + 1) u x (by simpa using h1) (by simpa using h2))
    refine all la fun j v m hv hm => ?_
    obtain ⟨key, x, hx, hkey⟩ := items.2 j v (by rw [← Array.getElem?_toList]; exact hv)
    have q1 := congrArg (fun l => l[j]?) keys
    have q2 : (vs.map (·.1))[j]? = some key := by rw [List.getElem?_map, hx]; rfl
    have q3 : (ns.map (fun z => (Sum.inl z : Key)))[j]? = some (Sum.inl m) := by rw [List.getElem?_map, hm]; rfl
    have q4 : (vs.map (·.1))[j]? = (ns.map (fun z => (Sum.inl z : Key)))[j]? := q1
    rw [q2, q3] at q4
    have e := Option.some.inj q4
    subst e
    rcases keyIs_shape (show keyIs (Sum.inl m) v = true from hkey) with ⟨i, t, h1, rfl⟩ | ⟨x', t, h1, rfl⟩
    · cases h1; exact ⟨t, rfl⟩
    · cases h1
  refine wpAny_bind (wpAny_newList ?_ (by rw [la]; exact small64 h64))
  have g2 : (h'.push (seqObj "list" acc.toList.toArray 0)).get? h'.objs.size = some (seqObj "list" acc.toList.toArray 0) := Heap.get?_push_size _ rfl
  have I2 : Inv X pins σ H { s with heap := h', toks := tk } := I.kept fun b o e => k b o e
  refine wpAny_bind (wpAny_holding (wpAny_call_entry slot_list_sort ⟨_, g2, rfl⟩ entry_list_sort (list_sort_tree g2 hi (by rw [la]; exact h64) fun out ns' h1 h2 h3 => ⟨.none, rfl, ?_⟩) (args_list_sort _)))
  refine wpAny_pure ⟨_, rfl, ?_⟩
  obtain ⟨ep', he'⟩ := sortedHeap_at (vs := acc.toList) (out := out) g2
  have hlen : (ns'.map V.int).length ≤ sizeLine := by rw [List.length_map, h2.length_eq]; exact small64 h64
  refine ⟨.ref _, upd H h'.objs.size (.lst (ns'.map V.int)), I2.laid (t' := tk) (fun b u e => ?_) (Nat.le_refl _) ⟨hlen, out.toList, ep', vals_of_ints h1, he'⟩, rfl, q ns' _ h2 h3 (I2.hok.fresh (Nat.le_refl _))⟩
  have lt := Heap.lt_size e
  rw [sortedHeap_old (Nat.ne_of_lt lt) (by rw [size_push']; exact Nat.lt_succ_of_lt lt)]
  exact Heap.get?_push_of_some _ e
end L2
end
section
set_option Elab.async false
namespace Ss
open PySem L2
def top (i : Nat) : Stmt := PySem.Challenge.pw_slicesale_s01_answers.main.body.getD i (.Pass ⟨0, 0, 0, 0⟩)
abbrev s_Sale_init : Stmt := inClass (top 3) 0
abbrev s_with_bid : Stmt := top 4
abbrev s_without_bid : Stmt := top 5
abbrev s_bidders : Stmt := top 6
abbrev s_row_of : Stmt := top 7
abbrev s_all_offers : Stmt := top 8
abbrev s_greater_first : Stmt := top 9
abbrev s_in_order : Stmt := top 10
abbrev s_met_offers : Stmt := top 11
abbrev s_left_offers : Stmt := top 12
abbrev s_amounts_of : Stmt := top 13
abbrev s_own_of : Stmt := top 14
abbrev s_others_of : Stmt := top 15
abbrev s_greatest_sum : Stmt := top 16
abbrev s_got_by : Stmt := top 17
abbrev s_split_of : Stmt := top 18
abbrev s_payment_of : Stmt := top 19
abbrev s_prices_of : Stmt := top 20
abbrev s_income_of : Stmt := top 21
abbrev s_told_of : Stmt := top 22
abbrev s_least_met : Stmt := top 23
abbrev s_proves : Stmt := top 24
abbrev s_shows_split : Stmt := top 25
abbrev s_wanted_of : Stmt := top 26
abbrev s_gain_of : Stmt := top 27
abbrev s_House_init : Stmt := inClass (top 43) 0
abbrev s_Reader_init : Stmt := inClass (top 44) 0
abbrev s_Reader_done : Stmt := inClass (top 44) 1
abbrev s_Reader_number : Stmt := inClass (top 44) 2
abbrev s_Reader_numbers : Stmt := inClass (top 44) 3
abbrev s_Reader_row : Stmt := inClass (top 44) 4
abbrev s_is_amount : Stmt := top 45
abbrev s_rises : Stmt := top 46
abbrev s_bid_refusal : Stmt := top 47
abbrev s_is_split : Stmt := top 48
abbrev s_is_truth : Stmt := top 49
abbrev s_answer_slices : Stmt := top 50
abbrev s_answer_bid : Stmt := top 51
abbrev s_answer_unbid : Stmt := top 52
abbrev s_answer_split : Stmt := top 53
abbrev s_answer_sum_of : Stmt := top 54
abbrev s_answer_pays : Stmt := top 55
abbrev s_answer_prices : Stmt := top 56
abbrev s_answer_income : Stmt := top 57
abbrev s_answer_told : Stmt := top 58
abbrev s_answer_one : Stmt := top 59
abbrev s_answer_between : Stmt := top 60
abbrev s_answer_shows : Stmt := top 61
abbrev s_answer_wanted : Stmt := top 62
abbrev s_answer_gain : Stmt := top 63
abbrev s_answer_ifbid : Stmt := top 64
abbrev s_answer_offers : Stmt := top 65
abbrev s_answer_next : Stmt := top 68
abbrev s_answers : Stmt := top 69
end Ss
end
section
set_option Elab.async false
set_option linter.all false
set_option maxRecDepth 100000
set_option maxHeartbeats 4000000
namespace L2
open PySem PySem.Spec PyProof.Rows
/-- dict(d): a copy -/
theorem call_dictC {X : Cx} : CallR X (.type "dict") (fun xs H Q => ∃ d kvs, xs = [V.ref d] ∧ Rd H d (.dK kvs) ∧ ∀ p, H p = none → Q (.ref p) (upd H p (.dK kvs))) := by
  intro pins s σ H xs us Q I r h
  obtain ⟨d, kvs, rfl, hd, q⟩ := h
  rw [Vals.ref1 r]
  exact d_copyOf I hd fun p s' hp I' => ⟨.ref p, _, I', rfl, q p hp⟩
/-- len of a dict that is read -/
theorem cr_lenD {X : Cx} : CallR X (.builtin "len") (fun xs H Q => ∃ a kvs, xs = [V.ref a] ∧ Rd H a (.dK kvs) ∧ Q (.int (kvs.length : Int)) H) := by
  intro pins s σ H xs us Q I r h
  obtain ⟨a, kvs, rfl, ha, q⟩ := h
  rw [Vals.ref1 r]
  exact d_len I ha fun t s' I' => ⟨.int kvs.length, H, I', ⟨t, rfl⟩, q⟩
theorem DGet.r {H : Hp} {a : Addr} {kvs : List (Key × V)} {k : Key} (e : Rd H a (.dK kvs)) : DGet H a (kV k) (valV kvs k) := .inl ⟨kvs, k, e, rfl, rfl⟩
end L2
namespace Ss
open PySem PySem.Spec PyProof.Rows L2
/-! ### heaps that have grown -/
theorem same_new {H : Hp} {a : Addr} {o : HO} (h : H a = none) : Same H (upd H a o) := fun b u e => by rw [upd_ne (ne_of_none e h)]; exact e
theorem same_upd {H H' : Hp} {a : Addr} {o : HO} (s : Same H H') (h : H a = none) : Same H (upd H' a o) := fun b u e => by rw [upd_ne (ne_of_none e h)]; exact s b u e
theorem Same.rd {H H' : Hp} (s : Same H H') {a : Addr} {o : HO} (h : Rd H a o) : Rd H' a o := by
  rcases h with h | ⟨x, h⟩
  · exact .inl (s _ _ h)
  · exact .inr ⟨x, s _ _ h⟩
theorem Same.at_ {H H' : Hp} (s : Same H H') {a : Addr} {o : HO} (h : H a = some o) : H' a = some o := s a o h
/-! ### a list of offers: pairs of ints -/
abbrev PairAt (H : Hp) (t : Addr) (p : Int × Int) : Prop := H t = some (.tup [.int p.1, .int p.2])
structure OffAt (H : Hp) (q : Addr) (ts : List Addr) (ps : List (Int × Int)) : Prop where
  lst : H q = some (.lst (ts.map V.ref))
  prs : Paired (PairAt H) ts ps
theorem prs_mono {H H' : Hp} (s : Same H H') : ∀ {ts : List Addr} {ps : List (Int × Int)}, Paired (PairAt H) ts ps → Paired (PairAt H') ts ps
  | _, _, .nil => .nil
  | _, _, .cons r t => .cons (s _ _ r) (prs_mono s t)
theorem OffAt.mono {H H' : Hp} (s : Same H H') {q : Addr} {ts : List Addr} {ps : List (Int × Int)} (h : OffAt H q ts ps) : OffAt H' q ts ps := ⟨s _ _ h.lst, prs_mono s h.prs⟩
theorem prs_get : ∀ {H : Hp} {ts : List Addr} {ps : List (Int × Int)} {i : Nat} {t : Addr}, Paired (PairAt H) ts ps → ts[i]? = some t → ∃ p, ps[i]? = some p ∧ PairAt H t p
  | _, _, _, _, _, .nil, e => by simp at e
  | _, _, _, 0, _, .cons r _, e => by
    simp at e
    subst e
    exact ⟨_, rfl, r⟩
  | _, _, _, i + 1, t, .cons _ l, e => by
    obtain ⟨p, h1, h2⟩ := prs_get (i := i) (t := t) l (by simpa using e)
    exact ⟨p, by simpa using h1, h2⟩
theorem prs_take {H : Hp} (n : Nat) {ts : List Addr} {ps : List (Int × Int)} (h : Paired (PairAt H) ts ps) : Paired (PairAt H) (ts.take n) (ps.take n) := by
  induction h generalizing n with
  | nil => rw [List.take_nil, List.take_nil]; exact .nil
  | cons r _ ih =>
    cases n with
    | zero => exact .nil
    | succ n => exact .cons r (ih n)
theorem prs_drop {H : Hp} (n : Nat) {ts : List Addr} {ps : List (Int × Int)} (h : Paired (PairAt H) ts ps) : Paired (PairAt H) (ts.drop n) (ps.drop n) := by
  induction h generalizing n with
  | nil => rw [List.drop_nil, List.drop_nil]; exact .nil
  | cons r t ih =>
    cases n with
    | zero => exact .cons r t
    | succ n => exact ih n
theorem prs_append {H : Hp} {ts us : List Addr} {ps qs : List (Int × Int)} (h : Paired (PairAt H) ts ps) (h' : Paired (PairAt H) us qs) : Paired (PairAt H) (ts ++ us) (ps ++ qs) := by
  induction h with
  | nil => exact h'
  | cons r _ ih => exact .cons r ih
theorem prs_reverse {H : Hp} {ts : List Addr} {ps : List (Int × Int)} (h : Paired (PairAt H) ts ps) : Paired (PairAt H) ts.reverse ps.reverse := by
  induction h with
  | nil => exact .nil
  | cons r _ ih =>
    rw [List.reverse_cons, List.reverse_cons]
    exact prs_append ih (.cons r .nil)
theorem prs_len {H : Hp} {ts : List Addr} {ps : List (Int × Int)} (h : Paired (PairAt H) ts ps) : ts.length = ps.length := by
  induction h with
  | nil => rfl
  | cons _ _ ih => rw [List.length_cons, List.length_cons, ih]
/-- one more -/
theorem OffAt.push {H : Hp} {q t : Addr} {ts : List Addr} {ps : List (Int × Int)} {w a : Int} (h : OffAt H q ts ps) (ht : H t = none) :
    OffAt (upd (upd H t (.tup [.int w, .int a])) q (.lst (ts.map V.ref ++ [.ref t]))) q (ts ++ [t]) (ps ++ [(w, a)]) := by
  have ntq : t ≠ q := fun e => by rw [e, h.lst] at ht; cases ht
  have s1 : ∀ b o, H b = some o → b ≠ q → (upd (upd H t (.tup [.int w, .int a])) q (.lst (ts.map V.ref ++ [.ref t]))) b = some o := fun b o e n => by rw [upd_ne n, upd_ne (ne_of_none e ht)]; exact e
  refine ⟨by rw [upd_same, List.map_append]; rfl, prs_append ?_ (.cons (by show upd _ _ _ t = _; rw [upd_ne ntq, upd_same]) .nil)⟩
  have : ∀ {us : List Addr} {qs : List (Int × Int)}, Paired (PairAt H) us qs → Paired (PairAt (upd (upd H t (.tup [.int w, .int a])) q (.lst (ts.map V.ref ++ [.ref t])))) us qs := by
    intro us qs r
    induction r with
    | nil => exact .nil
    | cons r _ ih => exact .cons (s1 _ _ r (ne_of r h.lst (by intro z; cases z))) ih
  exact this h.prs
/-! ### the sale -/
def sf (n r : Int) (d : Addr) : List (Str × V) := putF "bids" (.ref d) (putF "reserve" (.int r) (putF "slices" (.int n) []))
theorem sf_s (n r : Int) (d : Addr) : (sf n r d).lookup ("slices" : Str) = some (.int n) := by
  unfold sf
  rw [lookup_putF, if_neg (by decide), lookup_putF, if_neg (by decide), lookup_putF, if_pos rfl]
theorem sf_r (n r : Int) (d : Addr) : (sf n r d).lookup ("reserve" : Str) = some (.int r) := by
  unfold sf
  rw [lookup_putF, if_neg (by decide), lookup_putF, if_pos rfl]
theorem sf_b (n r : Int) (d : Addr) : (sf n r d).lookup ("bids" : Str) = some (.ref d) := by
  unfold sf
  rw [lookup_putF, if_pos rfl]
/-- an entry of the dict of bids -/
def BidEnt (H : Hp) (kv : Key × V) (b : Int × List Int) : Prop := kv.1 = Sum.inl b.1 ∧ ∃ l, kv.2 = .ref l ∧ H l = some (.lst (b.2.map V.int))
structure BidsAt (H : Hp) (d : Addr) (kvs : List (Key × V)) (bs : Tb) : Prop where
  dct : Rd H d (.dK kvs)
  ent : Paired (BidEnt H) kvs bs
theorem ent_mono {H H' : Hp} (s : Same H H') {kvs : List (Key × V)} {bs : Tb} (h : Paired (BidEnt H) kvs bs) : Paired (BidEnt H') kvs bs := by
  induction h with
  | nil => exact .nil
  | cons r _ ih => exact .cons ⟨r.1, let ⟨l, e, q⟩ := r.2; ⟨l, e, s _ _ q⟩⟩ ih
theorem BidsAt.mono {H H' : Hp} (s : Same H H') {d : Addr} {kvs : List (Key × V)} {bs : Tb} (h : BidsAt H d kvs bs) : BidsAt H' d kvs bs := ⟨Same.rd s h.dct, ent_mono s h.ent⟩
theorem ent_len {H : Hp} {kvs : List (Key × V)} {bs : Tb} (h : Paired (BidEnt H) kvs bs) : kvs.length = bs.length := by
  induction h with
  | nil => rfl
  | cons _ _ ih => rw [List.length_cons, List.length_cons, ih]
theorem ent_val {H : Hp} (w : Int) {kvs : List (Key × V)} {bs : Tb} (h : Paired (BidEnt H) kvs bs) :
    match lk bs w with
    | some os => ∃ l, valV kvs (Sum.inl w : Key) = some (.ref l) ∧ H l = some (.lst (os.map V.int))
    | none => valV kvs (Sum.inl w : Key) = none := by
  induction h with
  | nil => exact rfl
  | @cons kv b kvs bs r _ ih =>
    obtain ⟨e1, l, e2, hl⟩ := r
    by_cases e : b.1 = w
    · rw [lk_pos e]
      exact ⟨l, by rw [valV_pos (by rw [e1, e])]; rw [e2], hl⟩
    · rw [lk_neg e, valV_neg (by rw [e1]; intro z; exact e (Sum.inl.inj z))]
      exact ih
theorem ent_none {H : Hp} {w : Int} {kvs : List (Key × V)} {bs : Tb} (h : Paired (BidEnt H) kvs bs) (e : lk bs w = none) : valV kvs (Sum.inl w : Key) = none := by
  have q := ent_val w h
  rw [e] at q
  exact q
theorem ent_some {H : Hp} {w : Int} {os : List Int} {kvs : List (Key × V)} {bs : Tb} (h : Paired (BidEnt H) kvs bs) (e : lk bs w = some os) : ∃ l, valV kvs (Sum.inl w : Key) = some (.ref l) ∧ H l = some (.lst (os.map V.int)) := by
  have q := ent_val w h
  rw [e] at q
  exact q
theorem ent_isSome {H : Hp} (w : Int) {kvs : List (Key × V)} {bs : Tb} (h : Paired (BidEnt H) kvs bs) : (valV kvs (Sum.inl w : Key)).isSome = (lk bs w).isSome := by
  cases e : lk bs w with
  | none => rw [ent_none h e]; rfl
  | some os =>
    obtain ⟨l, e2, _⟩ := ent_some h e
    rw [e2]; rfl
theorem ent_put {H : Hp} {w : Int} {os : List Int} {l : Addr} {kvs : List (Key × V)} {bs : Tb} (h : Paired (BidEnt H) kvs bs) (hl : H l = some (.lst (os.map V.int))) :
    Paired (BidEnt H) (putK kvs (Sum.inl w : Key) (.ref l)) (putB bs w os) := by
  unfold putK putB
  have e : (kvs.any fun kv => decide (kv.1 = (Sum.inl w : Key))) = (bs.any fun b => decide (b.1 = w)) := by rw [valV_any, any_lk, ent_isSome w h]
  rw [e]
  by_cases c : (bs.any fun b => decide (b.1 = w)) = true
  · rw [if_pos c, if_pos c]
    clear e c
    induction h with
    | nil => exact .nil
    | @cons kv b kvs bs r _ ih =>
      obtain ⟨e1, l', e2, hl'⟩ := r
      rw [List.map_cons, List.map_cons]
      refine .cons ?_ ih
      by_cases q : b.1 = w
      · rw [if_pos q, if_pos (by rw [e1, q])]
        exact ⟨e1, l, rfl, hl⟩
      · rw [if_neg q, if_neg (by rw [e1]; intro z; exact q (Sum.inl.inj z))]
        exact ⟨e1, l', e2, hl'⟩
  · rw [if_neg c, if_neg c]
    exact Paired.snoc h ⟨rfl, l, rfl, hl⟩
theorem ent_drop {H : Hp} {w : Int} {kvs : List (Key × V)} {bs : Tb} (h : Paired (BidEnt H) kvs bs) : Paired (BidEnt H) (dropK kvs (Sum.inl w : Key)) (dropB bs w) := by
  induction h with
  | nil => exact .nil
  | @cons kv b kvs bs r _ ih =>
    have e1 := r.1
    unfold dropB
    by_cases q : b.1 = w
    · rw [dropK_pos (by rw [e1, q]), List.filter_cons, if_neg (by simp [q])]
      exact ih
    · rw [dropK_neg (by rw [e1]; intro z; exact q (Sum.inl.inj z)), List.filter_cons, if_pos (by simp [q])]
      exact .cons r ih
structure SaleAt (C : Addr) (H : Hp) (p : Addr) (n : Nat) (r : Int) (bs : Tb) : Prop where
  ex : ∃ dx d kvs, H p = some (.ins C dx (sf n r d)) ∧ BidsAt H d kvs bs
theorem SaleAt.mono {C : Addr} {H H' : Hp} (s : Same H H') {p : Addr} {n : Nat} {r : Int} {bs : Tb} (h : SaleAt C H p n r bs) : SaleAt C H' p n r bs :=
  let ⟨dx, d, kvs, h1, h2⟩ := h.ex
  ⟨dx, d, kvs, s _ _ h1, h2.mono s⟩
/-- a sale whose dict nobody walks -/
structure SaleOwn (C : Addr) (H : Hp) (p : Addr) (n : Nat) (r : Int) (bs : Tb) : Prop where
  ex : ∃ dx d kvs, H p = some (.ins C dx (sf n r d)) ∧ H d = some (.dK kvs) ∧ Paired (BidEnt H) kvs bs
theorem SaleOwn.mono {C : Addr} {H H' : Hp} (s : Same H H') {p : Addr} {n : Nat} {r : Int} {bs : Tb} (h : SaleOwn C H p n r bs) : SaleOwn C H' p n r bs :=
  let ⟨dx, d, kvs, h1, h2, h3⟩ := h.ex
  ⟨dx, d, kvs, s _ _ h1, s _ _ h2, ent_mono s h3⟩
theorem SaleOwn.sale {C : Addr} {H : Hp} {p : Addr} {n : Nat} {r : Int} {bs : Tb} (h : SaleOwn C H p n r bs) : SaleAt C H p n r bs :=
  let ⟨dx, d, kvs, h1, h2, h3⟩ := h.ex
  ⟨dx, d, kvs, h1, .inl h2, h3⟩
/-- no bid of the sale at p is the list at av -/
structure Avs (C : Addr) (H : Hp) (p av : Addr) : Prop where
  ex : ∃ (dx d : Addr) (kvs : List (Key × V)) (fs : List (Str × V)), H p = some (.ins C dx fs) ∧ fs.lookup ("bids" : Str) = some (.ref d) ∧ Rd H d (.dK kvs) ∧ ∀ kv ∈ kvs, kv.2 ≠ .ref av
theorem Avs.mono {C : Addr} {H H' : Hp} (s : Same H H') {p av : Addr} (h : Avs C H p av) : Avs C H' p av :=
  let ⟨dx, d, kvs, fs, h1, h2, h3, h4⟩ := h.ex
  ⟨dx, d, kvs, fs, s _ _ h1, h2, Same.rd s h3, h4⟩
theorem rd_inj {H : Hp} {d : Addr} {k1 k2 : List (Key × V)} (h1 : Rd H d (.dK k1)) (h2 : Rd H d (.dK k2)) : k1 = k2 := by
  rcases h1 with h1 | ⟨o1, h1⟩
  · rcases h2 with h2 | ⟨o2, h2⟩
    · rw [h1] at h2; cases h2; rfl
    · rw [h1] at h2; cases h2
  · rcases h2 with h2 | ⟨o2, h2⟩
    · rw [h1] at h2; cases h2
    · rw [h1] at h2; cases h2; rfl
theorem Avs.at_ {C : Addr} {H : Hp} {p av dx d : Addr} {n r : Int} {kvs : List (Key × V)} (h : Avs C H p av) (hp : H p = some (.ins C dx (sf n r d))) (hd : Rd H d (.dK kvs)) : ∀ kv ∈ kvs, kv.2 ≠ .ref av := by
  obtain ⟨dx', d', kvs', fs, h1, h2, h3, h4⟩ := h.ex
  rw [hp] at h1
  cases h1
  rw [sf_b] at h2
  cases h2
  rw [rd_inj hd h3]
  exact h4
theorem putK_vals {kvs : List (Key × V)} {k : Key} {v u : V} (h : ∀ kv ∈ kvs, kv.2 ≠ u) (hv : v ≠ u) : ∀ kv ∈ putK kvs k v, kv.2 ≠ u := fun kv m => by
  unfold putK at m
  by_cases c : (kvs.any fun kv => decide (kv.1 = k)) = true
  · rw [if_pos c] at m
    obtain ⟨x, hx, e⟩ := List.mem_map.mp m
    rw [← e]
    by_cases q : x.1 = k
    · rw [if_pos q]; exact hv
    · rw [if_neg q]; exact h x hx
  · rw [if_neg c] at m
    rcases List.mem_append.mp m with q | q
    · exact h kv q
    · rw [List.mem_singleton.mp q]; exact hv
/-! ### what the text of sale.py is behind the top -/
structure TxS (K : PySem.W.Frag) (mg : Str → Option Value) (CS : Addr) : Prop where
  cl : Cls K CS
  nS : NoAttr K CS "slices"
  nR : NoAttr K CS "reserve"
  nB : NoAttr K CS "bids"
  mgS : mg "Sale" = some (.ref CS)
  gB : ∃ t, mg "BIDDERS" = some (.int 8 t)
  gH : ∃ t, mg "HOUSE" = some (.int 0 t)
  b_dict : mg "dict" = none
  b_range : mg "range" = none
  b_sorted : mg "sorted" = none
  b_len : mg "len" = none
  b_sum : mg "sum" = none
  b_list : mg "list" = none
  b_reversed : mg "reversed" = none
  b_all : mg "all" = none
/-- a def of the top: its object, its name, its binding -/
structure Dn (K : PySem.W.Frag) (mg : Str → Option Value) (x : Str) (st : Stmt) (ps : List Str) (f : Addr) (fd : FuncData) : Prop where
  F : Fun K x x st f fd
  mg : mg x = some (.ref f)
  b : Binds K fd ps []
end Ss
end
section
set_option Elab.async false
set_option linter.all false
set_option maxRecDepth 100000
set_option maxHeartbeats 4000000
namespace Ss
open PySem PySem.Spec PyProof.Rows L2
section
variable {P : Program} {w : World} {K : PySem.W.Frag} {mg : Str → Option Value} {base : Heap} {CS : Addr}
/-! ### Sale -/
def spSaleI (C : Addr) : Sp := fun vs H Q _ => ∃ (p dx d : Addr) (n r : Int), vs = [.ref p, .int n, .int r, .ref d] ∧ H p = some (.ins C dx []) ∧ ∀ H' : Hp, H' p = some (.ins C dx (sf n r d)) → (∀ b o, H b = some o → b ≠ p → H' b = some o) → Q .non H'
theorem scSaleI : FnScope ["self", "slices", "reserve", "bids"] ["self", "slices", "reserve", "bids"] (defScope s_Sale_init) := ⟨rfl, rfl, rfl, by decide +kernel, rfl, by decide +kernel, by decide +kernel⟩
theorem ok_SaleI {f : Addr} {fd : FuncData} (F : Fun K "__init__" "Sale.__init__" s_Sale_init f fd) (T : TxS K mg CS) : FnOk P w K mg base CX0 1 f fd ["self", "slices", "reserve", "bids"] (spSaleI CS) := by
  refine F.ok scSaleI (fun vs H Q E h => ?_) (fun cdv A outer s H vs Q E hr h => ?_)
  · obtain ⟨p, dx, d, n, r, rfl, _⟩ := h
    rfl
  · obtain ⟨p, dx, d, n, r, rfl, hp, k⟩ := h
    refine ⟨_, pss_cons (ps_fld (pv 0) (pv 1) rfl) (pss_cons (ps_fld (pv 0) (pv 2) rfl) (pss_one (ps_fld (pv 0) (pv 3) rfl))), ?_⟩
    refine ⟨_, rfl, _, rfl, p, CS, dx, _, rfl, hp, T.cl, T.nS, (by show 0 < 1000; decide), ?_⟩
    refine ⟨_, rfl, _, rfl, p, CS, dx, _, rfl, upd_same, T.cl, T.nR, (by show 1 < 1000; decide), ?_⟩
    refine ⟨_, rfl, _, rfl, p, CS, dx, _, rfl, upd_same, T.cl, T.nB, (by show 2 < 1000; decide), ?_⟩
    exact k _ upd_same fun b o e hb => by rw [upd_ne hb, upd_ne hb, upd_ne hb]; exact e

/-! ### with_bid, without_bid -/
def spWith (K : PySem.W.Frag) (C : Addr) : Sp := fun vs H Q _ => ∃ (p l : Addr) (n : Nat) (r z : Int) (os : List Int) (bs : Tb), vs = [.ref p, .int z, .ref l] ∧ SaleAt C H p n r bs ∧ H l = some (.lst (os.map V.int)) ∧ bs.length ≤ 1000 ∧
  ∀ (H' : Hp) (q : Addr), Same H H' → H q = none → SaleOwn C H' q n r (putB bs z os) → (∀ av, Avs C H p av → l ≠ av → Avs C H' q av) → Q (.ref q) H'
theorem scWith : FnScope ["sale", "who", "offers", "bids"] ["sale", "who", "offers"] (defScope s_with_bid) := ⟨rfl, rfl, rfl, by decide +kernel, rfl, by decide +kernel, by decide +kernel⟩
theorem ok_with {f fI : Addr} {fd fdI : FuncData} (D : Dn K mg "with_bid" s_with_bid ["sale", "who", "offers"] f fd) (T : TxS K mg CS) (M : Mk K CS fI) (FI : Fun K "__init__" "Sale.__init__" s_Sale_init fI fdI) (bI : Binds K fdI ["self", "slices", "reserve", "bids"] []) :
    FnOk P w K mg base CX0 3 f fd ["sale", "who", "offers"] (spWith K CS) := by
  have GI : FnOk P w K mg base CX0 1 fI fdI ["self", "slices", "reserve", "bids"] (spSaleI CS) := ok_SaleI FI T
  refine D.F.ok scWith (fun vs H Q E h => ?_) (fun cdv A outer s H vs Q E hr h => ?_)
  · obtain ⟨p, l, n, r, z, os, bs, rfl, _⟩ := h
    rfl
  · obtain ⟨p, l, n, r, z, os, bs, rfl, hs, hl, hb, k⟩ := h
    obtain ⟨dx, d, kvs, hp, hB⟩ := hs.ex
    have hu := hu_of hr
    refine ⟨_, pss_cons (ps_set (i := 3) scWith.nd rfl (Or.inl rfl) (pe_callTy call_dictC (by rfl) T.b_dict PyProof.Rows.boot_dict (pa_cons (pe_fld (pv 0) rfl) pa_nil)))
      (pss_cons (ps_dput hu (pv 3) (pv 1) (pv 2) rfl)
      (pss_one (ps_ret (pe_make M GI hr rfl T.mgS bI .nil pass0 (pa_cons (pe_fld (pv 0) rfl) (pa_cons (pe_fld (pv 0) rfl) (pa_cons (pv 3) pa_nil))))))), ?_⟩
    refine ⟨_, rfl, p, CS, dx, _, _, rfl, hp, T.cl, T.nB, sf_b _ _ _, d, kvs, rfl, hB.dct, fun e he => ?_⟩
    have s1 : Same H (upd H e (.dK kvs)) := same_new he
    have nl := ent_len hB.ent
    refine ⟨_, rfl, _, rfl, _, rfl, e, _, rfl, DPut.k (k := Sum.inl z) upd_same (Nat.lt_of_le_of_lt (show kvs.length ≤ 1000 by omega) (by decide)), ?_⟩
    have s2 : Same H (upd (upd H e (.dK kvs)) e (.dK (putK kvs (Sum.inl z) (.ref l)))) := same_upd s1 he
    refine ⟨_, rfl, p, CS, dx, _, _, rfl, s2 _ _ hp, T.cl, T.nS, sf_s _ _ _, _, rfl, p, CS, dx, _, _, rfl, s2 _ _ hp, T.cl, T.nR, sf_r _ _ _, _, rfl, ?_⟩
    intro x dy nx ny ne
    refine ⟨x, dy, e, _, _, rfl, upd_same, fun H3 h3 k3 => ⟨rfl, ?_⟩⟩
    have s3 := Same.made nx ny k3
    have s4 : Same H H3 := s2.trans s3
    refine k H3 x s4 (s2.free nx) ⟨dy, e, _, h3, s3 _ _ upd_same, ?_⟩ fun av av1 nl => ⟨dy, e, _, _, h3, sf_b _ _ _, .inl (s3 _ _ upd_same), ?_⟩
    · exact ent_mono s4 (ent_put hB.ent hl)
    · exact putK_vals (av1.at_ hp hB.dct) fun z => nl (V.ref.inj z)
def spWithout (K : PySem.W.Frag) (C : Addr) : Sp := fun vs H Q _ => ∃ (p : Addr) (n : Nat) (r z : Int) (bs : Tb), vs = [.ref p, .int z] ∧ SaleAt C H p n r bs ∧ (lk bs z).isSome = true ∧
  ∀ (H' : Hp) (q : Addr), Same H H' → H q = none → SaleOwn C H' q n r (dropB bs z) → (∀ av, Avs C H p av → Avs C H' q av) → Q (.ref q) H'
theorem scWithout : FnScope ["sale", "who", "bids"] ["sale", "who"] (defScope s_without_bid) := ⟨rfl, rfl, rfl, by decide +kernel, rfl, by decide +kernel, by decide +kernel⟩
theorem ok_without {f fI : Addr} {fd fdI : FuncData} (D : Dn K mg "without_bid" s_without_bid ["sale", "who"] f fd) (T : TxS K mg CS) (M : Mk K CS fI) (FI : Fun K "__init__" "Sale.__init__" s_Sale_init fI fdI) (bI : Binds K fdI ["self", "slices", "reserve", "bids"] []) :
    FnOk P w K mg base CX0 3 f fd ["sale", "who"] (spWithout K CS) := by
  have GI : FnOk P w K mg base CX0 1 fI fdI ["self", "slices", "reserve", "bids"] (spSaleI CS) := ok_SaleI FI T
  refine D.F.ok scWithout (fun vs H Q E h => ?_) (fun cdv A outer s H vs Q E hr h => ?_)
  · obtain ⟨p, n, r, z, bs, rfl, _⟩ := h
    rfl
  · obtain ⟨p, n, r, z, bs, rfl, hs, hz, k⟩ := h
    obtain ⟨dx, d, kvs, hp, hB⟩ := hs.ex
    have hu := hu_of hr
    refine ⟨_, pss_cons (ps_set (i := 2) scWithout.nd rfl (Or.inl rfl) (pe_callTy call_dictC (by rfl) T.b_dict PyProof.Rows.boot_dict (pa_cons (pe_fld (pv 0) rfl) pa_nil)))
      (pss_cons (ps_expr (pe_dpop1 (pv 2) (pv 1) ⟨rfl, rfl, rfl, rfl⟩))
      (pss_one (ps_ret (pe_make M GI hr rfl T.mgS bI .nil pass0 (pa_cons (pe_fld (pv 0) rfl) (pa_cons (pe_fld (pv 0) rfl) (pa_cons (pv 2) pa_nil))))))), ?_⟩
    refine ⟨_, rfl, p, CS, dx, _, _, rfl, hp, T.cl, T.nB, sf_b _ _ _, d, kvs, rfl, hB.dct, fun e he => ?_⟩
    have s1 : Same H (upd H e (.dK kvs)) := same_new he
    obtain ⟨os, hos⟩ := Option.isSome_iff_exists.mp hz
    obtain ⟨l, hv, _⟩ := ent_some hB.ent hos
    refine ⟨_, rfl, e, rfl, .inl ⟨_, .inl upd_same⟩, _, rfl, kvs, Sum.inl z, _, upd_same, rfl, hv, ?_⟩
    have s2 : Same H (upd (upd H e (.dK kvs)) e (.dK (dropK kvs (Sum.inl z)))) := same_upd s1 he
    refine ⟨_, rfl, p, CS, dx, _, _, rfl, s2 _ _ hp, T.cl, T.nS, sf_s _ _ _, _, rfl, p, CS, dx, _, _, rfl, s2 _ _ hp, T.cl, T.nR, sf_r _ _ _, _, rfl, ?_⟩
    intro x dy nx ny ne
    refine ⟨x, dy, e, _, _, rfl, upd_same, fun H3 h3 k3 => ⟨rfl, ?_⟩⟩
    have s3 := Same.made nx ny k3
    have s4 : Same H H3 := s2.trans s3
    refine k H3 x s4 (s2.free nx) ⟨dy, e, _, h3, s3 _ _ upd_same, ?_⟩ fun av av1 => ⟨dy, e, _, _, h3, sf_b _ _ _, .inl (s3 _ _ upd_same), ?_⟩
    · exact ent_mono s4 (ent_drop hB.ent)
    · exact fun kv m => av1.at_ hp hB.dct kv (dropK_mem m)
end
end Ss
end
section
set_option Elab.async false
set_option linter.all false
set_option maxRecDepth 100000
set_option maxHeartbeats 4000000
namespace Ss
open PySem PySem.Spec PyProof.Rows L2
theorem ge_map {α β : Type} {f : α → β} {l : List α} {i : Nat} {y : β} (h : (l.map f)[i]? = some y) : ∃ x, l[i]? = some x ∧ y = f x := by
  rw [List.getElem?_map] at h
  cases e : l[i]? with
  | none => rw [e] at h; cases h
  | some x => rw [e] at h; exact ⟨x, rfl, (Option.some.inj h).symm⟩
theorem take_snoc {α : Type} {l : List α} {i : Nat} {x : α} (h : l[i]? = some x) : l.take (i + 1) = l.take i ++ [x] := by
  rw [List.take_add_one, h]; rfl
theorem fits {n : Nat} (h : n ≤ 100000) : n < sizeLine := Nat.lt_of_le_of_lt h (by decide)
theorem lk_len {n : Nat} {bs : Tb} (h : TbOk n bs) (z : Int) : ((lk bs z).getD []).length ≤ n := by
  cases e : lk bs z with
  | none => exact Nat.zero_le _
  | some os => exact h.len _ (lk_mem e)
theorem offersTo_len {n : Nat} {bs : Tb} (h : TbOk n bs) : ∀ i, (offersTo bs i).length ≤ n * i
  | 0 => Nat.zero_le _
  | i + 1 => by
    rw [offersTo_succ, List.length_append]
    have a := offersTo_len h i
    have b : (offersOf bs (1 + (i : Int))).length ≤ n := by
      unfold offersOf
      rw [List.length_map]
      exact lk_len h _
    rw [Nat.mul_succ]
    omega

theorem tyes {σ : L2.St} {H : Hp} {A B : Hp → Prop} (h : A H) : tYes σ H (fun b H3 => if b = true then A H3 else B H3) := by
  show if true = true then A H else B H
  rw [if_pos rfl]
  exact h
/-! ### the bidders; a bidder's offers, or the house's -/
def eight : List Int := [1, 2, 3, 4, 5, 6, 7, 8]
def whos : List Int := [1, 2, 3, 4, 5, 6, 7, 8, 0]
def nines : List Int := [0, 1, 2, 3, 4, 5, 6, 7, 8]
def rowL (n : Nat) (r : Int) (bs : Tb) (z : Int) : List Int := if z = 0 then List.replicate n r else (lk bs z).getD []
theorem rowL_len {n : Nat} {bs : Tb} (h : TbOk n bs) (r z : Int) : (rowL n r bs z).length ≤ n := by
  unfold rowL
  by_cases c : z = 0
  · rw [if_pos c, List.length_replicate]; exact Nat.le_refl _
  · rw [if_neg c]; exact lk_len h z
def upTo (n : Nat) (r : Int) (bs : Tb) (i : Nat) : List (Int × Int) := (whos.take i).flatMap fun w => (rowL n r bs w).map fun a => (w, a)
theorem upTo_succ {n : Nat} {r : Int} {bs : Tb} {i : Nat} {z : Int} (h : whos[i]? = some z) : upTo n r bs (i + 1) = upTo n r bs i ++ (rowL n r bs z).map fun a => (z, a) := by
  unfold upTo
  rw [take_snoc h, List.flatMap_append, List.flatMap_singleton]
theorem upTo_len {n : Nat} {bs : Tb} (h : TbOk n bs) (r : Int) : ∀ i, (upTo n r bs i).length ≤ n * i
  | 0 => Nat.zero_le _
  | i + 1 => by
    have a := upTo_len h r i
    rw [Nat.mul_succ]
    cases e : whos[i]? with
    | none =>
      have q : upTo n r bs (i + 1) = upTo n r bs i := by unfold upTo; rw [List.take_add_one, e]; simp
      rw [q]; omega
    | some z =>
      rw [upTo_succ e, List.length_append, List.length_map]
      have b := rowL_len h r z
      omega
theorem upTo_all (n : Nat) (r : Int) (bs : Tb) : upTo n r bs 9 = offersL n r bs := by
  have e1 : whos.take 9 = (List.range 8).map (fun (j : Nat) => 1 + (j : Int)) ++ [0] := rfl
  have e2 : (rowL n r bs 0).map (fun a => ((0 : Int), a)) = List.replicate n (0, r) := by
    unfold rowL
    rw [if_pos rfl, List.map_replicate]
  unfold upTo offersL offersTo
  rw [e1, List.flatMap_append, List.flatMap_singleton, e2, List.flatMap_map]
  refine congrArg (· ++ _) (congrArg (fun f => (List.range 8).flatMap f) (funext fun (j : Nat) => ?_))
  unfold rowL offersOf
  rw [if_neg (by omega)]
/-- one list of offers behind another -/
theorem OffAt.cat {H : Hp} {q l : Addr} {ts us : List Addr} {ps qs : List (Int × Int)} (h : OffAt H q ts ps) (h' : OffAt H l us qs) : OffAt (upd H q (.lst (ts.map V.ref ++ us.map V.ref))) q (ts ++ us) (ps ++ qs) := by
  have k : ∀ {u : Addr} {x : Int × Int}, PairAt H u x → PairAt (upd H q (.lst (ts.map V.ref ++ us.map V.ref))) u x := fun {u x} r => by
    show upd _ _ _ u = _
    rw [upd_ne (ne_of r h.lst (by intro z; cases z))]
    exact r
  have all : ∀ {us' : List Addr} {qs : List (Int × Int)}, Paired (PairAt H) us' qs → Paired (PairAt (upd H q (.lst (ts.map V.ref ++ us.map V.ref)))) us' qs := by
    intro us' qs r
    induction r with
    | nil => exact .nil
    | cons r _ ih => exact .cons (k r) ih
  exact ⟨by rw [upd_same, List.map_append], prs_append (all h.prs) (all h'.prs)⟩
theorem rep_one (n : Nat) (r : Int) : (List.replicate ((n : Int)).toNat [V.int r]).flatten = (List.replicate n r).map V.int := by
  rw [Int.toNat_natCast, List.map_replicate]
  induction n with
  | zero => rfl
  | succ n ih => rw [List.replicate_succ, List.flatten_cons, ih, List.replicate_succ]; rfl
section
variable {P : Program} {w : World} {K : PySem.W.Frag} {mg : Str → Option Value} {base : Heap} {CS : Addr}
def spBidders : Sp := fun vs H Q _ => vs = [] ∧ ∀ (H' : Hp) (l : Addr), Same H H' → H l = none → H' l = some (.lst (eight.map V.int)) → Q (.ref l) H'
theorem scBidders : FnScope [] [] (defScope s_bidders) := ⟨rfl, rfl, rfl, by decide +kernel, rfl, by decide +kernel, by decide +kernel⟩
theorem ok_bidders {f : Addr} {fd : FuncData} (D : Dn K mg "bidders" s_bidders [] f fd) (T : TxS K mg CS) : FnOk P w K mg base CX0 1 f fd [] spBidders := by
  obtain ⟨tb, hgB⟩ := T.gB
  refine D.F.ok scBidders (fun vs H Q E h => ?_) (fun cdv A outer s H vs Q E hr h => ?_)
  · obtain ⟨rfl, _⟩ := h
    rfl
  · obtain ⟨rfl, k⟩ := h
    refine ⟨_, pss_one (ps_ret (pe_listRng rfl rfl T.b_list rfl T.b_range (pa_cons pe_int (pa_cons (pe_op op_add (pe_glob (v := .int 8) rfl hgB ⟨_, rfl⟩) pe_int) pa_nil)))), ?_⟩
    refine ⟨_, _, rfl, rfl, 1, 9, rfl, ⟨by decide, by decide, by decide, by decide⟩, by decide, fun l hl => ?_⟩
    exact k _ l (same_new hl) hl upd_same
def spRowOf (C : Addr) : Sp := fun vs H Q _ => ∃ (p : Addr) (n : Nat) (r z : Int) (bs : Tb), vs = [.ref p, .int z] ∧ SaleAt C H p n r bs ∧ n ≤ 60 ∧ ∀ (H' : Hp) (l : Addr), Same H H' → H' l = some (.lst ((rowL n r bs z).map V.int)) → Q (.ref l) H'
theorem scRowOf : FnScope ["sale", "who"] ["sale", "who"] (defScope s_row_of) := ⟨rfl, rfl, rfl, by decide +kernel, rfl, by decide +kernel, by decide +kernel⟩
theorem ok_rowOf {f : Addr} {fd : FuncData} (D : Dn K mg "row_of" s_row_of ["sale", "who"] f fd) (T : TxS K mg CS) : FnOk P w K mg base CX0 1 f fd ["sale", "who"] (spRowOf CS) := by
  obtain ⟨th, hgH⟩ := T.gH
  refine D.F.ok scRowOf (fun vs H Q E h => ?_) (fun cdv A outer s H vs Q E hr h => ?_)
  · obtain ⟨p, n, r, z, bs, rfl, _⟩ := h
    rfl
  · obtain ⟨p, n, r, z, bs, rfl, hs, hn, k⟩ := h
    obtain ⟨dx, d, kvs, hp, hB⟩ := hs.ex
    have hu := hu_of hr
    refine ⟨_, pss_cons (ps_if (pt_cmpR op_eq (pv 1) (pe_glob (v := .int 0) rfl hgH ⟨_, rfl⟩) (nomark _)) (pss_one (ps_ret (pe_op op_rep (pe_lst (pa_cons (pe_fld (pv 0) rfl) pa_nil)) (pe_fld (pv 0) rfl)))) pss_nil)
      (pss_one (ps_ret (pe_dget2 hu (pe_fld (pv 0) rfl) (pv 1) (pe_lst pa_nil) ⟨rfl, rfl, rfl, rfl⟩))), ?_⟩
    refine ⟨_, rfl, rfl, _, rfl, ?_⟩
    by_cases c : z = 0
    · rw [decide_eq_true (show V.int z = V.int 0 by rw [c])]
      refine iteT ⟨_, rfl, p, CS, dx, _, _, rfl, hp, T.cl, T.nR, sf_r _ _ _, (by show 1 ≤ sizeLine; decide), fun a ha => ?_⟩
      have s1 := same_new (o := .lst [.int r]) ha
      refine ⟨_, rfl, p, CS, dx, _, _, rfl, s1 _ _ hp, T.cl, T.nS, sf_s _ _ _, a, (n : Int), _, rfl, rfl, upd_same, by omega, by omega, ?_, fun b hb => ?_⟩
      · show 1 * ((n : Int)).toNat ≤ sizeLine
        rw [Int.toNat_natCast, Nat.one_mul]
        exact Nat.le_of_lt (fits (by omega))
      · refine k _ b (s1.trans (same_new hb)) ?_
        unfold rowL
        rw [upd_same, rep_one, if_pos c]
    · rw [decide_eq_false (fun e => c (V.int.inj e))]
      refine iteF ?_
      refine ⟨_, rfl, p, CS, dx, _, _, rfl, hp, T.cl, T.nB, sf_b _ _ _, d, rfl, .inl ⟨_, hB.dct⟩, _, rfl, Nat.zero_le _, fun e he => ?_⟩
      have s1 : Same H (upd H e (.lst [])) := same_new he
      have ent := ent_mono s1 hB.ent
      refine ⟨_, DGet.r (k := Sum.inl z) (Same.rd s1 hB.dct), ?_⟩
      cases el : lk bs z with
      | none =>
        rw [ent_none ent el]
        refine k _ e s1 ?_
        unfold rowL
        rw [if_neg c, el, upd_same]; rfl
      | some os =>
        obtain ⟨l, h1, h2⟩ := ent_some ent el
        rw [h1]
        refine k _ l s1 ?_
        unfold rowL
        rw [if_neg c, el]
        exact h2
/-! ### all_offers -/
def spAll (K : PySem.W.Frag) (C : Addr) : Sp := fun vs H Q _ => ∃ (p : Addr) (n : Nat) (r : Int) (bs : Tb), vs = [.ref p] ∧ SaleAt C H p n r bs ∧ n ≤ 60 ∧ TbOk n bs ∧
  ∀ (H' : Hp) (q : Addr) (ts : List Addr), Same H H' → OffAt H' q ts (offersL n r bs) → Q (.ref q) H'
theorem scAll : FnScope ["sale", "offers", "who", "amount"] ["sale"] (defScope s_all_offers) := ⟨rfl, rfl, rfl, by decide +kernel, rfl, by decide +kernel, by decide +kernel⟩
theorem ok_all {f fB fR : Addr} {fd fdB fdR : FuncData} (D : Dn K mg "all_offers" s_all_offers ["sale"] f fd) (T : TxS K mg CS) (DB : Dn K mg "bidders" s_bidders [] fB fdB) (DR : Dn K mg "row_of" s_row_of ["sale", "who"] fR fdR) : FnOk P w K mg base CX0 2 f fd ["sale"] (spAll K CS) := by
  have GB : FnOk P w K mg base CX0 1 fB fdB [] spBidders := ok_bidders DB T
  have GR : FnOk P w K mg base CX0 1 fR fdR ["sale", "who"] (spRowOf CS) := ok_rowOf DR T
  obtain ⟨th, hgH⟩ := T.gH
  refine D.F.ok scAll (fun vs H Q E h => ?_) (fun cdv A outer s H vs Q E hr h => ?_)
  · obtain ⟨p, n, r, bs, rfl, _⟩ := h
    rfl
  · obtain ⟨p, n, r, bs, rfl, hs, hn, hok, k⟩ := h
    obtain ⟨dx, d, kvs, hp, hB⟩ := hs.ex
    refine ⟨_, pss_cons (ps_set (i := 1) scAll.nd rfl (Or.inl rfl) (pe_lst pa_nil))
      (pss_cons (ps_for PassesOwn.never rfl (pi_list (pe_op op_cat (pe_call0 GB hr rfl DB.mg DB.F.kp DB.b .nil pass0) (pe_lst (pa_cons (pe_glob (v := .int 0) rfl hgH ⟨_, rfl⟩) pa_nil)))) (pg_name (i := 2) scAll.nd rfl (Or.inr rfl))
        (pss_one (ps_expr (pe_bm PySem.F.plainAttrs_list PySem.F.slot_list_extend PySem.F.type_list_extend mt_extend (pv 1)
          (pa_cons (pe_lc rfl scAll.nd (pi_list (pe_call GR hr rfl DR.mg DR.F.kp DR.b .nil pass0 (pa_cons (pv 0) (pa_cons (pv 2) pa_nil)))) (blkOk_by (own := [("amount", 3)]) (by show blkC ["sale", "offers", "who", "amount"] (defScope s_all_offers) _ _ = true; decide +kernel))
            (fun _ _ _ _ _ => pg_name (i := 3) scAll.nd rfl (Or.inl rfl)) (fun _ _ _ _ _ => pts_nil) (fun _ _ _ _ _ => pe_tup (pa_cons (pv 2) (pa_cons (pv 3) pa_nil)))) pa_nil)))))
      (pss_one (ps_ret (pv 1)))), ?_⟩
    refine ⟨Nat.zero_le _, fun q hq => ?_⟩
    have s0 : Same H (upd H q (.lst [])) := same_new hq
    refine ⟨rfl, fun H1 lb s1 nlb hlb => ⟨(by show 1 ≤ sizeLine; decide), fun lh hlh => ?_⟩⟩
    have s2 := same_new (o := .lst [.int 0]) hlh
    refine ⟨lb, lh, _, _, rfl, rfl, s2 _ _ hlb, upd_same, (by show 9 ≤ sizeLine; decide), fun lw hlw => ?_⟩
    have s3 := same_new (o := .lst (whos.map V.int)) hlw
    have s03 : Same (upd H q (.lst [])) (upd (upd H1 lh (.lst [.int 0])) lw (.lst (whos.map V.int))) := (s1.trans s2).trans s3
    have o0 : OffAt (upd (upd H1 lh (.lst [.int 0])) lw (.lst (whos.map V.int))) q [] (upTo n r bs 0) := ⟨s03 _ _ upd_same, .nil⟩
    have nwq : lw ≠ q := fun z => by rw [z, (s1.trans s2) _ _ upd_same] at hlw; cases hlw
    refine ⟨lw, rfl, ⟨_, SqL.of upd_same⟩, for_list (K := K) (a := lw) (xs := whos.map V.int)
      (fun i σ H' => ∃ v2 v3 : Option V, σ = [some (.ref p), some (.ref q), v2, v3] ∧ Same H H' ∧ H' lw = some (.lst (whos.map V.int)) ∧ ∃ ts, OffAt H' q ts (upTo n r bs i))
      ⟨none, none, rfl, s0.trans s03, upd_same, [], o0⟩ (fun i σ H' _ ⟨_, _, _, _, h, _⟩ => SqL.of h) ?_ ?_⟩
    · rintro i x σ H' hx ⟨v2, v3, rfl, sH, hw, ts, o1⟩
      obtain ⟨z, hz, rfl⟩ := ge_map hx
      have i9 : i < 9 := (List.getElem?_eq_some_iff.mp hz).1
      have lenB := upTo_len hok r i
      have n8 : n * i ≤ 540 := Nat.le_trans (Nat.mul_le_mul hn (show i ≤ 9 by omega)) (by decide)
      have lenR := rowL_len hok r z
      refine ⟨_, rfl, .inl ⟨rfl, _, SqL.of o1.lst⟩, _, rfl, _, rfl, p, n, r, z, bs, rfl, hs.mono sH, hn, fun H2 lr s4 hlr => ?_⟩
      refine ⟨lr, rfl, ⟨_, SqL.of hlr⟩, fun L hL => ?_⟩
      refine lc_list (K := K) (a := lr) (xs := (rowL n r bs z).map V.int) (fun j H3 => Same H2 H3 ∧ ∃ us, OffAt H3 L us (((rowL n r bs z).take j).map fun a => (z, a))) ⟨same_new hL, [], upd_same, .nil⟩ (fun j H3 _ ⟨s5, _⟩ => SqL.of (s5 _ _ hlr)) ?_ ?_
      · rintro j y H3 hy ⟨s5, us, o5⟩
        obtain ⟨a, ha, rfl⟩ := ge_map hy
        refine ⟨rfl, tyes ⟨_, rfl, _, rfl, (by show 2 ≤ sizeLine; decide), fun t ht => ?_⟩⟩
        refine ⟨_, same_new ht _ _ o5.lst, ?_, same_upd (s5.trans (same_new ht)) hL, us ++ [t], ?_⟩
        · rw [List.length_map, prs_len o5.prs, List.length_map, List.length_take]
          exact fits (by omega)
        · rw [take_snoc ha, List.map_append]
          exact o5.push ht
      · rintro H3 ⟨s5, us, o5⟩
        rw [List.length_map, List.take_length] at o5
        have o6 := (o1.mono s4).mono s5
        refine ⟨q, L, _, _, rfl, rfl, o6.lst, o5.lst, ?_, ?_⟩
        · rw [List.length_map, List.length_map, prs_len o6.prs, prs_len o5.prs, List.length_map]
          exact Nat.le_of_lt (fits (by omega))
        · refine ⟨_, _, rfl, same_upd ((sH.trans s4).trans s5) hq, by rw [upd_ne nwq]; exact s5 _ _ (s4 _ _ hw), ts ++ us, ?_⟩
          rw [upTo_succ hz]
          exact o6.cat o5
    · rintro σ H' ⟨v2, v3, rfl, sH, hw, ts, o1⟩
      refine ⟨_, rfl, k H' q ts sH ?_⟩
      have o2 : OffAt H' q ts (upTo n r bs 9) := o1
      rw [upTo_all] at o2
      exact o2
end
end Ss
end
section
set_option Elab.async false
set_option linter.all false
set_option maxRecDepth 100000
set_option maxHeartbeats 4000000
namespace Ss
open PySem PySem.Spec PyProof.Rows L2
section
variable {P : Program} {w : World} {K : PySem.W.Frag} {mg : Str → Option Value} {base : Heap} {CS : Addr}
/-! ### greater_first -/
def spKey : Sp := fun vs H Q _ => ∃ (t : Addr) (p : Int × Int), vs = [.ref t] ∧ PairAt H t p ∧ Q (.int (-p.2)) H
theorem scKey : FnScope ["offer"] ["offer"] (defScope s_greater_first) := ⟨rfl, rfl, rfl, by decide +kernel, rfl, by decide +kernel, by decide +kernel⟩
theorem ok_key {f : Addr} {fd : FuncData} (D : Dn K mg "greater_first" s_greater_first ["offer"] f fd) : FnOk P w K mg base CX0 1 f fd ["offer"] spKey := by
  refine D.F.ok scKey (fun vs H Q E h => ?_) (fun cdv A outer s H vs Q E hr h => ?_)
  · obtain ⟨t, p, rfl, _⟩ := h
    rfl
  · obtain ⟨t, p, rfl, hp, k⟩ := h
    refine ⟨_, pss_one (ps_ret (pe_un un_neg (pe_ix ix_tup (pv 0) pe_int (fun _ _ => rfl)))), ?_⟩
    exact ⟨_, rfl, t, _, _, _, rfl, rfl, SqT.of hp, at_of (j := 1) rfl rfl, _, rfl, k⟩
/-! ### met_offers -/
theorem cut_to (xs : List V) (n : Nat) : cutV xs none (some (n : Int)) = xs.take n := by
  unfold cutV
  rw [HT.sIx_none, HT.sIx_nat, List.drop_zero, Nat.sub_zero]
  by_cases h : n ≤ xs.length
  · rw [Nat.min_eq_left h]
  · rw [Nat.min_eq_right (by omega), List.take_of_length_le (Nat.le_refl _), List.take_of_length_le (by omega)]
theorem cut_from (xs : List V) {n : Nat} (h : n ≤ xs.length) : cutV xs (some (n : Int)) none = xs.drop n := by
  unfold cutV
  rw [HT.sIx_none, HT.sIx_nat, Nat.min_eq_left h]
  exact List.take_of_length_le (by rw [List.length_drop]; exact Nat.le_refl _)
def spMet (C : Addr) : Sp := fun vs H Q _ => ∃ (p : Addr) (n : Nat) (r : Int) (bs : Tb), vs = [.ref p] ∧ SaleAt C H p n r bs ∧ n ≤ 60 ∧ TbOk n bs ∧
  ∀ (H' : Hp) (q : Addr) (ts : List Addr), Same H H' → OffAt H' q ts (metL n r bs) → Q (.ref q) H'
/-- the pairs' order, read off the addresses' -/
theorem rows_pairs {H : Hp} {ts : List Addr} {ps : List (Int × Int)} {ys : List V} (h : Paired (PairAt H) ts ps) (hr : InRows (ps.map fun p => -p.2) (ts.map V.ref) ys) :
    ∃ (us : List Addr) (qs : List (Int × Int)), ys = us.map V.ref ∧ Paired (PairAt H) us qs ∧ qs.Pairwise (fun a b => -a.2 ≤ -b.2) ∧ ∀ c, qs.filter (fun p => -p.2 == c) = ps.filter (fun p => -p.2 == c) := by
  obtain ⟨rs, h1, h2, h3, h4⟩ := hr
  -- what stands beside an address
  let g : Int × V → Addr × (Int × Int) := fun x => match x.2 with
    | .ref t => (t, match H t with
      | some (.tup [.int a, .int b]) => (a, b)
      | _ => (0, 0))
    | _ => (0, (0, 0))
  have hz : ∀ {ts : List Addr} {ps : List (Int × Int)}, Paired (PairAt H) ts ps → ((ps.map fun p => -p.2).zip (ts.map V.ref)).map g = ts.zip ps ∧ ∀ x ∈ (ps.map fun p => -p.2).zip (ts.map V.ref), x.2 = .ref (g x).1 ∧ PairAt H (g x).1 (g x).2 ∧ x.1 = -(g x).2.2 := by
    intro ts ps h
    induction h with
    | nil => exact ⟨rfl, fun x m => by cases m⟩
    | @cons t p ts ps r _ ih =>
      have r' : H t = some (.tup [.int p.1, .int p.2]) := r
      have e : g (-p.2, V.ref t) = (t, p) := by show (t, match H t with | some (.tup [.int a, .int b]) => (a, b) | _ => (0, 0)) = _; rw [r']
      refine ⟨?_, fun x m => ?_⟩
      · rw [List.map_cons, List.map_cons, List.zip_cons_cons, List.zip_cons_cons, List.map_cons, ih.1, e]
      · rw [List.map_cons, List.map_cons, List.zip_cons_cons] at m
        rcases List.mem_cons.mp m with q | q
        · subst q; rw [e]; exact ⟨rfl, r', rfl⟩
        · exact ih.2 x q
  obtain ⟨z1, z2⟩ := hz h
  have hm : ∀ x ∈ rs, x.2 = .ref (g x).1 ∧ PairAt H (g x).1 (g x).2 ∧ x.1 = -(g x).2.2 := fun x m => z2 x (h1.mem_iff.mp m)
  have snd : ∀ (l : List (Int × V)), (l.map g).map (·.2) = l.map fun x => (g x).2 := fun l => by rw [List.map_map]; rfl
  refine ⟨rs.map fun x => (g x).1, rs.map fun x => (g x).2, ?_, ?_, ?_, fun c => ?_⟩
  · rw [h2, List.map_map]
    exact List.map_congr_left fun x m => (hm x m).1
  · clear h1 h2 h3 h4
    induction rs with
    | nil => exact .nil
    | cons x rs ih => exact .cons (hm x List.mem_cons_self).2.1 (ih fun y m => hm y (List.mem_cons_of_mem _ m))
  · rw [List.pairwise_map]
    refine h3.imp_of_mem fun {x y} mx my q => ?_
    rw [(hm x mx).2.2, (hm y my).2.2] at q
    exact q
  · have f1 : ∀ (l : List (Int × V)), (∀ x ∈ l, x.1 = -(g x).2.2) → (l.map fun x => (g x).2).filter (fun p => -p.2 == c) = (l.filter fun x => x.1 == c).map fun x => (g x).2 := fun l hl => by
      rw [List.filter_map]
      refine congrArg _ (List.filter_congr fun x m => ?_)
      show (-(g x).2.2 == c) = (x.1 == c)
      rw [hl x m]
    have e2 : ((ps.map fun p => -p.2).zip (ts.map V.ref)).map (fun x => (g x).2) = ps := by
      rw [← snd, z1]
      exact List.map_snd_zip (Nat.le_of_eq (prs_len h).symm)
    rw [f1 rs fun x m => (hm x m).2.2, h4 c, ← f1 _ fun x m => (z2 x m).2.2, e2]
def spOrd (C : Addr) : Sp := fun vs H Q _ => ∃ (p : Addr) (n : Nat) (r : Int) (bs : Tb), vs = [.ref p] ∧ SaleAt C H p n r bs ∧ n ≤ 60 ∧ TbOk n bs ∧
  ∀ (H' : Hp) (q : Addr) (ts : List Addr), Same H H' → OffAt H' q ts (ordL n r bs) → Q (.ref q) H'
theorem scOrd : FnScope ["sale"] ["sale"] (defScope s_in_order) := ⟨rfl, rfl, rfl, by decide +kernel, rfl, by decide +kernel, by decide +kernel⟩
theorem ok_ord {f fA fK : Addr} {fd fdA fdK : FuncData} (D : Dn K mg "in_order" s_in_order ["sale"] f fd) (T : TxS K mg CS) (DA : Dn K mg "all_offers" s_all_offers ["sale"] fA fdA) (DK : Dn K mg "greater_first" s_greater_first ["offer"] fK fdK)
    (GA : FnOk P w K mg base CX0 2 fA fdA ["sale"] (spAll K CS)) : FnOk P w K mg base CX0 4 f fd ["sale"] (spOrd CS) := by
  have GK : FnOk P w K mg base CX0 1 fK fdK ["offer"] spKey := ok_key DK
  refine D.F.ok scOrd (fun vs H Q E h => ?_) (fun cdv A outer s H vs Q E hr h => ?_)
  · obtain ⟨p, n, r, bs, rfl, _⟩ := h
    rfl
  · obtain ⟨p, n, r, bs, rfl, hs, hn, hok, k⟩ := h
    refine ⟨_, pss_one (ps_ret (pe_sortK GK hr DK.b (by rfl) T.b_sorted PyProof.Rows.boot_sorted (by rfl) DK.mg (pe_call GA (hr.mono (by decide)) rfl DA.mg DA.F.kp DA.b .nil pass0 (pa_cons (pv 0) pa_nil)))), ?_⟩
    refine ⟨_, rfl, p, n, r, bs, rfl, hs, hn, hok, fun H1 q ts s1 o1 => ?_⟩
    refine ⟨q, _, (offersL n r bs).map (fun p => -p.2), rfl, SqL.of o1.lst, by rw [List.length_map, List.length_map, prs_len o1.prs], fun i x z H' hx hz sm => ?_, fun ys a H2 rows s2 ha => ?_⟩
    · obtain ⟨t, ht, rfl⟩ := ge_map hx
      obtain ⟨pp, hpp, ht2⟩ := prs_get o1.prs ht
      obtain ⟨pp', hpp', rfl⟩ := ge_map hz
      rw [hpp] at hpp'
      cases hpp'
      exact ⟨t, pp, rfl, sm _ _ ht2, rfl, sm⟩
    · obtain ⟨us, qs, rfl, pr2, srt, row⟩ := rows_pairs o1.prs rows
      have e : qs = ordL n r bs := order_all (n := n) srt row
      have s3 : Same H (upd H2 a (.lst (us.map V.ref))) := (s1.trans s2).trans (same_new ha)
      refine k _ a us s3 ⟨upd_same, ?_⟩
      rw [← e]
      exact prs_mono (s2.trans (same_new ha)) pr2
/-! ### met_offers, left_offers -/
theorem scMet : FnScope ["sale"] ["sale"] (defScope s_met_offers) := ⟨rfl, rfl, rfl, by decide +kernel, rfl, by decide +kernel, by decide +kernel⟩
theorem ok_met {f fO : Addr} {fd fdO : FuncData} (D : Dn K mg "met_offers" s_met_offers ["sale"] f fd) (T : TxS K mg CS) (DO : Dn K mg "in_order" s_in_order ["sale"] fO fdO)
    (GO : FnOk P w K mg base CX0 4 fO fdO ["sale"] (spOrd CS)) : FnOk P w K mg base CX0 5 f fd ["sale"] (spMet CS) := by
  refine D.F.ok scMet (fun vs H Q E h => ?_) (fun cdv A outer s H vs Q E hr h => ?_)
  · obtain ⟨p, n, r, bs, rfl, _⟩ := h
    rfl
  · obtain ⟨p, n, r, bs, rfl, hs, hn, hok, k⟩ := h
    obtain ⟨dx, d, kvs, hp, hB⟩ := hs.ex
    refine ⟨_, pss_one (ps_ret (pe_slice sl_list (pe_call GO hr rfl DO.mg DO.F.kp DO.b .nil pass0 (pa_cons (pv 0) pa_nil)) po_none (po_some (pe_fld (pv 0) rfl)))), ?_⟩
    refine ⟨_, rfl, p, n, r, bs, rfl, hs, hn, hok, fun H1 q ts s1 o1 => ?_⟩
    refine ⟨_, rfl, p, CS, dx, _, _, rfl, s1 _ _ hp, T.cl, T.nS, sf_s _ _ _, (n : Int), rfl, q, _, rfl, SqL.of o1.lst, fun b hb => ?_⟩
    refine k _ b (ts.take n) (s1.trans (same_new hb)) ⟨?_, ?_⟩
    · rw [upd_same, cut_to, List.map_take]
    · rw [← ordL_met]
      exact prs_mono (same_new hb) (prs_take n o1.prs)
def spLeft (C : Addr) : Sp := fun vs H Q _ => ∃ (p : Addr) (n : Nat) (r : Int) (bs : Tb), vs = [.ref p] ∧ SaleAt C H p n r bs ∧ n ≤ 60 ∧ TbOk n bs ∧
  ∀ (H' : Hp) (q : Addr) (ts : List Addr), Same H H' → OffAt H' q ts (leftL n r bs) → Q (.ref q) H'
theorem offersL_len {n : Nat} (r : Int) {bs : Tb} (h : TbOk n bs) (hn : n ≤ 60) : n ≤ (offersL n r bs).length ∧ (offersL n r bs).length ≤ 540 := by
  have a := offersTo_len h 8
  unfold offersL
  rw [List.length_append, List.length_replicate]
  omega
theorem leftL_len {n : Nat} (r : Int) {bs : Tb} (h : TbOk n bs) (hn : n ≤ 60) : (leftL n r bs).length ≤ 1000 := by
  unfold leftL
  rw [List.length_drop, ordL_len]
  have a := offersL_len r h hn
  omega
theorem scLeft : FnScope ["sale"] ["sale"] (defScope s_left_offers) := ⟨rfl, rfl, rfl, by decide +kernel, rfl, by decide +kernel, by decide +kernel⟩
theorem ok_left {f fO : Addr} {fd fdO : FuncData} (D : Dn K mg "left_offers" s_left_offers ["sale"] f fd) (T : TxS K mg CS) (DO : Dn K mg "in_order" s_in_order ["sale"] fO fdO)
    (GO : FnOk P w K mg base CX0 4 fO fdO ["sale"] (spOrd CS)) : FnOk P w K mg base CX0 5 f fd ["sale"] (spLeft CS) := by
  refine D.F.ok scLeft (fun vs H Q E h => ?_) (fun cdv A outer s H vs Q E hr h => ?_)
  · obtain ⟨p, n, r, bs, rfl, _⟩ := h
    rfl
  · obtain ⟨p, n, r, bs, rfl, hs, hn, hok, k⟩ := h
    obtain ⟨dx, d, kvs, hp, hB⟩ := hs.ex
    refine ⟨_, pss_one (ps_ret (pe_slice sl_list (pe_call GO hr rfl DO.mg DO.F.kp DO.b .nil pass0 (pa_cons (pv 0) pa_nil)) (po_some (pe_fld (pv 0) rfl)) po_none)), ?_⟩
    refine ⟨_, rfl, p, n, r, bs, rfl, hs, hn, hok, fun H1 q ts s1 o1 => ?_⟩
    refine ⟨_, rfl, p, CS, dx, _, _, rfl, s1 _ _ hp, T.cl, T.nS, sf_s _ _ _, (n : Int), rfl, q, _, rfl, SqL.of o1.lst, fun b hb => ?_⟩
    refine k _ b (ts.drop n) (s1.trans (same_new hb)) ⟨?_, ?_⟩
    · rw [upd_same, cut_from _ (by rw [List.length_map, prs_len o1.prs, ordL_len]; exact (offersL_len r hok hn).1), List.map_drop]
    · exact prs_mono (same_new hb) (prs_drop n o1.prs)
end
end Ss
end
section
set_option Elab.async false
set_option linter.all false
set_option maxRecDepth 100000
set_option maxHeartbeats 4000000
namespace Ss
open PySem PySem.Spec PyProof.Rows L2
theorem ne_new {H H' : Hp} (s : Same H H') {D : Addr} (hD : H D = none) {b : Addr} {o : HO} (e : H b = some o) : b ≠ D := ne_of_none e hD
theorem filter_take_in {α : Type} {p : α → Bool} {l : List α} {i : Nat} {x : α} (h : l[i]? = some x) (hp : p x = true) : (l.take (i + 1)).filter p = (l.take i).filter p ++ [x] := by
  rw [take_snoc h, List.filter_append, List.filter_cons, if_pos hp, List.filter_nil]
theorem filter_take_out {α : Type} {p : α → Bool} {l : List α} {i : Nat} {x : α} (h : l[i]? = some x) (hp : ¬ p x = true) : (l.take (i + 1)).filter p = (l.take i).filter p := by
  rw [take_snoc h, List.filter_append, List.filter_cons, if_neg hp, List.filter_nil, List.append_nil]
/-- one more, that stands there already -/
theorem OffAt.more {H : Hp} {q t : Addr} {ts : List Addr} {ps : List (Int × Int)} {p : Int × Int} (h : OffAt H q ts ps) (ht : PairAt H t p) : OffAt (upd H q (.lst (ts.map V.ref ++ [.ref t]))) q (ts ++ [t]) (ps ++ [p]) := by
  have k : ∀ {u : Addr} {x : Int × Int}, PairAt H u x → PairAt (upd H q (.lst (ts.map V.ref ++ [.ref t]))) u x := fun {u x} r => by
    show upd _ _ _ u = _
    rw [upd_ne (ne_of r h.lst (by intro z; cases z))]
    exact r
  refine ⟨by rw [upd_same, List.map_append]; rfl, prs_append ?_ (.cons (k ht) .nil)⟩
  have all : ∀ {us : List Addr} {qs : List (Int × Int)}, Paired (PairAt H) us qs → Paired (PairAt (upd H q (.lst (ts.map V.ref ++ [.ref t])))) us qs := by
    intro us qs r
    induction r with
    | nil => exact .nil
    | cons r _ ih => exact .cons (k r) ih
  exact all h.prs
section
variable {P : Program} {w : World} {K : PySem.W.Frag} {mg : Str → Option Value} {base : Heap} {CS : Addr}
/-! ### amounts_of -/
def spAm : Sp := fun vs H Q _ => ∃ (q : Addr) (ts : List Addr) (ps : List (Int × Int)), vs = [.ref q] ∧ OffAt H q ts ps ∧ ps.length ≤ 1000 ∧
  ∀ (H' : Hp) (l : Addr), Same H H' → H' l = some (.lst ((ps.map (·.2)).map V.int)) → Q (.ref l) H'
theorem scAm : FnScope ["offers", "offer"] ["offers"] (defScope s_amounts_of) := ⟨rfl, rfl, rfl, by decide +kernel, rfl, by decide +kernel, by decide +kernel⟩
theorem ok_am {f : Addr} {fd : FuncData} (D : Dn K mg "amounts_of" s_amounts_of ["offers"] f fd) : FnOk P w K mg base CX0 1 f fd ["offers"] spAm := by
  refine D.F.ok scAm (fun vs H Q E h => ?_) (fun cdv A outer s H vs Q E hr h => ?_)
  · obtain ⟨q, ts, ps, rfl, _⟩ := h
    rfl
  · obtain ⟨q, ts, ps, rfl, ho, hl, k⟩ := h
    refine ⟨_, pss_one (ps_ret (pe_lc rfl scAm.nd (pi_list (pv 0)) (blkOk_by (own := [("offer", 1)]) (by show blkC ["offers", "offer"] (defScope s_amounts_of) _ _ = true; decide +kernel)) (fun _ _ _ _ _ => pg_name (i := 1) scAm.nd rfl (Or.inl rfl)) (fun _ _ _ _ _ => pts_nil) (fun _ _ _ _ _ => pe_ix (r := rIxT K) ix_tup (pv 1) pe_int (fun _ _ => rfl)))), ?_⟩
    refine ⟨_, rfl, q, rfl, ⟨_, SqL.of ho.lst⟩, fun L hL => ?_⟩
    refine lc_list (K := K) (a := q) (xs := ts.map V.ref) (fun i H' => Same H H' ∧ H' L = some (.lst (((ps.take i).map (·.2)).map V.int))) ⟨same_new hL, upd_same⟩ (fun i H' _ ⟨s1, _⟩ => SqL.of (s1 _ _ ho.lst)) ?_ ?_
    · rintro i x H' hx ⟨s1, hL'⟩
      obtain ⟨t, ht, rfl⟩ := ge_map hx
      obtain ⟨p, hp, hpt⟩ := prs_get ho.prs ht
      refine ⟨rfl, tyes ⟨_, rfl, t, _, _, _, rfl, rfl, SqT.of (s1 _ _ hpt), at_of (j := 1) rfl rfl, _, hL', ?_, ?_, ?_⟩⟩
      · rw [List.length_map, List.length_map, List.length_take]
        exact fits (by omega)
      · exact same_upd s1 hL
      · rw [upd_same, take_snoc hp, List.map_append, List.map_append]; rfl
    · rintro H' ⟨s1, hL'⟩
      rw [List.length_map, prs_len ho.prs, List.take_length] at hL'
      exact k H' L s1 hL'
/-! ### own_of, others_of -/
def spOwn (c : Int → Int → Bool) : Sp := fun vs H Q _ => ∃ (q : Addr) (ts : List Addr) (ps : List (Int × Int)) (z : Int), vs = [.ref q, .int z] ∧ OffAt H q ts ps ∧ ps.length ≤ 1000 ∧
  ∀ (H' : Hp) (l : Addr) (us : List Addr), Same H H' → OffAt H' l us (ps.filter fun p => c p.1 z) → Q (.ref l) H'
theorem scOwn : FnScope ["offers", "who", "offer"] ["offers", "who"] (defScope s_own_of) := ⟨rfl, rfl, rfl, by decide +kernel, rfl, by decide +kernel, by decide +kernel⟩
theorem ok_own {f : Addr} {fd : FuncData} (D : Dn K mg "own_of" s_own_of ["offers", "who"] f fd) : FnOk P w K mg base CX0 1 f fd ["offers", "who"] (spOwn fun a z => decide (a = z)) := by
  refine D.F.ok scOwn (fun vs H Q E h => ?_) (fun cdv A outer s H vs Q E hr h => ?_)
  · obtain ⟨q, ts, ps, z, rfl, _⟩ := h
    rfl
  · obtain ⟨q, ts, ps, z, rfl, ho, hl, k⟩ := h
    refine ⟨_, pss_one (ps_ret (pe_lc rfl scOwn.nd (pi_list (pv 0)) (blkOk_by (own := [("offer", 2)]) (by show blkC ["offers", "who", "offer"] (defScope s_own_of) _ _ = true; decide +kernel)) (fun _ _ _ _ _ => pg_name (i := 2) scOwn.nd rfl (Or.inl rfl))
      (fun _ _ _ _ _ => pts_one (pt_cmpR op_eq (pe_ix (r := rIxT K) ix_tup (pv 2) pe_int (fun _ _ => rfl)) (pv 1) (nomark _))) (fun _ _ _ _ _ => pv 2))), ?_⟩
    refine ⟨_, rfl, q, rfl, ⟨_, SqL.of ho.lst⟩, fun L hL => ?_⟩
    refine lc_list (K := K) (a := q) (xs := ts.map V.ref) (fun i H' => Same H H' ∧ ∃ us, OffAt H' L us ((ps.take i).filter fun p => decide (p.1 = z))) ⟨same_new hL, [], upd_same, .nil⟩ (fun i H' _ ⟨s1, _⟩ => SqL.of (s1 _ _ ho.lst)) ?_ ?_
    · rintro i x H' hx ⟨s1, us, o1⟩
      obtain ⟨t, ht, rfl⟩ := ge_map hx
      obtain ⟨p, hp, hpt⟩ := prs_get ho.prs ht
      have len : us.length ≤ 1000 := by
        rw [prs_len o1.prs]
        refine Nat.le_trans (List.length_filter_le _ _) ?_
        rw [List.length_take]
        omega
      refine ⟨rfl, _, rfl, t, _, _, _, rfl, rfl, SqT.of (s1 _ _ hpt), at_of (j := 0) rfl rfl, _, rfl, rfl, _, rfl, ?_⟩
      by_cases c : p.1 = z
      · rw [decide_eq_true (show V.int p.1 = V.int z by rw [c])]
        refine iteT ⟨_, rfl, _, o1.lst, ?_, same_upd s1 hL, us ++ [t], ?_⟩
        · rw [List.length_map]; exact fits (by omega)
        · rw [filter_take_in hp (decide_eq_true c)]
          have n1 : ∀ b o, H' b = some o → b ≠ L → upd H' L (.lst (us.map V.ref ++ [.ref t])) b = some o := fun b o e n => by rw [upd_ne n]; exact e
          exact o1.more (s1 _ _ hpt)
      · rw [decide_eq_false (fun e => c (V.int.inj e))]
        refine iteF ⟨s1, us, ?_⟩
        rw [filter_take_out hp (by simp [c])]
        exact o1
    · rintro H' ⟨s1, us, o1⟩
      rw [List.length_map, prs_len ho.prs, List.take_length] at o1
      exact k H' L us s1 o1
theorem scOth : FnScope ["offers", "who", "offer"] ["offers", "who"] (defScope s_others_of) := ⟨rfl, rfl, rfl, by decide +kernel, rfl, by decide +kernel, by decide +kernel⟩
theorem ok_oth {f : Addr} {fd : FuncData} (D : Dn K mg "others_of" s_others_of ["offers", "who"] f fd) : FnOk P w K mg base CX0 1 f fd ["offers", "who"] (spOwn fun a z => !decide (a = z)) := by
  refine D.F.ok scOth (fun vs H Q E h => ?_) (fun cdv A outer s H vs Q E hr h => ?_)
  · obtain ⟨q, ts, ps, z, rfl, _⟩ := h
    rfl
  · obtain ⟨q, ts, ps, z, rfl, ho, hl, k⟩ := h
    refine ⟨_, pss_one (ps_ret (pe_lc rfl scOth.nd (pi_list (pv 0)) (blkOk_by (own := [("offer", 2)]) (by show blkC ["offers", "who", "offer"] (defScope s_others_of) _ _ = true; decide +kernel)) (fun _ _ _ _ _ => pg_name (i := 2) scOth.nd rfl (Or.inl rfl))
      (fun _ _ _ _ _ => pts_one (pt_cmpR op_ne (pe_ix (r := rIxT K) ix_tup (pv 2) pe_int (fun _ _ => rfl)) (pv 1) (nomark _))) (fun _ _ _ _ _ => pv 2))), ?_⟩
    refine ⟨_, rfl, q, rfl, ⟨_, SqL.of ho.lst⟩, fun L hL => ?_⟩
    refine lc_list (K := K) (a := q) (xs := ts.map V.ref) (fun i H' => Same H H' ∧ ∃ us, OffAt H' L us ((ps.take i).filter fun p => !decide (p.1 = z))) ⟨same_new hL, [], upd_same, .nil⟩ (fun i H' _ ⟨s1, _⟩ => SqL.of (s1 _ _ ho.lst)) ?_ ?_
    · rintro i x H' hx ⟨s1, us, o1⟩
      obtain ⟨t, ht, rfl⟩ := ge_map hx
      obtain ⟨p, hp, hpt⟩ := prs_get ho.prs ht
      have len : us.length ≤ 1000 := by
        rw [prs_len o1.prs]
        refine Nat.le_trans (List.length_filter_le _ _) ?_
        rw [List.length_take]
        omega
      refine ⟨rfl, _, rfl, t, _, _, _, rfl, rfl, SqT.of (s1 _ _ hpt), at_of (j := 0) rfl rfl, _, rfl, rfl, _, rfl, ?_⟩
      by_cases c : p.1 = z
      · rw [decide_eq_true (show V.int p.1 = V.int z by rw [c])]
        refine iteF ⟨s1, us, ?_⟩
        rw [filter_take_out hp (by simp [c])]
        exact o1
      · rw [decide_eq_false (fun e => c (V.int.inj e))]
        refine iteT ⟨_, rfl, _, o1.lst, ?_, same_upd s1 hL, us ++ [t], ?_⟩
        · rw [List.length_map]; exact fits (by omega)
        · rw [filter_take_in hp (by simp [c])]
          exact o1.more (s1 _ _ hpt)
    · rintro H' ⟨s1, us, o1⟩
      rw [List.length_map, prs_len ho.prs, List.take_length] at o1
      exact k H' L us s1 o1
end
end Ss
end
section
set_option Elab.async false
set_option linter.all false
set_option maxRecDepth 100000
set_option maxHeartbeats 4000000
namespace L2
open PySem PySem.Spec PyProof.Rows
/-- len of a list -/
def rLenL (K : PySem.W.Frag) : List V → Hp → VK → Prop := fun xs H Q => ∃ (p : Addr) (ys : List V), xs = [.ref p] ∧ SqL K H p ys ∧ Q (.int (ys.length : Int)) H
theorem cr_lenL {X : Cx} : CallR X (.builtin "len") (rLenL X.K) := by
  intro pins s σ H xs us Q I r h
  obtain ⟨p, ys, e, hq, q⟩ := h
  exact call_len_seq pins s σ H xs us Q I r ⟨p, ys, e, .inl hq, q⟩
/-- a comprehension over the keys of a locked dict -/
theorem lc_keys {d : Addr} {o : Obj} {kvs : List (Key × V)} {g : TG} {tt : TT} {te : TE} {vs : List Nat} {σ : St} {H1 : Hp} {D : Addr} {Qd : Hp → Prop} (Pv : Nat → Hp → Prop) (h0 : Pv 0 (upd H1 D (.lst []))) (hl : ∀ i H, i ≤ kvs.length → Pv i H → H d = some (.frz o (.dK kvs)))
    (hs : ∀ i k v H, kvs[i]? = some (k, v) → Pv i H → g (kV k) (wipe σ vs) H fun σ2 H2 => wipe σ2 vs = wipe σ vs ∧ tt σ2 H2 fun b H3 =>
      if b = true then te σ2 H3 fun y H4 => ∃ acc, H4 D = some (.lst acc) ∧ acc.length < sizeLine ∧ Pv (i + 1) (upd H4 D (.lst (acc ++ [y]))) else Pv (i + 1) H3) (hd : ∀ H, Pv kvs.length H → Qd H) :
    ∃ W : Nat → Nat → Hp → Prop, (∃ m, W 0 m (upd H1 D (.lst []))) ∧ ∀ i m H, W i m H →
      ((Itk d o kvs).stop i H ∧ Qd H) ∨ ((Itk d o kvs).go i H ∧ ∃ Nx : Hp → Prop, (∀ H', Nx H' → ∃ m', m' < m ∧ W (i + 1) m' H') ∧ ∀ x H', (Itk d o kvs).yld i H x H' → g x (wipe σ vs) H' fun σ2 H2 => wipe σ2 vs = wipe σ vs ∧ tt σ2 H2 fun b H3 =>
        if b = true then te σ2 H3 fun y H4 => ∃ acc, H4 D = some (.lst acc) ∧ acc.length < sizeLine ∧ Nx (upd H4 D (.lst (acc ++ [y]))) else Nx H3) := by
  refine ⟨fun i m H => m = kvs.length - i ∧ i ≤ kvs.length ∧ Pv i H, ⟨kvs.length, rfl, Nat.zero_le _, h0⟩, ?_⟩
  rintro i m H ⟨rfl, hi, p⟩
  have q := hl i H hi p
  by_cases lt : i < kvs.length
  · refine .inr ⟨⟨q, lt⟩, Pv (i + 1), fun H' p' => ⟨kvs.length - (i + 1), by omega, rfl, lt, p'⟩, fun x H' y => ?_⟩
    obtain ⟨e, k, v, hk, ex⟩ := y
    subst e
    subst ex
    exact hs i k v _ hk p
  · have e : i = kvs.length := by omega
    subst e
    exact .inl ⟨⟨q, Nat.le_refl _⟩, hd H p⟩
end L2
namespace Ss
open PySem PySem.Spec PyProof.Rows L2
section
variable {P : Program} {w : World} {K : PySem.W.Frag} {mg : Str → Option Value} {base : Heap} {CS : Addr}
theorem ent_lock {H : Hp} {d : Addr} {kvs' : List (Key × V)} {o : HO} (hd : H d = some (.dK kvs')) {kvs : List (Key × V)} {bs : Tb} (h : Paired (BidEnt H) kvs bs) : Paired (BidEnt (upd H d o)) kvs bs := by
  induction h with
  | nil => exact .nil
  | cons r _ ih =>
    obtain ⟨e1, l, e2, hl⟩ := r
    refine .cons ⟨e1, l, e2, ?_⟩ ih
    rw [upd_ne (ne_of hl hd (by intro z; cases z))]
    exact hl
theorem ent_get {H : Hp} : ∀ {kvs : List (Key × V)} {bs : Tb} {i : Nat} {kv : Key × V}, Paired (BidEnt H) kvs bs → kvs[i]? = some kv → ∃ b, bs[i]? = some b ∧ BidEnt H kv b
  | _, _, _, _, .nil, e => by simp at e
  | _, _, 0, _, .cons r _, e => by
    simp at e
    subst e
    exact ⟨_, rfl, r⟩
  | _, _, i + 1, kv, .cons _ t, e => by
    obtain ⟨b, h1, h2⟩ := ent_get (i := i) (kv := kv) t (by simpa using e)
    exact ⟨b, by simpa using h1, h2⟩
/-! ### greatest_sum -/
def spGS (C : Addr) : Sp := fun vs H Q _ => ∃ (p : Addr) (n : Nat) (r : Int) (bs : Tb), vs = [.ref p] ∧ SaleAt C H p n r bs ∧ n ≤ 60 ∧ TbOk n bs ∧ ∀ H' : Hp, Same H H' → Q (.int ((metL n r bs).map (·.2)).sum) H'
theorem scGS : FnScope ["sale"] ["sale"] (defScope s_greatest_sum) := ⟨rfl, rfl, rfl, by decide +kernel, rfl, by decide +kernel, by decide +kernel⟩
theorem metL_1000 {n : Nat} (r : Int) (bs : Tb) (hn : n ≤ 60) : (metL n r bs).length ≤ 1000 := by rw [metL_len]; omega
theorem ok_gs {f fM fA : Addr} {fd fdM fdA : FuncData} (D : Dn K mg "greatest_sum" s_greatest_sum ["sale"] f fd) (T : TxS K mg CS) (DM : Dn K mg "met_offers" s_met_offers ["sale"] fM fdM) (DA : Dn K mg "amounts_of" s_amounts_of ["offers"] fA fdA)
    (GM : FnOk P w K mg base CX0 5 fM fdM ["sale"] (spMet CS)) : FnOk P w K mg base CX0 6 f fd ["sale"] (spGS CS) := by
  have GA : FnOk P w K mg base CX0 1 fA fdA ["offers"] spAm := ok_am DA
  refine D.F.ok scGS (fun vs H Q E h => ?_) (fun cdv A outer s H vs Q E hr h => ?_)
  · obtain ⟨p, n, r, bs, rfl, _⟩ := h
    rfl
  · obtain ⟨p, n, r, bs, rfl, hs, hn, hok, k⟩ := h
    refine ⟨_, pss_one (ps_ret (pe_callB (cr_sum rfl) (by rfl) T.b_sum PyProof.Rows.boot_sum (pa_cons (pe_call GA (hr.mono (by decide)) rfl DA.mg DA.F.kp DA.b .nil pass0 (pa_cons (pe_call GM hr rfl DM.mg DM.F.kp DM.b .nil pass0 (pa_cons (pv 0) pa_nil)) pa_nil)) pa_nil))), ?_⟩
    refine ⟨_, rfl, p, n, r, bs, rfl, hs, hn, hok, fun H1 q ts s1 o1 => ?_⟩
    refine ⟨q, ts, _, rfl, o1, metL_1000 r bs hn, fun H2 l s2 hl => ?_⟩
    exact ⟨l, _, rfl, SqL.of hl, k H2 (s1.trans s2)⟩
/-! ### got_by -/
def spGot (C : Addr) : Sp := fun vs H Q _ => ∃ (p : Addr) (n : Nat) (r z : Int) (bs : Tb), vs = [.ref p, .int z] ∧ SaleAt C H p n r bs ∧ n ≤ 60 ∧ TbOk n bs ∧ ∀ H' : Hp, Same H H' → Q (.int (gotL n r bs z : Int)) H'
theorem scGot : FnScope ["sale", "who"] ["sale", "who"] (defScope s_got_by) := ⟨rfl, rfl, rfl, by decide +kernel, rfl, by decide +kernel, by decide +kernel⟩
theorem ok_got {f fM fO : Addr} {fd fdM fdO : FuncData} (D : Dn K mg "got_by" s_got_by ["sale", "who"] f fd) (T : TxS K mg CS) (DM : Dn K mg "met_offers" s_met_offers ["sale"] fM fdM) (DO : Dn K mg "own_of" s_own_of ["offers", "who"] fO fdO)
    (GM : FnOk P w K mg base CX0 5 fM fdM ["sale"] (spMet CS)) : FnOk P w K mg base CX0 6 f fd ["sale", "who"] (spGot CS) := by
  have GO : FnOk P w K mg base CX0 1 fO fdO ["offers", "who"] (spOwn fun a z => decide (a = z)) := ok_own DO
  refine D.F.ok scGot (fun vs H Q E h => ?_) (fun cdv A outer s H vs Q E hr h => ?_)
  · obtain ⟨p, n, r, z, bs, rfl, _⟩ := h
    rfl
  · obtain ⟨p, n, r, z, bs, rfl, hs, hn, hok, k⟩ := h
    refine ⟨_, pss_one (ps_ret (pe_callB cr_lenL (by rfl) T.b_len PySem.boot_len (pa_cons (pe_call GO (hr.mono (by decide)) rfl DO.mg DO.F.kp DO.b .nil pass0 (pa_cons (pe_call GM hr rfl DM.mg DM.F.kp DM.b .nil pass0 (pa_cons (pv 0) pa_nil)) (pa_cons (pv 1) pa_nil))) pa_nil))), ?_⟩
    refine ⟨_, rfl, p, n, r, bs, rfl, hs, hn, hok, fun H1 q ts s1 o1 => ?_⟩
    refine ⟨_, rfl, q, ts, _, _, rfl, o1, metL_1000 r bs hn, fun H2 l us s2 o2 => ?_⟩
    refine ⟨l, _, rfl, SqL.of o2.lst, ?_⟩
    rw [List.length_map, prs_len o2.prs]
    exact k H2 (s1.trans s2)
/-! ### split_of -/
def spSplit (C : Addr) : Sp := fun vs H Q _ => ∃ (p : Addr) (n : Nat) (r : Int) (bs : Tb), vs = [.ref p] ∧ SaleAt C H p n r bs ∧ n ≤ 60 ∧ TbOk n bs ∧ ∀ (H' : Hp) (l : Addr), Same H H' → H l = none → H' l = some (.lst ((splitL n r bs).map V.int)) → Q (.ref l) H'
theorem scSplit : FnScope ["sale", "met", "who"] ["sale"] (defScope s_split_of) := ⟨rfl, rfl, rfl, by decide +kernel, rfl, by decide +kernel, by decide +kernel⟩
theorem ok_split {f fM fO fB : Addr} {fd fdM fdO fdB : FuncData} (D : Dn K mg "split_of" s_split_of ["sale"] f fd) (T : TxS K mg CS) (DM : Dn K mg "met_offers" s_met_offers ["sale"] fM fdM) (DO : Dn K mg "own_of" s_own_of ["offers", "who"] fO fdO) (DB : Dn K mg "bidders" s_bidders [] fB fdB)
    (GM : FnOk P w K mg base CX0 5 fM fdM ["sale"] (spMet CS)) : FnOk P w K mg base CX0 6 f fd ["sale"] (spSplit CS) := by
  have GO : FnOk P w K mg base CX0 1 fO fdO ["offers", "who"] (spOwn fun a z => decide (a = z)) := ok_own DO
  have GB : FnOk P w K mg base CX0 1 fB fdB [] spBidders := ok_bidders DB T
  obtain ⟨th, hgH⟩ := T.gH
  refine D.F.ok scSplit (fun vs H Q E h => ?_) (fun cdv A outer s H vs Q E hr h => ?_)
  · obtain ⟨p, n, r, bs, rfl, _⟩ := h
    rfl
  · obtain ⟨p, n, r, bs, rfl, hs, hn, hok, k⟩ := h
    refine ⟨_, pss_cons (ps_set (i := 1) scSplit.nd rfl (Or.inr rfl) (pe_call GM hr rfl DM.mg DM.F.kp DM.b .nil pass0 (pa_cons (pv 0) pa_nil)))
      (pss_one (ps_ret (pe_lc rfl scSplit.nd (pi_list (pe_op op_cat (pe_lst (pa_cons (pe_glob (v := .int 0) rfl hgH ⟨_, rfl⟩) pa_nil)) (pe_call0 GB (hr.mono (by decide)) rfl DB.mg DB.F.kp DB.b .nil pass0))) (blkOk_by (own := [("who", 2)]) (by show blkC ["sale", "met", "who"] (defScope s_split_of) _ _ = true; decide +kernel))
        (fun _ _ _ _ _ => pg_name (i := 2) scSplit.nd rfl (Or.inl rfl)) (fun _ _ _ _ _ => pts_nil)
        (fun _ _ _ _ _ => pe_callB (r := rLenL K) cr_lenL (by rfl) T.b_len PySem.boot_len (pa_cons (pe_call GO (hr.mono (by decide)) rfl DO.mg DO.F.kp DO.b .nil pass0 (pa_cons (pv 1) (pa_cons (pv 2) pa_nil))) pa_nil))))), ?_⟩
    refine ⟨_, rfl, p, n, r, bs, rfl, hs, hn, hok, fun H1 q ts s1 o1 => ?_⟩
    refine ⟨(by show 1 ≤ sizeLine; decide), fun lh hlh => ⟨rfl, fun H2 lb s3 nlb hlb => ?_⟩⟩
    have s2 := same_new (o := .lst [.int 0]) hlh
    refine ⟨lh, lb, _, _, rfl, rfl, s3 _ _ upd_same, hlb, (by show 9 ≤ sizeLine; decide), fun lw hlw => ?_⟩
    have s4 := same_new (o := .lst (nines.map V.int)) hlw
    have s14 := (s2.trans s3).trans s4
    refine ⟨lw, rfl, ⟨_, SqL.of upd_same⟩, fun L hL => ?_⟩
    refine lc_list (K := K) (a := lw) (xs := nines.map V.int) (fun i H' => Same (upd H2 lw (.lst (nines.map V.int))) H' ∧ H' L = some (.lst (((nines.take i).map fun (z : Int) => (gotL n r bs z : Int)).map V.int))) ⟨same_new hL, upd_same⟩ (fun i H' _ ⟨s5, _⟩ => SqL.of (s5 _ _ upd_same)) ?_ ?_
    · rintro i x H' hx ⟨s5, hL'⟩
      obtain ⟨z, hz, rfl⟩ := ge_map hx
      refine ⟨rfl, tyes ⟨_, rfl, _, rfl, q, ts, _, _, rfl, o1.mono (s14.trans s5), metL_1000 r bs hn, fun H3 l us s6 o6 => ?_⟩⟩
      refine ⟨l, _, rfl, SqL.of o6.lst, _, s6 _ _ hL', ?_, same_upd (s5.trans s6) hL, ?_⟩
      · rw [List.length_map, List.length_map, List.length_take]
        exact fits (Nat.le_trans (Nat.min_le_right _ _) (by decide))
      · rw [upd_same, take_snoc hz, List.map_append, List.map_append, List.length_map, prs_len o6.prs]; rfl
    · rintro H' ⟨s5, hL'⟩
      exact k H' L ((s1.trans s14).trans s5) ((s1.trans s14).free hL) hL'
/-! ### payment_of -/
def spPay (C : Addr) : Sp := fun vs H Q _ => ∃ (p : Addr) (n : Nat) (r z : Int) (bs : Tb), vs = [.ref p, .int z] ∧ SaleAt C H p n r bs ∧ n ≤ 60 ∧ TbOk n bs ∧ (lk bs z).isSome = true ∧ ∀ H' : Hp, Same H H' → Q (.int (paysL n r bs z)) H'
theorem scPay : FnScope ["sale", "who", "others"] ["sale", "who"] (defScope s_payment_of) := ⟨rfl, rfl, rfl, by decide +kernel, rfl, by decide +kernel, by decide +kernel⟩
theorem ok_pay {f fM fO fG fW fA : Addr} {fd fdM fdO fdG fdW fdA : FuncData} (D : Dn K mg "payment_of" s_payment_of ["sale", "who"] f fd) (T : TxS K mg CS) (DM : Dn K mg "met_offers" s_met_offers ["sale"] fM fdM) (DO : Dn K mg "others_of" s_others_of ["offers", "who"] fO fdO)
    (DG : Dn K mg "greatest_sum" s_greatest_sum ["sale"] fG fdG) (DW : Dn K mg "without_bid" s_without_bid ["sale", "who"] fW fdW) (DA : Dn K mg "amounts_of" s_amounts_of ["offers"] fA fdA)
    (GM : FnOk P w K mg base CX0 5 fM fdM ["sale"] (spMet CS)) (GG : FnOk P w K mg base CX0 6 fG fdG ["sale"] (spGS CS)) (GW : FnOk P w K mg base CX0 3 fW fdW ["sale", "who"] (spWithout K CS)) : FnOk P w K mg base CX0 7 f fd ["sale", "who"] (spPay CS) := by
  have GO : FnOk P w K mg base CX0 1 fO fdO ["offers", "who"] (spOwn fun a z => !decide (a = z)) := ok_oth DO
  have GA : FnOk P w K mg base CX0 1 fA fdA ["offers"] spAm := ok_am DA
  refine D.F.ok scPay (fun vs H Q E h => ?_) (fun cdv A outer s H vs Q E hr h => ?_)
  · obtain ⟨p, n, r, z, bs, rfl, _⟩ := h
    rfl
  · obtain ⟨p, n, r, z, bs, rfl, hs, hn, hok, hz, k⟩ := h
    refine ⟨_, pss_cons (ps_set (i := 2) scPay.nd rfl (Or.inl rfl) (pe_call GO (hr.mono (by decide)) rfl DO.mg DO.F.kp DO.b .nil pass0 (pa_cons (pe_call GM (hr.mono (by decide)) rfl DM.mg DM.F.kp DM.b .nil pass0 (pa_cons (pv 0) pa_nil)) (pa_cons (pv 1) pa_nil))))
      (pss_one (ps_ret (pe_op op_sub (pe_call GG hr rfl DG.mg DG.F.kp DG.b .nil pass0 (pa_cons (pe_call GW (hr.mono (by decide)) rfl DW.mg DW.F.kp DW.b .nil pass0 (pa_cons (pv 0) (pa_cons (pv 1) pa_nil))) pa_nil))
        (pe_callB (cr_sum rfl) (by rfl) T.b_sum PyProof.Rows.boot_sum (pa_cons (pe_call GA (hr.mono (by decide)) rfl DA.mg DA.F.kp DA.b .nil pass0 (pa_cons (pv 2) pa_nil)) pa_nil))))), ?_⟩
    refine ⟨_, rfl, p, n, r, bs, rfl, hs, hn, hok, fun H1 q ts s1 o1 => ?_⟩
    refine ⟨_, rfl, q, ts, _, _, rfl, o1, metL_1000 r bs hn, fun H2 l us s2 o2 => ?_⟩
    have s3 := s1.trans s2
    refine ⟨_, rfl, _, rfl, p, n, r, z, bs, rfl, hs.mono s3, hz, fun H3 x s4 _ h4 _ => ?_⟩
    refine ⟨x, n, r, _, rfl, h4.sale, hn, hok.drop z, fun H4 s5 => ?_⟩
    refine ⟨_, rfl, l, us, _, rfl, o2.mono (s4.trans s5), Nat.le_trans (List.length_filter_le _ _) (metL_1000 r bs hn), fun H5 y s6 h6 => ?_⟩
    refine ⟨y, _, rfl, SqL.of h6, _, _, rfl, rfl, ?_⟩
    exact k H5 (((s3.trans s4).trans s5).trans s6)
/-! ### prices_of -/
def spPrices (C : Addr) : Sp := fun vs H Q _ => ∃ (p : Addr) (n : Nat) (r z : Int) (bs : Tb), vs = [.ref p, .int z] ∧ SaleAt C H p n r bs ∧ n ≤ 60 ∧ TbOk n bs ∧ (lk bs z).isSome = true ∧ ∀ (H' : Hp) (l : Addr), Same H H' → H' l = some (.lst ((pricesL n r bs z).map V.int)) → Q (.ref l) H'
theorem scPrices : FnScope ["sale", "who", "got", "met_else", "pushed_out"] ["sale", "who"] (defScope s_prices_of) := ⟨rfl, rfl, rfl, by decide +kernel, rfl, by decide +kernel, by decide +kernel⟩
theorem ok_prices {f fM fG fW fA : Addr} {fd fdM fdG fdW fdA : FuncData} (D : Dn K mg "prices_of" s_prices_of ["sale", "who"] f fd) (T : TxS K mg CS) (DM : Dn K mg "met_offers" s_met_offers ["sale"] fM fdM) (DG : Dn K mg "got_by" s_got_by ["sale", "who"] fG fdG)
    (DW : Dn K mg "without_bid" s_without_bid ["sale", "who"] fW fdW) (DA : Dn K mg "amounts_of" s_amounts_of ["offers"] fA fdA)
    (GM : FnOk P w K mg base CX0 5 fM fdM ["sale"] (spMet CS)) (GG : FnOk P w K mg base CX0 6 fG fdG ["sale", "who"] (spGot CS)) (GW : FnOk P w K mg base CX0 3 fW fdW ["sale", "who"] (spWithout K CS)) : FnOk P w K mg base CX0 7 f fd ["sale", "who"] (spPrices CS) := by
  have GA : FnOk P w K mg base CX0 1 fA fdA ["offers"] spAm := ok_am DA
  refine D.F.ok scPrices (fun vs H Q E h => ?_) (fun cdv A outer s H vs Q E hr h => ?_)
  · obtain ⟨p, n, r, z, bs, rfl, _⟩ := h
    rfl
  · obtain ⟨p, n, r, z, bs, rfl, hs, hn, hok, hz, k⟩ := h
    refine ⟨_, pss_cons (ps_set (i := 2) scPrices.nd rfl (Or.inl rfl) (pe_call GG hr rfl DG.mg DG.F.kp DG.b .nil pass0 (pa_cons (pv 0) (pa_cons (pv 1) pa_nil))))
      (pss_cons (ps_set (i := 3) scPrices.nd rfl (Or.inl rfl) (pe_call GM (hr.mono (by decide)) rfl DM.mg DM.F.kp DM.b .nil pass0 (pa_cons (pe_call GW (hr.mono (by decide)) rfl DW.mg DW.F.kp DW.b .nil pass0 (pa_cons (pv 0) (pa_cons (pv 1) pa_nil))) pa_nil)))
      (pss_cons (ps_set (i := 4) scPrices.nd rfl (Or.inl rfl) (pe_slice sl_list (pv 3) (po_some (pe_op op_sub (pe_callB cr_lenL (by rfl) T.b_len PySem.boot_len (pa_cons (pv 3) pa_nil)) (pv 2))) po_none))
      (pss_one (ps_ret (pe_call GA (hr.mono (by decide)) rfl DA.mg DA.F.kp DA.b .nil pass0 (pa_cons (pe_listRev rfl rfl T.b_list rfl T.b_reversed (pa_cons (pv 4) pa_nil)) pa_nil)))))), ?_⟩
    refine ⟨_, rfl, _, rfl, p, n, r, z, bs, rfl, hs, hn, hok, fun H2 s3 => ?_⟩
    refine ⟨_, rfl, _, rfl, p, n, r, z, bs, rfl, hs.mono s3, hz, fun H3 x s4 _ h4 _ => ?_⟩
    refine ⟨x, n, r, _, rfl, h4.sale, hn, hok.drop z, fun H4 y vs' s5 o5 => ?_⟩
    have lenV : vs'.length = n := (prs_len o5.prs).trans (metL_len _ _ _)
    have gl := gotL_le n r bs z
    have cut : ((vs'.map V.ref).length : Int) - (gotL n r bs z : Int) = ((n - gotL n r bs z : Nat) : Int) := by
      rw [List.length_map, lenV]
      omega
    refine ⟨_, rfl, _, rfl, y, _, rfl, SqL.of o5.lst, _, rfl, _, _, rfl, rfl, _, rfl, y, _, rfl, SqL.of o5.lst, fun a ha => ?_⟩
    rw [cut, cut_from _ (show n - gotL n r bs z ≤ (vs'.map V.ref).length by rw [List.length_map, lenV]; omega)]
    have s6 := same_new (o := .lst ((vs'.map V.ref).drop (n - gotL n r bs z))) ha
    refine ⟨_, rfl, a, _, rfl, SqL.of upd_same, fun b hb => ?_⟩
    have s7 := same_new (o := .lst ((vs'.map V.ref).drop (n - gotL n r bs z)).reverse) hb
    refine ⟨b, (vs'.drop (n - gotL n r bs z)).reverse, _, rfl, ⟨?_, prs_mono (s6.trans s7) (prs_reverse (prs_drop (n - gotL n r bs z) o5.prs))⟩, ?_, fun H6 c s8 h8 => ?_⟩
    · rw [upd_same, List.map_reverse, List.map_drop]
    · rw [List.length_reverse, List.length_drop, metL_len]
      omega
    · refine k H6 c (((((s3.trans s4).trans s5).trans s6).trans s7).trans s8) ?_
      rw [h8]
      unfold pricesL
      rw [metL_len]
/-! ### income_of -/
def spIncome (C : Addr) : Sp := fun vs H Q _ => ∃ (p : Addr) (n : Nat) (r : Int) (bs : Tb), vs = [.ref p] ∧ SaleOwn C H p n r bs ∧ n ≤ 60 ∧ TbOk n bs ∧ bs.length ≤ 1000 ∧ ∀ H' : Hp, Same H H' → Q (.int (incomeL n r bs)) H'
theorem scIncome : FnScope ["sale", "who"] ["sale"] (defScope s_income_of) := ⟨rfl, rfl, rfl, by decide +kernel, rfl, by decide +kernel, by decide +kernel⟩
theorem ok_income {f fP : Addr} {fd fdP : FuncData} (D : Dn K mg "income_of" s_income_of ["sale"] f fd) (T : TxS K mg CS) (DP : Dn K mg "payment_of" s_payment_of ["sale", "who"] fP fdP)
    (GP : FnOk P w K mg base CX0 7 fP fdP ["sale", "who"] (spPay CS)) : FnOk P w K mg base CX0 8 f fd ["sale"] (spIncome CS) := by
  refine D.F.ok scIncome (fun vs H Q E h => ?_) (fun cdv A outer s H vs Q E hr h => ?_)
  · obtain ⟨p, n, r, bs, rfl, _⟩ := h
    rfl
  · obtain ⟨p, n, r, bs, rfl, hs, hn, hok, hb, k⟩ := h
    obtain ⟨dx, d, kvs, hp, hd, ent⟩ := hs.ex
    refine ⟨_, pss_one (ps_ret (pe_callB (cr_sum rfl) (by rfl) T.b_sum PyProof.Rows.boot_sum (pa_cons (pe_lock (pe_lc rfl scIncome.nd (pi_keys (pe_fld (pv 0) rfl)) (blkOk_by (own := [("who", 1)]) (by show blkC ["sale", "who"] (defScope s_income_of) _ _ = true; decide +kernel))
        (fun _ _ _ _ _ => pg_name (i := 1) scIncome.nd rfl (Or.inl rfl)) (fun _ _ _ _ _ => pts_nil)
        (fun _ _ _ _ _ => pe_call GP hr rfl DP.mg DP.F.kp DP.b .nil pass0 (pa_cons (pv 0) (pa_cons (pv 1) pa_nil))))) pa_nil))), ?_⟩
    refine ⟨d, _, hd, trivial, fun od => ?_⟩
    have npd : p ≠ d := ne_of hp hd (by intro z; cases z)
    have sF : ∀ b o, H b = some o → b ≠ d → (upd H d (.frz od (.dK kvs))) b = some o := fun b o e ne => by rw [upd_ne ne]; exact e
    have entF : Paired (BidEnt (upd H d (.frz od (.dK kvs)))) kvs bs := ent_lock hd ent
    have saleF : SaleAt CS (upd H d (.frz od (.dK kvs))) p n r bs := ⟨dx, d, kvs, sF _ _ hp npd, .inr ⟨od, upd_same⟩, entF⟩
    refine ⟨_, rfl, p, CS, dx, _, _, rfl, sF _ _ hp npd, T.cl, T.nB, sf_b _ _ _, d, od, rfl, .inl ⟨kvs, upd_same, fun L hL => ?_⟩⟩
    have nLd : L ≠ d := fun z => by rw [z, upd_same] at hL; cases hL
    refine lc_keys (fun i H' => Same (upd H d (.frz od (.dK kvs))) H' ∧ H' L = some (.lst (((bs.take i).map fun b => paysL n r bs b.1).map V.int))) ⟨same_new hL, upd_same⟩ (fun i H' _ ⟨s1, _⟩ => s1 _ _ upd_same) ?_ ?_
    · rintro i key v H' hi ⟨s1, hL'⟩
      obtain ⟨b, hb', e1, _⟩ := ent_get ent hi
      have e1 : key = Sum.inl b.1 := e1
      subst e1
      have hbm : b ∈ bs := List.mem_of_getElem? hb'
      refine ⟨rfl, tyes ⟨_, rfl, _, rfl, p, n, r, b.1, bs, rfl, saleF.mono s1, hn, hok, by rw [lk_of_mem hok.nd (show (b.1, b.2) ∈ bs from hbm)]; rfl, fun H2 s2 => ?_⟩⟩
      refine ⟨_, s2 _ _ hL', ?_, same_upd (s1.trans s2) hL, ?_⟩
      · rw [List.length_map, List.length_map, List.length_take]
        exact fits (by omega)
      · rw [upd_same, take_snoc hb', List.map_append, List.map_append]; rfl
    · rintro H' ⟨s1, hL'⟩
      refine ⟨s1 _ _ upd_same, L, _, rfl, SqL.of (by rw [upd_ne nLd, hL', ent_len ent, List.take_length]), ?_⟩
      refine k _ fun b o e => ?_
      by_cases q : b = d
      · subst q
        rw [hd] at e
        cases e
        exact upd_same
      · rw [upd_ne q]
        exact s1 _ _ (sF b o e q)
end
end Ss
end
section
set_option Elab.async false
set_option linter.all false
set_option maxRecDepth 100000
set_option maxHeartbeats 4000000
namespace Ss
open PySem PySem.Spec PyProof.Rows L2
theorem iteD {A B : Prop} {c : Prop} [Decidable c] (h1 : c → A) (h2 : ¬ c → B) : if decide c = true then A else B := by
  by_cases h : c
  · rw [decide_eq_true h]; exact iteT (h1 h)
  · rw [decide_eq_false h]; exact iteF (h2 h)
theorem at_last {xs : List V} {v : V} (h : xs.getLast? = some v) : atI xs (-1) = some v := by
  have l1 : 1 ≤ xs.length := by
    cases xs with
    | nil => cases h
    | cons x xs => rw [List.length_cons]; omega
  unfold atI ixN
  rw [if_neg (by omega), if_pos (by omega)]
  rw [List.getLast?_eq_getElem?] at h
  have e : ((-1 : Int) + (xs.length : Int)).toNat = xs.length - 1 := by omega
  rw [e]
  exact h
theorem all_id {α : Type} (f : α → Bool) (l : List α) : (l.map f).all id = l.all f := by rw [List.all_map]; rfl
theorem rowL_of (n : Nat) (r : Int) (bs : Tb) (w : Nat) : rowL n r bs (w : Int) = ofW n r bs w := by
  unfold rowL ofW
  by_cases c : w = 0
  · rw [if_pos c, if_pos (by omega)]
  · rw [if_neg c, if_neg (by omega)]
theorem nines_of : nines = (List.range 9).map fun (j : Nat) => (j : Int) := rfl
section
variable {P : Program} {w : World} {K : PySem.W.Frag} {mg : Str → Option Value} {base : Heap} {CS : Addr}
/-! ### told_of -/
def spTold (C : Addr) : Sp := fun vs H Q _ => ∃ (p : Addr) (n : Nat) (r z : Int) (bs : Tb), vs = [.ref p, .int z] ∧ SaleAt C H p n r bs ∧ n ≤ 60 ∧ TbOk n bs ∧ ∀ H' : Hp, Same H H' → Q (.int (toldL n r bs z)) H'
theorem scTold : FnScope ["sale", "who"] ["sale", "who"] (defScope s_told_of) := ⟨rfl, rfl, rfl, by decide +kernel, rfl, by decide +kernel, by decide +kernel⟩
theorem ok_told {f fM fO fA : Addr} {fd fdM fdO fdA : FuncData} (D : Dn K mg "told_of" s_told_of ["sale", "who"] f fd) (T : TxS K mg CS) (DM : Dn K mg "met_offers" s_met_offers ["sale"] fM fdM) (DO : Dn K mg "own_of" s_own_of ["offers", "who"] fO fdO) (DA : Dn K mg "amounts_of" s_amounts_of ["offers"] fA fdA)
    (GM : FnOk P w K mg base CX0 5 fM fdM ["sale"] (spMet CS)) : FnOk P w K mg base CX0 6 f fd ["sale", "who"] (spTold CS) := by
  have GO : FnOk P w K mg base CX0 1 fO fdO ["offers", "who"] (spOwn fun a z => decide (a = z)) := ok_own DO
  have GA : FnOk P w K mg base CX0 1 fA fdA ["offers"] spAm := ok_am DA
  refine D.F.ok scTold (fun vs H Q E h => ?_) (fun cdv A outer s H vs Q E hr h => ?_)
  · obtain ⟨p, n, r, z, bs, rfl, _⟩ := h
    rfl
  · obtain ⟨p, n, r, z, bs, rfl, hs, hn, hok, k⟩ := h
    refine ⟨_, pss_one (ps_ret (pe_callB (cr_sum rfl) (by rfl) T.b_sum PyProof.Rows.boot_sum (pa_cons (pe_call GA (hr.mono (by decide)) rfl DA.mg DA.F.kp DA.b .nil pass0 (pa_cons (pe_call GO (hr.mono (by decide)) rfl DO.mg DO.F.kp DO.b .nil pass0 (pa_cons (pe_call GM hr rfl DM.mg DM.F.kp DM.b .nil pass0 (pa_cons (pv 0) pa_nil)) (pa_cons (pv 1) pa_nil))) pa_nil)) pa_nil))), ?_⟩
    refine ⟨_, rfl, p, n, r, bs, rfl, hs, hn, hok, fun H1 q ts s1 o1 => ?_⟩
    refine ⟨_, rfl, q, ts, _, _, rfl, o1, metL_1000 r bs hn, fun H2 l us s2 o2 => ?_⟩
    refine ⟨l, us, _, rfl, o2, Nat.le_trans (List.length_filter_le _ _) (metL_1000 r bs hn), fun H3 m s3 hm => ?_⟩
    exact ⟨m, _, rfl, SqL.of hm, k H3 ((s1.trans s2).trans s3)⟩
/-! ### least_met -/
def spLeast (C : Addr) : Sp := fun vs H Q _ => ∃ (p : Addr) (n : Nat) (r : Int) (bs : Tb), vs = [.ref p] ∧ SaleAt C H p n r bs ∧ 1 ≤ n ∧ n ≤ 60 ∧ TbOk n bs ∧ ∀ (H' : Hp) (x : Int × Int), (metL n r bs).getLast? = some x → Same H H' → Q (.int x.2) H'
theorem scLeast : FnScope ["sale"] ["sale"] (defScope s_least_met) := ⟨rfl, rfl, rfl, by decide +kernel, rfl, by decide +kernel, by decide +kernel⟩
theorem ok_least {f fM fA : Addr} {fd fdM fdA : FuncData} (D : Dn K mg "least_met" s_least_met ["sale"] f fd) (DM : Dn K mg "met_offers" s_met_offers ["sale"] fM fdM) (DA : Dn K mg "amounts_of" s_amounts_of ["offers"] fA fdA)
    (GM : FnOk P w K mg base CX0 5 fM fdM ["sale"] (spMet CS)) : FnOk P w K mg base CX0 6 f fd ["sale"] (spLeast CS) := by
  have GA : FnOk P w K mg base CX0 1 fA fdA ["offers"] spAm := ok_am DA
  refine D.F.ok scLeast (fun vs H Q E h => ?_) (fun cdv A outer s H vs Q E hr h => ?_)
  · obtain ⟨p, n, r, bs, rfl, _⟩ := h
    rfl
  · obtain ⟨p, n, r, bs, rfl, hs, n1, hn, hok, k⟩ := h
    obtain ⟨x, hx, _⟩ := met_at_last (r := r) (bs := bs) n1
    refine ⟨_, pss_one (ps_ret (pe_ix ix_list (pe_call GA (hr.mono (by decide)) rfl DA.mg DA.F.kp DA.b .nil pass0 (pa_cons (pe_call GM hr rfl DM.mg DM.F.kp DM.b .nil pass0 (pa_cons (pv 0) pa_nil)) pa_nil)) (pe_un un_neg pe_int) (fun _ _ => rfl))), ?_⟩
    refine ⟨_, rfl, p, n, r, bs, rfl, hs, hn, hok, fun H1 q ts s1 o1 => ?_⟩
    refine ⟨q, ts, _, rfl, o1, metL_1000 r bs hn, fun H2 l s2 hl => ?_⟩
    refine ⟨_, rfl, l, _, _, _, rfl, rfl, SqL.of hl, at_last (v := .int x.2) ?_, k H2 x hx (s1.trans s2)⟩
    rw [List.getLast?_map, List.getLast?_map, hx]; rfl
/-! ### proves -/
def spPrv : Sp := fun vs H Q _ => ∃ (c : Int) (l : Addr) (row : List Int) (g : Nat), vs = [.int c, .ref l, .int (g : Int)] ∧ H l = some (.lst (row.map V.int)) ∧ row.length ≤ 1000 ∧ ∀ H' : Hp, Same H H' → Q (.bl (fineL c row g)) H'
theorem scPrv : FnScope ["price", "row", "got", "for_got", "for_others", "amount"] ["price", "row", "got"] (defScope s_proves) := ⟨rfl, rfl, rfl, by decide +kernel, rfl, by decide +kernel, by decide +kernel⟩
theorem ok_prv {f : Addr} {fd : FuncData} (D : Dn K mg "proves" s_proves ["price", "row", "got"] f fd) (T : TxS K mg CS) : FnOk P w K mg base CX0 1 f fd ["price", "row", "got"] spPrv := by
  refine D.F.ok scPrv (fun vs H Q E h => ?_) (fun cdv A outer s H vs Q E hr h => ?_)
  · obtain ⟨c, l, row, g, rfl, _⟩ := h
    rfl
  · obtain ⟨c, l, row, g, rfl, hl, hlen, k⟩ := h
    refine ⟨_, pss_cons (ps_if (pt_cmpR op_gt (pv 2) (pe_callB cr_lenL (by rfl) T.b_len PySem.boot_len (pa_cons (pv 1) pa_nil)) (nomark _)) (pss_one (ps_ret pe_bl)) pss_nil)
      (pss_cons (ps_set (i := 3) scPrv.nd rfl (Or.inl rfl) (pe_slice sl_list (pv 1) po_none (po_some (pv 2))))
      (pss_cons (ps_set (i := 4) scPrv.nd rfl (Or.inl rfl) (pe_slice sl_list (pv 1) (po_some (pv 2)) po_none))
      (pss_one (ps_ret (pe_and
        (pe_callB (cr_all rfl) (by rfl) T.b_all PyProof.Rows.boot_all (pa_cons (pe_lc rfl scPrv.nd (pi_list (pv 3)) (blkOk_by (own := [("amount", 5)]) (by show blkC ["price", "row", "got", "for_got", "for_others", "amount"] (defScope s_proves) _ _ = true; decide +kernel))
          (fun _ _ _ _ _ => pg_name (i := 5) scPrv.nd rfl (Or.inl rfl)) (fun _ _ _ _ _ => pts_nil) (fun _ _ _ _ _ => pe_cmpR op_ge (pv 5) (pv 0) (nomark _))) pa_nil))
        (pe_one (pe_callB (cr_all rfl) (by rfl) T.b_all PyProof.Rows.boot_all (pa_cons (pe_lc rfl scPrv.nd (pi_list (pv 4)) (blkOk_by (own := [("amount", 5)]) (by show blkC ["price", "row", "got", "for_got", "for_others", "amount"] (defScope s_proves) _ _ = true; decide +kernel))
          (fun _ _ _ _ _ => pg_name (i := 5) scPrv.nd rfl (Or.inl rfl)) (fun _ _ _ _ _ => pts_nil) (fun _ _ _ _ _ => pe_cmpR op_le (pv 5) (pv 0) (nomark _))) pa_nil)))))))), ?_⟩
    refine ⟨_, rfl, _, rfl, l, _, rfl, SqL.of hl, _, _, rfl, rfl, _, rfl, iteD (fun c1 => ?_) (fun c1 => ?_)⟩
    · rw [List.length_map] at c1
      have q := k H (Same.refl H)
      unfold fineL at q
      rw [decide_eq_false (show ¬ g ≤ row.length by omega), Bool.false_and, Bool.and_false] at q
      exact q
    · rw [List.length_map] at c1
      have gl : g ≤ row.length := by omega
      unfold fineL at k
      rw [decide_eq_true gl, Bool.true_and] at k
      refine ⟨_, rfl, _, rfl, _, rfl, l, _, rfl, SqL.of hl, fun a ha => ?_⟩
      rw [cut_to, ← List.map_take]
      have s1 := same_new (o := .lst ((row.take g).map V.int)) ha
      refine ⟨_, rfl, _, rfl, _, rfl, l, _, rfl, SqL.of (s1 _ _ hl), fun b hb => ?_⟩
      rw [cut_from _ (show g ≤ (row.map V.int).length by rw [List.length_map]; exact gl), ← List.map_drop]
      have s2 := same_new (o := .lst ((row.drop g).map V.int)) hb
      refine ⟨_, rfl, a, rfl, ⟨_, SqL.of (s2 _ _ upd_same)⟩, fun L hL => ?_⟩
      refine lc_list (K := K) (a := a) (xs := (row.take g).map V.int) (fun i H' => Same (upd (upd H a (.lst ((row.take g).map V.int))) b (.lst ((row.drop g).map V.int))) H' ∧ H' L = some (.lst ((((row.take g).take i).map fun x => decide (c ≤ x)).map V.bl))) ⟨same_new hL, upd_same⟩ (fun i H' _ ⟨s3, _⟩ => SqL.of (s3 _ _ (s2 _ _ upd_same))) ?_ ?_
      · rintro i x H' hx ⟨s3, hL'⟩
        obtain ⟨y, hy, rfl⟩ := ge_map hx
        refine ⟨rfl, tyes ⟨_, rfl, _, rfl, _, _, rfl, rfl, _, hL', ?_, same_upd s3 hL, ?_⟩⟩
        · rw [List.length_map, List.length_map, List.length_take, List.length_take]
          exact fits (by omega)
        · rw [upd_same, take_snoc hy, List.map_append, List.map_append]; rfl
      · rintro H' ⟨s3, hL'⟩
        rw [List.length_map, List.take_length] at hL'
        refine ⟨L, _, rfl, SqL.of hL', _, rfl, ?_⟩
        rw [all_id]
        have s13 := (s1.trans s2).trans s3
        by_cases c2 : ((row.take g).all fun x => decide (c ≤ x)) = true
        · rw [c2, Bool.true_and] at k
          rw [c2]
          refine iteT ?_
          refine ⟨_, rfl, b, rfl, ⟨_, SqL.of (s3 _ _ upd_same)⟩, fun M hM => ?_⟩
          refine lc_list (K := K) (a := b) (xs := (row.drop g).map V.int) (fun i H'' => Same H' H'' ∧ H'' M = some (.lst ((((row.drop g).take i).map fun x => decide (x ≤ c)).map V.bl))) ⟨same_new hM, upd_same⟩ (fun i H'' _ ⟨s4, _⟩ => SqL.of (s4 _ _ (s3 _ _ upd_same))) ?_ ?_
          · rintro i x H'' hx ⟨s4, hM'⟩
            obtain ⟨y, hy, rfl⟩ := ge_map hx
            refine ⟨rfl, tyes ⟨_, rfl, _, rfl, _, _, rfl, rfl, _, hM', ?_, same_upd s4 hM, ?_⟩⟩
            · rw [List.length_map, List.length_map, List.length_take, List.length_drop]
              exact fits (by omega)
            · rw [upd_same, take_snoc hy, List.map_append, List.map_append]; rfl
          · rintro H'' ⟨s4, hM'⟩
            rw [List.length_map, List.take_length] at hM'
            refine ⟨M, _, rfl, SqL.of hM', ?_⟩
            rw [all_id]
            exact k H'' (s13.trans s4)
        · have c2 : ((row.take g).all fun x => decide (c ≤ x)) = false := by simpa using c2
          rw [c2, Bool.false_and] at k
          rw [c2]
          exact iteF (k H' s13)
end
end Ss
end
section
set_option Elab.async false
set_option linter.all false
set_option maxRecDepth 100000
set_option maxHeartbeats 4000000
namespace Ss
open PySem PySem.Spec PyProof.Rows L2
def fineAt (n : Nat) (r : Int) (bs : Tb) (sp : List Int) (c z : Int) : Bool := fineL c (rowL n r bs z) (sp.getD z.toNat 0).toNat
theorem showsL_of (n : Nat) (r : Int) (bs : Tb) (sp : List Int) (c : Int) (h : sp.sum = (n : Int)) : nines.all (fineAt n r bs sp c) = showsL n r bs sp c := by
  unfold showsL
  rw [decide_eq_true h, Bool.true_and, nines_of, List.all_map]
  refine congrArg (fun f => (List.range 9).all f) (funext fun (j : Nat) => ?_)
  show fineL c (rowL n r bs (j : Int)) (sp.getD ((j : Int)).toNat 0).toNat = _
  rw [rowL_of, Int.toNat_natCast]
section
variable {P : Program} {w : World} {K : PySem.W.Frag} {mg : Str → Option Value} {base : Heap} {CS : Addr}
/-! ### shows_split -/
def spShw (C : Addr) : Sp := fun vs H Q _ => ∃ (p l : Addr) (n : Nat) (r c : Int) (bs : Tb) (sp : List Int), vs = [.ref p, .int c, .ref l] ∧ SaleAt C H p n r bs ∧ H l = some (.lst (sp.map V.int)) ∧ n ≤ 60 ∧ TbOk n bs ∧ sp.length = 9 ∧ (∀ x ∈ sp, 0 ≤ x) ∧ ∀ H' : Hp, Same H H' → Q (.bl (showsL n r bs sp c)) H'
theorem scShw : FnScope ["sale", "price", "split", "who"] ["sale", "price", "split"] (defScope s_shows_split) := ⟨rfl, rfl, rfl, by decide +kernel, rfl, by decide +kernel, by decide +kernel⟩
theorem ok_shw {f fB fR fP : Addr} {fd fdB fdR fdP : FuncData} (D : Dn K mg "shows_split" s_shows_split ["sale", "price", "split"] f fd) (T : TxS K mg CS) (DB : Dn K mg "bidders" s_bidders [] fB fdB) (DR : Dn K mg "row_of" s_row_of ["sale", "who"] fR fdR) (DP : Dn K mg "proves" s_proves ["price", "row", "got"] fP fdP) :
    FnOk P w K mg base CX0 2 f fd ["sale", "price", "split"] (spShw CS) := by
  have GB : FnOk P w K mg base CX0 1 fB fdB [] spBidders := ok_bidders DB T
  have GR : FnOk P w K mg base CX0 1 fR fdR ["sale", "who"] (spRowOf CS) := ok_rowOf DR T
  have GP : FnOk P w K mg base CX0 1 fP fdP ["price", "row", "got"] spPrv := ok_prv DP T
  obtain ⟨th, hgH⟩ := T.gH
  refine D.F.ok scShw (fun vs H Q E h => ?_) (fun cdv A outer s H vs Q E hr h => ?_)
  · obtain ⟨p, l, n, r, c, bs, sp, rfl, _⟩ := h
    rfl
  · obtain ⟨p, l, n, r, c, bs, sp, rfl, hs, hl, hn, hok, hsp, h0, k⟩ := h
    obtain ⟨dx, d, kvs, hp, hB⟩ := hs.ex
    refine ⟨_, pss_cons (ps_if (pt_cmpR op_ne (pe_callB (cr_sum rfl) (by rfl) T.b_sum PyProof.Rows.boot_sum (pa_cons (pv 2) pa_nil)) (pe_fld (pv 0) rfl) (nomark _)) (pss_one (ps_ret pe_bl)) pss_nil)
      (pss_one (ps_ret (pe_callB (cr_all rfl) (by rfl) T.b_all PyProof.Rows.boot_all (pa_cons (pe_lc rfl scShw.nd (pi_list (pe_op op_cat (pe_lst (pa_cons (pe_glob (v := .int 0) rfl hgH ⟨_, rfl⟩) pa_nil)) (pe_call0 GB hr rfl DB.mg DB.F.kp DB.b .nil pass0))) (blkOk_by (own := [("who", 3)]) (by show blkC ["sale", "price", "split", "who"] (defScope s_shows_split) _ _ = true; decide +kernel))
        (fun _ _ _ _ _ => pg_name (i := 3) scShw.nd rfl (Or.inl rfl)) (fun _ _ _ _ _ => pts_nil)
        (fun _ _ _ _ _ => pe_call GP hr rfl DP.mg DP.F.kp DP.b .nil pass0 (pa_cons (pv 1) (pa_cons (pe_call GR hr rfl DR.mg DR.F.kp DR.b .nil pass0 (pa_cons (pv 0) (pa_cons (pv 3) pa_nil))) (pa_cons (pe_ix (r := rIxL K) ix_list (pv 2) (pv 3) (fun _ _ => rfl)) pa_nil))))) pa_nil)))), ?_⟩
    refine ⟨_, rfl, l, _, rfl, SqL.of hl, _, rfl, p, CS, dx, _, _, rfl, hp, T.cl, T.nS, sf_s _ _ _, rfl, _, rfl, ?_⟩
    by_cases c1 : sp.sum = (n : Int)
    · rw [decide_eq_true (show V.int sp.sum = V.int (n : Int) by rw [c1])]
      refine iteF ?_
      refine ⟨(by show 1 ≤ sizeLine; decide), fun lh hlh => ⟨rfl, fun H2 lb s3 nlb hlb => ?_⟩⟩
      have s2 := same_new (o := .lst [.int 0]) hlh
      refine ⟨lh, lb, _, _, rfl, rfl, s3 _ _ upd_same, hlb, (by show 9 ≤ sizeLine; decide), fun lw hlw => ?_⟩
      have s4 := same_new (o := .lst (nines.map V.int)) hlw
      have s14 := (s2.trans s3).trans s4
      refine ⟨lw, rfl, ⟨_, SqL.of upd_same⟩, fun L hL => ?_⟩
      refine lc_list (K := K) (a := lw) (xs := nines.map V.int) (fun i H' => Same (upd H2 lw (.lst (nines.map V.int))) H' ∧ H' L = some (.lst (((nines.take i).map (fineAt n r bs sp c)).map V.bl))) ⟨same_new hL, upd_same⟩ (fun i H' _ ⟨s5, _⟩ => SqL.of (s5 _ _ upd_same)) ?_ ?_
      · rintro i x H' hx ⟨s5, hL'⟩
        obtain ⟨z, hz, rfl⟩ := ge_map hx
        obtain ⟨j, hj, rfl⟩ := ge_map (show ((List.range 9).map fun (j : Nat) => (j : Int))[i]? = some z from hz)
        have j9 : j < 9 := List.mem_range.mp (List.mem_of_getElem? hj)
        have s6 := s14.trans s5
        have gj : (sp.map V.int)[j]? = some (.int (sp.getD j 0)) := by rw [List.getElem?_map, List.getD_eq_getElem?_getD, List.getElem?_eq_getElem (show j < sp.length by omega)]; rfl
        have nn : 0 ≤ sp.getD j 0 := by
          rw [List.getD_eq_getElem?_getD, List.getElem?_eq_getElem (show j < sp.length by omega)]
          exact h0 _ (List.getElem_mem _)
        refine ⟨rfl, tyes ⟨_, rfl, _, rfl, _, rfl, p, n, r, (j : Int), bs, rfl, hs.mono s6, hn, fun H3 lr s7 hlr => ?_⟩⟩
        refine ⟨_, rfl, _, rfl, l, _, _, _, rfl, rfl, SqL.of (s7 _ _ (s6 _ _ hl)), at_of (j := j) rfl gj, ?_⟩
        refine ⟨c, lr, rowL n r bs (j : Int), (sp.getD j 0).toNat, by rw [Int.toNat_of_nonneg nn]; rfl, hlr, Nat.le_trans (rowL_len hok r _) (by omega), fun H4 s8 => ?_⟩
        refine ⟨_, s8 _ _ (s7 _ _ hL'), ?_, same_upd ((s5.trans s7).trans s8) hL, ?_⟩
        · rw [List.length_map, List.length_map, List.length_take]
          exact fits (Nat.le_trans (Nat.min_le_right _ _) (by decide))
        · rw [upd_same, take_snoc hz, List.map_append, List.map_append]; rfl
      · rintro H' ⟨s5, hL'⟩
        refine ⟨L, nines.map (fineAt n r bs sp c), rfl, SqL.of hL', ?_⟩
        rw [all_id, showsL_of n r bs sp c c1]
        exact k H' (s14.trans s5)
    · rw [decide_eq_false (fun e => c1 (V.int.inj e))]
      refine iteT ?_
      have q := k H (Same.refl H)
      unfold showsL at q
      rw [decide_eq_false c1, Bool.false_and] at q
      exact q
/-! ### wanted_of -/
def spWan (C : Addr) : Sp := fun vs H Q _ => ∃ (p : Addr) (n : Nat) (r z c : Int) (bs : Tb), vs = [.ref p, .int z, .int c] ∧ SaleAt C H p n r bs ∧ n ≤ 60 ∧ TbOk n bs ∧ z ≠ 0 ∧ ∀ H' : Hp, Same H H' → Q (.int (wantedL n r bs z c : Int)) H'
theorem scWan : FnScope ["sale", "who", "price", "others", "offer"] ["sale", "who", "price"] (defScope s_wanted_of) := ⟨rfl, rfl, rfl, by decide +kernel, rfl, by decide +kernel, by decide +kernel⟩
theorem ok_wan {f fA fO : Addr} {fd fdA fdO : FuncData} (D : Dn K mg "wanted_of" s_wanted_of ["sale", "who", "price"] f fd) (T : TxS K mg CS) (DA : Dn K mg "all_offers" s_all_offers ["sale"] fA fdA) (DO : Dn K mg "others_of" s_others_of ["offers", "who"] fO fdO)
    (GA : FnOk P w K mg base CX0 2 fA fdA ["sale"] (spAll K CS)) : FnOk P w K mg base CX0 3 f fd ["sale", "who", "price"] (spWan CS) := by
  have GO : FnOk P w K mg base CX0 1 fO fdO ["offers", "who"] (spOwn fun a z => !decide (a = z)) := ok_oth DO
  refine D.F.ok scWan (fun vs H Q E h => ?_) (fun cdv A outer s H vs Q E hr h => ?_)
  · obtain ⟨p, n, r, z, c, bs, rfl, _⟩ := h
    rfl
  · obtain ⟨p, n, r, z, c, bs, rfl, hs, hn, hok, hz, k⟩ := h
    refine ⟨_, pss_cons (ps_set (i := 3) scWan.nd rfl (Or.inl rfl) (pe_call GO (hr.mono (by decide)) rfl DO.mg DO.F.kp DO.b .nil pass0 (pa_cons (pe_call GA hr rfl DA.mg DA.F.kp DA.b .nil pass0 (pa_cons (pv 0) pa_nil)) (pa_cons (pv 1) pa_nil))))
      (pss_one (ps_ret (pe_callB cr_lenL (by rfl) T.b_len PySem.boot_len (pa_cons (pe_lc rfl scWan.nd (pi_list (pv 3)) (blkOk_by (own := [("offer", 4)]) (by show blkC ["sale", "who", "price", "others", "offer"] (defScope s_wanted_of) _ _ = true; decide +kernel)) (fun _ _ _ _ _ => pg_name (i := 4) scWan.nd rfl (Or.inl rfl))
        (fun _ _ _ _ _ => pts_one (pt_cmpR op_gt (pe_ix (r := rIxT K) ix_tup (pv 4) pe_int (fun _ _ => rfl)) (pv 2) (nomark _))) (fun _ _ _ _ _ => pv 4)) pa_nil)))), ?_⟩
    refine ⟨_, rfl, p, n, r, bs, rfl, hs, hn, hok, fun H1 q ts s1 o1 => ?_⟩
    have l540 := (offersL_len r hok hn).2
    refine ⟨_, rfl, q, ts, _, _, rfl, o1, by omega, fun H2 m us s2 o2 => ?_⟩
    rw [← drop_offers hz] at o2
    have lenD : (offersL n r (dropB bs z)).length ≤ 540 := (offersL_len r (hok.drop z) hn).2
    refine ⟨_, rfl, m, rfl, ⟨_, SqL.of o2.lst⟩, fun L hL => ?_⟩
    refine lc_list (K := K) (a := m) (xs := us.map V.ref) (fun i H' => Same H2 H' ∧ ∃ vs, OffAt H' L vs (((offersL n r (dropB bs z)).take i).filter fun o => decide (c < o.2))) ⟨same_new hL, [], upd_same, .nil⟩ (fun i H' _ ⟨s3, _⟩ => SqL.of (s3 _ _ o2.lst)) ?_ ?_
    · rintro i x H' hx ⟨s3, vs', o3⟩
      obtain ⟨t, ht, rfl⟩ := ge_map hx
      obtain ⟨y, hy, hyt⟩ := prs_get o2.prs ht
      have len : vs'.length ≤ 1000 := by
        rw [prs_len o3.prs]
        refine Nat.le_trans (List.length_filter_le _ _) ?_
        rw [List.length_take]
        omega
      refine ⟨rfl, _, rfl, t, _, _, _, rfl, rfl, SqT.of (s3 _ _ hyt), at_of (j := 1) rfl rfl, _, rfl, _, _, rfl, rfl, _, rfl, iteD (fun c1 => ?_) (fun c1 => ?_)⟩
      · refine ⟨_, rfl, _, o3.lst, ?_, same_upd s3 hL, vs' ++ [t], ?_⟩
        · rw [List.length_map]; exact fits (by omega)
        · rw [filter_take_in hy (decide_eq_true c1)]
          exact o3.more (s3 _ _ hyt)
      · refine ⟨s3, vs', ?_⟩
        rw [filter_take_out hy (by simpa using c1)]
        exact o3
    · rintro H' ⟨s3, vs', o3⟩
      rw [List.length_map, prs_len o2.prs, List.take_length] at o3
      refine ⟨L, _, rfl, SqL.of o3.lst, ?_⟩
      rw [List.length_map, prs_len o3.prs]
      exact k H' ((s1.trans s2).trans s3)
/-! ### gain_of -/
def spGain (C : Addr) : Sp := fun vs H Q _ => ∃ (p l : Addr) (n : Nat) (r z : Int) (bs : Tb) (tr : List Int), vs = [.ref p, .int z, .ref l] ∧ SaleAt C H p n r bs ∧ H l = some (.lst (tr.map V.int)) ∧ n ≤ 60 ∧ TbOk n bs ∧ (lk bs z).isSome = true ∧ ∀ H' : Hp, Same H H' → Q (.int (gainL n r bs z tr)) H'
theorem scGain : FnScope ["sale", "who", "truth"] ["sale", "who", "truth"] (defScope s_gain_of) := ⟨rfl, rfl, rfl, by decide +kernel, rfl, by decide +kernel, by decide +kernel⟩
theorem ok_gain {f fG fP : Addr} {fd fdG fdP : FuncData} (D : Dn K mg "gain_of" s_gain_of ["sale", "who", "truth"] f fd) (T : TxS K mg CS) (DG : Dn K mg "got_by" s_got_by ["sale", "who"] fG fdG) (DP : Dn K mg "payment_of" s_payment_of ["sale", "who"] fP fdP)
    (GG : FnOk P w K mg base CX0 6 fG fdG ["sale", "who"] (spGot CS)) (GP : FnOk P w K mg base CX0 7 fP fdP ["sale", "who"] (spPay CS)) : FnOk P w K mg base CX0 8 f fd ["sale", "who", "truth"] (spGain CS) := by
  refine D.F.ok scGain (fun vs H Q E h => ?_) (fun cdv A outer s H vs Q E hr h => ?_)
  · obtain ⟨p, l, n, r, z, bs, tr, rfl, _⟩ := h
    rfl
  · obtain ⟨p, l, n, r, z, bs, tr, rfl, hs, hl, hn, hok, hz, k⟩ := h
    refine ⟨_, pss_one (ps_ret (pe_op op_sub (pe_callB (cr_sum rfl) (by rfl) T.b_sum PyProof.Rows.boot_sum (pa_cons (pe_slice sl_list (pv 2) po_none (po_some (pe_call GG (hr.mono (by decide)) rfl DG.mg DG.F.kp DG.b .nil pass0 (pa_cons (pv 0) (pa_cons (pv 1) pa_nil))))) pa_nil))
      (pe_call GP hr rfl DP.mg DP.F.kp DP.b .nil pass0 (pa_cons (pv 0) (pa_cons (pv 1) pa_nil))))), ?_⟩
    refine ⟨_, rfl, _, rfl, _, rfl, p, n, r, z, bs, rfl, hs, hn, hok, fun H1 s1 => ?_⟩
    refine ⟨_, rfl, l, _, rfl, SqL.of (s1 _ _ hl), fun a ha => ?_⟩
    rw [cut_to, ← List.map_take]
    have s2 := s1.trans (same_new (o := .lst ((tr.take (gotL n r bs z)).map V.int)) ha)
    refine ⟨a, _, rfl, SqL.of upd_same, _, rfl, _, rfl, p, n, r, z, bs, rfl, hs.mono s2, hn, hok, hz, fun H2 s3 => ?_⟩
    exact ⟨_, _, rfl, rfl, k H2 (s2.trans s3)⟩
end
end Ss
end
section
set_option Elab.async false
set_option linter.all false
set_option maxRecDepth 100000
set_option maxHeartbeats 4000000
namespace Ss
open PySem PySem.Spec PyProof.Rows L2
/-- all that was tracked but a stands as it was -/
def But (a : Addr) (H H' : Hp) : Prop := ∀ b o, H b = some o → b ≠ a → H' b = some o
theorem But.trans {a : Addr} {H H1 H2 : Hp} (x : But a H H1) (y : But a H1 H2) : But a H H2 := fun b o e n => y b o (x b o e n) n
theorem Same.but {H H' : Hp} (s : Same H H') (a : Addr) : But a H H' := fun b o e _ => s b o e
theorem But.upd {H : Hp} {a : Addr} {o : HO} : But a H (upd H a o) := fun b u e n => by rw [upd_ne n]; exact e
/-- a list of the top -/
def StatL (K : PySem.W.Frag) (a : Addr) (xs : List V) : Prop := ∀ H : Hp, SqL K H a xs
/-- the list at c isn't the object at a, or it's one of the top's -/
def Sep (K : PySem.W.Frag) (c : Addr) (xs : List V) (a : Addr) : Prop := c ≠ a ∨ StatL K c xs
theorem Sep.new {K : PySem.W.Frag} {H : Hp} {c a : Addr} {xs : List V} (h : SqL K H c xs) (n : H a = none) : Sep K c xs a := by
  rcases h with (h | ⟨o, h⟩) | h
  · exact .inl (ne_of_none h n)
  · exact .inl (ne_of_none h n)
  · exact .inr fun _ => .inr h
theorem But.seq {K : PySem.W.Frag} {a c : Addr} {H H' : Hp} {xs : List V} (s : But a H H') (h : SqL K H c xs) (ne : Sep K c xs a) : SqL K H' c xs := by
  rcases ne with ne | st
  · rcases h with (h | ⟨o, h⟩) | h
    · exact .inl (.inl (s _ _ h ne))
    · exact .inl (.inr ⟨o, s _ _ h ne⟩)
    · exact .inr h
  · exact st H'
/-- a method of the text -/
structure Md (K : PySem.W.Frag) (C : Addr) (x qual : Str) (st : Stmt) (ps : List Str) (f : Addr) (fd : FuncData) : Prop where
  F : Fun K x qual st f fd
  m : Meth K C x f
  b : Binds K fd ps []
/-! ### Reader -/
def rf (a : Addr) (i : Int) : List (Str × V) := putF "at" (.int i) (putF "calls" (.ref a) [])
theorem rf_at (a : Addr) (i : Int) : (rf a i).lookup ("at" : Str) = some (.int i) := by unfold rf; rw [lookup_putF, if_pos rfl]
theorem rf_calls (a : Addr) (i : Int) : (rf a i).lookup ("calls" : Str) = some (.ref a) := by unfold rf; rw [lookup_putF, if_neg (by decide), lookup_putF, if_pos rfl]
theorem rf_no (a : Addr) (i : Int) {m : Str} (h1 : ¬ m = "at") (h2 : ¬ m = "calls") : (rf a i).lookup m = none := by unfold rf; rw [lookup_putF, if_neg h1, lookup_putF, if_neg h2]; rfl
theorem rf_put (a : Addr) (i j : Int) : putF "at" (.int j) (rf a i) = rf a j := by
  unfold rf
  show putF "at" (.int j) (if ("calls" : Str) = "at" then _ else [(("calls" : Str), V.ref a), ("at", V.int i)]) = (if ("calls" : Str) = "at" then _ else [(("calls" : Str), V.ref a), ("at", V.int j)])
  rw [if_neg (by decide), if_neg (by decide)]
  show (if ("calls" : Str) = "at" then _ else (("calls" : Str), V.ref a) :: (if ("at" : Str) = "at" then [(("at" : Str), V.int j)] else _)) = _
  rw [if_neg (by decide), if_pos rfl]
structure TxR (K : PySem.W.Frag) (mg : Str → Option Value) (CR : Addr) : Prop where
  cl : Cls K CR
  nC : NoAttr K CR "calls"
  nA : NoAttr K CR "at"
  mgR : mg "Reader" = some (.ref CR)
  b_len : mg "len" = none
/-- the reader at p stands at the i-th number of the list at a -/
def ReadAt (C : Addr) (H : Hp) (p a : Addr) (i : Nat) : Prop := ∃ dx, H p = some (.ins C dx (rf a (i : Int)))
section
variable {P : Program} {w : World} {K : PySem.W.Frag} {mg : Str → Option Value} {base : Heap} {CR : Addr}
def spRI (C : Addr) : Sp := fun vs H Q _ => ∃ (p dx a : Addr), vs = [.ref p, .ref a] ∧ H p = some (.ins C dx []) ∧ ∀ H' : Hp, ReadAt C H' p a 0 → But p H H' → Q .non H'
theorem scRI : FnScope ["self", "calls"] ["self", "calls"] (defScope s_Reader_init) := ⟨rfl, rfl, rfl, by decide +kernel, rfl, by decide +kernel, by decide +kernel⟩
theorem ok_RI {f : Addr} {fd : FuncData} (F : Fun K "__init__" "Reader.__init__" s_Reader_init f fd) (T : TxR K mg CR) : FnOk P w K mg base CX0 1 f fd ["self", "calls"] (spRI CR) := by
  refine F.ok scRI (fun vs H Q E h => ?_) (fun cdv A outer s H vs Q E hr h => ?_)
  · obtain ⟨p, dx, a, rfl, _⟩ := h
    rfl
  · obtain ⟨p, dx, a, rfl, hp, k⟩ := h
    refine ⟨_, pss_cons (ps_fld (pv 0) (pv 1) rfl) (pss_one (ps_fld (pv 0) pe_int rfl)), ?_⟩
    refine ⟨_, rfl, _, rfl, p, CR, dx, _, rfl, hp, T.cl, T.nC, (by show 0 < 1000; decide), ?_⟩
    refine ⟨_, rfl, p, CR, dx, _, rfl, upd_same, T.cl, T.nA, (by show 1 < 1000; decide), ?_⟩
    exact k _ ⟨dx, upd_same⟩ fun b o e hb => by rw [upd_ne hb, upd_ne hb]; exact e
def spDone (K : PySem.W.Frag) (C : Addr) : Sp := fun vs H Q _ => ∃ (p a : Addr) (i : Nat) (ns : List Int), vs = [.ref p] ∧ ReadAt C H p a i ∧ SqL K H a (ns.map V.int) ∧ Q (.bl (decide ((ns.length : Int) ≤ (i : Int)))) H
theorem scDone : FnScope ["self"] ["self"] (defScope s_Reader_done) := ⟨rfl, rfl, rfl, by decide +kernel, rfl, by decide +kernel, by decide +kernel⟩
theorem ok_done {f : Addr} {fd : FuncData} (M : Md K CR "done" "Reader.done" s_Reader_done ["self"] f fd) (T : TxR K mg CR) : FnOk P w K mg base CX0 1 f fd ["self"] (spDone K CR) := by
  refine M.F.ok scDone (fun vs H Q E h => ?_) (fun cdv A outer s H vs Q E hr h => ?_)
  · obtain ⟨p, a, i, ns, rfl, _⟩ := h
    rfl
  · obtain ⟨p, a, i, ns, rfl, ⟨dx, hp⟩, ha, k⟩ := h
    refine ⟨_, pss_one (ps_ret (pe_cmpR op_ge (pe_fld (pv 0) rfl) (pe_callB cr_lenL (by rfl) T.b_len PySem.boot_len (pa_cons (pe_fld (pv 0) rfl) pa_nil)) (nomark _))), ?_⟩
    refine ⟨_, rfl, p, CR, dx, _, _, rfl, hp, T.cl, T.nA, rf_at _ _, _, rfl, p, CR, dx, _, _, rfl, hp, T.cl, T.nC, rf_calls _ _, a, _, rfl, ha, _, _, rfl, rfl, ?_⟩
    rw [List.length_map]
    exact k
def spNum (K : PySem.W.Frag) (C : Addr) : Sp := fun vs H Q _ => ∃ (p a : Addr) (i : Nat) (ns : List Int) (z : Int), vs = [.ref p] ∧ ReadAt C H p a i ∧ SqL K H a (ns.map V.int) ∧ Sep K a (ns.map V.int) p ∧ ns[i]? = some z ∧ ∀ H' : Hp, ReadAt C H' p a (i + 1) → But p H H' → Q (.int z) H'
theorem scNum : FnScope ["self"] ["self"] (defScope s_Reader_number) := ⟨rfl, rfl, rfl, by decide +kernel, rfl, by decide +kernel, by decide +kernel⟩
theorem ok_num {f : Addr} {fd : FuncData} (M : Md K CR "number" "Reader.number" s_Reader_number ["self"] f fd) (T : TxR K mg CR) : FnOk P w K mg base CX0 1 f fd ["self"] (spNum K CR) := by
  refine M.F.ok scNum (fun vs H Q E h => ?_) (fun cdv A outer s H vs Q E hr h => ?_)
  · obtain ⟨p, a, i, ns, z, rfl, _⟩ := h
    rfl
  · obtain ⟨p, a, i, ns, z, rfl, ⟨dx, hp⟩, ha, ne, hz, k⟩ := h
    refine ⟨_, pss_cons (ps_fld (pv 0) (pe_op op_add (pe_fld (pv 0) rfl) pe_int) rfl) (pss_one (ps_ret (pe_ix ix_list (pe_fld (pv 0) rfl) (pe_op op_sub (pe_fld (pv 0) rfl) pe_int) (fun _ _ => rfl)))), ?_⟩
    refine ⟨_, rfl, p, CR, dx, _, _, rfl, hp, T.cl, T.nA, rf_at _ _, _, _, rfl, rfl, _, rfl, p, CR, dx, _, rfl, hp, T.cl, T.nA, (by show 2 < 1000; decide), ?_⟩
    rw [rf_put]
    have e : (i : Int) + 1 = ((i + 1 : Nat) : Int) := by omega
    rw [e]
    refine ⟨_, rfl, p, CR, dx, _, _, rfl, upd_same, T.cl, T.nC, rf_calls _ _, _, rfl, p, CR, dx, _, _, rfl, upd_same, T.cl, T.nA, rf_at _ _, _, _, rfl, rfl, a, _, _, _, rfl, rfl, But.seq But.upd ha ne, at_of (j := i) (by omega) (by rw [List.getElem?_map, hz]; rfl), ?_⟩
    exact k _ ⟨dx, upd_same⟩ But.upd
def spNums (K : PySem.W.Frag) (C : Addr) : Sp := fun vs H Q _ => ∃ (p a : Addr) (i m : Nat) (ns : List Int), vs = [.ref p, .int (m : Int)] ∧ ReadAt C H p a i ∧ SqL K H a (ns.map V.int) ∧ Sep K a (ns.map V.int) p ∧ i + m ≤ ns.length ∧
  ∀ (H' : Hp) (l : Addr), ReadAt C H' p a (i + m) → But p H H' → H l = none → H' l = some (.lst (((ns.drop i).take m).map V.int)) → Q (.ref l) H'
theorem scNums : FnScope ["self", "how_many", "begin"] ["self", "how_many"] (defScope s_Reader_numbers) := ⟨rfl, rfl, rfl, by decide +kernel, rfl, by decide +kernel, by decide +kernel⟩
theorem cut_mid (xs : List V) {i m : Nat} (h : i + m ≤ xs.length) : cutV xs (some (i : Int)) (some ((i + m : Nat) : Int)) = (xs.drop i).take m := by
  unfold cutV
  rw [HT.sIx_nat, HT.sIx_nat, Nat.min_eq_left (show i ≤ xs.length by omega), Nat.min_eq_left h, Nat.add_sub_cancel_left]
theorem ok_nums {f : Addr} {fd : FuncData} (M : Md K CR "numbers" "Reader.numbers" s_Reader_numbers ["self", "how_many"] f fd) (T : TxR K mg CR) : FnOk P w K mg base CX0 1 f fd ["self", "how_many"] (spNums K CR) := by
  refine M.F.ok scNums (fun vs H Q E h => ?_) (fun cdv A outer s H vs Q E hr h => ?_)
  · obtain ⟨p, a, i, m, ns, rfl, _⟩ := h
    rfl
  · obtain ⟨p, a, i, m, ns, rfl, ⟨dx, hp⟩, ha, ne, hm, k⟩ := h
    refine ⟨_, pss_cons (ps_set (i := 2) scNums.nd rfl (Or.inl rfl) (pe_fld (pv 0) rfl)) (pss_cons (ps_fld (pv 0) (pe_op op_add (pv 2) (pv 1)) rfl) (pss_one (ps_ret (pe_slice sl_list (pe_fld (pv 0) rfl) (po_some (pv 2)) (po_some (pe_fld (pv 0) rfl)))))), ?_⟩
    refine ⟨_, rfl, p, CR, dx, _, _, rfl, hp, T.cl, T.nA, rf_at _ _, ?_⟩
    refine ⟨_, rfl, _, rfl, _, _, rfl, rfl, _, rfl, p, CR, dx, _, rfl, hp, T.cl, T.nA, (by show 2 < 1000; decide), ?_⟩
    rw [rf_put]
    have e : (i : Int) + (m : Int) = ((i + m : Nat) : Int) := by omega
    rw [e]
    refine ⟨_, rfl, p, CR, dx, _, _, rfl, upd_same, T.cl, T.nC, rf_calls _ _, _, rfl, _, rfl, _, rfl, p, CR, dx, _, _, rfl, upd_same, T.cl, T.nA, rf_at _ _, _, rfl, a, _, rfl, But.seq But.upd ha ne, fun l hl => ?_⟩
    have npl : p ≠ l := fun z => by rw [← z, upd_same] at hl; cases hl
    have hl0 : H l = none := by rw [upd_ne (Ne.symm npl)] at hl; exact hl
    refine k _ l ⟨dx, by rw [upd_ne npl, upd_same]⟩ (But.trans But.upd (Same.but (same_new hl) p)) hl0 ?_
    rw [upd_same, cut_mid _ (by rw [List.length_map]; exact hm), List.map_take, List.map_drop]
def spRow (K : PySem.W.Frag) (C : Addr) : Sp := fun vs H Q _ => ∃ (p a : Addr) (i m : Nat) (ns : List Int), vs = [.ref p] ∧ ReadAt C H p a i ∧ SqL K H a (ns.map V.int) ∧ Sep K a (ns.map V.int) p ∧ ns[i]? = some (m : Int) ∧ i + 1 + m ≤ ns.length ∧
  ∀ (H' : Hp) (l : Addr), ReadAt C H' p a (i + 1 + m) → But p H H' → H l = none → H' l = some (.lst (((ns.drop (i + 1)).take m).map V.int)) → Q (.ref l) H'
theorem scRow : FnScope ["self", "how_many"] ["self"] (defScope s_Reader_row) := ⟨rfl, rfl, rfl, by decide +kernel, rfl, by decide +kernel, by decide +kernel⟩
theorem ok_row {f fN fM : Addr} {fd fdN fdM : FuncData} (M : Md K CR "row" "Reader.row" s_Reader_row ["self"] f fd) (T : TxR K mg CR) (MN : Md K CR "number" "Reader.number" s_Reader_number ["self"] fN fdN) (MM : Md K CR "numbers" "Reader.numbers" s_Reader_numbers ["self", "how_many"] fM fdM) :
    FnOk P w K mg base CX0 2 f fd ["self"] (spRow K CR) := by
  have GN : FnOk P w K mg base CX0 1 fN fdN ["self"] (spNum K CR) := ok_num MN T
  have GM : FnOk P w K mg base CX0 1 fM fdM ["self", "how_many"] (spNums K CR) := ok_nums MM T
  refine M.F.ok scRow (fun vs H Q E h => ?_) (fun cdv A outer s H vs Q E hr h => ?_)
  · obtain ⟨p, a, i, m, ns, rfl, _⟩ := h
    rfl
  · obtain ⟨p, a, i, m, ns, rfl, ⟨dx, hp⟩, ha, ne, hm, hl, k⟩ := h
    refine ⟨_, pss_cons (ps_set (i := 1) scRow.nd rfl (Or.inl rfl) (pe_meth0 (pv 0) T.cl MN.m GN hr MN.b .nil pass0)) (pss_one (ps_ret (pe_meth (pv 0) T.cl MM.m GM hr MM.b .nil pass0 (pa_cons (pv 1) pa_nil)))), ?_⟩
    refine ⟨_, rfl, p, dx, _, rfl, hp, rf_no _ _ (by decide) (by decide), p, a, i, ns, _, rfl, ⟨dx, hp⟩, ha, ne, hm, fun H1 r1 b1 => ?_⟩
    obtain ⟨dx1, hp1⟩ := id r1
    refine ⟨_, rfl, p, dx1, _, rfl, hp1, rf_no _ _ (by decide) (by decide), _, rfl, p, a, i + 1, m, ns, rfl, r1, b1.seq ha ne, ne, hl, fun H2 l r2 b2 n2 h2 => ?_⟩
    refine k H2 l r2 (b1.trans b2) ?_ h2
    cases q : H l with
    | none => rfl
    | some o =>
      by_cases z : l = p
      · rw [z, hp1] at n2; cases n2
      · rw [b1 l o q z] at n2; cases n2
end
end Ss
end
section
set_option Elab.async false
set_option linter.all false
set_option maxRecDepth 100000
set_option maxHeartbeats 4000000
namespace Ss
open PySem PySem.Spec PyProof.Rows L2
/-- a whole number of the top -/
def GI (mg : Str → Option Value) (x : Str) (z : Int) : Prop := ∃ t, mg x = some (.int z t)
structure TxH (mg : Str → Option Value) : Prop where
  slices : GI mg "MOST_SLICES" 60
  amount : GI mg "MOST_AMOUNT" 1000000000
  bidders : GI mg "BIDDERS" 8
  noRef : GI mg "NO_REFUSAL" 0
  slBey : GI mg "SLICES_BEYOND" (-1)
  reBey : GI mg "RESERVE_BEYOND" (-2)
  whoBey : GI mg "WHO_BEYOND" (-1)
  noBid : GI mg "NO_BID" (-2)
  tooMany : GI mg "TOO_MANY_OFFERS" (-3)
  ofBey : GI mg "OFFER_BEYOND" (-4)
  ofRise : GI mg "OFFER_RISES" (-5)
  spBey : GI mg "SPLIT_BEYOND" (-3)
  trBey : GI mg "TRUTH_BEYOND" (-3)
  ifBey : GI mg "IFBID_TRUTH_BEYOND" (-6)
  noSl : GI mg "NO_SLICES" (-7)
  sl0 : GI mg "SLICES" 0
  b_len : mg "len" = none
  b_any : mg "any" = none
  b_all : mg "all" = none
  b_range : mg "range" = none
  b_sorted : mg "sorted" = none
section
variable {P : Program} {w : World} {K : PySem.W.Frag} {mg : Str → Option Value} {base : Heap} {CS : Addr}
/-! ### is_amount -/
def spAmt : Sp := fun vs H Q _ => ∃ z : Int, vs = [.int z] ∧ Q (.bl (Vbchag.small z)) H
theorem scAmt : FnScope ["number"] ["number"] (defScope s_is_amount) := ⟨rfl, rfl, rfl, by decide +kernel, rfl, by decide +kernel, by decide +kernel⟩
theorem ok_amt {f : Addr} {fd : FuncData} (D : Dn K mg "is_amount" s_is_amount ["number"] f fd) (T : TxH mg) : FnOk P w K mg base CX0 1 f fd ["number"] spAmt := by
  obtain ⟨t1, h1⟩ := T.amount
  refine D.F.ok scAmt (fun vs H Q E h => ?_) (fun cdv A outer s H vs Q E hr h => ?_)
  · obtain ⟨z, rfl, _⟩ := h
    rfl
  · obtain ⟨z, rfl, k⟩ := h
    refine ⟨_, pss_one (ps_ret (pe_chain op_le op_le (pe_un un_neg (pe_glob (v := .int 1000000000) rfl h1 ⟨_, rfl⟩)) (pv 0) (pe_glob (v := .int 1000000000) rfl h1 ⟨_, rfl⟩))), ?_⟩
    rw [small_iff] at k
    refine ⟨_, rfl, _, rfl, _, _, rfl, rfl, _, rfl, iteD (fun c1 => ⟨_, _, rfl, rfl, ?_⟩) (fun c1 => ?_)⟩
    · show Q (.bl (decide (z ≤ 1000000000))) H
      by_cases c2 : z ≤ 1000000000
      · rw [decide_eq_true (show -1000000000 ≤ z ∧ z ≤ 1000000000 from ⟨c1, c2⟩)] at k
        rw [decide_eq_true c2]; exact k
      · rw [decide_eq_false (show ¬ (-1000000000 ≤ z ∧ z ≤ 1000000000) from fun q => c2 q.2)] at k
        rw [decide_eq_false c2]; exact k
    · rw [decide_eq_false (show ¬ (-1000000000 ≤ z ∧ z ≤ 1000000000) from fun q => c1 q.1)] at k
      exact k
/-! ### rises -/
def spRise (K : PySem.W.Frag) : Sp := fun vs H Q _ => ∃ (l : Addr) (os : List Int), vs = [.ref l] ∧ SqL K H l (os.map V.int) ∧ os.length ≤ 1000 ∧ ∀ H' : Hp, Same H H' → Q (.bl (!Vbchag.falling os)) H'
theorem scRise : FnScope ["offers", "k"] ["offers"] (defScope s_rises) := ⟨rfl, rfl, rfl, by decide +kernel, rfl, by decide +kernel, by decide +kernel⟩
theorem ok_rise {f : Addr} {fd : FuncData} (D : Dn K mg "rises" s_rises ["offers"] f fd) (T : TxH mg) : FnOk P w K mg base CX0 1 f fd ["offers"] (spRise K) := by
  refine D.F.ok scRise (fun vs H Q E h => ?_) (fun cdv A outer s H vs Q E hr h => ?_)
  · obtain ⟨l, os, rfl, _⟩ := h
    rfl
  · obtain ⟨l, os, rfl, hl, ho, k⟩ := h
    refine ⟨_, pss_one (ps_ret (pe_callB (cr_any rfl) (by rfl) T.b_any PyProof.Rows.boot_any (pa_cons (pe_lc rfl scRise.nd (pi_range2 rfl T.b_range (pa_cons pe_int (pa_cons (pe_callB cr_lenL (by rfl) T.b_len PySem.boot_len (pa_cons (pv 0) pa_nil)) pa_nil)))
      (blkOk_by (own := [("k", 1)]) (by show blkC ["offers", "k"] (defScope s_rises) _ _ = true; decide +kernel)) (fun _ _ _ _ _ => pg_name (i := 1) scRise.nd rfl (Or.inl rfl)) (fun _ _ _ _ _ => pts_nil)
      (fun _ _ _ _ _ => pe_cmpR op_gt (pe_ix (r := rIxL K) ix_list (pv 0) (pv 1) (fun _ _ => rfl)) (pe_ix (r := rIxL K) ix_list (pv 0) (pe_op op_sub (pv 1) pe_int) (fun _ _ => rfl)) (nomark _))) pa_nil))), ?_⟩
    refine ⟨_, rfl, l, _, rfl, hl, 1, _, rfl, ⟨by decide, by decide, ?_, ?_⟩, fun L hL => ?_⟩
    · rw [List.length_map]; omega
    · rw [List.length_map]; omega
    · have en : (((os.map V.int).length : Int) - 1).toNat = os.length - 1 := by rw [List.length_map]; omega
      rw [en]
      refine lc_range (lo := 1) (n := os.length - 1) (fun i H' => Same H H' ∧ H' L = some (.lst (((ups os).take i).map V.bl))) ⟨same_new hL, upd_same⟩ ?_ ?_
      · rintro i H' hi ⟨s1, hL'⟩
        have g0 : (os.map V.int)[i]? = some (.int (os.getD i 0)) := by rw [List.getElem?_map, List.getD_eq_getElem?_getD, List.getElem?_eq_getElem (show i < os.length by omega)]; rfl
        have g1 : (os.map V.int)[i + 1]? = some (.int (os.getD (i + 1) 0)) := by rw [List.getElem?_map, List.getD_eq_getElem?_getD, List.getElem?_eq_getElem (show i + 1 < os.length by omega)]; rfl
        refine ⟨rfl, tyes ⟨_, rfl, _, rfl, l, _, _, _, rfl, rfl, s1.seq hl, at_of (j := i + 1) (by omega) g1, _, rfl, _, rfl, _, _, rfl, rfl, l, _, _, _, rfl, rfl, s1.seq hl, at_of (j := i) (by omega) g0, _, _, rfl, rfl, _, hL', ?_, same_upd s1 hL, ?_⟩⟩
        · rw [List.length_map, List.length_take]
          exact fits (by omega)
        · have hu : (ups os)[i]? = some (decide (os.getD i 0 < os.getD (i + 1) 0)) := by
            unfold ups
            rw [List.getElem?_map, List.getElem?_range hi]; rfl
          rw [upd_same, take_snoc hu, List.map_append]; rfl
      · rintro H' ⟨s1, hL'⟩
        have lu : (ups os).length = os.length - 1 := by unfold ups; rw [List.length_map, List.length_range]
        rw [← lu, List.take_length] at hL'
        refine ⟨L, ups os, rfl, SqL.of hL', ?_⟩
        rw [ups_any]
        exact k H' s1
/-! ### bid_refusal -/
def spRef (K : PySem.W.Frag) (C : Addr) : Sp := fun vs H Q _ => ∃ (p l : Addr) (n : Nat) (r z : Int) (bs : Tb) (os : List Int), vs = [.ref p, .int z, .ref l] ∧ SaleAt C H p n r bs ∧ SqL K H l (os.map V.int) ∧ os.length ≤ 1000 ∧ ∀ H' : Hp, Same H H' → Q (.int (refusal n z os)) H'
theorem scRef : FnScope ["sale", "who", "offers", "offer"] ["sale", "who", "offers"] (defScope s_bid_refusal) := ⟨rfl, rfl, rfl, by decide +kernel, rfl, by decide +kernel, by decide +kernel⟩
theorem ok_ref {f fA fR : Addr} {fd fdA fdR : FuncData} (D : Dn K mg "bid_refusal" s_bid_refusal ["sale", "who", "offers"] f fd) (T : TxH mg) (TS : TxS K mg CS) (DA : Dn K mg "is_amount" s_is_amount ["number"] fA fdA) (DR : Dn K mg "rises" s_rises ["offers"] fR fdR) :
    FnOk P w K mg base CX0 2 f fd ["sale", "who", "offers"] (spRef K CS) := by
  have GA : FnOk P w K mg base CX0 1 fA fdA ["number"] spAmt := ok_amt DA T
  have GR : FnOk P w K mg base CX0 1 fR fdR ["offers"] (spRise K) := ok_rise DR T
  obtain ⟨t1, h1⟩ := T.bidders
  obtain ⟨t2, h2⟩ := T.whoBey
  obtain ⟨t3, h3⟩ := T.tooMany
  obtain ⟨t4, h4⟩ := T.ofBey
  obtain ⟨t5, h5⟩ := T.ofRise
  obtain ⟨t6, h6⟩ := T.noRef
  refine D.F.ok scRef (fun vs H Q E h => ?_) (fun cdv A outer s H vs Q E hr h => ?_)
  · obtain ⟨p, l, n, r, z, bs, os, rfl, _⟩ := h
    rfl
  · obtain ⟨p, l, n, r, z, bs, os, rfl, hs, hl, ho, k⟩ := h
    obtain ⟨dx, d, kvs, hp, hB⟩ := hs.ex
    unfold refusal Vbchag.wrongOffers at k
    rw [within_iff] at k
    refine ⟨_, pss_cons (ps_if (pt_not (pt_chain op_le op_le pe_int (pv 1) (pe_glob (v := .int 8) rfl h1 ⟨_, rfl⟩))) (pss_one (ps_ret (pe_glob (v := .int (-1)) rfl h2 ⟨_, rfl⟩))) pss_nil)
      (pss_cons (ps_if (pt_cmpR op_gt (pe_callB cr_lenL (by rfl) T.b_len PySem.boot_len (pa_cons (pv 2) pa_nil)) (pe_fld (pv 0) rfl) (nomark _)) (pss_one (ps_ret (pe_glob (v := .int (-3)) rfl h3 ⟨_, rfl⟩))) pss_nil)
      (pss_cons (ps_if (pt_not (pt_truth (pe_callB (cr_all rfl) (by rfl) T.b_all PyProof.Rows.boot_all (pa_cons (pe_lc rfl scRef.nd (pi_list (pv 2)) (blkOk_by (own := [("offer", 3)]) (by show blkC ["sale", "who", "offers", "offer"] (defScope s_bid_refusal) _ _ = true; decide +kernel))
          (fun _ _ _ _ _ => pg_name (i := 3) scRef.nd rfl (Or.inl rfl)) (fun _ _ _ _ _ => pts_nil) (fun _ _ _ _ _ => pe_call GA hr rfl DA.mg DA.F.kp DA.b .nil pass0 (pa_cons (pv 3) pa_nil))) pa_nil)) (fun _ => rfl))) (pss_one (ps_ret (pe_glob (v := .int (-4)) rfl h4 ⟨_, rfl⟩))) pss_nil)
      (pss_cons (ps_if (pt_truth (pe_call GR hr rfl DR.mg DR.F.kp DR.b .nil pass0 (pa_cons (pv 2) pa_nil)) (fun _ => rfl)) (pss_one (ps_ret (pe_glob (v := .int (-5)) rfl h5 ⟨_, rfl⟩))) pss_nil)
      (pss_one (ps_ret (pe_glob (v := .int 0) rfl h6 ⟨_, rfl⟩)))))), ?_⟩
    -- 1 <= who <= BIDDERS
    have far : ¬ (1 ≤ z ∧ z ≤ 8) → Q (.int (-1)) H := fun c => by
      have q := k H (Same.refl H)
      rw [if_pos (show decide (((1 : Nat) : Int) ≤ z ∧ z ≤ ((Vbchag.BIDDERS : Nat) : Int)) = false from decide_eq_false c)] at q
      exact q
    refine ⟨_, rfl, _, _, rfl, rfl, _, rfl, iteD (fun c1 => ⟨_, _, rfl, rfl, _, rfl, ?_⟩) (fun c1 => ⟨_, rfl, iteT (far fun q => c1 q.1)⟩)⟩
    by_cases c2 : z ≤ 8
    · rw [if_neg (show ¬ decide (((1 : Nat) : Int) ≤ z ∧ z ≤ ((Vbchag.BIDDERS : Nat) : Int)) = false by rw [decide_eq_true (show ((1 : Nat) : Int) ≤ z ∧ z ≤ ((Vbchag.BIDDERS : Nat) : Int) from ⟨c1, c2⟩)]; decide)] at k
      rw [decide_eq_true c2]
      refine iteF ?_
      -- len(offers) > sale.slices
      refine ⟨_, rfl, l, _, rfl, hl, _, rfl, p, CS, dx, _, _, rfl, hp, TS.cl, TS.nS, sf_s _ _ _, _, _, rfl, rfl, _, rfl, iteD (fun c3 => ?_) (fun c3 => ?_)⟩
      · rw [List.length_map] at c3
        rw [if_pos (show n < os.length by omega)] at k
        exact k H (Same.refl H)
      · rw [List.length_map] at c3
        rw [if_neg (show ¬ n < os.length by omega)] at k
        -- all([is_amount(offer) for offer in offers])
        refine ⟨_, rfl, l, rfl, ⟨_, hl⟩, fun L hL => ?_⟩
        refine lc_list (K := K) (a := l) (xs := os.map V.int) (fun i H' => Same H H' ∧ H' L = some (.lst (((os.take i).map Vbchag.small).map V.bl))) ⟨same_new hL, upd_same⟩ (fun i H' _ ⟨s1, _⟩ => s1.seq hl) ?_ ?_
        · rintro i x H' hx ⟨s1, hL'⟩
          obtain ⟨y, hy, rfl⟩ := ge_map hx
          refine ⟨rfl, tyes ⟨_, rfl, y, rfl, _, hL', ?_, same_upd s1 hL, ?_⟩⟩
          · rw [List.length_map, List.length_map, List.length_take]
            exact fits (by omega)
          · rw [upd_same, take_snoc hy, List.map_append, List.map_append]; rfl
        · rintro H' ⟨s1, hL'⟩
          rw [List.length_map, List.take_length] at hL'
          refine ⟨L, os.map Vbchag.small, rfl, SqL.of hL', _, rfl, ?_⟩
          have ea : (os.map Vbchag.small).any id = os.any Vbchag.small := by rw [List.any_map]; rfl
          have eb : (os.map Vbchag.small).all id = os.all Vbchag.small := by rw [List.all_map]; rfl
          rw [eb]
          by_cases c4 : os.all Vbchag.small = true
          · rw [c4]
            rw [if_neg (show ¬ os.all Vbchag.small = false by rw [c4]; decide)] at k
            refine iteF ?_
            -- rises(offers)
            refine ⟨_, rfl, l, os, rfl, s1.seq hl, ho, fun H2 s2 => ⟨_, rfl, ?_⟩⟩
            have s3 := s1.trans s2
            by_cases c5 : Vbchag.falling os = true
            · rw [c5]
              rw [if_neg (show ¬ Vbchag.falling os = false by rw [c5]; decide)] at k
              refine iteF ?_
              exact k H2 s3
            · have c5 : Vbchag.falling os = false := by simpa using c5
              rw [c5]
              rw [if_pos c5] at k
              refine iteT ?_
              exact k H2 s3
          · have c4 : os.all Vbchag.small = false := by simpa using c4
            rw [c4]
            rw [if_pos c4] at k
            refine iteT ?_
            exact k H' s1
    · rw [decide_eq_false c2]
      exact iteT (far fun q => c2 q.2)
/-! ### is_split, is_truth -/
theorem le60 (x : Int) : (if decide (0 ≤ x) = true then decide (x ≤ 60) else false) = decide (0 ≤ x ∧ x ≤ 60) := by
  by_cases a : 0 ≤ x
  · by_cases b : x ≤ 60
    · rw [decide_eq_true a, if_pos rfl, decide_eq_true b, decide_eq_true ⟨a, b⟩]
    · rw [decide_eq_true a, if_pos rfl, decide_eq_false b, decide_eq_false fun q => b q.2]
  · rw [decide_eq_false a, if_neg (by decide), decide_eq_false fun q => a q.1]
def spIsSp : Sp := fun vs H Q _ => ∃ (l : Addr) (sp : List Int), vs = [.ref l] ∧ H l = some (.lst (sp.map V.int)) ∧ sp.length ≤ 1000 ∧ ∀ H' : Hp, Same H H' → Q (.bl (splitOk sp)) H'
theorem scIsSp : FnScope ["numbers", "number"] ["numbers"] (defScope s_is_split) := ⟨rfl, rfl, rfl, by decide +kernel, rfl, by decide +kernel, by decide +kernel⟩
theorem ok_isSp {f : Addr} {fd : FuncData} (D : Dn K mg "is_split" s_is_split ["numbers"] f fd) (T : TxH mg) : FnOk P w K mg base CX0 1 f fd ["numbers"] spIsSp := by
  obtain ⟨t1, h1⟩ := T.bidders
  obtain ⟨t2, h2⟩ := T.slices
  refine D.F.ok scIsSp (fun vs H Q E h => ?_) (fun cdv A outer s H vs Q E hr h => ?_)
  · obtain ⟨l, sp, rfl, _⟩ := h
    rfl
  · obtain ⟨l, sp, rfl, hl, hlen, k⟩ := h
    refine ⟨_, pss_one (ps_ret (pe_and (pe_cmpR op_eq (pe_callB cr_lenL (by rfl) T.b_len PySem.boot_len (pa_cons (pv 0) pa_nil)) (pe_op op_add (pe_glob (v := .int 8) rfl h1 ⟨_, rfl⟩) pe_int) (nomark _))
      (pe_one (pe_callB (cr_all rfl) (by rfl) T.b_all PyProof.Rows.boot_all (pa_cons (pe_lc rfl scIsSp.nd (pi_list (pv 0)) (blkOk_by (own := [("number", 1)]) (by show blkC ["numbers", "number"] (defScope s_is_split) _ _ = true; decide +kernel))
        (fun _ _ _ _ _ => pg_name (i := 1) scIsSp.nd rfl (Or.inl rfl)) (fun _ _ _ _ _ => pts_nil) (fun _ _ _ _ _ => pe_chain op_le op_le pe_int (pv 1) (pe_glob (v := .int 60) rfl h2 ⟨_, rfl⟩))) pa_nil))))), ?_⟩
    refine ⟨_, rfl, l, _, rfl, SqL.of hl, _, _, rfl, rfl, rfl, _, rfl, ?_⟩
    unfold splitOk at k
    by_cases c : sp.length = 9
    · rw [decide_eq_true c, Bool.true_and] at k
      rw [decide_eq_true (show V.int ((sp.map V.int).length : Int) = V.int (8 + 1) by rw [List.length_map, c]; rfl)]
      refine iteT ?_
      refine ⟨_, rfl, l, rfl, ⟨_, SqL.of hl⟩, fun L hL => ?_⟩
      refine lc_list (K := K) (a := l) (xs := sp.map V.int) (fun i H' => Same H H' ∧ H' L = some (.lst (((sp.take i).map fun x => decide (0 ≤ x ∧ x ≤ 60)).map V.bl))) ⟨same_new hL, upd_same⟩ (fun i H' _ ⟨s1, _⟩ => SqL.of (s1 _ _ hl)) ?_ ?_
      · rintro i x H' hx ⟨s1, hL'⟩
        obtain ⟨y, hy, rfl⟩ := ge_map hx
        have fin : ∀ b : Bool, b = decide (0 ≤ y ∧ y ≤ 60) → ∃ acc, H' L = some (.lst acc) ∧ acc.length < sizeLine ∧ Same H (upd H' L (.lst (acc ++ [.bl b]))) ∧ (upd H' L (.lst (acc ++ [.bl b]))) L = some (.lst (((sp.take (i + 1)).map fun x => decide (0 ≤ x ∧ x ≤ 60)).map V.bl)) := fun b e => by
          refine ⟨_, hL', ?_, same_upd s1 hL, ?_⟩
          · rw [List.length_map, List.length_map, List.length_take]
            exact fits (by omega)
          · rw [upd_same, take_snoc hy, List.map_append, List.map_append, e]; rfl
        refine ⟨rfl, tyes ⟨_, rfl, _, _, rfl, rfl, _, rfl, iteD (fun c1 => ⟨_, _, rfl, rfl, ?_⟩) (fun c1 => ?_)⟩⟩
        · refine fin (decide (y ≤ 60)) ?_
          rw [← le60, decide_eq_true c1, if_pos rfl]
        · refine fin false ?_
          rw [← le60, decide_eq_false c1]; rfl
      · rintro H' ⟨s1, hL'⟩
        rw [List.length_map, List.take_length] at hL'
        refine ⟨L, _, rfl, SqL.of hL', ?_⟩
        rw [all_id]
        exact k H' s1
    · rw [decide_eq_false c, Bool.false_and] at k
      rw [decide_eq_false (show ¬ V.int ((sp.map V.int).length : Int) = V.int (8 + 1) from fun e => by have q := V.int.inj e; rw [List.length_map] at q; omega)]
      exact iteF (k H (Same.refl H))
def spIsTr (C : Addr) : Sp := fun vs H Q _ => ∃ (p l : Addr) (n : Nat) (r : Int) (bs : Tb) (tr : List Int), vs = [.ref p, .ref l] ∧ SaleAt C H p n r bs ∧ H l = some (.lst (tr.map V.int)) ∧ tr.length ≤ 1000 ∧ ∀ H' : Hp, Same H H' → Q (.bl (truthOk n tr)) H'
theorem scIsTr : FnScope ["sale", "numbers", "number"] ["sale", "numbers"] (defScope s_is_truth) := ⟨rfl, rfl, rfl, by decide +kernel, rfl, by decide +kernel, by decide +kernel⟩
theorem ok_isTr {f fA : Addr} {fd fdA : FuncData} (D : Dn K mg "is_truth" s_is_truth ["sale", "numbers"] f fd) (T : TxH mg) (TS : TxS K mg CS) (DA : Dn K mg "is_amount" s_is_amount ["number"] fA fdA) : FnOk P w K mg base CX0 2 f fd ["sale", "numbers"] (spIsTr CS) := by
  have GA : FnOk P w K mg base CX0 1 fA fdA ["number"] spAmt := ok_amt DA T
  refine D.F.ok scIsTr (fun vs H Q E h => ?_) (fun cdv A outer s H vs Q E hr h => ?_)
  · obtain ⟨p, l, n, r, bs, tr, rfl, _⟩ := h
    rfl
  · obtain ⟨p, l, n, r, bs, tr, rfl, hs, hl, hlen, k⟩ := h
    obtain ⟨dx, d, kvs, hp, hB⟩ := hs.ex
    refine ⟨_, pss_one (ps_ret (pe_and (pe_cmpR op_eq (pe_callB cr_lenL (by rfl) T.b_len PySem.boot_len (pa_cons (pv 1) pa_nil)) (pe_fld (pv 0) rfl) (nomark _))
      (pe_one (pe_callB (cr_all rfl) (by rfl) T.b_all PyProof.Rows.boot_all (pa_cons (pe_lc rfl scIsTr.nd (pi_list (pv 1)) (blkOk_by (own := [("number", 2)]) (by show blkC ["sale", "numbers", "number"] (defScope s_is_truth) _ _ = true; decide +kernel))
        (fun _ _ _ _ _ => pg_name (i := 2) scIsTr.nd rfl (Or.inl rfl)) (fun _ _ _ _ _ => pts_nil) (fun _ _ _ _ _ => pe_call GA hr rfl DA.mg DA.F.kp DA.b .nil pass0 (pa_cons (pv 2) pa_nil))) pa_nil))))), ?_⟩
    refine ⟨_, rfl, l, _, rfl, SqL.of hl, _, rfl, p, CS, dx, _, _, rfl, hp, TS.cl, TS.nS, sf_s _ _ _, rfl, _, rfl, ?_⟩
    unfold truthOk at k
    by_cases c : tr.length = n
    · rw [decide_eq_true c, Bool.true_and] at k
      rw [decide_eq_true (show V.int ((tr.map V.int).length : Int) = V.int (n : Int) by rw [List.length_map, c])]
      refine iteT ?_
      refine ⟨_, rfl, l, rfl, ⟨_, SqL.of hl⟩, fun L hL => ?_⟩
      refine lc_list (K := K) (a := l) (xs := tr.map V.int) (fun i H' => Same H H' ∧ H' L = some (.lst (((tr.take i).map Vbchag.small).map V.bl))) ⟨same_new hL, upd_same⟩ (fun i H' _ ⟨s1, _⟩ => SqL.of (s1 _ _ hl)) ?_ ?_
      · rintro i x H' hx ⟨s1, hL'⟩
        obtain ⟨y, hy, rfl⟩ := ge_map hx
        refine ⟨rfl, tyes ⟨_, rfl, y, rfl, _, hL', ?_, same_upd s1 hL, ?_⟩⟩
        · rw [List.length_map, List.length_map, List.length_take]
          exact fits (by omega)
        · rw [upd_same, take_snoc hy, List.map_append, List.map_append]; rfl
      · rintro H' ⟨s1, hL'⟩
        rw [List.length_map, List.take_length] at hL'
        refine ⟨L, _, rfl, SqL.of hL', ?_⟩
        rw [all_id]
        exact k H' s1
    · rw [decide_eq_false c, Bool.false_and] at k
      rw [decide_eq_false (show ¬ V.int ((tr.map V.int).length : Int) = V.int (n : Int) from fun e => by have q := V.int.inj e; rw [List.length_map] at q; omega)]
      exact iteF (k H (Same.refl H))
end
end Ss
end
section
set_option Elab.async false
set_option linter.all false
set_option maxRecDepth 100000
set_option maxHeartbeats 4000000
namespace Ss
open PySem PySem.Spec PyProof.Rows L2
/-! ### the house -/
abbrev HSt := Option (Nat × Int × Tb)
def hf (v : V) : List (Str × V) := putF "sale" v []
theorem hf_sale (v : V) : (hf v).lookup ("sale" : Str) = some v := by unfold hf; rw [lookup_putF, if_pos rfl]
theorem hf_put (v u : V) : putF "sale" u (hf v) = hf u := by
  show (if ("sale" : Str) = "sale" then [(("sale" : Str), u)] else _) = [(("sale" : Str), u)]
  rw [if_pos rfl]
theorem sf_hf (n r : Int) (d : Addr) (v : V) : sf n r d ≠ hf v := fun e => by
  have q := congrArg (fun l => List.lookup ("slices" : Str) l) e
  have q2 : (hf v).lookup ("slices" : Str) = none := by unfold hf; rw [lookup_putF, if_neg (by decide)]; rfl
  have q3 : (sf n r d).lookup ("slices" : Str) = (hf v).lookup ("slices" : Str) := q
  rw [sf_s, q2] at q3
  cases q3
def HouseAt (CS CH av : Addr) (H : Hp) (h : Addr) : HSt → Prop
  | none => ∃ dx, H h = some (.ins CH dx (hf .non))
  | some (n, r, bs) => ∃ dx p, H h = some (.ins CH dx (hf (.ref p))) ∧ SaleOwn CS H p n r bs ∧ Avs CS H p av
theorem SaleOwn.but {C : Addr} {H H' : Hp} {h CH dx : Addr} {v : V} (hh : H h = some (.ins CH dx (hf v))) (s : But h H H') {p : Addr} {n : Nat} {r : Int} {bs : Tb} (x : SaleOwn C H p n r bs) : SaleOwn C H' p n r bs := by
  obtain ⟨dy, d, kvs, h1, h2, h3⟩ := x.ex
  refine ⟨dy, d, kvs, s _ _ h1 (ne_of h1 hh fun z => ?_), s _ _ h2 (ne_of h2 hh fun z => by cases z), ?_⟩
  · have e : sf (n : Int) r d = hf v := by injection z
    exact sf_hf _ _ _ _ e
  · clear x h1 h2
    induction h3 with
    | nil => exact .nil
    | cons q _ ih =>
      obtain ⟨e1, l, e2, hl⟩ := q
      exact .cons ⟨e1, l, e2, s _ _ hl (ne_of hl hh fun z => by cases z)⟩ ih
theorem SaleOwn.ne {C : Addr} {H : Hp} {h CH dx : Addr} {v : V} (hh : H h = some (.ins CH dx (hf v))) {p : Addr} {n : Nat} {r : Int} {bs : Tb} (x : SaleOwn C H p n r bs) : p ≠ h := by
  obtain ⟨dy, d, kvs, h1, h2, h3⟩ := x.ex
  refine ne_of h1 hh fun z => ?_
  have e : sf (n : Int) r d = hf v := by injection z
  exact sf_hf _ _ _ _ e
theorem Avs.but {C : Addr} {H H' : Hp} {h CH dx : Addr} {v : V} (hh : H h = some (.ins CH dx (hf v))) (s : But h H H') {p av : Addr} (np : p ≠ h) (x : Avs C H p av) : Avs C H' p av := by
  obtain ⟨dy, d, kvs, fs, h1, h2, h3, h4⟩ := x.ex
  refine ⟨dy, d, kvs, fs, s _ _ h1 np, h2, ?_, h4⟩
  rcases h3 with h3 | ⟨o, h3⟩
  · exact .inl (s _ _ h3 (ne_of h3 hh fun z => by cases z))
  · exact .inr ⟨o, s _ _ h3 (ne_of h3 hh fun z => by cases z)⟩
theorem HouseAt.same {CS CH av : Addr} {H H' : Hp} {h : Addr} {st : HSt} (s : Same H H') (x : HouseAt CS CH av H h st) : HouseAt CS CH av H' h st := by
  cases st with
  | none =>
    obtain ⟨dx, e⟩ := x
    exact ⟨dx, s _ _ e⟩
  | some t =>
    obtain ⟨dx, p, e, q, y⟩ := x
    exact ⟨dx, p, s _ _ e, q.mono s, y.mono s⟩
def RelS : HSt → Vbchag.State → Prop
  | none, S => S.n = 0
  | some (n, r, bs), S => S = { n := n, reserve := r, bids := can bs } ∧ 1 ≤ n ∧ n ≤ 60 ∧ TbOk n bs
structure TxO (K : PySem.W.Frag) (mg : Str → Option Value) (CH : Addr) : Prop where
  cl : Cls K CH
  nS : NoAttr K CH "sale"
  mgH : mg "House" = some (.ref CH)
theorem But.free {h : Addr} {H H' : Hp} (s : But h H H') (hh : ∃ o, H' h = some o) {l : Addr} (e : H' l = none) : H l = none := by
  obtain ⟨o, eo⟩ := hh
  have nl : l ≠ h := fun z => by rw [z, eo] at e; cases e
  cases q : H l with
  | none => rfl
  | some u => rw [s l u q nl] at e; cases e
/-- rows of ints -/
abbrev RowAt (H : Hp) (l : Addr) (r : List Int) : Prop := H l = some (.lst (r.map V.int))
/-- what the def of the k-th call promises -/
def spA (CS CH : Addr) (k : Int) : Sp := fun vs H Q _ => ∃ (h ln lr av : Addr) (ns : List Int) (las : List Addr) (rows : List (List Int)) (st : HSt) (S : Vbchag.State), vs = [.ref h, .ref ln, .ref lr] ∧ H ln = some (.lst (ns.map V.int)) ∧ H lr = some (.lst (las.map V.ref)) ∧
  Paired (RowAt H) las rows ∧ (∀ l ∈ las, l ≠ av) ∧ HouseAt CS CH av H h st ∧ RelS st S ∧ PyVbchag.shape k = some (ns.length, rows.length) ∧ (∀ r ∈ rows, r.length ≤ 64) ∧ (k ≠ 0 → st.isSome = true) ∧
  ∀ (H' : Hp) (l : Addr) (st' : HSt), But h H H' → HouseAt CS CH av H' h st' → RelS st' (stepOf S k ns rows).1 → H l = none → H' l = some (.lst ((stepOf S k ns rows).2.map V.int)) → Q (.ref l) H'
theorem done_of {CS CH av h : Addr} {H : Hp} {Q : VK} {x : Vbchag.State × List Int} (k : ∀ (H' : Hp) (l : Addr) (st' : HSt), But h H H' → HouseAt CS CH av H' h st' → RelS st' x.1 → H l = none → H' l = some (.lst (x.2.map V.int)) → Q (.ref l) H')
    ⦃S' : Vbchag.State⦄ ⦃ans : List Int⦄ (e : x = (S', ans)) : ∀ (H' : Hp) (l : Addr) (st' : HSt), But h H H' → HouseAt CS CH av H' h st' → RelS st' S' → H l = none → H' l = some (.lst (ans.map V.int)) → Q (.ref l) H' := by
  subst e
  exact k
abbrev PS3 : List Str := ["house", "numbers", "rows"]
section
variable {P : Program} {w : World} {K : PySem.W.Frag} {mg : Str → Option Value} {base : Heap} {CS CH : Addr}
/-! ### answer_slices -/
theorem scA0 : FnScope ["house", "numbers", "rows", "slices", "reserve"] PS3 (defScope s_answer_slices) := ⟨rfl, rfl, rfl, by decide +kernel, rfl, by decide +kernel, by decide +kernel⟩
theorem ok_A0 {f fA fI : Addr} {fd fdA fdI : FuncData} (D : Dn K mg "answer_slices" s_answer_slices PS3 f fd) (T : TxH mg) (TS : TxS K mg CS) (TO : TxO K mg CH) (DA : Dn K mg "is_amount" s_is_amount ["number"] fA fdA)
    (M : Mk K CS fI) (FI : Fun K "__init__" "Sale.__init__" s_Sale_init fI fdI) (bI : Binds K fdI ["self", "slices", "reserve", "bids"] []) : FnOk P w K mg base CX0 3 f fd PS3 (spA CS CH 0) := by
  have GI : FnOk P w K mg base CX0 1 fI fdI ["self", "slices", "reserve", "bids"] (spSaleI CS) := ok_SaleI FI TS
  have GA : FnOk P w K mg base CX0 1 fA fdA ["number"] spAmt := ok_amt DA T
  obtain ⟨t1, h1⟩ := T.slices
  obtain ⟨t2, h2⟩ := T.slBey
  obtain ⟨t3, h3⟩ := T.reBey
  refine D.F.ok scA0 (fun vs H Q E h => ?_) (fun cdv A outer s H vs Q E hr h => ?_)
  · obtain ⟨h, ln, lr, av, ns, las, rows, st, S, rfl, _⟩ := h
    rfl
  · obtain ⟨h, ln, lr, av, ns, las, rows, st, S, rfl, hln, hlr, hro, hav, hh, rel, shp, hrl, _, k⟩ := h
    have shp' : some ((2, 0) : Nat × Nat) = some (ns.length, rows.length) := shp
    obtain ⟨e1, e2⟩ := Prod.mk.inj (Option.some.inj shp')
    obtain ⟨a, b, rfl⟩ := two_of e1.symm
    have e3 := zero_of e2.symm
    subst e3
    have fin := done_of k
    refine ⟨_, pss_cons (ps_set (i := 3) scA0.nd rfl (Or.inl rfl) (pe_ix ix_list (pv 1) pe_int (fun _ _ => rfl)))
      (pss_cons (ps_set (i := 4) scA0.nd rfl (Or.inl rfl) (pe_ix ix_list (pv 1) pe_int (fun _ _ => rfl)))
      (pss_cons (ps_if (pt_not (pt_chain op_le op_le pe_int (pv 3) (pe_glob (v := .int 60) rfl h1 ⟨_, rfl⟩))) (pss_one (ps_ret (pe_lst (pa_cons (pe_glob (v := .int (-1)) rfl h2 ⟨_, rfl⟩) pa_nil)))) pss_nil)
      (pss_cons (ps_if (pt_not (pt_truth (pe_call GA (hr.mono (by decide)) rfl DA.mg DA.F.kp DA.b .nil pass0 (pa_cons (pv 4) pa_nil)) (fun _ => rfl))) (pss_one (ps_ret (pe_lst (pa_cons (pe_glob (v := .int (-2)) rfl h3 ⟨_, rfl⟩) pa_nil)))) pss_nil)
      (pss_cons (ps_fld (pv 0) (pe_make M GI hr rfl TS.mgS bI .nil pass0 (pa_cons (pv 3) (pa_cons (pv 4) (pa_cons pe_dnewK pa_nil)))) rfl)
      (pss_one (ps_ret (pe_lst (pa_cons pe_int pa_nil)))))))), ?_⟩
    refine ⟨_, rfl, ln, _, _, _, rfl, rfl, SqL.of hln, at_of (j := 0) rfl rfl, ?_⟩
    refine ⟨_, rfl, ln, _, _, _, rfl, rfl, SqL.of hln, at_of (j := 1) rfl rfl, ?_⟩
    have far : ¬ (1 ≤ a ∧ a ≤ 60) → ∀ l, H l = none → Q (.ref l) (upd H l (.lst [.int (-1)])) := fun c l hl =>
      fin (st0_far S b c) _ l st (Same.but (same_new hl) h) (hh.same (same_new hl)) rel hl upd_same
    refine ⟨_, rfl, _, _, rfl, rfl, _, rfl, iteD (fun c1 => ⟨_, _, rfl, rfl, _, rfl, ?_⟩) (fun c1 => ⟨_, rfl, iteT ⟨(by show 1 ≤ sizeLine; decide), fun l hl => far (fun q => c1 q.1) l hl⟩⟩)⟩
    by_cases c2 : a ≤ 60
    · rw [decide_eq_true c2]
      refine iteF ?_
      refine ⟨_, rfl, b, rfl, _, rfl, ?_⟩
      by_cases c3 : Vbchag.small b = true
      · rw [c3]
        refine iteF ?_
        refine ⟨_, rfl, _, rfl, fun d hd => ?_⟩
        have s1 : Same H (upd H d (.dK [])) := same_new hd
        intro x dy nx ny ne
        refine ⟨x, dy, d, _, _, rfl, upd_same, fun H3 h3' k3 => ⟨rfl, ?_⟩⟩
        have s2 := Same.made nx ny k3
        have s3 : Same H H3 := s1.trans s2
        have sl : SaleOwn CS H3 x a.toNat b [] := ⟨dy, d, [], by rw [Int.toNat_of_nonneg (by omega)]; exact h3', s2 _ _ upd_same, .nil⟩
        have sv : Avs CS H3 x av := ⟨dy, d, [], _, h3', sf_b _ _ _, .inl (s2 _ _ upd_same), fun kv m => by cases m⟩
        obtain ⟨dh, v, hh'⟩ : ∃ dh v, H3 h = some (.ins CH dh (hf v)) := by
          cases st with
          | none => obtain ⟨dh, e⟩ := hh; exact ⟨dh, _, s3 _ _ e⟩
          | some t => obtain ⟨dh, p, e, _⟩ := hh; exact ⟨dh, _, s3 _ _ e⟩
        refine ⟨_, rfl, h, CH, dh, _, rfl, hh', TO.cl, TO.nS, (by show 1 < 1000; decide), ?_⟩
        rw [hf_put]
        have b4 : But h H (upd H3 h (.ins CH dh (hf (.ref x)))) := But.trans (Same.but s3 h) But.upd
        refine ⟨(by show 1 ≤ sizeLine; decide), fun l hl => ?_⟩
        have s5 := same_new (o := .lst [.int 0]) hl
        refine fin (st0_ok S c1 c2 c3) _ l (some (a.toNat, b, [])) (But.trans b4 (Same.but s5 h)) ⟨dh, x, s5 _ _ upd_same, (SaleOwn.but hh' But.upd sl).mono s5, (Avs.but hh' But.upd (SaleOwn.ne hh' sl) sv).mono s5⟩ ?_ (But.free b4 ⟨_, upd_same⟩ hl) upd_same
        exact ⟨rfl, by omega, by omega, TbOk.nil _⟩
      · have c3 : Vbchag.small b = false := by simpa using c3
        rw [c3]
        refine iteT ⟨(by show 1 ≤ sizeLine; decide), fun l hl => ?_⟩
        exact fin (st0_res S c1 c2 c3) _ l st (Same.but (same_new hl) h) (hh.same (same_new hl)) rel hl upd_same
    · rw [decide_eq_false c2]
      exact iteT ⟨(by show 1 ≤ sizeLine; decide), fun l hl => far (fun q => c2 q.2) l hl⟩
end
end Ss
end
section
set_option Elab.async false
set_option linter.all false
set_option maxRecDepth 100000
set_option maxHeartbeats 4000000
namespace Ss
open PySem PySem.Spec PyProof.Rows L2
theorem open_st {st : HSt} {S : Vbchag.State} (rel : RelS st S) (hk : st.isSome = true) : ∃ n r bs, st = some (n, r, bs) ∧ S = stOf n r bs ∧ 1 ≤ n ∧ n ≤ 60 ∧ TbOk n bs := by
  match st, rel, hk with
  | some (n, r, bs), ⟨e, h1, h2, h3⟩, _ => exact ⟨n, r, bs, rfl, e, h1, h2, h3⟩
theorem RelS.of {n : Nat} {r : Int} {bs : Tb} (h1 : 1 ≤ n) (h2 : n ≤ 60) (h3 : TbOk n bs) : RelS (some (n, r, bs)) (stOf n r bs) := ⟨rfl, h1, h2, h3⟩
theorem HouseAt.of {CS CH av : Addr} {H : Hp} {h dx p : Addr} {n : Nat} {r : Int} {bs : Tb} (e : H h = some (.ins CH dx (hf (.ref p)))) (s : SaleOwn CS H p n r bs) (v : Avs CS H p av) : HouseAt CS CH av H h (some (n, r, bs)) := ⟨dx, p, e, s, v⟩
section
variable {P : Program} {w : World} {K : PySem.W.Frag} {mg : Str → Option Value} {base : Heap} {CS CH : Addr}
/-! ### answer_bid -/
theorem scA1 : FnScope ["house", "numbers", "rows", "who", "offers", "refusal"] PS3 (defScope s_answer_bid) := ⟨rfl, rfl, rfl, by decide +kernel, rfl, by decide +kernel, by decide +kernel⟩
theorem ok_A1 {f fR fW : Addr} {fd fdR fdW : FuncData} (D : Dn K mg "answer_bid" s_answer_bid PS3 f fd) (T : TxH mg) (TS : TxS K mg CS) (TO : TxO K mg CH) (DR : Dn K mg "bid_refusal" s_bid_refusal ["sale", "who", "offers"] fR fdR) (DW : Dn K mg "with_bid" s_with_bid ["sale", "who", "offers"] fW fdW)
    (GR : FnOk P w K mg base CX0 2 fR fdR ["sale", "who", "offers"] (spRef K CS)) (GW : FnOk P w K mg base CX0 3 fW fdW ["sale", "who", "offers"] (spWith K CS)) : FnOk P w K mg base CX0 4 f fd PS3 (spA CS CH 1) := by
  obtain ⟨t1, h1⟩ := T.noRef
  refine D.F.ok scA1 (fun vs H Q E h => ?_) (fun cdv A outer s H vs Q E hr h => ?_)
  · obtain ⟨h, ln, lr, av, ns, las, rows, st, S, rfl, _⟩ := h
    rfl
  · obtain ⟨h, ln, lr, av, ns, las, rows, st, S, rfl, hln, hlr, hro, hav, hh, rel, shp, hrl, hk, k⟩ := h
    obtain ⟨e1, e2⟩ := Prod.mk.inj (Option.some.inj (show some ((1, 1) : Nat × Nat) = some (ns.length, rows.length) from shp))
    obtain ⟨z, rfl⟩ := one_of e1.symm
    obtain ⟨os, rfl⟩ := one_of e2.symm
    obtain ⟨n, r, bs, rfl, rfl, n1, n60, hok⟩ := open_st rel (hk (by decide))
    cases hro with
    | @cons l _ las _ hl hro =>
    cases hro
    have fin := done_of k
    obtain ⟨dh, p, hh1, hs, hsv⟩ := hh
    have hh : HouseAt CS CH av H h (some (n, r, bs)) := ⟨dh, p, hh1, hs, hsv⟩
    have lo : os.length ≤ 64 := hrl os List.mem_cons_self
    refine ⟨_, pss_cons (ps_set (i := 3) scA1.nd rfl (Or.inl rfl) (pe_ix ix_list (pv 1) pe_int (fun _ _ => rfl)))
      (pss_cons (ps_set (i := 4) scA1.nd rfl (Or.inl rfl) (pe_ix ix_list (pv 2) pe_int (fun _ _ => rfl)))
      (pss_cons (ps_set (i := 5) scA1.nd rfl (Or.inl rfl) (pe_call GR (hr.mono (by decide)) rfl DR.mg DR.F.kp DR.b .nil pass0 (pa_cons (pe_fld (pv 0) rfl) (pa_cons (pv 3) (pa_cons (pv 4) pa_nil)))))
      (pss_cons (ps_if (pt_cmpR op_ne (pv 5) (pe_glob (v := .int 0) rfl h1 ⟨_, rfl⟩) (nomark _)) (pss_one (ps_ret (pe_lst (pa_cons (pv 5) pa_nil)))) pss_nil)
      (pss_cons (ps_fld (pv 0) (pe_call GW hr rfl DW.mg DW.F.kp DW.b .nil pass0 (pa_cons (pe_fld (pv 0) rfl) (pa_cons (pv 3) (pa_cons (pv 4) pa_nil)))) rfl)
      (pss_one (ps_ret (pe_lst (pa_cons (pe_callB cr_lenD (by rfl) T.b_len PySem.boot_len (pa_cons (pe_fld (pe_fld (pv 0) rfl) rfl) pa_nil)) pa_nil)))))))), ?_⟩
    refine ⟨_, rfl, ln, _, _, _, rfl, rfl, SqL.of hln, at_of (j := 0) rfl rfl, ?_⟩
    refine ⟨_, rfl, lr, _, _, _, rfl, rfl, SqL.of hlr, at_of (j := 0) rfl rfl, ?_⟩
    refine ⟨_, rfl, h, CH, dh, _, _, rfl, hh1, TO.cl, TO.nS, hf_sale _, _, rfl, _, rfl, p, l, n, r, z, bs, os, rfl, hs.sale, SqL.of hl, by omega, fun H1 s1 => ?_⟩
    refine ⟨_, rfl, rfl, _, rfl, ?_⟩
    by_cases c : refusal n z os < 0
    · rw [decide_eq_false (show ¬ V.int (refusal n z os) = V.int 0 from fun e => by have q := V.int.inj e; omega)]
      refine iteT ⟨_, rfl, (by show 1 ≤ sizeLine; decide), fun a ha => ?_⟩
      have s2 := s1.trans (same_new (o := .lst [.int (refusal n z os)]) ha)
      exact fin (st1_no n1 c) _ a _ (Same.but s2 h) (hh.same s2) rel (s1.free ha) upd_same
    · obtain ⟨e0, z1, z8, hl8⟩ := refusal_0 c
      rw [decide_eq_true (show V.int (refusal n z os) = V.int 0 by rw [e0])]
      refine iteF ?_
      refine ⟨_, rfl, h, CH, dh, _, _, rfl, s1 _ _ hh1, TO.cl, TO.nS, hf_sale _, _, rfl, _, rfl, p, l, n, r, z, os, bs, rfl, (hs.mono s1).sale, s1 _ _ hl, Nat.le_trans hok.eight (by decide), fun H2 q s2 nq h2 hv2 => ?_⟩
      have s3 := s1.trans s2
      have v2 := hv2 av (hsv.mono s1) (hav l List.mem_cons_self)
      refine ⟨_, rfl, h, CH, dh, _, rfl, s3 _ _ hh1, TO.cl, TO.nS, (by show 1 < 1000; decide), ?_⟩
      rw [hf_put]
      have h3 := SaleOwn.but (s3 _ _ hh1) (But.upd (o := .ins CH dh (hf (.ref q)))) h2
      have v3 := Avs.but (s3 _ _ hh1) (But.upd (o := .ins CH dh (hf (.ref q)))) (SaleOwn.ne (s3 _ _ hh1) h2) v2
      obtain ⟨dq, dd, kvs, g1, g2, g3⟩ := h3.ex
      refine ⟨_, rfl, h, CH, dh, _, _, rfl, upd_same, TO.cl, TO.nS, hf_sale _, q, CS, dq, _, _, rfl, g1, TS.cl, TS.nB, sf_b _ _ _, dd, kvs, rfl, .inl g2, (by show 1 ≤ sizeLine; decide), fun a ha => ?_⟩
      rw [ent_len g3]
      have s4 := same_new (o := .lst [.int ((putB bs z os).length : Int)]) ha
      exact fin (st1_ok n1 hok c) _ a _ (But.trans (But.trans (Same.but s3 h) But.upd) (Same.but s4 h)) (HouseAt.of (s4 _ _ upd_same) (h3.mono s4) (v3.mono s4)) (RelS.of n1 n60 (hok.put z1 z8 hl8)) (But.free (But.trans (Same.but s3 h) But.upd) ⟨_, upd_same⟩ ha) upd_same
/-! ### answer_unbid -/
theorem scA2 : FnScope ["house", "numbers", "rows", "who"] PS3 (defScope s_answer_unbid) := ⟨rfl, rfl, rfl, by decide +kernel, rfl, by decide +kernel, by decide +kernel⟩
theorem ok_A2 {f fW : Addr} {fd fdW : FuncData} (D : Dn K mg "answer_unbid" s_answer_unbid PS3 f fd) (T : TxH mg) (TS : TxS K mg CS) (TO : TxO K mg CH) (DW : Dn K mg "without_bid" s_without_bid ["sale", "who"] fW fdW)
    (GW : FnOk P w K mg base CX0 3 fW fdW ["sale", "who"] (spWithout K CS)) : FnOk P w K mg base CX0 4 f fd PS3 (spA CS CH 2) := by
  obtain ⟨t1, h1⟩ := T.noBid
  refine D.F.ok scA2 (fun vs H Q E h => ?_) (fun cdv A outer s H vs Q E hr h => ?_)
  · obtain ⟨h, ln, lr, av, ns, las, rows, st, S, rfl, _⟩ := h
    rfl
  · obtain ⟨h, ln, lr, av, ns, las, rows, st, S, rfl, hln, hlr, hro, hav, hh, rel, shp, hrl, hk, k⟩ := h
    obtain ⟨e1, e2⟩ := Prod.mk.inj (Option.some.inj (show some ((1, 0) : Nat × Nat) = some (ns.length, rows.length) from shp))
    obtain ⟨z, rfl⟩ := one_of e1.symm
    have e3 := zero_of e2.symm
    subst e3
    obtain ⟨n, r, bs, rfl, rfl, n1, n60, hok⟩ := open_st rel (hk (by decide))
    have fin := done_of k
    obtain ⟨dh, p, hh1, hs, hsv⟩ := hh
    have hh : HouseAt CS CH av H h (some (n, r, bs)) := ⟨dh, p, hh1, hs, hsv⟩
    obtain ⟨dp, d, kvs, hp, hd, ent⟩ := hs.ex
    have hu := hu_of hr
    refine ⟨_, pss_cons (ps_set (i := 3) scA2.nd rfl (Or.inl rfl) (pe_ix ix_list (pv 1) pe_int (fun _ _ => rfl)))
      (pss_cons (ps_if (pt_cmp (pc_dnotin hu (pv 3) (pe_fld (pe_fld (pv 0) rfl) rfl))) (pss_one (ps_ret (pe_lst (pa_cons (pe_glob (v := .int (-2)) rfl h1 ⟨_, rfl⟩) pa_nil)))) pss_nil)
      (pss_cons (ps_fld (pv 0) (pe_call GW hr rfl DW.mg DW.F.kp DW.b .nil pass0 (pa_cons (pe_fld (pv 0) rfl) (pa_cons (pv 3) pa_nil))) rfl)
      (pss_one (ps_ret (pe_lst (pa_cons (pe_callB cr_lenD (by rfl) T.b_len PySem.boot_len (pa_cons (pe_fld (pe_fld (pv 0) rfl) rfl) pa_nil)) pa_nil)))))), ?_⟩
    refine ⟨_, rfl, ln, _, _, _, rfl, rfl, SqL.of hln, at_of (j := 0) rfl rfl, ?_⟩
    refine ⟨_, rfl, _, rfl, h, CH, dh, _, _, rfl, hh1, TO.cl, TO.nS, hf_sale _, p, CS, dp, _, _, rfl, hp, TS.cl, TS.nB, sf_b _ _ _, d, _, rfl, DGet.k (k := Sum.inl z) hd, _, rfl, ?_⟩
    rw [ent_isSome z ent]
    cases c : lk bs z with
    | none =>
      refine iteT ⟨(by show 1 ≤ sizeLine; decide), fun a ha => ?_⟩
      have s2 := same_new (o := .lst [.int (-2)]) ha
      exact fin (st2_no n1 hok c) _ a _ (Same.but s2 h) (hh.same s2) rel ha upd_same
    | some os =>
      have c' : (lk bs z).isSome = true := by rw [c]; rfl
      refine iteF ?_
      refine ⟨_, rfl, h, CH, dh, _, _, rfl, hh1, TO.cl, TO.nS, hf_sale _, _, rfl, p, n, r, z, bs, rfl, hs.sale, c', fun H2 q s3 nq h2 hv2 => ?_⟩
      have v2 := hv2 av hsv
      refine ⟨_, rfl, h, CH, dh, _, rfl, s3 _ _ hh1, TO.cl, TO.nS, (by show 1 < 1000; decide), ?_⟩
      rw [hf_put]
      have h3 := SaleOwn.but (s3 _ _ hh1) (But.upd (o := .ins CH dh (hf (.ref q)))) h2
      have v3 := Avs.but (s3 _ _ hh1) (But.upd (o := .ins CH dh (hf (.ref q)))) (SaleOwn.ne (s3 _ _ hh1) h2) v2
      obtain ⟨dq, dd, kvs', g1, g2, g3⟩ := h3.ex
      refine ⟨_, rfl, h, CH, dh, _, _, rfl, upd_same, TO.cl, TO.nS, hf_sale _, q, CS, dq, _, _, rfl, g1, TS.cl, TS.nB, sf_b _ _ _, dd, kvs', rfl, .inl g2, (by show 1 ≤ sizeLine; decide), fun a ha => ?_⟩
      rw [ent_len g3]
      have s4 := same_new (o := .lst [.int ((dropB bs z).length : Int)]) ha
      exact fin (st2_ok n1 hok c') _ a _ (But.trans (But.trans (Same.but s3 h) But.upd) (Same.but s4 h)) (HouseAt.of (s4 _ _ upd_same) (h3.mono s4) (v3.mono s4)) (RelS.of n1 n60 (hok.drop z)) (But.free (But.trans (Same.but s3 h) But.upd) ⟨_, upd_same⟩ ha) upd_same
end
end Ss
end
section
set_option Elab.async false
set_option linter.all false
set_option maxRecDepth 100000
set_option maxHeartbeats 4000000
namespace Ss
open PySem PySem.Spec PyProof.Rows L2
section
variable {P : Program} {w : World} {K : PySem.W.Frag} {mg : Str → Option Value} {base : Heap} {CS CH : Addr}
/-! ### answer_split -/
theorem scA3 : FnScope PS3 PS3 (defScope s_answer_split) := ⟨rfl, rfl, rfl, by decide +kernel, rfl, by decide +kernel, by decide +kernel⟩
theorem ok_A3 {f fS : Addr} {fd fdS : FuncData} (D : Dn K mg "answer_split" s_answer_split PS3 f fd) (TO : TxO K mg CH) (DS : Dn K mg "split_of" s_split_of ["sale"] fS fdS) (GS : FnOk P w K mg base CX0 6 fS fdS ["sale"] (spSplit CS)) : FnOk P w K mg base CX0 7 f fd PS3 (spA CS CH 3) := by
  refine D.F.ok scA3 (fun vs H Q E h => ?_) (fun cdv A outer s H vs Q E hr h => ?_)
  · obtain ⟨h, ln, lr, av, ns, las, rows, st, S, rfl, _⟩ := h
    rfl
  · obtain ⟨h, ln, lr, av, ns, las, rows, st, S, rfl, hln, hlr, hro, hav, hh, rel, shp, hrl, hk, k⟩ := h
    obtain ⟨e1, e2⟩ := Prod.mk.inj (Option.some.inj (show some ((0, 0) : Nat × Nat) = some (ns.length, rows.length) from shp))
    have e3 := zero_of e1.symm
    subst e3
    have e4 := zero_of e2.symm
    subst e4
    obtain ⟨n, r, bs, rfl, rfl, n1, n60, hok⟩ := open_st rel (hk (by decide))
    have fin := done_of k
    obtain ⟨dh, p, hh1, hs, hsv⟩ := hh
    have hh : HouseAt CS CH av H h (some (n, r, bs)) := ⟨dh, p, hh1, hs, hsv⟩
    refine ⟨_, pss_one (ps_ret (pe_call GS hr rfl DS.mg DS.F.kp DS.b .nil pass0 (pa_cons (pe_fld (pv 0) rfl) pa_nil))), ?_⟩
    refine ⟨_, rfl, h, CH, dh, _, _, rfl, hh1, TO.cl, TO.nS, hf_sale _, p, n, r, bs, rfl, hs.sale, n60, hok, fun H1 l s1 nl hl => ?_⟩
    exact fin (st3 n1) H1 l _ (Same.but s1 h) (hh.same s1) rel nl hl
/-! ### answer_sum_of -/
theorem scA4 : FnScope PS3 PS3 (defScope s_answer_sum_of) := ⟨rfl, rfl, rfl, by decide +kernel, rfl, by decide +kernel, by decide +kernel⟩
theorem ok_A4 {f fS : Addr} {fd fdS : FuncData} (D : Dn K mg "answer_sum_of" s_answer_sum_of PS3 f fd) (TO : TxO K mg CH) (DS : Dn K mg "greatest_sum" s_greatest_sum ["sale"] fS fdS) (GS : FnOk P w K mg base CX0 6 fS fdS ["sale"] (spGS CS)) : FnOk P w K mg base CX0 7 f fd PS3 (spA CS CH 4) := by
  refine D.F.ok scA4 (fun vs H Q E h => ?_) (fun cdv A outer s H vs Q E hr h => ?_)
  · obtain ⟨h, ln, lr, av, ns, las, rows, st, S, rfl, _⟩ := h
    rfl
  · obtain ⟨h, ln, lr, av, ns, las, rows, st, S, rfl, hln, hlr, hro, hav, hh, rel, shp, hrl, hk, k⟩ := h
    obtain ⟨e1, e2⟩ := Prod.mk.inj (Option.some.inj (show some ((0, 0) : Nat × Nat) = some (ns.length, rows.length) from shp))
    have e3 := zero_of e1.symm
    subst e3
    have e4 := zero_of e2.symm
    subst e4
    obtain ⟨n, r, bs, rfl, rfl, n1, n60, hok⟩ := open_st rel (hk (by decide))
    have fin := done_of k
    obtain ⟨dh, p, hh1, hs, hsv⟩ := hh
    have hh : HouseAt CS CH av H h (some (n, r, bs)) := ⟨dh, p, hh1, hs, hsv⟩
    refine ⟨_, pss_one (ps_ret (pe_lst (pa_cons pe_int (pa_cons (pe_call GS hr rfl DS.mg DS.F.kp DS.b .nil pass0 (pa_cons (pe_fld (pv 0) rfl) pa_nil)) pa_nil)))), ?_⟩
    refine ⟨_, rfl, h, CH, dh, _, _, rfl, hh1, TO.cl, TO.nS, hf_sale _, p, n, r, bs, rfl, hs.sale, n60, hok, fun H1 s1 => ⟨(by show 2 ≤ sizeLine; decide), fun l hl => ?_⟩⟩
    have s2 := s1.trans (same_new (o := .lst [.int 0, .int ((metL n r bs).map (·.2)).sum]) hl)
    exact fin (st4 n1) _ l _ (Same.but s2 h) (hh.same s2) rel (s1.free hl) upd_same
/-! ### answer_pays -/
theorem scA5 : FnScope ["house", "numbers", "rows", "who"] PS3 (defScope s_answer_pays) := ⟨rfl, rfl, rfl, by decide +kernel, rfl, by decide +kernel, by decide +kernel⟩
theorem ok_A5 {f fS : Addr} {fd fdS : FuncData} (D : Dn K mg "answer_pays" s_answer_pays PS3 f fd) (T : TxH mg) (TS : TxS K mg CS) (TO : TxO K mg CH) (DS : Dn K mg "payment_of" s_payment_of ["sale", "who"] fS fdS) (GS : FnOk P w K mg base CX0 7 fS fdS ["sale", "who"] (spPay CS)) : FnOk P w K mg base CX0 8 f fd PS3 (spA CS CH 5) := by
  obtain ⟨t1, h1⟩ := T.noBid
  refine D.F.ok scA5 (fun vs H Q E h => ?_) (fun cdv A outer s H vs Q E hr h => ?_)
  · obtain ⟨h, ln, lr, av, ns, las, rows, st, S, rfl, _⟩ := h
    rfl
  · obtain ⟨h, ln, lr, av, ns, las, rows, st, S, rfl, hln, hlr, hro, hav, hh, rel, shp, hrl, hk, k⟩ := h
    obtain ⟨e1, e2⟩ := Prod.mk.inj (Option.some.inj (show some ((1, 0) : Nat × Nat) = some (ns.length, rows.length) from shp))
    obtain ⟨z, rfl⟩ := one_of e1.symm
    have e4 := zero_of e2.symm
    subst e4
    obtain ⟨n, r, bs, rfl, rfl, n1, n60, hok⟩ := open_st rel (hk (by decide))
    have fin := done_of k
    obtain ⟨dh, p, hh1, hs, hsv⟩ := hh
    have hh : HouseAt CS CH av H h (some (n, r, bs)) := ⟨dh, p, hh1, hs, hsv⟩
    obtain ⟨dp, d, kvs, hp, hd, ent⟩ := hs.ex
    have hu := hu_of hr
    refine ⟨_, pss_cons (ps_set (i := 3) scA5.nd rfl (Or.inl rfl) (pe_ix ix_list (pv 1) pe_int (fun _ _ => rfl)))
      (pss_cons (ps_if (pt_cmp (pc_dnotin hu (pv 3) (pe_fld (pe_fld (pv 0) rfl) rfl))) (pss_one (ps_ret (pe_lst (pa_cons (pe_glob (v := .int (-2)) rfl h1 ⟨_, rfl⟩) pa_nil)))) pss_nil)
      (pss_one (ps_ret (pe_lst (pa_cons pe_int (pa_cons (pe_call GS hr rfl DS.mg DS.F.kp DS.b .nil pass0 (pa_cons (pe_fld (pv 0) rfl) (pa_cons (pv 3) pa_nil))) pa_nil)))))), ?_⟩
    refine ⟨_, rfl, ln, _, _, _, rfl, rfl, SqL.of hln, at_of (j := 0) rfl rfl, ?_⟩
    refine ⟨_, rfl, _, rfl, h, CH, dh, _, _, rfl, hh1, TO.cl, TO.nS, hf_sale _, p, CS, dp, _, _, rfl, hp, TS.cl, TS.nB, sf_b _ _ _, d, _, rfl, DGet.k (k := Sum.inl z) hd, _, rfl, ?_⟩
    rw [ent_isSome z ent]
    cases c : lk bs z with
    | none =>
      refine iteT ⟨(by show 1 ≤ sizeLine; decide), fun a ha => ?_⟩
      have s2 := same_new (o := .lst [.int (-2)]) ha
      exact fin (st5_no n1 hok c) _ a _ (Same.but s2 h) (hh.same s2) rel ha upd_same
    | some os =>
      have c' : (lk bs z).isSome = true := by rw [c]; rfl
      refine iteF ?_
      refine ⟨_, rfl, h, CH, dh, _, _, rfl, hh1, TO.cl, TO.nS, hf_sale _, _, rfl, p, n, r, z, bs, rfl, hs.sale, n60, hok, c', fun H1 s1 => ⟨(by show 2 ≤ sizeLine; decide), fun l hl => ?_⟩⟩
      have s2 := s1.trans (same_new (o := .lst [.int 0, .int (paysL n r bs z)]) hl)
      exact fin (st5_ok n1 hok c') _ l _ (Same.but s2 h) (hh.same s2) rel (s1.free hl) upd_same
/-! ### answer_prices -/
theorem scA6 : FnScope ["house", "numbers", "rows", "who", "prices"] PS3 (defScope s_answer_prices) := ⟨rfl, rfl, rfl, by decide +kernel, rfl, by decide +kernel, by decide +kernel⟩
theorem ok_A6 {f fS : Addr} {fd fdS : FuncData} (D : Dn K mg "answer_prices" s_answer_prices PS3 f fd) (T : TxH mg) (TS : TxS K mg CS) (TO : TxO K mg CH) (DS : Dn K mg "prices_of" s_prices_of ["sale", "who"] fS fdS) (GS : FnOk P w K mg base CX0 7 fS fdS ["sale", "who"] (spPrices CS)) : FnOk P w K mg base CX0 8 f fd PS3 (spA CS CH 6) := by
  obtain ⟨t1, h1⟩ := T.noBid
  refine D.F.ok scA6 (fun vs H Q E h => ?_) (fun cdv A outer s H vs Q E hr h => ?_)
  · obtain ⟨h, ln, lr, av, ns, las, rows, st, S, rfl, _⟩ := h
    rfl
  · obtain ⟨h, ln, lr, av, ns, las, rows, st, S, rfl, hln, hlr, hro, hav, hh, rel, shp, hrl, hk, k⟩ := h
    obtain ⟨e1, e2⟩ := Prod.mk.inj (Option.some.inj (show some ((1, 0) : Nat × Nat) = some (ns.length, rows.length) from shp))
    obtain ⟨z, rfl⟩ := one_of e1.symm
    have e4 := zero_of e2.symm
    subst e4
    obtain ⟨n, r, bs, rfl, rfl, n1, n60, hok⟩ := open_st rel (hk (by decide))
    have fin := done_of k
    obtain ⟨dh, p, hh1, hs, hsv⟩ := hh
    have hh : HouseAt CS CH av H h (some (n, r, bs)) := ⟨dh, p, hh1, hs, hsv⟩
    obtain ⟨dp, d, kvs, hp, hd, ent⟩ := hs.ex
    have hu := hu_of hr
    refine ⟨_, pss_cons (ps_set (i := 3) scA6.nd rfl (Or.inl rfl) (pe_ix ix_list (pv 1) pe_int (fun _ _ => rfl)))
      (pss_cons (ps_if (pt_cmp (pc_dnotin hu (pv 3) (pe_fld (pe_fld (pv 0) rfl) rfl))) (pss_one (ps_ret (pe_lst (pa_cons (pe_glob (v := .int (-2)) rfl h1 ⟨_, rfl⟩) pa_nil)))) pss_nil)
      (pss_cons (ps_set (i := 4) scA6.nd rfl (Or.inl rfl) (pe_call GS hr rfl DS.mg DS.F.kp DS.b .nil pass0 (pa_cons (pe_fld (pv 0) rfl) (pa_cons (pv 3) pa_nil))))
      (pss_one (ps_ret (pe_op op_cat (pe_lst (pa_cons (pe_callB cr_lenL (by rfl) T.b_len PySem.boot_len (pa_cons (pv 4) pa_nil)) pa_nil)) (pv 4)))))), ?_⟩
    refine ⟨_, rfl, ln, _, _, _, rfl, rfl, SqL.of hln, at_of (j := 0) rfl rfl, ?_⟩
    refine ⟨_, rfl, _, rfl, h, CH, dh, _, _, rfl, hh1, TO.cl, TO.nS, hf_sale _, p, CS, dp, _, _, rfl, hp, TS.cl, TS.nB, sf_b _ _ _, d, _, rfl, DGet.k (k := Sum.inl z) hd, _, rfl, ?_⟩
    rw [ent_isSome z ent]
    cases c : lk bs z with
    | none =>
      refine iteT ⟨(by show 1 ≤ sizeLine; decide), fun a ha => ?_⟩
      have s2 := same_new (o := .lst [.int (-2)]) ha
      exact fin (st6_no n1 hok c) _ a _ (Same.but s2 h) (hh.same s2) rel ha upd_same
    | some os =>
      have c' : (lk bs z).isSome = true := by rw [c]; rfl
      refine iteF ?_
      refine ⟨_, rfl, h, CH, dh, _, _, rfl, hh1, TO.cl, TO.nS, hf_sale _, _, rfl, p, n, r, z, bs, rfl, hs.sale, n60, hok, c', fun H1 l s1 hl => ?_⟩
      refine ⟨_, rfl, l, _, rfl, SqL.of hl, (by show 1 ≤ sizeLine; decide), fun a ha => ?_⟩
      have s3 := same_new (o := .lst [.int (((pricesL n r bs z).map V.int).length : Int)]) ha
      have lp : (pricesL n r bs z).length ≤ 60 := by
        unfold pricesL
        rw [List.length_map, List.length_reverse, List.length_drop, metL_len]
        omega
      refine ⟨_, rfl, a, l, _, _, rfl, rfl, upd_same, s3 _ _ hl, ?_, fun b hb => ?_⟩
      · rw [List.length_map]
        exact Nat.le_of_lt (fits (by show 1 + _ ≤ _; omega))
      · have s4 := (s1.trans s3).trans (same_new (o := .lst ([.int (((pricesL n r bs z).map V.int).length : Int)] ++ (pricesL n r bs z).map V.int)) hb)
        refine fin (st6_ok n1 hok c') _ b _ (Same.but s4 h) (hh.same s4) rel ((s1.trans s3).free hb) ?_
        rw [upd_same, List.length_map]; rfl
/-! ### answer_income -/
theorem scA7 : FnScope PS3 PS3 (defScope s_answer_income) := ⟨rfl, rfl, rfl, by decide +kernel, rfl, by decide +kernel, by decide +kernel⟩
theorem ok_A7 {f fS : Addr} {fd fdS : FuncData} (D : Dn K mg "answer_income" s_answer_income PS3 f fd) (TO : TxO K mg CH) (DS : Dn K mg "income_of" s_income_of ["sale"] fS fdS) (GS : FnOk P w K mg base CX0 8 fS fdS ["sale"] (spIncome CS)) : FnOk P w K mg base CX0 9 f fd PS3 (spA CS CH 7) := by
  refine D.F.ok scA7 (fun vs H Q E h => ?_) (fun cdv A outer s H vs Q E hr h => ?_)
  · obtain ⟨h, ln, lr, av, ns, las, rows, st, S, rfl, _⟩ := h
    rfl
  · obtain ⟨h, ln, lr, av, ns, las, rows, st, S, rfl, hln, hlr, hro, hav, hh, rel, shp, hrl, hk, k⟩ := h
    obtain ⟨e1, e2⟩ := Prod.mk.inj (Option.some.inj (show some ((0, 0) : Nat × Nat) = some (ns.length, rows.length) from shp))
    have e3 := zero_of e1.symm
    subst e3
    have e4 := zero_of e2.symm
    subst e4
    obtain ⟨n, r, bs, rfl, rfl, n1, n60, hok⟩ := open_st rel (hk (by decide))
    have fin := done_of k
    obtain ⟨dh, p, hh1, hs, hsv⟩ := hh
    have hh : HouseAt CS CH av H h (some (n, r, bs)) := ⟨dh, p, hh1, hs, hsv⟩
    refine ⟨_, pss_one (ps_ret (pe_lst (pa_cons pe_int (pa_cons (pe_call GS hr rfl DS.mg DS.F.kp DS.b .nil pass0 (pa_cons (pe_fld (pv 0) rfl) pa_nil)) pa_nil)))), ?_⟩
    refine ⟨_, rfl, h, CH, dh, _, _, rfl, hh1, TO.cl, TO.nS, hf_sale _, p, n, r, bs, rfl, hs, n60, hok, Nat.le_trans hok.eight (by decide), fun H1 s1 => ⟨(by show 2 ≤ sizeLine; decide), fun l hl => ?_⟩⟩
    have s2 := s1.trans (same_new (o := .lst [.int 0, .int (incomeL n r bs)]) hl)
    exact fin (st7 n1 hok) _ l _ (Same.but s2 h) (hh.same s2) rel (s1.free hl) upd_same
end
end Ss
end
section
set_option Elab.async false
set_option linter.all false
set_option maxRecDepth 100000
set_option maxHeartbeats 4000000
namespace Ss
open PySem PySem.Spec PyProof.Rows L2
section
variable {P : Program} {w : World} {K : PySem.W.Frag} {mg : Str → Option Value} {base : Heap} {CS CH : Addr}
/-! ### answer_told -/
theorem scA8 : FnScope ["house", "numbers", "rows", "who"] PS3 (defScope s_answer_told) := ⟨rfl, rfl, rfl, by decide +kernel, rfl, by decide +kernel, by decide +kernel⟩
theorem ok_A8 {f fS : Addr} {fd fdS : FuncData} (D : Dn K mg "answer_told" s_answer_told PS3 f fd) (T : TxH mg) (TS : TxS K mg CS) (TO : TxO K mg CH) (DS : Dn K mg "told_of" s_told_of ["sale", "who"] fS fdS) (GS : FnOk P w K mg base CX0 6 fS fdS ["sale", "who"] (spTold CS)) : FnOk P w K mg base CX0 7 f fd PS3 (spA CS CH 8) := by
  obtain ⟨t1, h1⟩ := T.noBid
  refine D.F.ok scA8 (fun vs H Q E h => ?_) (fun cdv A outer s H vs Q E hr h => ?_)
  · obtain ⟨h, ln, lr, av, ns, las, rows, st, S, rfl, _⟩ := h
    rfl
  · obtain ⟨h, ln, lr, av, ns, las, rows, st, S, rfl, hln, hlr, hro, hav, hh, rel, shp, hrl, hk, k⟩ := h
    obtain ⟨e1, e2⟩ := Prod.mk.inj (Option.some.inj (show some ((1, 0) : Nat × Nat) = some (ns.length, rows.length) from shp))
    obtain ⟨z, rfl⟩ := one_of e1.symm
    have e4 := zero_of e2.symm
    subst e4
    obtain ⟨n, r, bs, rfl, rfl, n1, n60, hok⟩ := open_st rel (hk (by decide))
    have fin := done_of k
    obtain ⟨dh, p, hh1, hs, hsv⟩ := hh
    have hh : HouseAt CS CH av H h (some (n, r, bs)) := ⟨dh, p, hh1, hs, hsv⟩
    obtain ⟨dp, d, kvs, hp, hd, ent⟩ := hs.ex
    have hu := hu_of hr
    refine ⟨_, pss_cons (ps_set (i := 3) scA8.nd rfl (Or.inl rfl) (pe_ix ix_list (pv 1) pe_int (fun _ _ => rfl)))
      (pss_cons (ps_if (pt_cmp (pc_dnotin hu (pv 3) (pe_fld (pe_fld (pv 0) rfl) rfl))) (pss_one (ps_ret (pe_lst (pa_cons (pe_glob (v := .int (-2)) rfl h1 ⟨_, rfl⟩) pa_nil)))) pss_nil)
      (pss_one (ps_ret (pe_lst (pa_cons pe_int (pa_cons (pe_call GS hr rfl DS.mg DS.F.kp DS.b .nil pass0 (pa_cons (pe_fld (pv 0) rfl) (pa_cons (pv 3) pa_nil))) pa_nil)))))), ?_⟩
    refine ⟨_, rfl, ln, _, _, _, rfl, rfl, SqL.of hln, at_of (j := 0) rfl rfl, ?_⟩
    refine ⟨_, rfl, _, rfl, h, CH, dh, _, _, rfl, hh1, TO.cl, TO.nS, hf_sale _, p, CS, dp, _, _, rfl, hp, TS.cl, TS.nB, sf_b _ _ _, d, _, rfl, DGet.k (k := Sum.inl z) hd, _, rfl, ?_⟩
    rw [ent_isSome z ent]
    cases c0 : lk bs z with
    | none =>
      refine iteT ⟨(by show 1 ≤ sizeLine; decide), fun a ha => ?_⟩
      have s2 := same_new (o := .lst [.int (-2)]) ha
      exact fin (st8_no n1 hok c0) _ a _ (Same.but s2 h) (hh.same s2) rel ha upd_same
    | some os0 =>
      have c' : (lk bs z).isSome = true := by rw [c0]; rfl
      refine iteF ?_
      refine ⟨_, rfl, h, CH, dh, _, _, rfl, hh1, TO.cl, TO.nS, hf_sale _, _, rfl, p, n, r, z, bs, rfl, hs.sale, n60, hok, fun H1 s1 => ⟨(by show 2 ≤ sizeLine; decide), fun a ha => ?_⟩⟩
      have s2 := s1.trans (same_new (o := .lst [.int 0, .int (toldL n r bs z)]) ha)
      exact fin (st8_ok n1 hok c') _ a _ (Same.but s2 h) (hh.same s2) rel (s1.free ha) upd_same
/-! ### answer_one -/
theorem scA9 : FnScope ["house", "numbers", "rows", "left"] PS3 (defScope s_answer_one) := ⟨rfl, rfl, rfl, by decide +kernel, rfl, by decide +kernel, by decide +kernel⟩
theorem ok_A9 {f fA fL : Addr} {fd fdA fdL : FuncData} (D : Dn K mg "answer_one" s_answer_one PS3 f fd) (T : TxH mg) (TS : TxS K mg CS) (TO : TxO K mg CH) (DA : Dn K mg "amounts_of" s_amounts_of ["offers"] fA fdA) (DL : Dn K mg "left_offers" s_left_offers ["sale"] fL fdL) (GL : FnOk P w K mg base CX0 5 fL fdL ["sale"] (spLeft CS)) : FnOk P w K mg base CX0 6 f fd PS3 (spA CS CH 9) := by
  have GA : FnOk P w K mg base CX0 1 fA fdA ["offers"] spAm := ok_am DA
  refine D.F.ok scA9 (fun vs H Q E h => ?_) (fun cdv A outer s H vs Q E hr h => ?_)
  · obtain ⟨h, ln, lr, av, ns, las, rows, st, S, rfl, _⟩ := h
    rfl
  · obtain ⟨h, ln, lr, av, ns, las, rows, st, S, rfl, hln, hlr, hro, hav, hh, rel, shp, hrl, hk, k⟩ := h
    obtain ⟨e1, e2⟩ := Prod.mk.inj (Option.some.inj (show some ((0, 0) : Nat × Nat) = some (ns.length, rows.length) from shp))
    have e3 := zero_of e1.symm
    subst e3
    have e4 := zero_of e2.symm
    subst e4
    obtain ⟨n, r, bs, rfl, rfl, n1, n60, hok⟩ := open_st rel (hk (by decide))
    have fin := done_of k
    obtain ⟨dh, p, hh1, hs, hsv⟩ := hh
    have hh : HouseAt CS CH av H h (some (n, r, bs)) := ⟨dh, p, hh1, hs, hsv⟩
    obtain ⟨dp, d, kvs, hp, hd, ent⟩ := hs.ex
    have hu := hu_of hr
    refine ⟨_, pss_cons (ps_set (i := 3) scA9.nd rfl (Or.inl rfl) (pe_call GA (hr.mono (by decide)) rfl DA.mg DA.F.kp DA.b .nil pass0 (pa_cons (pe_call GL hr rfl DL.mg DL.F.kp DL.b .nil pass0 (pa_cons (pe_fld (pv 0) rfl) pa_nil)) pa_nil)))
      (pss_cons (ps_if (pt_cmpR op_eq (pe_callB cr_lenL (by rfl) T.b_len PySem.boot_len (pa_cons (pv 3) pa_nil)) pe_int (nomark _)) (pss_one (ps_ret (pe_lst (pa_cons pe_int pa_nil)))) pss_nil)
      (pss_one (ps_ret (pe_lst (pa_cons pe_int (pa_cons (pe_ix ix_list (pv 3) pe_int (fun _ _ => rfl)) pa_nil)))))), ?_⟩
    refine ⟨_, rfl, h, CH, dh, _, _, rfl, hh1, TO.cl, TO.nS, hf_sale _, p, n, r, bs, rfl, hs.sale, n60, hok, fun H1 q ts s1 o1 => ?_⟩
    refine ⟨q, ts, _, rfl, o1, leftL_len r hok n60, fun H2 l s2 hl => ?_⟩
    have s3 := s1.trans s2
    refine ⟨_, rfl, l, _, rfl, SqL.of hl, rfl, _, rfl, ?_⟩
    cases e : leftL n r bs with
    | nil =>
      rw [e] at hl
      refine iteT ⟨(by show 1 ≤ sizeLine; decide), fun a ha => ?_⟩
      have s4 := s3.trans (same_new (o := .lst [.int 0]) ha)
      exact fin (st9_none n1 e) _ a _ (Same.but s4 h) (hh.same s4) rel (s3.free ha) upd_same
    | cons x t =>
      rw [e] at hl
      rw [decide_eq_false (show ¬ V.int (((((x :: t).map (·.2)).map V.int)).length : Int) = V.int 0 from fun q => by have q := V.int.inj q; rw [List.length_map, List.length_map, List.length_cons] at q; omega)]
      refine iteF ⟨_, rfl, l, _, _, _, rfl, rfl, SqL.of hl, at_of (j := 0) rfl rfl, (by show 2 ≤ sizeLine; decide), fun a ha => ?_⟩
      have s4 := s3.trans (same_new (o := .lst [.int 1, .int x.2]) ha)
      exact fin (st9_some n1 e) _ a _ (Same.but s4 h) (hh.same s4) rel (s3.free ha) upd_same
/-! ### answer_between -/
theorem scA10 : FnScope ["house", "numbers", "rows", "left", "least"] PS3 (defScope s_answer_between) := ⟨rfl, rfl, rfl, by decide +kernel, rfl, by decide +kernel, by decide +kernel⟩
theorem ok_A10 {f fA fL fM : Addr} {fd fdA fdL fdM : FuncData} (D : Dn K mg "answer_between" s_answer_between PS3 f fd) (T : TxH mg) (TS : TxS K mg CS) (TO : TxO K mg CH) (DA : Dn K mg "amounts_of" s_amounts_of ["offers"] fA fdA) (DL : Dn K mg "left_offers" s_left_offers ["sale"] fL fdL) (GL : FnOk P w K mg base CX0 5 fL fdL ["sale"] (spLeft CS)) (DM : Dn K mg "least_met" s_least_met ["sale"] fM fdM) (GM : FnOk P w K mg base CX0 6 fM fdM ["sale"] (spLeast CS)) : FnOk P w K mg base CX0 7 f fd PS3 (spA CS CH 10) := by
  have GA : FnOk P w K mg base CX0 1 fA fdA ["offers"] spAm := ok_am DA
  refine D.F.ok scA10 (fun vs H Q E h => ?_) (fun cdv A outer s H vs Q E hr h => ?_)
  · obtain ⟨h, ln, lr, av, ns, las, rows, st, S, rfl, _⟩ := h
    rfl
  · obtain ⟨h, ln, lr, av, ns, las, rows, st, S, rfl, hln, hlr, hro, hav, hh, rel, shp, hrl, hk, k⟩ := h
    obtain ⟨e1, e2⟩ := Prod.mk.inj (Option.some.inj (show some ((0, 0) : Nat × Nat) = some (ns.length, rows.length) from shp))
    have e3 := zero_of e1.symm
    subst e3
    have e4 := zero_of e2.symm
    subst e4
    obtain ⟨n, r, bs, rfl, rfl, n1, n60, hok⟩ := open_st rel (hk (by decide))
    have fin := done_of k
    obtain ⟨dh, p, hh1, hs, hsv⟩ := hh
    have hh : HouseAt CS CH av H h (some (n, r, bs)) := ⟨dh, p, hh1, hs, hsv⟩
    obtain ⟨dp, d, kvs, hp, hd, ent⟩ := hs.ex
    have hu := hu_of hr
    refine ⟨_, pss_cons (ps_set (i := 3) scA10.nd rfl (Or.inl rfl) (pe_call GA (hr.mono (by decide)) rfl DA.mg DA.F.kp DA.b .nil pass0 (pa_cons (pe_call GL (hr.mono (by decide)) rfl DL.mg DL.F.kp DL.b .nil pass0 (pa_cons (pe_fld (pv 0) rfl) pa_nil)) pa_nil)))
      (pss_cons (ps_set (i := 4) scA10.nd rfl (Or.inl rfl) (pe_call GM hr rfl DM.mg DM.F.kp DM.b .nil pass0 (pa_cons (pe_fld (pv 0) rfl) pa_nil)))
      (pss_cons (ps_if (pt_cmpR op_eq (pe_callB cr_lenL (by rfl) T.b_len PySem.boot_len (pa_cons (pv 3) pa_nil)) pe_int (nomark _)) (pss_one (ps_ret (pe_lst (pa_cons pe_int (pa_cons (pv 4) pa_nil))))) pss_nil)
      (pss_one (ps_ret (pe_lst (pa_cons pe_int (pa_cons (pe_ix ix_list (pv 3) pe_int (fun _ _ => rfl)) (pa_cons (pv 4) pa_nil)))))))), ?_⟩
    refine ⟨_, rfl, h, CH, dh, _, _, rfl, hh1, TO.cl, TO.nS, hf_sale _, p, n, r, bs, rfl, hs.sale, n60, hok, fun H1 q ts s1 o1 => ?_⟩
    refine ⟨q, ts, _, rfl, o1, leftL_len r hok n60, fun H2 l s2 hl => ?_⟩
    have s3 := s1.trans s2
    refine ⟨_, rfl, h, CH, dh, _, _, rfl, s3 _ _ hh1, TO.cl, TO.nS, hf_sale _, p, n, r, bs, rfl, (hs.mono s3).sale, n1, n60, hok, fun H3 y hy s4 => ?_⟩
    have s5 := s3.trans s4
    have hl := s4 _ _ hl
    refine ⟨_, rfl, l, _, rfl, SqL.of hl, rfl, _, rfl, ?_⟩
    cases e : leftL n r bs with
    | nil =>
      rw [e] at hl
      refine iteT ⟨_, rfl, (by show 2 ≤ sizeLine; decide), fun a ha => ?_⟩
      have s6 := s5.trans (same_new (o := .lst [.int 0, .int y.2]) ha)
      exact fin (st10_none n1 e hy) _ a _ (Same.but s6 h) (hh.same s6) rel (s5.free ha) upd_same
    | cons x t =>
      rw [e] at hl
      rw [decide_eq_false (show ¬ V.int (((((x :: t).map (·.2)).map V.int)).length : Int) = V.int 0 from fun q => by have q := V.int.inj q; rw [List.length_map, List.length_map, List.length_cons] at q; omega)]
      refine iteF ⟨_, rfl, l, _, _, _, rfl, rfl, SqL.of hl, at_of (j := 0) rfl rfl, _, rfl, (by show 3 ≤ sizeLine; decide), fun a ha => ?_⟩
      have s6 := s5.trans (same_new (o := .lst [.int 1, .int x.2, .int y.2]) ha)
      exact fin (st10_some n1 e hy) _ a _ (Same.but s6 h) (hh.same s6) rel (s5.free ha) upd_same
/-! ### answer_shows -/
theorem scA11 : FnScope ["house", "numbers", "rows", "price", "split"] PS3 (defScope s_answer_shows) := ⟨rfl, rfl, rfl, by decide +kernel, rfl, by decide +kernel, by decide +kernel⟩
theorem ok_A11 {f fI fS : Addr} {fd fdI fdS : FuncData} (D : Dn K mg "answer_shows" s_answer_shows PS3 f fd) (T : TxH mg) (TS : TxS K mg CS) (TO : TxO K mg CH) (DI : Dn K mg "is_split" s_is_split ["numbers"] fI fdI) (DS : Dn K mg "shows_split" s_shows_split ["sale", "price", "split"] fS fdS) (GI : FnOk P w K mg base CX0 1 fI fdI ["numbers"] (spIsSp)) (GS : FnOk P w K mg base CX0 2 fS fdS ["sale", "price", "split"] (spShw CS)) : FnOk P w K mg base CX0 3 f fd PS3 (spA CS CH 11) := by
  obtain ⟨t1, h1⟩ := T.spBey
  refine D.F.ok scA11 (fun vs H Q E h => ?_) (fun cdv A outer s H vs Q E hr h => ?_)
  · obtain ⟨h, ln, lr, av, ns, las, rows, st, S, rfl, _⟩ := h
    rfl
  · obtain ⟨h, ln, lr, av, ns, las, rows, st, S, rfl, hln, hlr, hro, hav, hh, rel, shp, hrl, hk, k⟩ := h
    obtain ⟨e1, e2⟩ := Prod.mk.inj (Option.some.inj (show some ((1, 1) : Nat × Nat) = some (ns.length, rows.length) from shp))
    obtain ⟨z, rfl⟩ := one_of e1.symm
    obtain ⟨os, rfl⟩ := one_of e2.symm
    have lo : os.length ≤ 64 := hrl os List.mem_cons_self
    cases hro with
    | @cons l _ las _ hl hro =>
    cases hro
    obtain ⟨n, r, bs, rfl, rfl, n1, n60, hok⟩ := open_st rel (hk (by decide))
    have fin := done_of k
    obtain ⟨dh, p, hh1, hs, hsv⟩ := hh
    have hh : HouseAt CS CH av H h (some (n, r, bs)) := ⟨dh, p, hh1, hs, hsv⟩
    obtain ⟨dp, d, kvs, hp, hd, ent⟩ := hs.ex
    have hu := hu_of hr
    refine ⟨_, pss_cons (ps_set (i := 3) scA11.nd rfl (Or.inl rfl) (pe_ix ix_list (pv 1) pe_int (fun _ _ => rfl)))
      (pss_cons (ps_set (i := 4) scA11.nd rfl (Or.inl rfl) (pe_ix ix_list (pv 2) pe_int (fun _ _ => rfl)))
      (pss_cons (ps_if (pt_not (pt_truth (pe_call GI (hr.mono (by decide)) rfl DI.mg DI.F.kp DI.b .nil pass0 (pa_cons (pv 4) pa_nil)) (fun _ => rfl))) (pss_one (ps_ret (pe_lst (pa_cons (pe_glob (v := .int (-3)) rfl h1 ⟨_, rfl⟩) pa_nil)))) pss_nil)
      (pss_one (ps_ret (pe_lst (pa_cons (pe_ifExp (pt_truth (pe_call GS hr rfl DS.mg DS.F.kp DS.b .nil pass0 (pa_cons (pe_fld (pv 0) rfl) (pa_cons (pv 3) (pa_cons (pv 4) pa_nil)))) (fun _ => rfl)) pe_int pe_int) pa_nil)))))), ?_⟩
    refine ⟨_, rfl, ln, _, _, _, rfl, rfl, SqL.of hln, at_of (j := 0) rfl rfl, ?_⟩
    refine ⟨_, rfl, lr, _, _, _, rfl, rfl, SqL.of hlr, at_of (j := 0) rfl rfl, ?_⟩
    refine ⟨_, rfl, l, os, rfl, hl, by omega, fun H1 s1 => ⟨_, rfl, ?_⟩⟩
    by_cases c0 : splitOk os = true
    · rw [c0]
      refine iteF ?_
      have c1 := c0
      unfold splitOk at c1
      rw [Bool.and_eq_true] at c1
      refine ⟨_, rfl, h, CH, dh, _, _, rfl, s1 _ _ hh1, TO.cl, TO.nS, hf_sale _, _, rfl, _, rfl, p, l, n, r, z, bs, os, rfl, (hs.mono s1).sale, s1 _ _ hl, n60, hok, of_decide_eq_true c1.1, fun x m => (of_decide_eq_true (List.all_eq_true.mp c1.2 x m)).1, fun H2 s2 => ⟨_, rfl, ?_⟩⟩
      have s3 := s1.trans s2
      have done := fin (st11_ok n1 hok c0)
      by_cases c2 : showsL n r bs os z = true
      · rw [c2] at done ⊢
        refine iteT ⟨(by show 1 ≤ sizeLine; decide), fun a ha => ?_⟩
        have s4 := s3.trans (same_new (o := .lst [.int 1]) ha)
        exact done _ a _ (Same.but s4 h) (hh.same s4) rel (s3.free ha) upd_same
      · have c2 : showsL n r bs os z = false := by simpa using c2
        rw [c2] at done ⊢
        refine iteF ⟨(by show 1 ≤ sizeLine; decide), fun a ha => ?_⟩
        have s4 := s3.trans (same_new (o := .lst [.int 0]) ha)
        exact done _ a _ (Same.but s4 h) (hh.same s4) rel (s3.free ha) upd_same
    · have c0 : splitOk os = false := by simpa using c0
      rw [c0]
      refine iteT ⟨(by show 1 ≤ sizeLine; decide), fun a ha => ?_⟩
      have s2 := s1.trans (same_new (o := .lst [.int (-3)]) ha)
      exact fin (st11_bad n1 c0) _ a _ (Same.but s2 h) (hh.same s2) rel (s1.free ha) upd_same
/-! ### answer_wanted -/
theorem scA12 : FnScope ["house", "numbers", "rows", "who", "price"] PS3 (defScope s_answer_wanted) := ⟨rfl, rfl, rfl, by decide +kernel, rfl, by decide +kernel, by decide +kernel⟩
theorem ok_A12 {f fS : Addr} {fd fdS : FuncData} (D : Dn K mg "answer_wanted" s_answer_wanted PS3 f fd) (T : TxH mg) (TS : TxS K mg CS) (TO : TxO K mg CH) (DS : Dn K mg "wanted_of" s_wanted_of ["sale", "who", "price"] fS fdS) (GS : FnOk P w K mg base CX0 3 fS fdS ["sale", "who", "price"] (spWan CS)) : FnOk P w K mg base CX0 4 f fd PS3 (spA CS CH 12) := by
  obtain ⟨t1, h1⟩ := T.noBid
  refine D.F.ok scA12 (fun vs H Q E h => ?_) (fun cdv A outer s H vs Q E hr h => ?_)
  · obtain ⟨h, ln, lr, av, ns, las, rows, st, S, rfl, _⟩ := h
    rfl
  · obtain ⟨h, ln, lr, av, ns, las, rows, st, S, rfl, hln, hlr, hro, hav, hh, rel, shp, hrl, hk, k⟩ := h
    obtain ⟨e1, e2⟩ := Prod.mk.inj (Option.some.inj (show some ((2, 0) : Nat × Nat) = some (ns.length, rows.length) from shp))
    obtain ⟨z, c, rfl⟩ := two_of e1.symm
    have e4 := zero_of e2.symm
    subst e4
    obtain ⟨n, r, bs, rfl, rfl, n1, n60, hok⟩ := open_st rel (hk (by decide))
    have fin := done_of k
    obtain ⟨dh, p, hh1, hs, hsv⟩ := hh
    have hh : HouseAt CS CH av H h (some (n, r, bs)) := ⟨dh, p, hh1, hs, hsv⟩
    obtain ⟨dp, d, kvs, hp, hd, ent⟩ := hs.ex
    have hu := hu_of hr
    refine ⟨_, pss_cons (ps_set (i := 3) scA12.nd rfl (Or.inl rfl) (pe_ix ix_list (pv 1) pe_int (fun _ _ => rfl)))
      (pss_cons (ps_set (i := 4) scA12.nd rfl (Or.inl rfl) (pe_ix ix_list (pv 1) pe_int (fun _ _ => rfl)))
      (pss_cons (ps_if (pt_cmp (pc_dnotin hu (pv 3) (pe_fld (pe_fld (pv 0) rfl) rfl))) (pss_one (ps_ret (pe_lst (pa_cons (pe_glob (v := .int (-2)) rfl h1 ⟨_, rfl⟩) pa_nil)))) pss_nil)
      (pss_one (ps_ret (pe_lst (pa_cons (pe_call GS hr rfl DS.mg DS.F.kp DS.b .nil pass0 (pa_cons (pe_fld (pv 0) rfl) (pa_cons (pv 3) (pa_cons (pv 4) pa_nil)))) pa_nil)))))), ?_⟩
    refine ⟨_, rfl, ln, _, _, _, rfl, rfl, SqL.of hln, at_of (j := 0) rfl rfl, ?_⟩
    refine ⟨_, rfl, ln, _, _, _, rfl, rfl, SqL.of hln, at_of (j := 1) rfl rfl, ?_⟩
    refine ⟨_, rfl, _, rfl, h, CH, dh, _, _, rfl, hh1, TO.cl, TO.nS, hf_sale _, p, CS, dp, _, _, rfl, hp, TS.cl, TS.nB, sf_b _ _ _, d, _, rfl, DGet.k (k := Sum.inl z) hd, _, rfl, ?_⟩
    rw [ent_isSome z ent]
    cases c0 : lk bs z with
    | none =>
      refine iteT ⟨(by show 1 ≤ sizeLine; decide), fun a ha => ?_⟩
      have s2 := same_new (o := .lst [.int (-2)]) ha
      exact fin (st12_no n1 hok c0) _ a _ (Same.but s2 h) (hh.same s2) rel ha upd_same
    | some os0 =>
      have c' : (lk bs z).isSome = true := by rw [c0]; rfl
      refine iteF ?_
      have z1 := (lk_range hok c').1
      refine ⟨_, rfl, h, CH, dh, _, _, rfl, hh1, TO.cl, TO.nS, hf_sale _, _, rfl, _, rfl, p, n, r, z, c, bs, rfl, hs.sale, n60, hok, by omega, fun H1 s1 => ⟨(by show 1 ≤ sizeLine; decide), fun a ha => ?_⟩⟩
      have s2 := s1.trans (same_new (o := .lst [.int (wantedL n r bs z c : Int)]) ha)
      exact fin (st12_ok n1 hok c') _ a _ (Same.but s2 h) (hh.same s2) rel (s1.free ha) upd_same
/-! ### answer_gain -/
theorem scA13 : FnScope ["house", "numbers", "rows", "who", "truth"] PS3 (defScope s_answer_gain) := ⟨rfl, rfl, rfl, by decide +kernel, rfl, by decide +kernel, by decide +kernel⟩
theorem ok_A13 {f fT fS : Addr} {fd fdT fdS : FuncData} (D : Dn K mg "answer_gain" s_answer_gain PS3 f fd) (T : TxH mg) (TS : TxS K mg CS) (TO : TxO K mg CH) (DT : Dn K mg "is_truth" s_is_truth ["sale", "numbers"] fT fdT) (DS : Dn K mg "gain_of" s_gain_of ["sale", "who", "truth"] fS fdS) (GT : FnOk P w K mg base CX0 2 fT fdT ["sale", "numbers"] (spIsTr CS)) (GS : FnOk P w K mg base CX0 8 fS fdS ["sale", "who", "truth"] (spGain CS)) : FnOk P w K mg base CX0 9 f fd PS3 (spA CS CH 13) := by
  obtain ⟨t1, h1⟩ := T.noBid
  obtain ⟨t2, h2⟩ := T.trBey
  refine D.F.ok scA13 (fun vs H Q E h => ?_) (fun cdv A outer s H vs Q E hr h => ?_)
  · obtain ⟨h, ln, lr, av, ns, las, rows, st, S, rfl, _⟩ := h
    rfl
  · obtain ⟨h, ln, lr, av, ns, las, rows, st, S, rfl, hln, hlr, hro, hav, hh, rel, shp, hrl, hk, k⟩ := h
    obtain ⟨e1, e2⟩ := Prod.mk.inj (Option.some.inj (show some ((1, 1) : Nat × Nat) = some (ns.length, rows.length) from shp))
    obtain ⟨z, rfl⟩ := one_of e1.symm
    obtain ⟨os, rfl⟩ := one_of e2.symm
    have lo : os.length ≤ 64 := hrl os List.mem_cons_self
    cases hro with
    | @cons l _ las _ hl hro =>
    cases hro
    obtain ⟨n, r, bs, rfl, rfl, n1, n60, hok⟩ := open_st rel (hk (by decide))
    have fin := done_of k
    obtain ⟨dh, p, hh1, hs, hsv⟩ := hh
    have hh : HouseAt CS CH av H h (some (n, r, bs)) := ⟨dh, p, hh1, hs, hsv⟩
    obtain ⟨dp, d, kvs, hp, hd, ent⟩ := hs.ex
    have hu := hu_of hr
    refine ⟨_, pss_cons (ps_set (i := 3) scA13.nd rfl (Or.inl rfl) (pe_ix ix_list (pv 1) pe_int (fun _ _ => rfl)))
      (pss_cons (ps_set (i := 4) scA13.nd rfl (Or.inl rfl) (pe_ix ix_list (pv 2) pe_int (fun _ _ => rfl)))
      (pss_cons (ps_if (pt_cmp (pc_dnotin hu (pv 3) (pe_fld (pe_fld (pv 0) rfl) rfl))) (pss_one (ps_ret (pe_lst (pa_cons (pe_glob (v := .int (-2)) rfl h1 ⟨_, rfl⟩) pa_nil)))) pss_nil)
      (pss_cons (ps_if (pt_not (pt_truth (pe_call GT (hr.mono (by decide)) rfl DT.mg DT.F.kp DT.b .nil pass0 (pa_cons (pe_fld (pv 0) rfl) (pa_cons (pv 4) pa_nil))) (fun _ => rfl))) (pss_one (ps_ret (pe_lst (pa_cons (pe_glob (v := .int (-3)) rfl h2 ⟨_, rfl⟩) pa_nil)))) pss_nil)
      (pss_one (ps_ret (pe_lst (pa_cons pe_int (pa_cons (pe_call GS hr rfl DS.mg DS.F.kp DS.b .nil pass0 (pa_cons (pe_fld (pv 0) rfl) (pa_cons (pv 3) (pa_cons (pv 4) pa_nil)))) pa_nil)))))))), ?_⟩
    refine ⟨_, rfl, ln, _, _, _, rfl, rfl, SqL.of hln, at_of (j := 0) rfl rfl, ?_⟩
    refine ⟨_, rfl, lr, _, _, _, rfl, rfl, SqL.of hlr, at_of (j := 0) rfl rfl, ?_⟩
    refine ⟨_, rfl, _, rfl, h, CH, dh, _, _, rfl, hh1, TO.cl, TO.nS, hf_sale _, p, CS, dp, _, _, rfl, hp, TS.cl, TS.nB, sf_b _ _ _, d, _, rfl, DGet.k (k := Sum.inl z) hd, _, rfl, ?_⟩
    rw [ent_isSome z ent]
    cases c0 : lk bs z with
    | none =>
      refine iteT ⟨(by show 1 ≤ sizeLine; decide), fun a ha => ?_⟩
      have s2 := same_new (o := .lst [.int (-2)]) ha
      exact fin (st13_no n1 hok c0) _ a _ (Same.but s2 h) (hh.same s2) rel ha upd_same
    | some os0 =>
      have c' : (lk bs z).isSome = true := by rw [c0]; rfl
      refine iteF ?_
      refine ⟨_, rfl, h, CH, dh, _, _, rfl, hh1, TO.cl, TO.nS, hf_sale _, _, rfl, p, l, n, r, bs, os, rfl, hs.sale, hl, by omega, fun H1 s1 => ⟨_, rfl, ?_⟩⟩
      by_cases c1 : truthOk n os = true
      · rw [c1]
        refine iteF ?_
        refine ⟨_, rfl, h, CH, dh, _, _, rfl, s1 _ _ hh1, TO.cl, TO.nS, hf_sale _, _, rfl, _, rfl, p, l, n, r, z, bs, os, rfl, (hs.mono s1).sale, s1 _ _ hl, n60, hok, c', fun H2 s2 => ⟨(by show 2 ≤ sizeLine; decide), fun a ha => ?_⟩⟩
        have s3 := s1.trans s2
        have s4 := s3.trans (same_new (o := .lst [.int 0, .int (gainL n r bs z os)]) ha)
        exact fin (st13_ok n1 hok c' c1) _ a _ (Same.but s4 h) (hh.same s4) rel (s3.free ha) upd_same
      · have c1 : truthOk n os = false := by simpa using c1
        rw [c1]
        refine iteT ⟨(by show 1 ≤ sizeLine; decide), fun a ha => ?_⟩
        have s2 := s1.trans (same_new (o := .lst [.int (-3)]) ha)
        exact fin (st13_bad n1 hok c' c1) _ a _ (Same.but s2 h) (hh.same s2) rel (s1.free ha) upd_same
/-! ### answer_ifbid -/
theorem scA14 : FnScope ["house", "numbers", "rows", "who", "offers", "truth", "refusal"] PS3 (defScope s_answer_ifbid) := ⟨rfl, rfl, rfl, by decide +kernel, rfl, by decide +kernel, by decide +kernel⟩
theorem ok_A14 {f fR fW fT fS : Addr} {fd fdR fdW fdT fdS : FuncData} (D : Dn K mg "answer_ifbid" s_answer_ifbid PS3 f fd) (T : TxH mg) (TS : TxS K mg CS) (TO : TxO K mg CH) (DR : Dn K mg "bid_refusal" s_bid_refusal ["sale", "who", "offers"] fR fdR) (DW : Dn K mg "with_bid" s_with_bid ["sale", "who", "offers"] fW fdW) (DT : Dn K mg "is_truth" s_is_truth ["sale", "numbers"] fT fdT) (DS : Dn K mg "gain_of" s_gain_of ["sale", "who", "truth"] fS fdS) (GR : FnOk P w K mg base CX0 2 fR fdR ["sale", "who", "offers"] (spRef K CS)) (GW : FnOk P w K mg base CX0 3 fW fdW ["sale", "who", "offers"] (spWith K CS)) (GT : FnOk P w K mg base CX0 2 fT fdT ["sale", "numbers"] (spIsTr CS)) (GS : FnOk P w K mg base CX0 8 fS fdS ["sale", "who", "truth"] (spGain CS)) : FnOk P w K mg base CX0 9 f fd PS3 (spA CS CH 14) := by
  obtain ⟨t1, h1⟩ := T.noRef
  obtain ⟨t2, h2⟩ := T.ifBey
  refine D.F.ok scA14 (fun vs H Q E h => ?_) (fun cdv A outer s H vs Q E hr h => ?_)
  · obtain ⟨h, ln, lr, av, ns, las, rows, st, S, rfl, _⟩ := h
    rfl
  · obtain ⟨h, ln, lr, av, ns, las, rows, st, S, rfl, hln, hlr, hro, hav, hh, rel, shp, hrl, hk, k⟩ := h
    obtain ⟨e1, e2⟩ := Prod.mk.inj (Option.some.inj (show some ((1, 2) : Nat × Nat) = some (ns.length, rows.length) from shp))
    obtain ⟨z, rfl⟩ := one_of e1.symm
    obtain ⟨os, tr, rfl⟩ := two_of e2.symm
    have lo : os.length ≤ 64 := hrl os List.mem_cons_self
    have lt : tr.length ≤ 64 := hrl tr (List.mem_cons_of_mem _ List.mem_cons_self)
    cases hro with
    | @cons l _ las _ hl hro =>
    cases hro with
    | @cons l2 _ las _ hl2 hro =>
    cases hro
    obtain ⟨n, r, bs, rfl, rfl, n1, n60, hok⟩ := open_st rel (hk (by decide))
    have fin := done_of k
    obtain ⟨dh, p, hh1, hs, hsv⟩ := hh
    have hh : HouseAt CS CH av H h (some (n, r, bs)) := ⟨dh, p, hh1, hs, hsv⟩
    obtain ⟨dp, d, kvs, hp, hd, ent⟩ := hs.ex
    have hu := hu_of hr
    refine ⟨_, pss_cons (ps_set (i := 3) scA14.nd rfl (Or.inl rfl) (pe_ix ix_list (pv 1) pe_int (fun _ _ => rfl)))
      (pss_cons (ps_set (i := 4) scA14.nd rfl (Or.inl rfl) (pe_ix ix_list (pv 2) pe_int (fun _ _ => rfl)))
      (pss_cons (ps_set (i := 5) scA14.nd rfl (Or.inl rfl) (pe_ix ix_list (pv 2) pe_int (fun _ _ => rfl)))
      (pss_cons (ps_set (i := 6) scA14.nd rfl (Or.inl rfl) (pe_call GR (hr.mono (by decide)) rfl DR.mg DR.F.kp DR.b .nil pass0 (pa_cons (pe_fld (pv 0) rfl) (pa_cons (pv 3) (pa_cons (pv 4) pa_nil)))))
      (pss_cons (ps_if (pt_cmpR op_ne (pv 6) (pe_glob (v := .int 0) rfl h1 ⟨_, rfl⟩) (nomark _)) (pss_one (ps_ret (pe_lst (pa_cons (pv 6) pa_nil)))) pss_nil)
      (pss_cons (ps_if (pt_not (pt_truth (pe_call GT (hr.mono (by decide)) rfl DT.mg DT.F.kp DT.b .nil pass0 (pa_cons (pe_fld (pv 0) rfl) (pa_cons (pv 5) pa_nil))) (fun _ => rfl))) (pss_one (ps_ret (pe_lst (pa_cons (pe_glob (v := .int (-6)) rfl h2 ⟨_, rfl⟩) pa_nil)))) pss_nil)
      (pss_one (ps_ret (pe_lst (pa_cons pe_int (pa_cons (pe_call GS hr rfl DS.mg DS.F.kp DS.b .nil pass0 (pa_cons (pe_call GW (hr.mono (by decide)) rfl DW.mg DW.F.kp DW.b .nil pass0 (pa_cons (pe_fld (pv 0) rfl) (pa_cons (pv 3) (pa_cons (pv 4) pa_nil)))) (pa_cons (pv 3) (pa_cons (pv 5) pa_nil)))) pa_nil)))))))))), ?_⟩
    refine ⟨_, rfl, ln, _, _, _, rfl, rfl, SqL.of hln, at_of (j := 0) rfl rfl, ?_⟩
    refine ⟨_, rfl, lr, _, _, _, rfl, rfl, SqL.of hlr, at_of (j := 0) rfl rfl, ?_⟩
    refine ⟨_, rfl, lr, _, _, _, rfl, rfl, SqL.of hlr, at_of (j := 1) rfl rfl, ?_⟩
    refine ⟨_, rfl, h, CH, dh, _, _, rfl, hh1, TO.cl, TO.nS, hf_sale _, _, rfl, _, rfl, p, l, n, r, z, bs, os, rfl, hs.sale, SqL.of hl, by omega, fun H1 s1 => ?_⟩
    refine ⟨_, rfl, rfl, _, rfl, ?_⟩
    by_cases c0 : refusal n z os < 0
    · rw [decide_eq_false (show ¬ V.int (refusal n z os) = V.int 0 from fun e => by have q := V.int.inj e; omega)]
      refine iteT ⟨_, rfl, (by show 1 ≤ sizeLine; decide), fun a ha => ?_⟩
      have s2 := s1.trans (same_new (o := .lst [.int (refusal n z os)]) ha)
      exact fin (st14_no n1 c0) _ a _ (Same.but s2 h) (hh.same s2) rel (s1.free ha) upd_same
    · obtain ⟨e0, z1, z8, hl8⟩ := refusal_0 c0
      rw [decide_eq_true (show V.int (refusal n z os) = V.int 0 by rw [e0])]
      refine iteF ?_
      refine ⟨_, rfl, h, CH, dh, _, _, rfl, s1 _ _ hh1, TO.cl, TO.nS, hf_sale _, _, rfl, p, l2, n, r, bs, tr, rfl, (hs.mono s1).sale, s1 _ _ hl2, by omega, fun H2 s2 => ⟨_, rfl, ?_⟩⟩
      have s3 := s1.trans s2
      by_cases c1 : truthOk n tr = true
      · rw [c1]
        refine iteF ?_
        refine ⟨_, rfl, h, CH, dh, _, _, rfl, s3 _ _ hh1, TO.cl, TO.nS, hf_sale _, _, rfl, _, rfl, p, l, n, r, z, os, bs, rfl, (hs.mono s3).sale, s3 _ _ hl, Nat.le_trans hok.eight (by decide), fun H3 x s4 _ h4 _ => ?_⟩
        refine ⟨_, rfl, _, rfl, x, l2, n, r, z, _, tr, rfl, h4.sale, s4 _ _ (s3 _ _ hl2), n60, hok.put z1 z8 hl8, ?_, fun H4 s5 => ⟨(by show 2 ≤ sizeLine; decide), fun a ha => ?_⟩⟩
        · rw [lk_put, if_pos rfl]; rfl
        · have s6 := (s3.trans s4).trans s5
          have s7 := s6.trans (same_new (o := .lst [.int 0, .int (gainL n r (putB bs z os) z tr)]) ha)
          exact fin (st14_ok n1 c0 c1) _ a _ (Same.but s7 h) (hh.same s7) rel (s6.free ha) upd_same
      · have c1 : truthOk n tr = false := by simpa using c1
        rw [c1]
        refine iteT ⟨(by show 1 ≤ sizeLine; decide), fun a ha => ?_⟩
        have s4 := s3.trans (same_new (o := .lst [.int (-6)]) ha)
        exact fin (st14_bad n1 c0 c1) _ a _ (Same.but s4 h) (hh.same s4) rel (s3.free ha) upd_same
end
end Ss
end
section
set_option Elab.async false
set_option linter.all false
set_option maxRecDepth 100000
set_option maxHeartbeats 4000000
namespace Ss
open PySem PySem.Spec PyProof.Rows L2
theorem ent_keys {H : Hp} {kvs : List (Key × V)} {bs : Tb} (h : Paired (BidEnt H) kvs bs) : kvs.map (·.1) = (bs.map (·.1)).map fun z => (Sum.inl z : Key) := by
  induction h with
  | nil => rfl
  | cons r _ ih => rw [List.map_cons, List.map_cons, List.map_cons, ih, r.1]
section
variable {P : Program} {w : World} {K : PySem.W.Frag} {mg : Str → Option Value} {base : Heap} {CS CH : Addr}
/-! ### answer_offers -/
theorem scA15 : FnScope ["house", "numbers", "rows", "bids", "answer", "who"] PS3 (defScope s_answer_offers) := ⟨rfl, rfl, rfl, by decide +kernel, rfl, by decide +kernel, by decide +kernel⟩
theorem ok_A15 {f : Addr} {fd : FuncData} (D : Dn K mg "answer_offers" s_answer_offers PS3 f fd) (T : TxH mg) (TS : TxS K mg CS) (TO : TxO K mg CH) : FnOk P w K mg base CX0 1 f fd PS3 (spA CS CH 15) := by
  refine D.F.ok scA15 (fun vs H Q E h => ?_) (fun cdv A outer s H vs Q E hr h => ?_)
  · obtain ⟨h, ln, lr, av, ns, las, rows, st, S, rfl, _⟩ := h
    rfl
  · obtain ⟨h, ln, lr, av, ns, las, rows, st, S, rfl, hln, hlr, hro, hav, hh, rel, shp, hrl, hk, k⟩ := h
    obtain ⟨e1, e2⟩ := Prod.mk.inj (Option.some.inj (show some ((0, 0) : Nat × Nat) = some (ns.length, rows.length) from shp))
    have e3 := zero_of e1.symm
    subst e3
    have e4 := zero_of e2.symm
    subst e4
    obtain ⟨n, r, bs, rfl, rfl, n1, n60, hok⟩ := open_st rel (hk (by decide))
    have fin := done_of k
    obtain ⟨dh, p, hh1, hs, hsv⟩ := hh
    have hh : HouseAt CS CH av H h (some (n, r, bs)) := ⟨dh, p, hh1, hs, hsv⟩
    obtain ⟨dp, d, kvs, hp, hd, ent⟩ := hs.ex
    have hu := hu_of hr
    refine ⟨_, pss_cons (ps_set (i := 3) scA15.nd rfl (Or.inl rfl) (pe_fld (pe_fld (pv 0) rfl) rfl))
      (pss_cons (ps_set (i := 4) scA15.nd rfl (Or.inl rfl) (pe_lst (pa_cons (pe_callB cr_lenD (by rfl) T.b_len PySem.boot_len (pa_cons (pv 3) pa_nil)) pa_nil)))
      (pss_cons (ps_for PassesOwn.never rfl (pi_list (pe_callB (cr_sortedD rfl) (by rfl) T.b_sorted PyProof.Rows.boot_sorted (pa_cons (pv 3) pa_nil))) (pg_name (i := 5) scA15.nd rfl (Or.inl rfl))
        (pss_cons (ps_expr (pe_bm PySem.F.plainAttrs_list PySem.F.slot_list_append PySem.F.type_list_append mt_append (pv 4) (pa_cons (pv 5) pa_nil)))
        (pss_cons (ps_expr (pe_bm PySem.F.plainAttrs_list PySem.F.slot_list_append PySem.F.type_list_append mt_append (pv 4) (pa_cons (pe_callB cr_lenL (by rfl) T.b_len PySem.boot_len (pa_cons (pe_dget hu (pv 3) (pv 5) (fun _ _ => rfl)) pa_nil)) pa_nil)))
        (pss_one (ps_expr (pe_bm PySem.F.plainAttrs_list PySem.F.slot_list_extend PySem.F.type_list_extend mt_extend (pv 4) (pa_cons (pe_dget hu (pv 3) (pv 5) (fun _ _ => rfl)) pa_nil)))))))
      (pss_one (ps_ret (pv 4))))), ?_⟩
    refine ⟨_, rfl, h, CH, dh, _, _, rfl, hh1, TO.cl, TO.nS, hf_sale _, p, CS, dp, _, _, rfl, hp, TS.cl, TS.nB, sf_b _ _ _, ?_⟩
    refine ⟨_, rfl, d, kvs, rfl, .inl hd, (by show 1 ≤ sizeLine; decide), fun la hla => ?_⟩
    rw [ent_len ent]
    have s1 := same_new (o := .lst [.int (bs.length : Int)]) hla
    refine ⟨_, rfl, d, kvs, bs.map (·.1), rfl, .inl (s1 _ _ hd), ent_keys ent, by rw [List.length_map]; exact Nat.lt_of_le_of_lt hok.eight (by decide), fun ns ls hp2 hs2 hls => ?_⟩
    have s2 := same_new (o := .lst (ns.map V.int)) hls
    have nsa : ls ≠ la := fun z => by rw [z, upd_same] at hls; cases hls
    have n8 : ns.length ≤ 8 := by rw [hp2.length_eq, List.length_map]; exact hok.eight
    refine ⟨ls, rfl, ⟨_, SqL.of upd_same⟩, for_list (K := K) (a := ls) (xs := ns.map V.int)
      (fun i σ H' => ∃ v5 : Option V, σ = [some (.ref h), some (.ref ln), some (.ref lr), some (.ref d), some (.ref la), v5] ∧ Same H H' ∧ H' ls = some (.lst (ns.map V.int)) ∧ H' la = some (.lst (((bs.length : Int) :: (ns.take i).flatMap (ansOf bs)).map V.int)))
      ⟨none, rfl, s1.trans s2, upd_same, s2 _ _ upd_same⟩ (fun i σ H' _ ⟨_, _, _, h, _⟩ => SqL.of h) ?_ ?_⟩
    · rintro i x σ H' hx ⟨v5, rfl, sH, hls', hla'⟩
      obtain ⟨z, hz, rfl⟩ := ge_map hx
      have zm : z ∈ bs.map (·.1) := hp2.mem_iff.mp (List.mem_of_getElem? hz)
      obtain ⟨os, hos⟩ := Option.isSome_iff_exists.mp ((isSome_key hok z).mpr zm)
      obtain ⟨l, hv, hl⟩ := ent_some ent hos
      have nla : l ≠ la := ne_of_none hl hla
      have nda : d ≠ la := ne_of_none hd hla
      have lenF : ((ns.take i).flatMap (ansOf bs)).length ≤ 496 := by
        refine Nat.le_trans (flat_len (m := 62) fun x _ => ansOf_len hok n60 x) ?_
        rw [List.length_take]
        omega
      have lo : os.length ≤ n := hok.len _ (lk_mem hos)
      have get : ∀ {H2 : Hp}, Same H H2 → DGet H2 d (.int z) (some (.ref l)) := fun {H2} s => by
        have q := DGet.r (k := Sum.inl z) (.inl (s _ _ hd))
        rw [hv] at q
        exact q
      -- answer.append(who)
      refine ⟨_, rfl, .inl ⟨rfl, _, SqL.of hla'⟩, _, rfl, la, _, _, rfl, rfl, hla', ?_, ?_⟩
      · rw [List.length_map, List.length_cons]
        exact fits (by omega)
      have t1 : Same H (upd H' la (.lst (((bs.length : Int) :: (ns.take i).flatMap (ansOf bs)).map V.int ++ [.int z]))) := same_upd sH hla
      -- answer.append(len(bids[who]))
      refine ⟨_, rfl, .inl ⟨rfl, _, SqL.of upd_same⟩, _, rfl, _, rfl, d, _, rfl, get t1, l, _, rfl, SqL.of (t1 _ _ hl), la, _, _, rfl, rfl, upd_same, ?_, ?_⟩
      · rw [List.length_append, List.length_map, List.length_cons]
        exact fits (by show _ + 1 ≤ _; omega)
      have t2 : Same H (upd (upd H' la (.lst (((bs.length : Int) :: (ns.take i).flatMap (ansOf bs)).map V.int ++ [.int z]))) la (.lst (((bs.length : Int) :: (ns.take i).flatMap (ansOf bs)).map V.int ++ [.int z] ++ [.int ((os.map V.int).length : Int)]))) := same_upd t1 hla
      -- answer.extend(bids[who])
      refine ⟨_, rfl, .inl ⟨rfl, _, SqL.of upd_same⟩, _, rfl, _, rfl, d, _, rfl, get t2, la, l, _, _, rfl, rfl, upd_same, t2 _ _ hl, ?_, ?_⟩
      · rw [List.length_append, List.length_append, List.length_map, List.length_cons, List.length_map]
        exact Nat.le_of_lt (fits (by show _ + 1 + 1 + _ ≤ _; omega))
      · refine ⟨_, rfl, same_upd t2 hla, ?_, ?_⟩
        · rw [upd_ne nsa, upd_ne nsa, upd_ne nsa]
          exact hls'
        · have ea : ansOf bs z = z :: (os.length : Int) :: os := by unfold ansOf; rw [hos]
          rw [upd_same, take_snoc hz, List.flatMap_append, List.flatMap_singleton, ea, List.length_map, List.map_cons, List.map_cons, List.map_append, List.append_assoc, List.append_assoc]
          rfl
    · rintro σ H' ⟨v5, rfl, sH, hls', hla'⟩
      refine ⟨_, rfl, ?_⟩
      rw [List.length_map, List.take_length, offers_flat hok hp2 hs2] at hla'
      exact fin (st15 n1 hok) H' la _ (Same.but sH h) (hh.same sH) rel hla hla'
end
end Ss
end
section
set_option Elab.async false
set_option linter.all false
set_option maxRecDepth 100000
set_option maxHeartbeats 4000000
namespace L2
open PySem PySem.Spec PyProof.Rows
section
variable {X : Cx}
/-- x(e, ..), x a name that holds a def of the text: which one, the reading says -/
def tCallV (X : Cx) (te : TE) (t : TA) : TE := fun σ H Q => te σ H fun x H1 => ∃ (k : Nat) (f : Addr) (fd : FuncData) (ps : List Str) (sp : Sp), x = .ref f ∧ FnOk X.prog X.w X.K X.mg X.base CX0 k f fd ps sp ∧ Room k X.A ∧ PySem.W.keepIn X.K (.ref f) = true ∧ Binds X.K fd ps [] ∧
  t σ H1 fun vs H2 => sp (vs ++ []) H2 Q E0
theorem pe_callV {x : Str} {p pos : Pos} {e : Expr} {es : List Expr} {te : TE} {t : TA} (hx : PE X (.Name x p) te) (ha : PA X (e :: es) t) (he : starEach (e :: es) X.env = (false, eval e X.env) :: starEach es X.env := by rfl) (hpl : (backTo pos (starEach es X.env)).any (·.1) = false := by rfl) :
    PE X (.Call (.Name x p) (e :: es) [] pos) (tCallV X te t) := by
  intro pins s σ H Q I h
  refine wpAny_Call_Name_kw (thn (hx pins s σ H _ I h) fun u s1 ⟨v, H1, I1, rv, k, f, fd, ps, sp, ev, F, hr, hk, hb, q⟩ => ?_)
  subst ev
  obtain rfl : u = Value.ref f := rv
  refine PySem.W.callWith_K (h₀ := X.base) I1.ok.mod.kin hk (thn (ha pos pins s1 σ H1 _ I1 q) fun us s2 ⟨vs, H2, I2, r, q2⟩ => ⟨I2.kIn, ?_⟩) he hpl
  exact run_fn F hr hb .nil pass0 I2 r q2
end
end L2
namespace Ss
open PySem PySem.Spec PyProof.Rows L2
/-! ### the house and the reader stand apart -/
theorem hf_rf (v : V) (a : Addr) (i : Int) : hf v ≠ rf a i := fun e => by
  have q : (hf v).lookup ("sale" : Str) = (rf a i).lookup ("sale" : Str) := by rw [e]
  rw [hf_sale, rf_no _ _ (by decide) (by decide)] at q
  cases q
theorem sf_rf (n r : Int) (d : Addr) (a : Addr) (i : Int) : sf n r d ≠ rf a i := fun e => by
  have q : (sf n r d).lookup ("slices" : Str) = (rf a i).lookup ("slices" : Str) := by rw [e]
  rw [sf_s, rf_no _ _ (by decide) (by decide)] at q
  cases q
theorem ins_ne {C D dx dy : Addr} {f g : List (Str × V)} (h : f ≠ g) : HO.ins C dx f ≠ HO.ins D dy g := fun e => by
  injection e with _ _ e
  exact h e
theorem SaleOwn.rd {C : Addr} {H H' : Hp} {q CR dr a : Addr} {i : Int} (hq : H q = some (.ins CR dr (rf a i))) (s : But q H H') {p : Addr} {n : Nat} {r : Int} {bs : Tb} (x : SaleOwn C H p n r bs) : SaleOwn C H' p n r bs := by
  obtain ⟨dy, d, kvs, h1, h2, h3⟩ := x.ex
  refine ⟨dy, d, kvs, s _ _ h1 (ne_of h1 hq (ins_ne (sf_rf _ _ _ _ _))), s _ _ h2 (ne_of h2 hq fun z => by cases z), ?_⟩
  clear x h1 h2
  induction h3 with
  | nil => exact .nil
  | cons t _ ih =>
    obtain ⟨e1, l, e2, hl⟩ := t
    exact .cons ⟨e1, l, e2, s _ _ hl (ne_of hl hq fun z => by cases z)⟩ ih
theorem Avs.rd {C : Addr} {H H' : Hp} {q CR dr a : Addr} {i : Int} (hq : H q = some (.ins CR dr (rf a i))) (s : But q H H') {p av : Addr} (np : p ≠ q) (x : Avs C H p av) : Avs C H' p av := by
  obtain ⟨dy, d, kvs, fs, h1, h2, h3, h4⟩ := x.ex
  refine ⟨dy, d, kvs, fs, s _ _ h1 np, h2, ?_, h4⟩
  rcases h3 with h3 | ⟨o, h3⟩
  · exact .inl (s _ _ h3 (ne_of h3 hq fun z => by cases z))
  · exact .inr ⟨o, s _ _ h3 (ne_of h3 hq fun z => by cases z)⟩
theorem SaleOwn.nrd {C : Addr} {H : Hp} {q CR dr a : Addr} {i : Int} (hq : H q = some (.ins CR dr (rf a i))) {p : Addr} {n : Nat} {r : Int} {bs : Tb} (x : SaleOwn C H p n r bs) : p ≠ q := by
  obtain ⟨dy, d, kvs, h1, h2, h3⟩ := x.ex
  exact ne_of h1 hq (ins_ne (sf_rf _ _ _ _ _))
theorem HouseAt.ins {CS CH av : Addr} {H : Hp} {h : Addr} {st : HSt} (x : HouseAt CS CH av H h st) : ∃ dx v, H h = some (.ins CH dx (hf v)) := by
  cases st with
  | none => obtain ⟨dx, e⟩ := x; exact ⟨dx, _, e⟩
  | some t => obtain ⟨dx, p, e, _⟩ := x; exact ⟨dx, _, e⟩
theorem HouseAt.rd {CS CH av : Addr} {H H' : Hp} {h q CR dr a : Addr} {i : Int} {st : HSt} (hq : H q = some (.ins CR dr (rf a i))) (s : But q H H') (x : HouseAt CS CH av H h st) : HouseAt CS CH av H' h st := by
  cases st with
  | none =>
    obtain ⟨dx, e⟩ := x
    exact ⟨dx, s _ _ e (ne_of e hq (ins_ne (hf_rf _ _ _)))⟩
  | some t =>
    obtain ⟨dx, p, e, y, z⟩ := x
    exact ⟨dx, p, s _ _ e (ne_of e hq (ins_ne (hf_rf _ _ _))), SaleOwn.rd hq s y, Avs.rd hq s (SaleOwn.nrd hq y) z⟩
/-- all but two -/
def But2 (h q : Addr) (H H' : Hp) : Prop := ∀ b o, H b = some o → b ≠ h → b ≠ q → H' b = some o
/-- a row, not at lr -/
def RowIn (H : Hp) (lr l : Addr) (r : List Int) : Prop := RowAt H l r ∧ l ≠ lr
theorem rowIn_mono {H H' : Hp} {lr : Addr} (k : ∀ l r, RowIn H lr l r → RowIn H' lr l r) {las : List Addr} {rows : List (List Int)} (h : Paired (RowIn H lr) las rows) : Paired (RowIn H' lr) las rows := by
  induction h with
  | nil => exact .nil
  | cons r _ ih => exact .cons (k _ _ r) ih
theorem rowIn_at {H : Hp} {lr : Addr} {las : List Addr} {rows : List (List Int)} (h : Paired (RowIn H lr) las rows) : Paired (RowAt H) las rows := by
  induction h with
  | nil => exact .nil
  | cons r _ ih => exact .cons r.1 ih
/-- the table of the calls -/
structure Tab (P : Program) (w : World) (K : PySem.W.Frag) (mg : Str → Option Value) (base : Heap) (CS CH : Addr) : Prop where
  ex : ∃ (ac : Addr) (es : List V), mg "CALLS" = some (.ref ac) ∧ (∀ H, SqT K H ac es) ∧ ∀ (i : Nat) (q : Nat × Nat), shapes[i]? = some q →
    ∃ (ti f : Addr) (fd : FuncData), es[i]? = some (.ref ti) ∧ (∀ H, SqT K H ti [.ref f, .int (q.1 : Int), .int (q.2 : Int)]) ∧ FnOk P w K mg base CX0 9 f fd PS3 (spA CS CH (i : Int)) ∧ PySem.W.keepIn K (.ref f) = true ∧ Binds K fd PS3 []
section
variable {P : Program} {w : World} {K : PySem.W.Frag} {mg : Str → Option Value} {base : Heap} {CS CH CR : Addr}
/-! ### answer_next -/
def spNext (K : PySem.W.Frag) (CS CH CR : Addr) : Sp := fun vs H Q _ => ∃ (h q a av : Addr) (ys : List V) (i : Nat) (ns : List Int) (st : HSt) (S : Vbchag.State) (c : List (List Int)) (t : List Int), vs = [.ref h, .ref q] ∧ H av = some (.lst ys) ∧ HouseAt CS CH av H h st ∧ ReadAt CR H q a i ∧ SqL K H a (ns.map V.int) ∧ Sep K a (ns.map V.int) q ∧ RelS st S ∧
  PyFlat.call PyVbchag.shape (ns.drop i) = some (c, t) ∧ VbchagNeutral.asked1 c = true ∧
  ∀ (H' : Hp) (l : Addr) (st' : HSt) (i' : Nat), But2 h q H H' → HouseAt CS CH av H' h st' → ReadAt CR H' q a i' → i < i' → ns.drop i' = t → RelS st' (VbchagNeutral.step S c).1 → H l = none → H' l = some (.lst ((VbchagNeutral.step S c).2.map V.int)) → Q (.ref l) H'
theorem scNext : FnScope ["house", "reader", "place", "call", "answer", "numbers", "rows", "k"] ["house", "reader"] (defScope s_answer_next) := ⟨rfl, rfl, rfl, by decide +kernel, rfl, by decide +kernel, by decide +kernel⟩
theorem ok_next {f fN fM fW : Addr} {fd fdN fdM fdW : FuncData} (D : Dn K mg "answer_next" s_answer_next ["house", "reader"] f fd) (T : TxH mg) (TO : TxO K mg CH) (TR : TxR K mg CR) (TB : Tab P w K mg base CS CH)
    (MN : Md K CR "number" "Reader.number" s_Reader_number ["self"] fN fdN) (MM : Md K CR "numbers" "Reader.numbers" s_Reader_numbers ["self", "how_many"] fM fdM) (MW : Md K CR "row" "Reader.row" s_Reader_row ["self"] fW fdW) :
    FnOk P w K mg base CX0 10 f fd ["house", "reader"] (spNext K CS CH CR) := by
  have GN : FnOk P w K mg base CX0 1 fN fdN ["self"] (spNum K CR) := ok_num MN TR
  have GM : FnOk P w K mg base CX0 1 fM fdM ["self", "how_many"] (spNums K CR) := ok_nums MM TR
  have GW : FnOk P w K mg base CX0 2 fW fdW ["self"] (spRow K CR) := ok_row MW TR MN MM
  obtain ⟨t1, h1⟩ := T.sl0
  obtain ⟨t2, h2⟩ := T.noSl
  obtain ⟨ac, es, hC, hE, tab⟩ := TB.ex
  refine D.F.ok scNext (fun vs H Q E h => ?_) (fun cdv A outer s H vs Q E hr h => ?_)
  · obtain ⟨h, q, a, av, ys, i, ns, st, S, c, t, rfl, _⟩ := h
    rfl
  · obtain ⟨h, q, a, av, ys, i, ns, st, S, c, t, rfl, hav, hh, hrd, ha, naq, rel, hcall, hask, k⟩ := h
    obtain ⟨pl, na, nb, rows, hpl, hsh, hlen, hrows, rfl⟩ := call_at hcall
    obtain ⟨ix, rfl, hix⟩ := shape_at hsh
    obtain ⟨ti, g, gd, ht, hT, G, gk, gb⟩ := tab ix _ hix
    refine' ⟨_, pss_cons ?p0 (pss_cons ?p1 (pss_cons ?p2 (pss_cons ?p3 (pss_cons ?p4 (pss_cons ?p5 (pss_cons ?p6 (pss_one ?p7))))))), ?rd⟩
    case p0 => exact ps_set (i := 2) scNext.nd rfl (Or.inl rfl) (pe_meth0 (pv 1) TR.cl MN.m GN (hr.mono (by decide)) MN.b .nil pass0)
    case p1 => exact ps_set (i := 3) scNext.nd rfl (Or.inl rfl) (pe_ix ix_tup (pe_glob (v := .ref ac) rfl hC rfl) (pv 2) (fun _ _ => rfl))
    case p2 => exact ps_set (i := 4) scNext.nd rfl (Or.inl rfl) (pe_ix ix_tup (pv 3) pe_int (fun _ _ => rfl))
    case p3 => exact ps_set (i := 5) scNext.nd rfl (Or.inl rfl) (pe_meth (pv 1) TR.cl MM.m GM (hr.mono (by decide)) MM.b .nil pass0 (pa_cons (pe_ix ix_tup (pv 3) pe_int (fun _ _ => rfl)) pa_nil))
    case p4 => exact ps_set (i := 6) scNext.nd rfl (Or.inl rfl) (pe_lst pa_nil)
    case p5 => exact ps_for PassesOwn.never rfl (pi_range1 rfl T.b_range (pa_cons (pe_ix ix_tup (pv 3) pe_int (fun _ _ => rfl)) pa_nil)) (pg_name (i := 7) scNext.nd rfl (Or.inl rfl)) (pss_one (ps_expr (pe_bm PySem.F.plainAttrs_list PySem.F.slot_list_append PySem.F.type_list_append mt_append (pv 6) (pa_cons (pe_meth0 (pv 1) TR.cl MW.m GW (hr.mono (by decide)) MW.b .nil pass0) pa_nil))))
    case p6 => exact ps_if (PW.pt (pw_and (pt_cmpR op_ne (pv 2) (pe_glob (v := .int 0) rfl h1 ⟨_, rfl⟩) (nomark _)) (pw_and1 (pt_cmp (pc_isN (pe_fld (pv 0) rfl)))))) (pss_one (ps_ret (pe_lst (pa_cons (pe_glob (v := .int (-7)) rfl h2 ⟨_, rfl⟩) pa_nil)))) pss_nil
    case p7 => exact ps_ret (pe_callV (pv 4) (pa_cons (pv 0) (pa_cons (pv 5) (pa_cons (pv 6) pa_nil))))
    obtain ⟨dq, hq⟩ := id hrd
    refine ⟨_, rfl, q, dq, _, rfl, hq, rf_no _ _ (by decide) (by decide), q, a, i, ns, _, rfl, hrd, ha, naq, hpl, fun H1 r1 b1 => ?_⟩
    refine ⟨_, rfl, ac, _, _, _, rfl, rfl, hE H1, at_of (j := ix) rfl ht, ?_⟩
    refine ⟨_, rfl, ti, _, _, _, rfl, rfl, hT H1, at_of (j := 0) rfl rfl, ?_⟩
    obtain ⟨dq1, hq1⟩ := id r1
    refine ⟨_, rfl, q, dq1, _, rfl, hq1, rf_no _ _ (by decide) (by decide), _, rfl, ti, _, _, _, rfl, rfl, hT H1, at_of (j := 1) rfl rfl, q, a, i + 1, na, ns, rfl, r1, b1.seq ha naq, naq, hlen, fun H2 ln r2 b2 n2 hln => ?_⟩
    refine ⟨Nat.zero_le _, fun lr hlr => ?_⟩
    -- where everything stands ahead of the rows
    obtain ⟨dq2, hq2⟩ := id r2
    have b12 : But q H H2 := b1.trans b2
    have s3 := same_new (o := .lst []) hlr
    have nlq : ln ≠ q := fun z => by rw [z, hq1] at n2; cases n2
    have nH : ∀ b, b ≠ q → H2 b = none → H b = none := fun b nb e => by
      cases z : H b with
      | none => rfl
      | some o => rw [b12 b o z nb] at e; cases e
    have nrq : lr ≠ q := fun z => by rw [z, hq2] at hlr; cases hlr
    have nHlr := nH lr nrq hlr
    have nHln : H ln = none := by
      cases z : H ln with
      | none => rfl
      | some o => rw [b1 ln o z nlq] at n2; cases n2
    have nll : ln ≠ lr := fun z => by rw [z, hlr] at hln; cases hln
    refine ⟨_, rfl, ti, _, _, _, rfl, rfl, hT _, at_of (j := 2) rfl rfl, (nb : Int), rfl, ?_, ?_, for_range (n := nb) (fun j σ H' => ∃ (v7 : Option V) (pj : Nat) (las : List Addr) (done rest : List (List Int)),
      σ = [some (.ref h), some (.ref q), some (.int (ix : Int)), some (.ref ti), some (.ref g), some (.ref ln), some (.ref lr), v7] ∧ (∀ b o, H b = some o → b ≠ q → H' b = some o) ∧ ReadAt CR H' q a pj ∧ i < pj ∧ H' ln = some (.lst (((ns.drop (i + 1)).take na).map V.int)) ∧ H' lr = some (.lst (las.map V.ref)) ∧
      Paired (RowIn H' lr) las done ∧ PyFlat.rows (nb - j) (ns.drop pj) = some (rest, t) ∧ done ++ rest = rows ∧ las.length = j ∧ ∀ l ∈ las, l ≠ av) ?_ ?_ ?_⟩
    · omega
    · have : nb ≤ 2 := by
        have q8 : ∀ p ∈ shapes, p.2 ≤ 2 := by decide
        exact q8 _ (List.mem_of_getElem? hix)
      omega
    · exact ⟨none, i + 1 + na, [], [], rows, rfl, fun b o e n => s3 _ _ (b12 b o e n), ⟨dq2, s3 _ _ hq2⟩, by omega, s3 _ _ hln, upd_same, .nil, hrows, rfl, rfl, fun l m => by cases m⟩
    · rintro j σ H' hj ⟨v7, pj, las, done, rest, rfl, bH, rj, lt, gln, glr, grow, grest, gall, gl, gav⟩
      obtain ⟨dj, hj2⟩ := id rj
      have ej : nb - j = (nb - (j + 1)) + 1 := by omega
      rw [ej] at grest
      obtain ⟨x, s', xs', hrow, hrest, rfl⟩ := rows_succ grest
      obtain ⟨m, hm1, hm2, hm3, hm4⟩ := row_at hrow
      have haj : SqL K H' a (ns.map V.int) := But.seq bH ha naq
      refine ⟨_, rfl, .inl ⟨rfl, _, SqL.of glr⟩, _, rfl, q, dj, _, rfl, hj2, rf_no _ _ (by decide) (by decide), q, a, pj, m, ns, rfl, rj, haj, naq, hm1, hm2, fun H3 l3 r3 b3 n3 h3 => ?_⟩
      have glr3 := b3 _ _ glr nrq
      have nl3 : l3 ≠ lr := fun z => by rw [z, glr] at n3; cases n3
      have nb2 : nb ≤ 2 := by
        have q8 : ∀ p ∈ shapes, p.2 ≤ 2 := by decide
        exact q8 _ (List.mem_of_getElem? hix)
      refine ⟨lr, _, _, rfl, rfl, glr3, fits (by rw [List.length_map, gl]; omega), ?_⟩
      have keep : ∀ b o, H3 b = some o → b ≠ lr → (upd H3 lr (.lst (las.map V.ref ++ [.ref l3]))) b = some o := fun b o e n => by rw [upd_ne n]; exact e
      obtain ⟨d3, hq3⟩ := id r3
      refine ⟨_, pj + 1 + m, las ++ [l3], done ++ [x], xs', rfl, fun b o e n => keep _ _ (b3 _ _ (bH b o e n) n) (fun z => by rw [z, nHlr] at e; cases e), ⟨d3, keep _ _ hq3 (Ne.symm nrq)⟩, by omega, keep _ _ (b3 _ _ gln nlq) nll, ?_, ?_, ?_, ?_, ?_, fun l m => ?_⟩
      · rw [upd_same, List.map_append]; rfl
      · refine Paired.snoc (rowIn_mono (fun l r e => ?_) grow) ⟨?_, nl3⟩
        · have nl : l ≠ q := ne_of e.1 hj2 fun z => by cases z
          exact ⟨keep _ _ (b3 _ _ e.1 nl) e.2, e.2⟩
        · show upd _ _ _ l3 = _
          rw [upd_ne nl3, hm3]
          exact h3
      · rw [← hm4]; exact hrest
      · rw [List.append_assoc]; exact gall
      · rw [List.length_append, gl]; rfl
      · rcases List.mem_append.mp m with z | z
        · exact gav l z
        · rw [List.mem_singleton.mp z]
          exact Ne.symm (ne_of_none (bH _ _ hav (ne_of hav hq fun z => by cases z)) n3)
    · rintro σ H' ⟨v7, pj, las, done, rest, rfl, bH, rj, lt, gln, glr, grow, grest, gall, gl, gav⟩
      rw [Nat.sub_self] at grest
      obtain ⟨g1, g2⟩ := Prod.mk.inj (Option.some.inj (show some (([] : List (List Int)), ns.drop pj) = some (rest, t) from grest))
      subst g1
      rw [List.append_nil] at gall
      subst gall
      have hh' : HouseAt CS CH av H' h st := HouseAt.rd hq bH hh
      obtain ⟨dh, v, hhi⟩ := hh'.ins
      obtain ⟨dj, hj2⟩ := id rj
      have nqh : q ≠ h := ne_of hj2 hhi (ins_ne (Ne.symm (hf_rf _ _ _)))
      have shp : PyVbchag.shape (ix : Int) = some (((ns.drop (i + 1)).take na).length, done.length) := by
        rw [rows_len hrows, List.length_take, List.length_drop, Nat.min_eq_left (by omega)]
        exact hsh
      have run : (((ix : Nat) : Int) ≠ 0 → st.isSome = true) → spA CS CH (ix : Int) [.ref h, .ref ln, .ref lr] H' Q E0 := fun c0 => by
        refine ⟨h, ln, lr, av, _, las, done, st, S, rfl, gln, glr, rowIn_at grow, gav, hh', rel, shp, short_of shp hask, c0, fun H3 l st' b3 h3 rel3 n3 hl3 => ?_⟩
        refine k H3 l st' pj (fun b o e n1 n2 => b3 _ _ (bH b o e n2) n1) h3 ⟨dj, b3 _ _ hj2 nqh⟩ lt g2 rel3 ?_ hl3
        exact But.free bH ⟨_, hj2⟩ n3
      refine ⟨_, rfl, rfl, _, rfl, ?_⟩
      by_cases c0 : (ix : Int) = 0
      · rw [decide_eq_true (show V.int (ix : Int) = V.int 0 by rw [c0])]
        refine iteF (iteF ?_)
        exact ⟨_, rfl, 9, g, gd, PS3, _, rfl, G, hr, gk, gb, _, rfl, _, rfl, _, rfl, run fun z => absurd c0 z⟩
      · rw [decide_eq_false (show ¬ V.int (ix : Int) = V.int 0 from fun z => c0 (V.int.inj z))]
        refine iteT ?_
        cases st with
        | none =>
          obtain ⟨dh, hhi⟩ := hh'
          refine ⟨_, rfl, h, CH, dh, _, _, rfl, hhi, TO.cl, TO.nS, hf_sale _, _, rfl, iteT ⟨(by show 1 ≤ sizeLine; decide), fun l hl => ?_⟩⟩
          have s5 := same_new (o := .lst [.int (-7)]) hl
          have e7 : VbchagNeutral.step S (((ix : Int) :: (ns.drop (i + 1)).take na) :: done) = (S, [-7]) := st_none rel c0 shp
          rw [e7] at k
          exact k _ l none pj (fun b o e n1 n2 => s5 _ _ (bH b o e n2)) ⟨dh, s5 _ _ hhi⟩ ⟨dj, s5 _ _ hj2⟩ lt g2 rel (But.free bH ⟨_, hj2⟩ hl) upd_same
        | some sd =>
          obtain ⟨dh, p, hhi, _⟩ := id hh'
          refine ⟨_, rfl, h, CH, dh, _, _, rfl, hhi, TO.cl, TO.nS, hf_sale _, _, rfl, ?_⟩
          rw [decide_eq_false (show ¬ V.ref p = V.non from fun z => by cases z)]
          refine iteF ?_
          exact ⟨_, rfl, 9, g, gd, PS3, _, rfl, G, hr, gk, gb, _, rfl, _, rfl, _, rfl, run fun _ => rfl⟩
end
end Ss
end
section
set_option Elab.async false
set_option linter.all false
set_option maxRecDepth 100000
set_option maxHeartbeats 4000000
namespace Ss
open PySem PySem.Spec PyProof.Rows L2
theorem ent_av {H : Hp} {r : Addr} {o : HO} {kvs : List (Key × V)} {bs : Tb} (h : Paired (BidEnt H) kvs bs) (v : ∀ kv ∈ kvs, kv.2 ≠ .ref r) : Paired (BidEnt (upd H r o)) kvs bs := by
  induction h with
  | nil => exact .nil
  | cons q _ ih =>
    obtain ⟨e1, l, e2, hl⟩ := q
    refine .cons ⟨e1, l, e2, ?_⟩ (ih fun kv m => v kv (List.mem_cons_of_mem _ m))
    rw [upd_ne fun z => v _ List.mem_cons_self (by rw [e2, z])]
    exact hl
theorem HouseAt.list {CS CH r : Addr} {H : Hp} {h : Addr} {st : HSt} {xs : List V} {o : HO} (hr : H r = some (.lst xs)) (x : HouseAt CS CH r H h st) : HouseAt CS CH r (upd H r o) h st := by
  cases st with
  | none =>
    obtain ⟨dx, e⟩ := x
    exact ⟨dx, by rw [upd_ne (ne_of e hr fun z => by cases z)]; exact e⟩
  | some t =>
    obtain ⟨dx, p, e, y, z⟩ := x
    obtain ⟨dy, d, kvs, h1, h2, h3⟩ := y.ex
    have k1 : (upd H r o) p = some (.ins CS dy (sf t.1 t.2.1 d)) := by rw [upd_ne (ne_of h1 hr fun z => by cases z)]; exact h1
    have k2 : (upd H r o) d = some (.dK kvs) := by rw [upd_ne (ne_of h2 hr fun z => by cases z)]; exact h2
    have k3 := z.at_ h1 (.inl h2)
    exact ⟨dx, p, by rw [upd_ne (ne_of e hr fun z => by cases z)]; exact e, ⟨dy, d, kvs, k1, k2, ent_av h3 k3⟩, ⟨dy, d, kvs, _, k1, sf_b _ _ _, .inl k2, k3⟩⟩
section
variable {P : Program} {w : World} {K : PySem.W.Frag} {mg : Str → Option Value} {base : Heap} {CS CH CR : Addr}
def spHI (C : Addr) : Sp := fun vs H Q _ => ∃ (p dx : Addr), vs = [.ref p] ∧ H p = some (.ins C dx []) ∧ ∀ H' : Hp, (∃ dx, H' p = some (.ins C dx (hf .non))) → But p H H' → Q .non H'
theorem scHI : FnScope ["self"] ["self"] (defScope s_House_init) := ⟨rfl, rfl, rfl, by decide +kernel, rfl, by decide +kernel, by decide +kernel⟩
theorem ok_HI {f : Addr} {fd : FuncData} (F : Fun K "__init__" "House.__init__" s_House_init f fd) (T : TxO K mg CH) : FnOk P w K mg base CX0 1 f fd ["self"] (spHI CH) := by
  refine F.ok scHI (fun vs H Q E h => ?_) (fun cdv A outer s H vs Q E hr h => ?_)
  · obtain ⟨p, dx, rfl, _⟩ := h
    rfl
  · obtain ⟨p, dx, rfl, hp, k⟩ := h
    refine ⟨_, pss_one (ps_fld (pv 0) pe_non rfl), ?_⟩
    refine ⟨_, rfl, p, CH, dx, _, rfl, hp, T.cl, T.nS, (by show 0 < 1000; decide), ?_⟩
    exact k _ ⟨dx, upd_same⟩ But.upd
/-! ### answers -/
def spMain (K : PySem.W.Frag) : Sp := fun vs H Q _ => ∃ (a : Addr) (ns : List Int), vs = [.ref a] ∧ SqL K H a (ns.map V.int) ∧ PyVbchag.answers_asked ns = true ∧ ∀ (H' : Hp) (p : Addr), H' p = some (.lst ((PyVbchag.answers ns).map V.int)) → Q (.ref p) H'
theorem scMain : FnScope ["calls", "house", "reader", "answered", "answer"] ["calls"] (defScope s_answers) := ⟨rfl, rfl, rfl, by decide +kernel, rfl, by decide +kernel, by decide +kernel⟩
theorem ok_main {f fN fD fHI fRI : Addr} {fd fdN fdD fdHI fdRI : FuncData} (D : Dn K mg "answers" s_answers ["calls"] f fd) (TO : TxO K mg CH) (TR : TxR K mg CR) (DN : Dn K mg "answer_next" s_answer_next ["house", "reader"] fN fdN) (MD : Md K CR "done" "Reader.done" s_Reader_done ["self"] fD fdD)
    (MH : Mk K CH fHI) (FH : Fun K "__init__" "House.__init__" s_House_init fHI fdHI) (bH : Binds K fdHI ["self"] []) (MR : Mk K CR fRI) (FR : Fun K "__init__" "Reader.__init__" s_Reader_init fRI fdRI) (bR : Binds K fdRI ["self", "calls"] [])
    (GN : FnOk P w K mg base CX0 10 fN fdN ["house", "reader"] (spNext K CS CH CR)) : FnOk P w K mg base CX0 11 f fd ["calls"] (spMain K) := by
  have GH : FnOk P w K mg base CX0 1 fHI fdHI ["self"] (spHI CH) := ok_HI FH TO
  have GR : FnOk P w K mg base CX0 1 fRI fdRI ["self", "calls"] (spRI CR) := ok_RI FR TR
  have GD : FnOk P w K mg base CX0 1 fD fdD ["self"] (spDone K CR) := ok_done MD TR
  refine D.F.ok scMain (fun vs H Q E h => ?_) (fun cdv A outer s H vs Q E hr h => ?_)
  · obtain ⟨a, ns, rfl, _⟩ := h
    rfl
  · obtain ⟨a, ns, rfl, ha, hask, k⟩ := h
    obtain ⟨cs, hcs, has1, htot, hbig⟩ := asked_open hask
    refine' ⟨_, pss_cons ?p0 (pss_cons ?p1 (pss_cons ?p2 (pss_cons ?p3 (pss_one ?p4)))), ?rd⟩
    case p0 => exact ps_set (i := 1) scMain.nd rfl (Or.inl rfl) (pe_make0 MH GH (hr.mono (by decide)) rfl TO.mgH bH .nil pass0)
    case p1 => exact ps_set (i := 2) scMain.nd rfl (Or.inl rfl) (pe_make MR GR (hr.mono (by decide)) rfl TR.mgR bR .nil pass0 (pa_cons (pv 0) pa_nil))
    case p2 => exact ps_set (i := 3) scMain.nd rfl (Or.inl rfl) (pe_lst pa_nil)
    case p3 =>
      refine' ps_while PassesOwn.never (pt_not (pt_truth ?c1 ?c2)) (pss_cons ?c3 (pss_cons ?c4 (pss_one ?c5)))
      case c1 => exact pe_meth0 (pv 2) TR.cl MD.m GD (hr.mono (by decide)) MD.b .nil pass0
      case c2 => exact fun _ => rfl
      case c3 => exact ps_set (i := 4) scMain.nd rfl (Or.inl rfl) (pe_call GN hr rfl DN.mg DN.F.kp DN.b .nil pass0 (pa_cons (pv 1) (pa_cons (pv 2) pa_nil)))
      case c4 => exact ps_expr (pe_bm PySem.F.plainAttrs_list PySem.F.slot_list_append PySem.F.type_list_append mt_append (pv 3) (pa_cons (pe_callB cr_lenL (by rfl) TR.b_len PySem.boot_len (pa_cons (pv 4) pa_nil)) pa_nil))
      case c5 => exact ps_expr (pe_bm PySem.F.plainAttrs_list PySem.F.slot_list_extend PySem.F.type_list_extend mt_extend (pv 3) (pa_cons (pv 4) pa_nil))
    case p4 => exact ps_ret (pv 3)
    intro h dh nh ndh neh
    refine ⟨h, dh, rfl, upd_same, fun H1 ⟨dh1, hh1⟩ k1 => ⟨rfl, ?_⟩⟩
    have s1 : Same H H1 := Same.made nh ndh k1
    have seph : Sep K a (ns.map V.int) h := Sep.new ha nh
    refine ⟨_, rfl, ?_⟩
    intro q dq nq ndq neq
    refine ⟨q, dq, a, rfl, upd_same, fun H2 hq2 k2 => ⟨rfl, ?_⟩⟩
    have s2 : Same H1 H2 := Same.made nq ndq k2
    have sepq : Sep K a (ns.map V.int) q := Sep.new (s1.seq ha) nq
    refine ⟨Nat.zero_le _, fun r hr0 => ?_⟩
    have s3 := same_new (o := .lst []) hr0
    have hh2 := s2 _ _ hh1
    obtain ⟨dq2, hq2'⟩ := id hq2
    have nrh : r ≠ h := fun z => by rw [z, hh2] at hr0; cases hr0
    have nrq : r ≠ q := fun z => by rw [z, hq2'] at hr0; cases hr0
    have sepr : Sep K a (ns.map V.int) r := Sep.new ((s1.trans s2).seq ha) hr0
    have hq3 : ReadAt CR (upd H2 r (.lst [])) q a 0 := ⟨dq2, s3 _ _ hq2'⟩
    refine ⟨fun m σ H' => ∃ (v4 : Option V) (i f : Nat) (st : HSt) (S : Vbchag.State) (cs' : List (List (List Int))) (out : List Int), m = ns.length - i ∧ σ = [some (.ref a), some (.ref h), some (.ref q), some (.ref r), v4] ∧ HouseAt CS CH r H' h st ∧ ReadAt CR H' q a i ∧
      SqL K H' a (ns.map V.int) ∧ RelS st S ∧ PyFlat.calls PyVbchag.shape f (ns.drop i) = some cs' ∧ (∀ c ∈ cs', VbchagNeutral.asked1 c = true) ∧ H' r = some (.lst (out.map V.int)) ∧ out ++ tell S cs' = PyVbchag.answers ns,
      ⟨ns.length, none, 0, ns.length, none, Vbchag.start, cs, [], rfl, rfl, ⟨dh1, s3 _ _ hh2⟩, hq3, ((s1.trans s2).trans s3).seq ha, rfl, hcs, has1, upd_same, htot.symm⟩, ?_⟩
    rintro m σ H' ⟨v4, i, f', st, S, cs', out, rfl, rfl, hh, hrd, haL, rel, hc, hc1, hout, htl⟩
    obtain ⟨dj, hj⟩ := id hrd
    refine ⟨_, rfl, q, dj, _, rfl, hj, rf_no _ _ (by decide) (by decide), q, a, i, ns, rfl, hrd, haL, _, rfl, ?_⟩
    by_cases c : (ns.length : Int) ≤ (i : Int)
    · -- the end of the list
      rw [decide_eq_true c]
      refine iteF ?_
      rw [List.drop_of_length_le (by omega)] at hc
      have e := calls_nil hc
      subst e
      have e2 : out = PyVbchag.answers ns := by
        rw [← htl]
        exact (List.append_nil out).symm
      rw [e2] at hout
      exact ⟨_, rfl, k H' r hout⟩
    · rw [decide_eq_false c]
      refine iteT ?_
      have ne : ns.drop i ≠ [] := fun z => by
        have q8 := congrArg List.length z
        rw [List.length_drop] at q8
        have q9 : ns.length - i = 0 := q8
        omega
      obtain ⟨f2, cl, t, cs2, hcall, hc2, rfl⟩ := calls_cons ne hc
      refine ⟨fun σ' H'' => ∃ (i' : Nat), i < i' ∧ ∃ (v4 : Option V) (f : Nat) (st : HSt) (S : Vbchag.State) (cs' : List (List (List Int))) (out : List Int), σ' = [some (.ref a), some (.ref h), some (.ref q), some (.ref r), v4] ∧ HouseAt CS CH r H'' h st ∧ ReadAt CR H'' q a i' ∧
        SqL K H'' a (ns.map V.int) ∧ RelS st S ∧ PyFlat.calls PyVbchag.shape f (ns.drop i') = some cs' ∧ (∀ c ∈ cs', VbchagNeutral.asked1 c = true) ∧ H'' r = some (.lst (out.map V.int)) ∧ out ++ tell S cs' = PyVbchag.answers ns, ?_, ?_⟩
      · rintro σ' H'' ⟨i', lt, v4, f, st, S, cs', out, h1, h2, h3, h4, h5, h6, h7, h8, h9⟩
        exact ⟨ns.length - i', by omega, v4, i', f, st, S, cs', out, rfl, h1, h2, h3, h4, h5, h6, h7, h8, h9⟩
      · refine ⟨_, rfl, _, rfl, h, q, a, r, _, i, ns, st, S, cl, t, rfl, hout, hh, hrd, haL, sepq, rel, hcall, hc1 _ List.mem_cons_self, fun H4 l st' i' b4 h4 r4 lt hdrop rel4 nl hl => ?_⟩
        have hout4 := b4 _ _ hout nrh nrq
        have nlr : l ≠ r := fun z => by rw [z, hout] at nl; cases nl
        have sz : (tell S (cl :: cs2)).length = (VbchagNeutral.step S cl).2.length + 1 + (tell (VbchagNeutral.step S cl).1 cs2).length := by
          rw [tell_cons, List.length_append, List.length_cons]
        have tot : out.length + (tell S (cl :: cs2)).length ≤ 10000000 := by
          rw [← List.length_append, htl]
          exact hbig
        have big : (10000000 : Nat) < sizeLine := by decide
        refine ⟨_, rfl, .inl ⟨rfl, _, SqL.of hout4⟩, _, rfl, l, _, rfl, SqL.of hl, r, _, _, rfl, rfl, hout4, ?_, ?_⟩
        · rw [List.length_map]
          omega
        · have hl5 : (upd H4 r (.lst (out.map V.int ++ [.int (((VbchagNeutral.step S cl).2.map V.int).length : Int)]))) l = some (.lst ((VbchagNeutral.step S cl).2.map V.int)) := by rw [upd_ne nlr]; exact hl
          refine ⟨_, rfl, .inl ⟨rfl, _, SqL.of upd_same⟩, _, rfl, r, l, _, _, rfl, rfl, upd_same, hl5, ?_, ?_⟩
          · rw [List.length_append, List.length_map, List.length_map]
            show out.length + 1 + _ ≤ _
            omega
          · have hh6 := HouseAt.list (o := .lst (out.map V.int ++ [.int (((VbchagNeutral.step S cl).2.map V.int).length : Int)])) hout4 h4
            have hh7 := HouseAt.list (o := .lst (out.map V.int ++ [.int (((VbchagNeutral.step S cl).2.map V.int).length : Int)] ++ (VbchagNeutral.step S cl).2.map V.int)) upd_same hh6
            obtain ⟨d4, hq4⟩ := id r4
            have a4 : SqL K H4 a (ns.map V.int) := by
              rcases seph with n1 | st1
              · rcases sepq with n2 | st2
                · rcases haL with (z | ⟨o, z⟩) | z
                  · exact .inl (.inl (b4 _ _ z n1 n2))
                  · exact .inl (.inr ⟨o, b4 _ _ z n1 n2⟩)
                  · exact .inr z
                · exact st2 H4
              · exact st1 H4
            refine ⟨i', lt, _, f2, st', _, cs2, out ++ (((VbchagNeutral.step S cl).2.length : Int) :: (VbchagNeutral.step S cl).2), rfl, hh7, ⟨d4, by rw [upd_ne (Ne.symm nrq), upd_ne (Ne.symm nrq)]; exact hq4⟩, But.seq But.upd (But.seq But.upd a4 sepr) sepr, rel4, by rw [hdrop]; exact hc2, fun c m => hc1 c (List.mem_cons_of_mem _ m), ?_, ?_⟩
            · rw [upd_same, List.map_append, List.map_cons, List.length_map, List.append_assoc]; rfl
            · rw [List.append_assoc, ← htl, tell_cons]
end
end Ss
end
section
set_option Elab.async false
namespace Ss
open PySem PySem.Spec PyProof.Rows L2
theorem ex_gi {K : PySem.W.Frag} {h : Heap} {mg : Str → Option Value} {x : Str} {z : Int} {t : Tok} (X : K.In h) (G : h.Ns mainGlobals mg) (a : PySem.W.nsIn K mainGlobals x = some (some (.int z t))) : GI mg x z := ⟨t, PySem.W.mg_of X G a⟩
theorem ex_no {K : PySem.W.Frag} {h : Heap} {mg : Str → Option Value} {x : Str} (X : K.In h) (G : h.Ns mainGlobals mg) (a : PySem.W.nsIn K mainGlobals x = some none) : mg x = none := PySem.W.mg_none_of X G a
theorem ex_ref {K : PySem.W.Frag} {x : Str} {f : Addr} (a : PySem.W.nsIn K mainGlobals x = some (some (.ref f))) : ∃ f, PySem.W.nsIn K mainGlobals x = some (some (.ref f)) := ⟨f, a⟩
theorem ex_tup {K : PySem.W.Frag} {x : Str} {f : Addr} {o : Obj} (a : PySem.W.nsIn K mainGlobals x = some (some (.ref f))) (b : K.lookup f = some o) : ∃ f o, PySem.W.nsIn K mainGlobals x = some (some (.ref f)) ∧ K.lookup f = some o := ⟨f, o, a, b⟩
/-- a def of the top -/
theorem ex_dn {K : PySem.W.Frag} {h : Heap} {mg : Str → Option Value} {x : Str} {st : Stmt} {ps : List Str} {f : Addr} {oc : Value} {od an : Option Addr} {sl : Array (Option Value)} {kV dc pm cd ct : Value} (X : K.In h) (G : h.Ns mainGlobals mg)
    (a : PySem.W.nsIn K mainGlobals x = some (some (.ref f))) (l : K.lookup f = some ⟨oc, od, .func (PySem.W.fnOf x x (defArgs st) (defBody st) (defScope st) .none kV dc pm an cd ct), sl⟩) (c : PySem.W.codeIn K cd x = true) (k : PySem.W.keepIn K (.ref f) = true)
    (b : ∀ (kV doc pm : Value) (an : Option Addr) (cdv ct : Value) (us : List Value), us.length = ps.length → bindArgs (PySem.W.fnOf x x (defArgs st) (defBody st) (defScope st) .none kV doc pm an cdv ct) ⟨us, []⟩ = pure (ps.zip us)) :
    ∃ f fd, PySem.W.nsIn K mainGlobals x = some (some (.ref f)) ∧ Dn K mg x st ps f fd ∧ ∀ (s : Shared) (us : List Value), us.length = ps.length → BindsTo s fd ⟨us, []⟩ (ps.zip us) := by
  have F := fun_mk (st := st) l c k
  exact ⟨f, _, a, ⟨F, PySem.W.mg_of X G a, F.binds b⟩, fun s us hu => .of_eq (b _ _ _ _ _ _ us hu)⟩
end Ss
end
section
set_option Elab.async false
set_option linter.all false
set_option maxRecDepth 100000
set_option maxHeartbeats 4000000
namespace Ss
open PySem PySem.Spec PyProof.Rows L2
theorem ex_Sale {K : PySem.W.Frag} {C fI : Addr} {ocI : Value} {odI anI : Option Addr} {slI : Array (Option Value)} {kVI dcI pmI cdI ctI : Value}
    (aC : PySem.W.nsIn K mainGlobals "Sale" = some (some (.ref C))) (pg : PySem.W.plainGet K C Str.empty = true) (hd : PySem.W.hasDictIn K C = true) (po : PySem.W.plainOver K C = true) (sa : PySem.W.findIn K (.ref C) "__setattr__" = some (some (.builtin "object.__setattr__"))) (mk : PySem.W.makesIn K C = true) (kc : PySem.W.keepIn K (.ref C) = true)
    (n0 : PySem.W.findIn K (.ref C) "slices" = some none)
    (n1 : PySem.W.findIn K (.ref C) "reserve" = some none)
    (n2 : PySem.W.findIn K (.ref C) "bids" = some none)
    (aI : PySem.W.findIn K (.ref C) "__init__" = some (some (.ref fI))) (iI : PySem.W.isFn K (.ref fI) = true) (lI : K.lookup fI = some ⟨ocI, odI, .func (PySem.W.fnOf "__init__" "Sale.__init__" (defArgs s_Sale_init) (defBody s_Sale_init) (defScope s_Sale_init) .none kVI dcI pmI anI cdI ctI), slI⟩) (cI : PySem.W.codeIn K cdI "Sale.__init__" = true) (kI : PySem.W.keepIn K (.ref fI) = true)
    (bI : ∀ (kV doc pm : Value) (an : Option Addr) (cdv ct : Value) (us : List Value), us.length = (["self", "slices", "reserve", "bids"] : List Str).length → bindArgs (PySem.W.fnOf "__init__" "Sale.__init__" (defArgs s_Sale_init) (defBody s_Sale_init) (defScope s_Sale_init) .none kV doc pm an cdv ct) ⟨us, []⟩ = pure ((["self", "slices", "reserve", "bids"] : List Str).zip us))
    : ∃ (C fI : Addr) (fdI : FuncData), PySem.W.nsIn K mainGlobals "Sale" = some (some (.ref C)) ∧ Cls K C ∧ NoAttr K C "slices" ∧ NoAttr K C "reserve" ∧ NoAttr K C "bids" ∧ Mk K C fI ∧ Fun K "__init__" "Sale.__init__" s_Sale_init fI fdI ∧ Binds K fdI ["self", "slices", "reserve", "bids"] [] := by
  have FI := fun_mk (st := s_Sale_init) lI cI kI
  exact ⟨C, fI, _, aC, ⟨pg, hd, po, sa⟩, n0, n1, n2, ⟨mk, aI, iI, kc⟩, FI, FI.binds bI⟩
theorem ex_House {K : PySem.W.Frag} {C fI : Addr} {ocI : Value} {odI anI : Option Addr} {slI : Array (Option Value)} {kVI dcI pmI cdI ctI : Value}
    (aC : PySem.W.nsIn K mainGlobals "House" = some (some (.ref C))) (pg : PySem.W.plainGet K C Str.empty = true) (hd : PySem.W.hasDictIn K C = true) (po : PySem.W.plainOver K C = true) (sa : PySem.W.findIn K (.ref C) "__setattr__" = some (some (.builtin "object.__setattr__"))) (mk : PySem.W.makesIn K C = true) (kc : PySem.W.keepIn K (.ref C) = true)
    (n0 : PySem.W.findIn K (.ref C) "sale" = some none)
    (aI : PySem.W.findIn K (.ref C) "__init__" = some (some (.ref fI))) (iI : PySem.W.isFn K (.ref fI) = true) (lI : K.lookup fI = some ⟨ocI, odI, .func (PySem.W.fnOf "__init__" "House.__init__" (defArgs s_House_init) (defBody s_House_init) (defScope s_House_init) .none kVI dcI pmI anI cdI ctI), slI⟩) (cI : PySem.W.codeIn K cdI "House.__init__" = true) (kI : PySem.W.keepIn K (.ref fI) = true)
    (bI : ∀ (kV doc pm : Value) (an : Option Addr) (cdv ct : Value) (us : List Value), us.length = (["self"] : List Str).length → bindArgs (PySem.W.fnOf "__init__" "House.__init__" (defArgs s_House_init) (defBody s_House_init) (defScope s_House_init) .none kV doc pm an cdv ct) ⟨us, []⟩ = pure ((["self"] : List Str).zip us))
    : ∃ (C fI : Addr) (fdI : FuncData), PySem.W.nsIn K mainGlobals "House" = some (some (.ref C)) ∧ Cls K C ∧ NoAttr K C "sale" ∧ Mk K C fI ∧ Fun K "__init__" "House.__init__" s_House_init fI fdI ∧ Binds K fdI ["self"] [] := by
  have FI := fun_mk (st := s_House_init) lI cI kI
  exact ⟨C, fI, _, aC, ⟨pg, hd, po, sa⟩, n0, ⟨mk, aI, iI, kc⟩, FI, FI.binds bI⟩
theorem ex_Reader {K : PySem.W.Frag} {C fI fM0 fM1 fM2 fM3 : Addr} {ocI : Value} {odI anI : Option Addr} {slI : Array (Option Value)} {kVI dcI pmI cdI ctI : Value} {ocM0 : Value} {odM0 anM0 : Option Addr} {slM0 : Array (Option Value)} {kVM0 dcM0 pmM0 cdM0 ctM0 : Value} {ocM1 : Value} {odM1 anM1 : Option Addr} {slM1 : Array (Option Value)} {kVM1 dcM1 pmM1 cdM1 ctM1 : Value} {ocM2 : Value} {odM2 anM2 : Option Addr} {slM2 : Array (Option Value)} {kVM2 dcM2 pmM2 cdM2 ctM2 : Value} {ocM3 : Value} {odM3 anM3 : Option Addr} {slM3 : Array (Option Value)} {kVM3 dcM3 pmM3 cdM3 ctM3 : Value}
    (aC : PySem.W.nsIn K mainGlobals "Reader" = some (some (.ref C))) (pg : PySem.W.plainGet K C Str.empty = true) (hd : PySem.W.hasDictIn K C = true) (po : PySem.W.plainOver K C = true) (sa : PySem.W.findIn K (.ref C) "__setattr__" = some (some (.builtin "object.__setattr__"))) (mk : PySem.W.makesIn K C = true) (kc : PySem.W.keepIn K (.ref C) = true)
    (n0 : PySem.W.findIn K (.ref C) "calls" = some none)
    (n1 : PySem.W.findIn K (.ref C) "at" = some none)
    (aI : PySem.W.findIn K (.ref C) "__init__" = some (some (.ref fI))) (iI : PySem.W.isFn K (.ref fI) = true) (lI : K.lookup fI = some ⟨ocI, odI, .func (PySem.W.fnOf "__init__" "Reader.__init__" (defArgs s_Reader_init) (defBody s_Reader_init) (defScope s_Reader_init) .none kVI dcI pmI anI cdI ctI), slI⟩) (cI : PySem.W.codeIn K cdI "Reader.__init__" = true) (kI : PySem.W.keepIn K (.ref fI) = true)
    (bI : ∀ (kV doc pm : Value) (an : Option Addr) (cdv ct : Value) (us : List Value), us.length = (["self", "calls"] : List Str).length → bindArgs (PySem.W.fnOf "__init__" "Reader.__init__" (defArgs s_Reader_init) (defBody s_Reader_init) (defScope s_Reader_init) .none kV doc pm an cdv ct) ⟨us, []⟩ = pure ((["self", "calls"] : List Str).zip us))
    (aM0 : PySem.W.findIn K (.ref C) "done" = some (some (.ref fM0))) (iM0 : PySem.W.isFn K (.ref fM0) = true) (lM0 : K.lookup fM0 = some ⟨ocM0, odM0, .func (PySem.W.fnOf "done" "Reader.done" (defArgs s_Reader_done) (defBody s_Reader_done) (defScope s_Reader_done) .none kVM0 dcM0 pmM0 anM0 cdM0 ctM0), slM0⟩) (cM0 : PySem.W.codeIn K cdM0 "Reader.done" = true) (kM0 : PySem.W.keepIn K (.ref fM0) = true)
    (bM0 : ∀ (kV doc pm : Value) (an : Option Addr) (cdv ct : Value) (us : List Value), us.length = (["self"] : List Str).length → bindArgs (PySem.W.fnOf "done" "Reader.done" (defArgs s_Reader_done) (defBody s_Reader_done) (defScope s_Reader_done) .none kV doc pm an cdv ct) ⟨us, []⟩ = pure ((["self"] : List Str).zip us))
    (aM1 : PySem.W.findIn K (.ref C) "number" = some (some (.ref fM1))) (iM1 : PySem.W.isFn K (.ref fM1) = true) (lM1 : K.lookup fM1 = some ⟨ocM1, odM1, .func (PySem.W.fnOf "number" "Reader.number" (defArgs s_Reader_number) (defBody s_Reader_number) (defScope s_Reader_number) .none kVM1 dcM1 pmM1 anM1 cdM1 ctM1), slM1⟩) (cM1 : PySem.W.codeIn K cdM1 "Reader.number" = true) (kM1 : PySem.W.keepIn K (.ref fM1) = true)
    (bM1 : ∀ (kV doc pm : Value) (an : Option Addr) (cdv ct : Value) (us : List Value), us.length = (["self"] : List Str).length → bindArgs (PySem.W.fnOf "number" "Reader.number" (defArgs s_Reader_number) (defBody s_Reader_number) (defScope s_Reader_number) .none kV doc pm an cdv ct) ⟨us, []⟩ = pure ((["self"] : List Str).zip us))
    (aM2 : PySem.W.findIn K (.ref C) "numbers" = some (some (.ref fM2))) (iM2 : PySem.W.isFn K (.ref fM2) = true) (lM2 : K.lookup fM2 = some ⟨ocM2, odM2, .func (PySem.W.fnOf "numbers" "Reader.numbers" (defArgs s_Reader_numbers) (defBody s_Reader_numbers) (defScope s_Reader_numbers) .none kVM2 dcM2 pmM2 anM2 cdM2 ctM2), slM2⟩) (cM2 : PySem.W.codeIn K cdM2 "Reader.numbers" = true) (kM2 : PySem.W.keepIn K (.ref fM2) = true)
    (bM2 : ∀ (kV doc pm : Value) (an : Option Addr) (cdv ct : Value) (us : List Value), us.length = (["self", "how_many"] : List Str).length → bindArgs (PySem.W.fnOf "numbers" "Reader.numbers" (defArgs s_Reader_numbers) (defBody s_Reader_numbers) (defScope s_Reader_numbers) .none kV doc pm an cdv ct) ⟨us, []⟩ = pure ((["self", "how_many"] : List Str).zip us))
    (aM3 : PySem.W.findIn K (.ref C) "row" = some (some (.ref fM3))) (iM3 : PySem.W.isFn K (.ref fM3) = true) (lM3 : K.lookup fM3 = some ⟨ocM3, odM3, .func (PySem.W.fnOf "row" "Reader.row" (defArgs s_Reader_row) (defBody s_Reader_row) (defScope s_Reader_row) .none kVM3 dcM3 pmM3 anM3 cdM3 ctM3), slM3⟩) (cM3 : PySem.W.codeIn K cdM3 "Reader.row" = true) (kM3 : PySem.W.keepIn K (.ref fM3) = true)
    (bM3 : ∀ (kV doc pm : Value) (an : Option Addr) (cdv ct : Value) (us : List Value), us.length = (["self"] : List Str).length → bindArgs (PySem.W.fnOf "row" "Reader.row" (defArgs s_Reader_row) (defBody s_Reader_row) (defScope s_Reader_row) .none kV doc pm an cdv ct) ⟨us, []⟩ = pure ((["self"] : List Str).zip us))
    : ∃ (C fI fM0 fM1 fM2 fM3 : Addr) (fdI fdM0 fdM1 fdM2 fdM3 : FuncData), PySem.W.nsIn K mainGlobals "Reader" = some (some (.ref C)) ∧ Cls K C ∧ NoAttr K C "calls" ∧ NoAttr K C "at" ∧ Mk K C fI ∧ Fun K "__init__" "Reader.__init__" s_Reader_init fI fdI ∧ Binds K fdI ["self", "calls"] [] ∧ Md K C "done" "Reader.done" s_Reader_done ["self"] fM0 fdM0 ∧ Md K C "number" "Reader.number" s_Reader_number ["self"] fM1 fdM1 ∧ Md K C "numbers" "Reader.numbers" s_Reader_numbers ["self", "how_many"] fM2 fdM2 ∧ Md K C "row" "Reader.row" s_Reader_row ["self"] fM3 fdM3 := by
  have FI := fun_mk (st := s_Reader_init) lI cI kI
  have FM0 := fun_mk (st := s_Reader_done) lM0 cM0 kM0
  have FM1 := fun_mk (st := s_Reader_number) lM1 cM1 kM1
  have FM2 := fun_mk (st := s_Reader_numbers) lM2 cM2 kM2
  have FM3 := fun_mk (st := s_Reader_row) lM3 cM3 kM3
  exact ⟨C, fI, fM0, fM1, fM2, fM3, _, _, _, _, _, aC, ⟨pg, hd, po, sa⟩, n0, n1, ⟨mk, aI, iI, kc⟩, FI, FI.binds bI, ⟨FM0, ⟨aM0, iM0, kM0⟩, FM0.binds bM0⟩, ⟨FM1, ⟨aM1, iM1, kM1⟩, FM1.binds bM1⟩, ⟨FM2, ⟨aM2, iM2, kM2⟩, FM2.binds bM2⟩, ⟨FM3, ⟨aM3, iM3, kM3⟩, FM3.binds bM3⟩⟩
theorem ex_tab {K : PySem.W.Frag} {ac t0 f0 t1 f1 t2 f2 t3 f3 t4 f4 t5 f5 t6 f6 t7 f7 t8 f8 t9 f9 t10 f10 t11 f11 t12 f12 t13 f13 t14 f14 t15 f15 : Addr} {od : Option Addr} {sl : Array (Option Value)} {nn : Nat} {od0 : Option Addr} {sl0 : Array (Option Value)} {n0 : Nat} {x0 y0 : Tok} {od1 : Option Addr} {sl1 : Array (Option Value)} {n1 : Nat} {x1 y1 : Tok} {od2 : Option Addr} {sl2 : Array (Option Value)} {n2 : Nat} {x2 y2 : Tok} {od3 : Option Addr} {sl3 : Array (Option Value)} {n3 : Nat} {x3 y3 : Tok} {od4 : Option Addr} {sl4 : Array (Option Value)} {n4 : Nat} {x4 y4 : Tok} {od5 : Option Addr} {sl5 : Array (Option Value)} {n5 : Nat} {x5 y5 : Tok} {od6 : Option Addr} {sl6 : Array (Option Value)} {n6 : Nat} {x6 y6 : Tok} {od7 : Option Addr} {sl7 : Array (Option Value)} {n7 : Nat} {x7 y7 : Tok} {od8 : Option Addr} {sl8 : Array (Option Value)} {n8 : Nat} {x8 y8 : Tok} {od9 : Option Addr} {sl9 : Array (Option Value)} {n9 : Nat} {x9 y9 : Tok} {od10 : Option Addr} {sl10 : Array (Option Value)} {n10 : Nat} {x10 y10 : Tok} {od11 : Option Addr} {sl11 : Array (Option Value)} {n11 : Nat} {x11 y11 : Tok} {od12 : Option Addr} {sl12 : Array (Option Value)} {n12 : Nat} {x12 y12 : Tok} {od13 : Option Addr} {sl13 : Array (Option Value)} {n13 : Nat} {x13 y13 : Tok} {od14 : Option Addr} {sl14 : Array (Option Value)} {n14 : Nat} {x14 y14 : Tok} {od15 : Option Addr} {sl15 : Array (Option Value)} {n15 : Nat} {x15 y15 : Tok}
    (aC : PySem.W.nsIn K mainGlobals "CALLS" = some (some (.ref ac))) (lC : K.lookup ac = some ⟨.type "tuple", od, .seq #[.ref t0, .ref t1, .ref t2, .ref t3, .ref t4, .ref t5, .ref t6, .ref t7, .ref t8, .ref t9, .ref t10, .ref t11, .ref t12, .ref t13, .ref t14, .ref t15] nn, sl⟩)
    (g0 : PySem.W.nsIn K mainGlobals "answer_slices" = some (some (.ref f0))) (l0 : K.lookup t0 = some ⟨.type "tuple", od0, .seq #[.ref f0, .int 2 x0, .int 0 y0] n0, sl0⟩)
    (g1 : PySem.W.nsIn K mainGlobals "answer_bid" = some (some (.ref f1))) (l1 : K.lookup t1 = some ⟨.type "tuple", od1, .seq #[.ref f1, .int 1 x1, .int 1 y1] n1, sl1⟩)
    (g2 : PySem.W.nsIn K mainGlobals "answer_unbid" = some (some (.ref f2))) (l2 : K.lookup t2 = some ⟨.type "tuple", od2, .seq #[.ref f2, .int 1 x2, .int 0 y2] n2, sl2⟩)
    (g3 : PySem.W.nsIn K mainGlobals "answer_split" = some (some (.ref f3))) (l3 : K.lookup t3 = some ⟨.type "tuple", od3, .seq #[.ref f3, .int 0 x3, .int 0 y3] n3, sl3⟩)
    (g4 : PySem.W.nsIn K mainGlobals "answer_sum_of" = some (some (.ref f4))) (l4 : K.lookup t4 = some ⟨.type "tuple", od4, .seq #[.ref f4, .int 0 x4, .int 0 y4] n4, sl4⟩)
    (g5 : PySem.W.nsIn K mainGlobals "answer_pays" = some (some (.ref f5))) (l5 : K.lookup t5 = some ⟨.type "tuple", od5, .seq #[.ref f5, .int 1 x5, .int 0 y5] n5, sl5⟩)
    (g6 : PySem.W.nsIn K mainGlobals "answer_prices" = some (some (.ref f6))) (l6 : K.lookup t6 = some ⟨.type "tuple", od6, .seq #[.ref f6, .int 1 x6, .int 0 y6] n6, sl6⟩)
    (g7 : PySem.W.nsIn K mainGlobals "answer_income" = some (some (.ref f7))) (l7 : K.lookup t7 = some ⟨.type "tuple", od7, .seq #[.ref f7, .int 0 x7, .int 0 y7] n7, sl7⟩)
    (g8 : PySem.W.nsIn K mainGlobals "answer_told" = some (some (.ref f8))) (l8 : K.lookup t8 = some ⟨.type "tuple", od8, .seq #[.ref f8, .int 1 x8, .int 0 y8] n8, sl8⟩)
    (g9 : PySem.W.nsIn K mainGlobals "answer_one" = some (some (.ref f9))) (l9 : K.lookup t9 = some ⟨.type "tuple", od9, .seq #[.ref f9, .int 0 x9, .int 0 y9] n9, sl9⟩)
    (g10 : PySem.W.nsIn K mainGlobals "answer_between" = some (some (.ref f10))) (l10 : K.lookup t10 = some ⟨.type "tuple", od10, .seq #[.ref f10, .int 0 x10, .int 0 y10] n10, sl10⟩)
    (g11 : PySem.W.nsIn K mainGlobals "answer_shows" = some (some (.ref f11))) (l11 : K.lookup t11 = some ⟨.type "tuple", od11, .seq #[.ref f11, .int 1 x11, .int 1 y11] n11, sl11⟩)
    (g12 : PySem.W.nsIn K mainGlobals "answer_wanted" = some (some (.ref f12))) (l12 : K.lookup t12 = some ⟨.type "tuple", od12, .seq #[.ref f12, .int 2 x12, .int 0 y12] n12, sl12⟩)
    (g13 : PySem.W.nsIn K mainGlobals "answer_gain" = some (some (.ref f13))) (l13 : K.lookup t13 = some ⟨.type "tuple", od13, .seq #[.ref f13, .int 1 x13, .int 1 y13] n13, sl13⟩)
    (g14 : PySem.W.nsIn K mainGlobals "answer_ifbid" = some (some (.ref f14))) (l14 : K.lookup t14 = some ⟨.type "tuple", od14, .seq #[.ref f14, .int 1 x14, .int 2 y14] n14, sl14⟩)
    (g15 : PySem.W.nsIn K mainGlobals "answer_offers" = some (some (.ref f15))) (l15 : K.lookup t15 = some ⟨.type "tuple", od15, .seq #[.ref f15, .int 0 x15, .int 0 y15] n15, sl15⟩)
    : ∃ (ac t0 f0 t1 f1 t2 f2 t3 f3 t4 f4 t5 f5 t6 f6 t7 f7 t8 f8 t9 f9 t10 f10 t11 f11 t12 f12 t13 f13 t14 f14 t15 f15 : Addr), PySem.W.nsIn K mainGlobals "CALLS" = some (some (.ref ac)) ∧ (∀ H, SqT K H ac [.ref t0, .ref t1, .ref t2, .ref t3, .ref t4, .ref t5, .ref t6, .ref t7, .ref t8, .ref t9, .ref t10, .ref t11, .ref t12, .ref t13, .ref t14, .ref t15]) ∧ (PySem.W.nsIn K mainGlobals "answer_slices" = some (some (.ref f0)) ∧ ∀ H, SqT K H t0 [.ref f0, .int 2, .int 0]) ∧ (PySem.W.nsIn K mainGlobals "answer_bid" = some (some (.ref f1)) ∧ ∀ H, SqT K H t1 [.ref f1, .int 1, .int 1]) ∧ (PySem.W.nsIn K mainGlobals "answer_unbid" = some (some (.ref f2)) ∧ ∀ H, SqT K H t2 [.ref f2, .int 1, .int 0]) ∧ (PySem.W.nsIn K mainGlobals "answer_split" = some (some (.ref f3)) ∧ ∀ H, SqT K H t3 [.ref f3, .int 0, .int 0]) ∧ (PySem.W.nsIn K mainGlobals "answer_sum_of" = some (some (.ref f4)) ∧ ∀ H, SqT K H t4 [.ref f4, .int 0, .int 0]) ∧ (PySem.W.nsIn K mainGlobals "answer_pays" = some (some (.ref f5)) ∧ ∀ H, SqT K H t5 [.ref f5, .int 1, .int 0]) ∧ (PySem.W.nsIn K mainGlobals "answer_prices" = some (some (.ref f6)) ∧ ∀ H, SqT K H t6 [.ref f6, .int 1, .int 0]) ∧ (PySem.W.nsIn K mainGlobals "answer_income" = some (some (.ref f7)) ∧ ∀ H, SqT K H t7 [.ref f7, .int 0, .int 0]) ∧ (PySem.W.nsIn K mainGlobals "answer_told" = some (some (.ref f8)) ∧ ∀ H, SqT K H t8 [.ref f8, .int 1, .int 0]) ∧ (PySem.W.nsIn K mainGlobals "answer_one" = some (some (.ref f9)) ∧ ∀ H, SqT K H t9 [.ref f9, .int 0, .int 0]) ∧ (PySem.W.nsIn K mainGlobals "answer_between" = some (some (.ref f10)) ∧ ∀ H, SqT K H t10 [.ref f10, .int 0, .int 0]) ∧ (PySem.W.nsIn K mainGlobals "answer_shows" = some (some (.ref f11)) ∧ ∀ H, SqT K H t11 [.ref f11, .int 1, .int 1]) ∧ (PySem.W.nsIn K mainGlobals "answer_wanted" = some (some (.ref f12)) ∧ ∀ H, SqT K H t12 [.ref f12, .int 2, .int 0]) ∧ (PySem.W.nsIn K mainGlobals "answer_gain" = some (some (.ref f13)) ∧ ∀ H, SqT K H t13 [.ref f13, .int 1, .int 1]) ∧ (PySem.W.nsIn K mainGlobals "answer_ifbid" = some (some (.ref f14)) ∧ ∀ H, SqT K H t14 [.ref f14, .int 1, .int 2]) ∧ (PySem.W.nsIn K mainGlobals "answer_offers" = some (some (.ref f15)) ∧ ∀ H, SqT K H t15 [.ref f15, .int 0, .int 0]) := by
  refine ⟨ac, t0, f0, t1, f1, t2, f2, t3, f3, t4, f4, t5, f5, t6, f6, t7, f7, t8, f8, t9, f9, t10, f10, t11, f11, t12, f12, t13, f13, t14, f14, t15, f15, aC, fun H => .inr ⟨_, _, _, lC, rfl, rfl, (by show 16 ≤ sizeLine; decide), ?_⟩, ⟨g0, fun H => .inr ⟨_, _, _, l0, rfl, rfl, (by show 3 ≤ sizeLine; decide), .cons rfl (.cons ⟨_, rfl⟩ (.cons ⟨_, rfl⟩ .nil))⟩⟩, ⟨g1, fun H => .inr ⟨_, _, _, l1, rfl, rfl, (by show 3 ≤ sizeLine; decide), .cons rfl (.cons ⟨_, rfl⟩ (.cons ⟨_, rfl⟩ .nil))⟩⟩, ⟨g2, fun H => .inr ⟨_, _, _, l2, rfl, rfl, (by show 3 ≤ sizeLine; decide), .cons rfl (.cons ⟨_, rfl⟩ (.cons ⟨_, rfl⟩ .nil))⟩⟩, ⟨g3, fun H => .inr ⟨_, _, _, l3, rfl, rfl, (by show 3 ≤ sizeLine; decide), .cons rfl (.cons ⟨_, rfl⟩ (.cons ⟨_, rfl⟩ .nil))⟩⟩, ⟨g4, fun H => .inr ⟨_, _, _, l4, rfl, rfl, (by show 3 ≤ sizeLine; decide), .cons rfl (.cons ⟨_, rfl⟩ (.cons ⟨_, rfl⟩ .nil))⟩⟩, ⟨g5, fun H => .inr ⟨_, _, _, l5, rfl, rfl, (by show 3 ≤ sizeLine; decide), .cons rfl (.cons ⟨_, rfl⟩ (.cons ⟨_, rfl⟩ .nil))⟩⟩, ⟨g6, fun H => .inr ⟨_, _, _, l6, rfl, rfl, (by show 3 ≤ sizeLine; decide), .cons rfl (.cons ⟨_, rfl⟩ (.cons ⟨_, rfl⟩ .nil))⟩⟩, ⟨g7, fun H => .inr ⟨_, _, _, l7, rfl, rfl, (by show 3 ≤ sizeLine; decide), .cons rfl (.cons ⟨_, rfl⟩ (.cons ⟨_, rfl⟩ .nil))⟩⟩, ⟨g8, fun H => .inr ⟨_, _, _, l8, rfl, rfl, (by show 3 ≤ sizeLine; decide), .cons rfl (.cons ⟨_, rfl⟩ (.cons ⟨_, rfl⟩ .nil))⟩⟩, ⟨g9, fun H => .inr ⟨_, _, _, l9, rfl, rfl, (by show 3 ≤ sizeLine; decide), .cons rfl (.cons ⟨_, rfl⟩ (.cons ⟨_, rfl⟩ .nil))⟩⟩, ⟨g10, fun H => .inr ⟨_, _, _, l10, rfl, rfl, (by show 3 ≤ sizeLine; decide), .cons rfl (.cons ⟨_, rfl⟩ (.cons ⟨_, rfl⟩ .nil))⟩⟩, ⟨g11, fun H => .inr ⟨_, _, _, l11, rfl, rfl, (by show 3 ≤ sizeLine; decide), .cons rfl (.cons ⟨_, rfl⟩ (.cons ⟨_, rfl⟩ .nil))⟩⟩, ⟨g12, fun H => .inr ⟨_, _, _, l12, rfl, rfl, (by show 3 ≤ sizeLine; decide), .cons rfl (.cons ⟨_, rfl⟩ (.cons ⟨_, rfl⟩ .nil))⟩⟩, ⟨g13, fun H => .inr ⟨_, _, _, l13, rfl, rfl, (by show 3 ≤ sizeLine; decide), .cons rfl (.cons ⟨_, rfl⟩ (.cons ⟨_, rfl⟩ .nil))⟩⟩, ⟨g14, fun H => .inr ⟨_, _, _, l14, rfl, rfl, (by show 3 ≤ sizeLine; decide), .cons rfl (.cons ⟨_, rfl⟩ (.cons ⟨_, rfl⟩ .nil))⟩⟩, ⟨g15, fun H => .inr ⟨_, _, _, l15, rfl, rfl, (by show 3 ≤ sizeLine; decide), .cons rfl (.cons ⟨_, rfl⟩ (.cons ⟨_, rfl⟩ .nil))⟩⟩⟩
  exact (.cons rfl (.cons rfl (.cons rfl (.cons rfl (.cons rfl (.cons rfl (.cons rfl (.cons rfl (.cons rfl (.cons rfl (.cons rfl (.cons rfl (.cons rfl (.cons rfl (.cons rfl (.cons rfl .nil))))))))))))))))
end Ss
end
set_option Elab.async false
set_option linter.all false
open PySem PySem.W PyProof.Rows
def PySem.W.Fast.tw18307799698308095773 : Nat := 0
def PySem.W.Fast.tw3764002928494301187 : Nat := 0
def PySem.W.Fast.tw15879148466313961299 : Nat := 0
def PySem.W.Fast.tw661582597212458323 : Nat := 0
def PySem.W.Fast.tw16576474037067532056 : Nat := 0
def PySem.W.Fast.tw2303812940327170518 : Nat := 0
def PySem.W.Fast.tw7111126569813559813 : Nat := 0
def PySem.W.Fast.tw7286432807854579920 : Nat := 0
def PySem.W.Fast.tw14968063119636840505 : Nat := 0
def PySem.W.Fast.tw10022870827122875753 : Nat := 0
def PySem.W.Fast.tw2696330578922393382 : Nat := 0
def PySem.W.Fast.tw2236179906063127456 : Nat := 0
def PySem.W.Fast.tw10607281455993705907 : Nat := 0
def PySem.W.Fast.tw10638783227024545713 : Nat := 0
def PySem.W.Fast.tw11451148466559942170 : Nat := 0
def PySem.W.Fast.tw966393594784113389 : Nat := 0
def PySem.W.Fast.tw14416488246317466497 : Nat := 0
def PySem.W.Fast.tw8356987189347468799 : Nat := 0
def PySem.W.Fast.tw8899317332875306756 : Nat := 0
def PySem.W.Fast.tw596151793412959033 : Nat := 0
def PySem.W.Fast.tw4376475668014210550 : Nat := 0
def PySem.W.Fast.tw1577026978453297981 : Nat := 0
set_option maxRecDepth 100000 in
set_option maxHeartbeats 0 in
theorem PySem.Challenge.cw_slicesale_s01_answers_holds : PySem.Challenge.rw_slicesale_s01_answers.Holds := by
  w_on; k_headS; (case hw => exact ⟨[.list [.int 3]], by decide +kernel, by decide +kernel⟩)
  k_fillS
  refine L2.walk_specK (r := PySem.Challenge.rw_slicesale_s01_answers) (k := 11) (CX := L2.CX0) (ps := ["calls"]) (sp := Ss.spMain) (by decide +kernel) rfl rfl ⟨rfl, by decide, by decide⟩ (fun w h Y => PySem.W.kIn_of Y) ?F ?S (fun _ _ _ _ z => z)
  case F =>
    intro w mg fa h Y KX G hmg
    obtain ⟨CSale, fISale, fdISale, nCSale, clSale, noSale_slices, noSale_reserve, noSale_bids, mkSale, FSale, bSale⟩ : ∃ (C fI : Addr) (fdI : FuncData), PySem.W.nsIn (L2.KOf KX) mainGlobals "Sale" = some (some (.ref C)) ∧ L2.Cls (L2.KOf KX) C ∧ L2.NoAttr (L2.KOf KX) C "slices" ∧ L2.NoAttr (L2.KOf KX) C "reserve" ∧ L2.NoAttr (L2.KOf KX) C "bids" ∧ L2.Mk (L2.KOf KX) C fI ∧ L2.Fun (L2.KOf KX) "__init__" "Sale.__init__" Ss.s_Sale_init fI fdI ∧ L2.Binds (L2.KOf KX) fdI ["self", "slices", "reserve", "bids"] [] := by
      dsimp only [L2.KOf]
      refine' Ss.ex_Sale ?aC ?pg ?hd ?po ?sa ?mk ?kc ?n0 ?n1 ?n2 ?aI ?iI ?lI ?cI ?kI ?bI
      case aC => k_is
      case pg => k_is
      case hd => k_is
      case po => k_is
      case sa => k_is
      case mk => k_is
      case kc => k_is
      case n0 => k_is
      case n1 => k_is
      case n2 => k_is
      case aI => k_is
      case iI => k_is
      case lI => k_is
      case cI => k_is
      case kI => k_is
      case bI => exact fun _ _ _ _ _ _ us hl => match us, hl with | [_, _, _, _], _ => rfl
    obtain ⟨CHouse, fIHouse, fdIHouse, nCHouse, clHouse, noHouse_sale, mkHouse, FHouse, bHouse⟩ : ∃ (C fI : Addr) (fdI : FuncData), PySem.W.nsIn (L2.KOf KX) mainGlobals "House" = some (some (.ref C)) ∧ L2.Cls (L2.KOf KX) C ∧ L2.NoAttr (L2.KOf KX) C "sale" ∧ L2.Mk (L2.KOf KX) C fI ∧ L2.Fun (L2.KOf KX) "__init__" "House.__init__" Ss.s_House_init fI fdI ∧ L2.Binds (L2.KOf KX) fdI ["self"] [] := by
      dsimp only [L2.KOf]
      refine' Ss.ex_House ?aC ?pg ?hd ?po ?sa ?mk ?kc ?n0 ?aI ?iI ?lI ?cI ?kI ?bI
      case aC => k_is
      case pg => k_is
      case hd => k_is
      case po => k_is
      case sa => k_is
      case mk => k_is
      case kc => k_is
      case n0 => k_is
      case aI => k_is
      case iI => k_is
      case lI => k_is
      case cI => k_is
      case kI => k_is
      case bI => exact fun _ _ _ _ _ _ us hl => match us, hl with | [_], _ => rfl
    obtain ⟨CReader, fIReader, fM0Reader, fM1Reader, fM2Reader, fM3Reader, fdIReader, fdM0Reader, fdM1Reader, fdM2Reader, fdM3Reader, nCReader, clReader, noReader_calls, noReader_at, mkReader, FReader, bReader, MReader_done, MReader_number, MReader_numbers, MReader_row⟩ : ∃ (C fI fM0 fM1 fM2 fM3 : Addr) (fdI fdM0 fdM1 fdM2 fdM3 : FuncData), PySem.W.nsIn (L2.KOf KX) mainGlobals "Reader" = some (some (.ref C)) ∧ L2.Cls (L2.KOf KX) C ∧ L2.NoAttr (L2.KOf KX) C "calls" ∧ L2.NoAttr (L2.KOf KX) C "at" ∧ L2.Mk (L2.KOf KX) C fI ∧ L2.Fun (L2.KOf KX) "__init__" "Reader.__init__" Ss.s_Reader_init fI fdI ∧ L2.Binds (L2.KOf KX) fdI ["self", "calls"] [] ∧ Ss.Md (L2.KOf KX) C "done" "Reader.done" Ss.s_Reader_done ["self"] fM0 fdM0 ∧ Ss.Md (L2.KOf KX) C "number" "Reader.number" Ss.s_Reader_number ["self"] fM1 fdM1 ∧ Ss.Md (L2.KOf KX) C "numbers" "Reader.numbers" Ss.s_Reader_numbers ["self", "how_many"] fM2 fdM2 ∧ Ss.Md (L2.KOf KX) C "row" "Reader.row" Ss.s_Reader_row ["self"] fM3 fdM3 := by
      dsimp only [L2.KOf]
      refine' Ss.ex_Reader ?aC ?pg ?hd ?po ?sa ?mk ?kc ?n0 ?n1 ?aI ?iI ?lI ?cI ?kI ?bI ?aM0 ?iM0 ?lM0 ?cM0 ?kM0 ?bM0 ?aM1 ?iM1 ?lM1 ?cM1 ?kM1 ?bM1 ?aM2 ?iM2 ?lM2 ?cM2 ?kM2 ?bM2 ?aM3 ?iM3 ?lM3 ?cM3 ?kM3 ?bM3
      case aC => k_is
      case pg => k_is
      case hd => k_is
      case po => k_is
      case sa => k_is
      case mk => k_is
      case kc => k_is
      case n0 => k_is
      case n1 => k_is
      case aI => k_is
      case iI => k_is
      case lI => k_is
      case cI => k_is
      case kI => k_is
      case bI => exact fun _ _ _ _ _ _ us hl => match us, hl with | [_, _], _ => rfl
      case aM0 => k_is
      case iM0 => k_is
      case lM0 => k_is
      case cM0 => k_is
      case kM0 => k_is
      case bM0 => exact fun _ _ _ _ _ _ us hl => match us, hl with | [_], _ => rfl
      case aM1 => k_is
      case iM1 => k_is
      case lM1 => k_is
      case cM1 => k_is
      case kM1 => k_is
      case bM1 => exact fun _ _ _ _ _ _ us hl => match us, hl with | [_], _ => rfl
      case aM2 => k_is
      case iM2 => k_is
      case lM2 => k_is
      case cM2 => k_is
      case kM2 => k_is
      case bM2 => exact fun _ _ _ _ _ _ us hl => match us, hl with | [_, _], _ => rfl
      case aM3 => k_is
      case iM3 => k_is
      case lM3 => k_is
      case cM3 => k_is
      case kM3 => k_is
      case bM3 => exact fun _ _ _ _ _ _ us hl => match us, hl with | [_], _ => rfl
    obtain ⟨f_with_bid, fd_with_bid, n_with_bid, D_with_bid, B_with_bid⟩ : ∃ f fd, PySem.W.nsIn (L2.KOf KX) mainGlobals "with_bid" = some (some (.ref f)) ∧ Ss.Dn (L2.KOf KX) mg "with_bid" Ss.s_with_bid ["sale", "who", "offers"] f fd ∧ ∀ (s : Shared) (us : List Value), us.length = (["sale", "who", "offers"] : List Str).length → BindsTo s fd ⟨us, []⟩ ((["sale", "who", "offers"] : List Str).zip us) := by
      dsimp only [L2.KOf]
      refine' Ss.ex_dn KX G ?a ?l ?c ?k ?b
      case a => k_is
      case l => k_is
      case c => k_is
      case k => k_is
      case b => exact fun _ _ _ _ _ _ us hl => match us, hl with | [_, _, _], _ => rfl
    obtain ⟨f_without_bid, fd_without_bid, n_without_bid, D_without_bid, B_without_bid⟩ : ∃ f fd, PySem.W.nsIn (L2.KOf KX) mainGlobals "without_bid" = some (some (.ref f)) ∧ Ss.Dn (L2.KOf KX) mg "without_bid" Ss.s_without_bid ["sale", "who"] f fd ∧ ∀ (s : Shared) (us : List Value), us.length = (["sale", "who"] : List Str).length → BindsTo s fd ⟨us, []⟩ ((["sale", "who"] : List Str).zip us) := by
      dsimp only [L2.KOf]
      refine' Ss.ex_dn KX G ?a ?l ?c ?k ?b
      case a => k_is
      case l => k_is
      case c => k_is
      case k => k_is
      case b => exact fun _ _ _ _ _ _ us hl => match us, hl with | [_, _], _ => rfl
    obtain ⟨f_bidders, fd_bidders, n_bidders, D_bidders, B_bidders⟩ : ∃ f fd, PySem.W.nsIn (L2.KOf KX) mainGlobals "bidders" = some (some (.ref f)) ∧ Ss.Dn (L2.KOf KX) mg "bidders" Ss.s_bidders [] f fd ∧ ∀ (s : Shared) (us : List Value), us.length = ([] : List Str).length → BindsTo s fd ⟨us, []⟩ (([] : List Str).zip us) := by
      dsimp only [L2.KOf]
      refine' Ss.ex_dn KX G ?a ?l ?c ?k ?b
      case a => k_is
      case l => k_is
      case c => k_is
      case k => k_is
      case b => exact fun _ _ _ _ _ _ us hl => match us, hl with | [], _ => rfl
    obtain ⟨f_row_of, fd_row_of, n_row_of, D_row_of, B_row_of⟩ : ∃ f fd, PySem.W.nsIn (L2.KOf KX) mainGlobals "row_of" = some (some (.ref f)) ∧ Ss.Dn (L2.KOf KX) mg "row_of" Ss.s_row_of ["sale", "who"] f fd ∧ ∀ (s : Shared) (us : List Value), us.length = (["sale", "who"] : List Str).length → BindsTo s fd ⟨us, []⟩ ((["sale", "who"] : List Str).zip us) := by
      dsimp only [L2.KOf]
      refine' Ss.ex_dn KX G ?a ?l ?c ?k ?b
      case a => k_is
      case l => k_is
      case c => k_is
      case k => k_is
      case b => exact fun _ _ _ _ _ _ us hl => match us, hl with | [_, _], _ => rfl
    obtain ⟨f_all_offers, fd_all_offers, n_all_offers, D_all_offers, B_all_offers⟩ : ∃ f fd, PySem.W.nsIn (L2.KOf KX) mainGlobals "all_offers" = some (some (.ref f)) ∧ Ss.Dn (L2.KOf KX) mg "all_offers" Ss.s_all_offers ["sale"] f fd ∧ ∀ (s : Shared) (us : List Value), us.length = (["sale"] : List Str).length → BindsTo s fd ⟨us, []⟩ ((["sale"] : List Str).zip us) := by
      dsimp only [L2.KOf]
      refine' Ss.ex_dn KX G ?a ?l ?c ?k ?b
      case a => k_is
      case l => k_is
      case c => k_is
      case k => k_is
      case b => exact fun _ _ _ _ _ _ us hl => match us, hl with | [_], _ => rfl
    obtain ⟨f_greater_first, fd_greater_first, n_greater_first, D_greater_first, B_greater_first⟩ : ∃ f fd, PySem.W.nsIn (L2.KOf KX) mainGlobals "greater_first" = some (some (.ref f)) ∧ Ss.Dn (L2.KOf KX) mg "greater_first" Ss.s_greater_first ["offer"] f fd ∧ ∀ (s : Shared) (us : List Value), us.length = (["offer"] : List Str).length → BindsTo s fd ⟨us, []⟩ ((["offer"] : List Str).zip us) := by
      dsimp only [L2.KOf]
      refine' Ss.ex_dn KX G ?a ?l ?c ?k ?b
      case a => k_is
      case l => k_is
      case c => k_is
      case k => k_is
      case b => exact fun _ _ _ _ _ _ us hl => match us, hl with | [_], _ => rfl
    obtain ⟨f_in_order, fd_in_order, n_in_order, D_in_order, B_in_order⟩ : ∃ f fd, PySem.W.nsIn (L2.KOf KX) mainGlobals "in_order" = some (some (.ref f)) ∧ Ss.Dn (L2.KOf KX) mg "in_order" Ss.s_in_order ["sale"] f fd ∧ ∀ (s : Shared) (us : List Value), us.length = (["sale"] : List Str).length → BindsTo s fd ⟨us, []⟩ ((["sale"] : List Str).zip us) := by
      dsimp only [L2.KOf]
      refine' Ss.ex_dn KX G ?a ?l ?c ?k ?b
      case a => k_is
      case l => k_is
      case c => k_is
      case k => k_is
      case b => exact fun _ _ _ _ _ _ us hl => match us, hl with | [_], _ => rfl
    obtain ⟨f_met_offers, fd_met_offers, n_met_offers, D_met_offers, B_met_offers⟩ : ∃ f fd, PySem.W.nsIn (L2.KOf KX) mainGlobals "met_offers" = some (some (.ref f)) ∧ Ss.Dn (L2.KOf KX) mg "met_offers" Ss.s_met_offers ["sale"] f fd ∧ ∀ (s : Shared) (us : List Value), us.length = (["sale"] : List Str).length → BindsTo s fd ⟨us, []⟩ ((["sale"] : List Str).zip us) := by
      dsimp only [L2.KOf]
      refine' Ss.ex_dn KX G ?a ?l ?c ?k ?b
      case a => k_is
      case l => k_is
      case c => k_is
      case k => k_is
      case b => exact fun _ _ _ _ _ _ us hl => match us, hl with | [_], _ => rfl
    obtain ⟨f_left_offers, fd_left_offers, n_left_offers, D_left_offers, B_left_offers⟩ : ∃ f fd, PySem.W.nsIn (L2.KOf KX) mainGlobals "left_offers" = some (some (.ref f)) ∧ Ss.Dn (L2.KOf KX) mg "left_offers" Ss.s_left_offers ["sale"] f fd ∧ ∀ (s : Shared) (us : List Value), us.length = (["sale"] : List Str).length → BindsTo s fd ⟨us, []⟩ ((["sale"] : List Str).zip us) := by
      dsimp only [L2.KOf]
      refine' Ss.ex_dn KX G ?a ?l ?c ?k ?b
      case a => k_is
      case l => k_is
      case c => k_is
      case k => k_is
      case b => exact fun _ _ _ _ _ _ us hl => match us, hl with | [_], _ => rfl
    obtain ⟨f_amounts_of, fd_amounts_of, n_amounts_of, D_amounts_of, B_amounts_of⟩ : ∃ f fd, PySem.W.nsIn (L2.KOf KX) mainGlobals "amounts_of" = some (some (.ref f)) ∧ Ss.Dn (L2.KOf KX) mg "amounts_of" Ss.s_amounts_of ["offers"] f fd ∧ ∀ (s : Shared) (us : List Value), us.length = (["offers"] : List Str).length → BindsTo s fd ⟨us, []⟩ ((["offers"] : List Str).zip us) := by
      dsimp only [L2.KOf]
      refine' Ss.ex_dn KX G ?a ?l ?c ?k ?b
      case a => k_is
      case l => k_is
      case c => k_is
      case k => k_is
      case b => exact fun _ _ _ _ _ _ us hl => match us, hl with | [_], _ => rfl
    obtain ⟨f_own_of, fd_own_of, n_own_of, D_own_of, B_own_of⟩ : ∃ f fd, PySem.W.nsIn (L2.KOf KX) mainGlobals "own_of" = some (some (.ref f)) ∧ Ss.Dn (L2.KOf KX) mg "own_of" Ss.s_own_of ["offers", "who"] f fd ∧ ∀ (s : Shared) (us : List Value), us.length = (["offers", "who"] : List Str).length → BindsTo s fd ⟨us, []⟩ ((["offers", "who"] : List Str).zip us) := by
      dsimp only [L2.KOf]
      refine' Ss.ex_dn KX G ?a ?l ?c ?k ?b
      case a => k_is
      case l => k_is
      case c => k_is
      case k => k_is
      case b => exact fun _ _ _ _ _ _ us hl => match us, hl with | [_, _], _ => rfl
    obtain ⟨f_others_of, fd_others_of, n_others_of, D_others_of, B_others_of⟩ : ∃ f fd, PySem.W.nsIn (L2.KOf KX) mainGlobals "others_of" = some (some (.ref f)) ∧ Ss.Dn (L2.KOf KX) mg "others_of" Ss.s_others_of ["offers", "who"] f fd ∧ ∀ (s : Shared) (us : List Value), us.length = (["offers", "who"] : List Str).length → BindsTo s fd ⟨us, []⟩ ((["offers", "who"] : List Str).zip us) := by
      dsimp only [L2.KOf]
      refine' Ss.ex_dn KX G ?a ?l ?c ?k ?b
      case a => k_is
      case l => k_is
      case c => k_is
      case k => k_is
      case b => exact fun _ _ _ _ _ _ us hl => match us, hl with | [_, _], _ => rfl
    obtain ⟨f_greatest_sum, fd_greatest_sum, n_greatest_sum, D_greatest_sum, B_greatest_sum⟩ : ∃ f fd, PySem.W.nsIn (L2.KOf KX) mainGlobals "greatest_sum" = some (some (.ref f)) ∧ Ss.Dn (L2.KOf KX) mg "greatest_sum" Ss.s_greatest_sum ["sale"] f fd ∧ ∀ (s : Shared) (us : List Value), us.length = (["sale"] : List Str).length → BindsTo s fd ⟨us, []⟩ ((["sale"] : List Str).zip us) := by
      dsimp only [L2.KOf]
      refine' Ss.ex_dn KX G ?a ?l ?c ?k ?b
      case a => k_is
      case l => k_is
      case c => k_is
      case k => k_is
      case b => exact fun _ _ _ _ _ _ us hl => match us, hl with | [_], _ => rfl
    obtain ⟨f_got_by, fd_got_by, n_got_by, D_got_by, B_got_by⟩ : ∃ f fd, PySem.W.nsIn (L2.KOf KX) mainGlobals "got_by" = some (some (.ref f)) ∧ Ss.Dn (L2.KOf KX) mg "got_by" Ss.s_got_by ["sale", "who"] f fd ∧ ∀ (s : Shared) (us : List Value), us.length = (["sale", "who"] : List Str).length → BindsTo s fd ⟨us, []⟩ ((["sale", "who"] : List Str).zip us) := by
      dsimp only [L2.KOf]
      refine' Ss.ex_dn KX G ?a ?l ?c ?k ?b
      case a => k_is
      case l => k_is
      case c => k_is
      case k => k_is
      case b => exact fun _ _ _ _ _ _ us hl => match us, hl with | [_, _], _ => rfl
    obtain ⟨f_split_of, fd_split_of, n_split_of, D_split_of, B_split_of⟩ : ∃ f fd, PySem.W.nsIn (L2.KOf KX) mainGlobals "split_of" = some (some (.ref f)) ∧ Ss.Dn (L2.KOf KX) mg "split_of" Ss.s_split_of ["sale"] f fd ∧ ∀ (s : Shared) (us : List Value), us.length = (["sale"] : List Str).length → BindsTo s fd ⟨us, []⟩ ((["sale"] : List Str).zip us) := by
      dsimp only [L2.KOf]
      refine' Ss.ex_dn KX G ?a ?l ?c ?k ?b
      case a => k_is
      case l => k_is
      case c => k_is
      case k => k_is
      case b => exact fun _ _ _ _ _ _ us hl => match us, hl with | [_], _ => rfl
    obtain ⟨f_payment_of, fd_payment_of, n_payment_of, D_payment_of, B_payment_of⟩ : ∃ f fd, PySem.W.nsIn (L2.KOf KX) mainGlobals "payment_of" = some (some (.ref f)) ∧ Ss.Dn (L2.KOf KX) mg "payment_of" Ss.s_payment_of ["sale", "who"] f fd ∧ ∀ (s : Shared) (us : List Value), us.length = (["sale", "who"] : List Str).length → BindsTo s fd ⟨us, []⟩ ((["sale", "who"] : List Str).zip us) := by
      dsimp only [L2.KOf]
      refine' Ss.ex_dn KX G ?a ?l ?c ?k ?b
      case a => k_is
      case l => k_is
      case c => k_is
      case k => k_is
      case b => exact fun _ _ _ _ _ _ us hl => match us, hl with | [_, _], _ => rfl
    obtain ⟨f_prices_of, fd_prices_of, n_prices_of, D_prices_of, B_prices_of⟩ : ∃ f fd, PySem.W.nsIn (L2.KOf KX) mainGlobals "prices_of" = some (some (.ref f)) ∧ Ss.Dn (L2.KOf KX) mg "prices_of" Ss.s_prices_of ["sale", "who"] f fd ∧ ∀ (s : Shared) (us : List Value), us.length = (["sale", "who"] : List Str).length → BindsTo s fd ⟨us, []⟩ ((["sale", "who"] : List Str).zip us) := by
      dsimp only [L2.KOf]
      refine' Ss.ex_dn KX G ?a ?l ?c ?k ?b
      case a => k_is
      case l => k_is
      case c => k_is
      case k => k_is
      case b => exact fun _ _ _ _ _ _ us hl => match us, hl with | [_, _], _ => rfl
    obtain ⟨f_income_of, fd_income_of, n_income_of, D_income_of, B_income_of⟩ : ∃ f fd, PySem.W.nsIn (L2.KOf KX) mainGlobals "income_of" = some (some (.ref f)) ∧ Ss.Dn (L2.KOf KX) mg "income_of" Ss.s_income_of ["sale"] f fd ∧ ∀ (s : Shared) (us : List Value), us.length = (["sale"] : List Str).length → BindsTo s fd ⟨us, []⟩ ((["sale"] : List Str).zip us) := by
      dsimp only [L2.KOf]
      refine' Ss.ex_dn KX G ?a ?l ?c ?k ?b
      case a => k_is
      case l => k_is
      case c => k_is
      case k => k_is
      case b => exact fun _ _ _ _ _ _ us hl => match us, hl with | [_], _ => rfl
    obtain ⟨f_told_of, fd_told_of, n_told_of, D_told_of, B_told_of⟩ : ∃ f fd, PySem.W.nsIn (L2.KOf KX) mainGlobals "told_of" = some (some (.ref f)) ∧ Ss.Dn (L2.KOf KX) mg "told_of" Ss.s_told_of ["sale", "who"] f fd ∧ ∀ (s : Shared) (us : List Value), us.length = (["sale", "who"] : List Str).length → BindsTo s fd ⟨us, []⟩ ((["sale", "who"] : List Str).zip us) := by
      dsimp only [L2.KOf]
      refine' Ss.ex_dn KX G ?a ?l ?c ?k ?b
      case a => k_is
      case l => k_is
      case c => k_is
      case k => k_is
      case b => exact fun _ _ _ _ _ _ us hl => match us, hl with | [_, _], _ => rfl
    obtain ⟨f_least_met, fd_least_met, n_least_met, D_least_met, B_least_met⟩ : ∃ f fd, PySem.W.nsIn (L2.KOf KX) mainGlobals "least_met" = some (some (.ref f)) ∧ Ss.Dn (L2.KOf KX) mg "least_met" Ss.s_least_met ["sale"] f fd ∧ ∀ (s : Shared) (us : List Value), us.length = (["sale"] : List Str).length → BindsTo s fd ⟨us, []⟩ ((["sale"] : List Str).zip us) := by
      dsimp only [L2.KOf]
      refine' Ss.ex_dn KX G ?a ?l ?c ?k ?b
      case a => k_is
      case l => k_is
      case c => k_is
      case k => k_is
      case b => exact fun _ _ _ _ _ _ us hl => match us, hl with | [_], _ => rfl
    obtain ⟨f_proves, fd_proves, n_proves, D_proves, B_proves⟩ : ∃ f fd, PySem.W.nsIn (L2.KOf KX) mainGlobals "proves" = some (some (.ref f)) ∧ Ss.Dn (L2.KOf KX) mg "proves" Ss.s_proves ["price", "row", "got"] f fd ∧ ∀ (s : Shared) (us : List Value), us.length = (["price", "row", "got"] : List Str).length → BindsTo s fd ⟨us, []⟩ ((["price", "row", "got"] : List Str).zip us) := by
      dsimp only [L2.KOf]
      refine' Ss.ex_dn KX G ?a ?l ?c ?k ?b
      case a => k_is
      case l => k_is
      case c => k_is
      case k => k_is
      case b => exact fun _ _ _ _ _ _ us hl => match us, hl with | [_, _, _], _ => rfl
    obtain ⟨f_shows_split, fd_shows_split, n_shows_split, D_shows_split, B_shows_split⟩ : ∃ f fd, PySem.W.nsIn (L2.KOf KX) mainGlobals "shows_split" = some (some (.ref f)) ∧ Ss.Dn (L2.KOf KX) mg "shows_split" Ss.s_shows_split ["sale", "price", "split"] f fd ∧ ∀ (s : Shared) (us : List Value), us.length = (["sale", "price", "split"] : List Str).length → BindsTo s fd ⟨us, []⟩ ((["sale", "price", "split"] : List Str).zip us) := by
      dsimp only [L2.KOf]
      refine' Ss.ex_dn KX G ?a ?l ?c ?k ?b
      case a => k_is
      case l => k_is
      case c => k_is
      case k => k_is
      case b => exact fun _ _ _ _ _ _ us hl => match us, hl with | [_, _, _], _ => rfl
    obtain ⟨f_wanted_of, fd_wanted_of, n_wanted_of, D_wanted_of, B_wanted_of⟩ : ∃ f fd, PySem.W.nsIn (L2.KOf KX) mainGlobals "wanted_of" = some (some (.ref f)) ∧ Ss.Dn (L2.KOf KX) mg "wanted_of" Ss.s_wanted_of ["sale", "who", "price"] f fd ∧ ∀ (s : Shared) (us : List Value), us.length = (["sale", "who", "price"] : List Str).length → BindsTo s fd ⟨us, []⟩ ((["sale", "who", "price"] : List Str).zip us) := by
      dsimp only [L2.KOf]
      refine' Ss.ex_dn KX G ?a ?l ?c ?k ?b
      case a => k_is
      case l => k_is
      case c => k_is
      case k => k_is
      case b => exact fun _ _ _ _ _ _ us hl => match us, hl with | [_, _, _], _ => rfl
    obtain ⟨f_gain_of, fd_gain_of, n_gain_of, D_gain_of, B_gain_of⟩ : ∃ f fd, PySem.W.nsIn (L2.KOf KX) mainGlobals "gain_of" = some (some (.ref f)) ∧ Ss.Dn (L2.KOf KX) mg "gain_of" Ss.s_gain_of ["sale", "who", "truth"] f fd ∧ ∀ (s : Shared) (us : List Value), us.length = (["sale", "who", "truth"] : List Str).length → BindsTo s fd ⟨us, []⟩ ((["sale", "who", "truth"] : List Str).zip us) := by
      dsimp only [L2.KOf]
      refine' Ss.ex_dn KX G ?a ?l ?c ?k ?b
      case a => k_is
      case l => k_is
      case c => k_is
      case k => k_is
      case b => exact fun _ _ _ _ _ _ us hl => match us, hl with | [_, _, _], _ => rfl
    obtain ⟨f_is_amount, fd_is_amount, n_is_amount, D_is_amount, B_is_amount⟩ : ∃ f fd, PySem.W.nsIn (L2.KOf KX) mainGlobals "is_amount" = some (some (.ref f)) ∧ Ss.Dn (L2.KOf KX) mg "is_amount" Ss.s_is_amount ["number"] f fd ∧ ∀ (s : Shared) (us : List Value), us.length = (["number"] : List Str).length → BindsTo s fd ⟨us, []⟩ ((["number"] : List Str).zip us) := by
      dsimp only [L2.KOf]
      refine' Ss.ex_dn KX G ?a ?l ?c ?k ?b
      case a => k_is
      case l => k_is
      case c => k_is
      case k => k_is
      case b => exact fun _ _ _ _ _ _ us hl => match us, hl with | [_], _ => rfl
    obtain ⟨f_rises, fd_rises, n_rises, D_rises, B_rises⟩ : ∃ f fd, PySem.W.nsIn (L2.KOf KX) mainGlobals "rises" = some (some (.ref f)) ∧ Ss.Dn (L2.KOf KX) mg "rises" Ss.s_rises ["offers"] f fd ∧ ∀ (s : Shared) (us : List Value), us.length = (["offers"] : List Str).length → BindsTo s fd ⟨us, []⟩ ((["offers"] : List Str).zip us) := by
      dsimp only [L2.KOf]
      refine' Ss.ex_dn KX G ?a ?l ?c ?k ?b
      case a => k_is
      case l => k_is
      case c => k_is
      case k => k_is
      case b => exact fun _ _ _ _ _ _ us hl => match us, hl with | [_], _ => rfl
    obtain ⟨f_bid_refusal, fd_bid_refusal, n_bid_refusal, D_bid_refusal, B_bid_refusal⟩ : ∃ f fd, PySem.W.nsIn (L2.KOf KX) mainGlobals "bid_refusal" = some (some (.ref f)) ∧ Ss.Dn (L2.KOf KX) mg "bid_refusal" Ss.s_bid_refusal ["sale", "who", "offers"] f fd ∧ ∀ (s : Shared) (us : List Value), us.length = (["sale", "who", "offers"] : List Str).length → BindsTo s fd ⟨us, []⟩ ((["sale", "who", "offers"] : List Str).zip us) := by
      dsimp only [L2.KOf]
      refine' Ss.ex_dn KX G ?a ?l ?c ?k ?b
      case a => k_is
      case l => k_is
      case c => k_is
      case k => k_is
      case b => exact fun _ _ _ _ _ _ us hl => match us, hl with | [_, _, _], _ => rfl
    obtain ⟨f_is_split, fd_is_split, n_is_split, D_is_split, B_is_split⟩ : ∃ f fd, PySem.W.nsIn (L2.KOf KX) mainGlobals "is_split" = some (some (.ref f)) ∧ Ss.Dn (L2.KOf KX) mg "is_split" Ss.s_is_split ["numbers"] f fd ∧ ∀ (s : Shared) (us : List Value), us.length = (["numbers"] : List Str).length → BindsTo s fd ⟨us, []⟩ ((["numbers"] : List Str).zip us) := by
      dsimp only [L2.KOf]
      refine' Ss.ex_dn KX G ?a ?l ?c ?k ?b
      case a => k_is
      case l => k_is
      case c => k_is
      case k => k_is
      case b => exact fun _ _ _ _ _ _ us hl => match us, hl with | [_], _ => rfl
    obtain ⟨f_is_truth, fd_is_truth, n_is_truth, D_is_truth, B_is_truth⟩ : ∃ f fd, PySem.W.nsIn (L2.KOf KX) mainGlobals "is_truth" = some (some (.ref f)) ∧ Ss.Dn (L2.KOf KX) mg "is_truth" Ss.s_is_truth ["sale", "numbers"] f fd ∧ ∀ (s : Shared) (us : List Value), us.length = (["sale", "numbers"] : List Str).length → BindsTo s fd ⟨us, []⟩ ((["sale", "numbers"] : List Str).zip us) := by
      dsimp only [L2.KOf]
      refine' Ss.ex_dn KX G ?a ?l ?c ?k ?b
      case a => k_is
      case l => k_is
      case c => k_is
      case k => k_is
      case b => exact fun _ _ _ _ _ _ us hl => match us, hl with | [_, _], _ => rfl
    obtain ⟨f_answer_slices, fd_answer_slices, n_answer_slices, D_answer_slices, B_answer_slices⟩ : ∃ f fd, PySem.W.nsIn (L2.KOf KX) mainGlobals "answer_slices" = some (some (.ref f)) ∧ Ss.Dn (L2.KOf KX) mg "answer_slices" Ss.s_answer_slices ["house", "numbers", "rows"] f fd ∧ ∀ (s : Shared) (us : List Value), us.length = (["house", "numbers", "rows"] : List Str).length → BindsTo s fd ⟨us, []⟩ ((["house", "numbers", "rows"] : List Str).zip us) := by
      dsimp only [L2.KOf]
      refine' Ss.ex_dn KX G ?a ?l ?c ?k ?b
      case a => k_is
      case l => k_is
      case c => k_is
      case k => k_is
      case b => exact fun _ _ _ _ _ _ us hl => match us, hl with | [_, _, _], _ => rfl
    obtain ⟨f_answer_bid, fd_answer_bid, n_answer_bid, D_answer_bid, B_answer_bid⟩ : ∃ f fd, PySem.W.nsIn (L2.KOf KX) mainGlobals "answer_bid" = some (some (.ref f)) ∧ Ss.Dn (L2.KOf KX) mg "answer_bid" Ss.s_answer_bid ["house", "numbers", "rows"] f fd ∧ ∀ (s : Shared) (us : List Value), us.length = (["house", "numbers", "rows"] : List Str).length → BindsTo s fd ⟨us, []⟩ ((["house", "numbers", "rows"] : List Str).zip us) := by
      dsimp only [L2.KOf]
      refine' Ss.ex_dn KX G ?a ?l ?c ?k ?b
      case a => k_is
      case l => k_is
      case c => k_is
      case k => k_is
      case b => exact fun _ _ _ _ _ _ us hl => match us, hl with | [_, _, _], _ => rfl
    obtain ⟨f_answer_unbid, fd_answer_unbid, n_answer_unbid, D_answer_unbid, B_answer_unbid⟩ : ∃ f fd, PySem.W.nsIn (L2.KOf KX) mainGlobals "answer_unbid" = some (some (.ref f)) ∧ Ss.Dn (L2.KOf KX) mg "answer_unbid" Ss.s_answer_unbid ["house", "numbers", "rows"] f fd ∧ ∀ (s : Shared) (us : List Value), us.length = (["house", "numbers", "rows"] : List Str).length → BindsTo s fd ⟨us, []⟩ ((["house", "numbers", "rows"] : List Str).zip us) := by
      dsimp only [L2.KOf]
      refine' Ss.ex_dn KX G ?a ?l ?c ?k ?b
      case a => k_is
      case l => k_is
      case c => k_is
      case k => k_is
      case b => exact fun _ _ _ _ _ _ us hl => match us, hl with | [_, _, _], _ => rfl
    obtain ⟨f_answer_split, fd_answer_split, n_answer_split, D_answer_split, B_answer_split⟩ : ∃ f fd, PySem.W.nsIn (L2.KOf KX) mainGlobals "answer_split" = some (some (.ref f)) ∧ Ss.Dn (L2.KOf KX) mg "answer_split" Ss.s_answer_split ["house", "numbers", "rows"] f fd ∧ ∀ (s : Shared) (us : List Value), us.length = (["house", "numbers", "rows"] : List Str).length → BindsTo s fd ⟨us, []⟩ ((["house", "numbers", "rows"] : List Str).zip us) := by
      dsimp only [L2.KOf]
      refine' Ss.ex_dn KX G ?a ?l ?c ?k ?b
      case a => k_is
      case l => k_is
      case c => k_is
      case k => k_is
      case b => exact fun _ _ _ _ _ _ us hl => match us, hl with | [_, _, _], _ => rfl
    obtain ⟨f_answer_sum_of, fd_answer_sum_of, n_answer_sum_of, D_answer_sum_of, B_answer_sum_of⟩ : ∃ f fd, PySem.W.nsIn (L2.KOf KX) mainGlobals "answer_sum_of" = some (some (.ref f)) ∧ Ss.Dn (L2.KOf KX) mg "answer_sum_of" Ss.s_answer_sum_of ["house", "numbers", "rows"] f fd ∧ ∀ (s : Shared) (us : List Value), us.length = (["house", "numbers", "rows"] : List Str).length → BindsTo s fd ⟨us, []⟩ ((["house", "numbers", "rows"] : List Str).zip us) := by
      dsimp only [L2.KOf]
      refine' Ss.ex_dn KX G ?a ?l ?c ?k ?b
      case a => k_is
      case l => k_is
      case c => k_is
      case k => k_is
      case b => exact fun _ _ _ _ _ _ us hl => match us, hl with | [_, _, _], _ => rfl
    obtain ⟨f_answer_pays, fd_answer_pays, n_answer_pays, D_answer_pays, B_answer_pays⟩ : ∃ f fd, PySem.W.nsIn (L2.KOf KX) mainGlobals "answer_pays" = some (some (.ref f)) ∧ Ss.Dn (L2.KOf KX) mg "answer_pays" Ss.s_answer_pays ["house", "numbers", "rows"] f fd ∧ ∀ (s : Shared) (us : List Value), us.length = (["house", "numbers", "rows"] : List Str).length → BindsTo s fd ⟨us, []⟩ ((["house", "numbers", "rows"] : List Str).zip us) := by
      dsimp only [L2.KOf]
      refine' Ss.ex_dn KX G ?a ?l ?c ?k ?b
      case a => k_is
      case l => k_is
      case c => k_is
      case k => k_is
      case b => exact fun _ _ _ _ _ _ us hl => match us, hl with | [_, _, _], _ => rfl
    obtain ⟨f_answer_prices, fd_answer_prices, n_answer_prices, D_answer_prices, B_answer_prices⟩ : ∃ f fd, PySem.W.nsIn (L2.KOf KX) mainGlobals "answer_prices" = some (some (.ref f)) ∧ Ss.Dn (L2.KOf KX) mg "answer_prices" Ss.s_answer_prices ["house", "numbers", "rows"] f fd ∧ ∀ (s : Shared) (us : List Value), us.length = (["house", "numbers", "rows"] : List Str).length → BindsTo s fd ⟨us, []⟩ ((["house", "numbers", "rows"] : List Str).zip us) := by
      dsimp only [L2.KOf]
      refine' Ss.ex_dn KX G ?a ?l ?c ?k ?b
      case a => k_is
      case l => k_is
      case c => k_is
      case k => k_is
      case b => exact fun _ _ _ _ _ _ us hl => match us, hl with | [_, _, _], _ => rfl
    obtain ⟨f_answer_income, fd_answer_income, n_answer_income, D_answer_income, B_answer_income⟩ : ∃ f fd, PySem.W.nsIn (L2.KOf KX) mainGlobals "answer_income" = some (some (.ref f)) ∧ Ss.Dn (L2.KOf KX) mg "answer_income" Ss.s_answer_income ["house", "numbers", "rows"] f fd ∧ ∀ (s : Shared) (us : List Value), us.length = (["house", "numbers", "rows"] : List Str).length → BindsTo s fd ⟨us, []⟩ ((["house", "numbers", "rows"] : List Str).zip us) := by
      dsimp only [L2.KOf]
      refine' Ss.ex_dn KX G ?a ?l ?c ?k ?b
      case a => k_is
      case l => k_is
      case c => k_is
      case k => k_is
      case b => exact fun _ _ _ _ _ _ us hl => match us, hl with | [_, _, _], _ => rfl
    obtain ⟨f_answer_told, fd_answer_told, n_answer_told, D_answer_told, B_answer_told⟩ : ∃ f fd, PySem.W.nsIn (L2.KOf KX) mainGlobals "answer_told" = some (some (.ref f)) ∧ Ss.Dn (L2.KOf KX) mg "answer_told" Ss.s_answer_told ["house", "numbers", "rows"] f fd ∧ ∀ (s : Shared) (us : List Value), us.length = (["house", "numbers", "rows"] : List Str).length → BindsTo s fd ⟨us, []⟩ ((["house", "numbers", "rows"] : List Str).zip us) := by
      dsimp only [L2.KOf]
      refine' Ss.ex_dn KX G ?a ?l ?c ?k ?b
      case a => k_is
      case l => k_is
      case c => k_is
      case k => k_is
      case b => exact fun _ _ _ _ _ _ us hl => match us, hl with | [_, _, _], _ => rfl
    obtain ⟨f_answer_one, fd_answer_one, n_answer_one, D_answer_one, B_answer_one⟩ : ∃ f fd, PySem.W.nsIn (L2.KOf KX) mainGlobals "answer_one" = some (some (.ref f)) ∧ Ss.Dn (L2.KOf KX) mg "answer_one" Ss.s_answer_one ["house", "numbers", "rows"] f fd ∧ ∀ (s : Shared) (us : List Value), us.length = (["house", "numbers", "rows"] : List Str).length → BindsTo s fd ⟨us, []⟩ ((["house", "numbers", "rows"] : List Str).zip us) := by
      dsimp only [L2.KOf]
      refine' Ss.ex_dn KX G ?a ?l ?c ?k ?b
      case a => k_is
      case l => k_is
      case c => k_is
      case k => k_is
      case b => exact fun _ _ _ _ _ _ us hl => match us, hl with | [_, _, _], _ => rfl
    obtain ⟨f_answer_between, fd_answer_between, n_answer_between, D_answer_between, B_answer_between⟩ : ∃ f fd, PySem.W.nsIn (L2.KOf KX) mainGlobals "answer_between" = some (some (.ref f)) ∧ Ss.Dn (L2.KOf KX) mg "answer_between" Ss.s_answer_between ["house", "numbers", "rows"] f fd ∧ ∀ (s : Shared) (us : List Value), us.length = (["house", "numbers", "rows"] : List Str).length → BindsTo s fd ⟨us, []⟩ ((["house", "numbers", "rows"] : List Str).zip us) := by
      dsimp only [L2.KOf]
      refine' Ss.ex_dn KX G ?a ?l ?c ?k ?b
      case a => k_is
      case l => k_is
      case c => k_is
      case k => k_is
      case b => exact fun _ _ _ _ _ _ us hl => match us, hl with | [_, _, _], _ => rfl
    obtain ⟨f_answer_shows, fd_answer_shows, n_answer_shows, D_answer_shows, B_answer_shows⟩ : ∃ f fd, PySem.W.nsIn (L2.KOf KX) mainGlobals "answer_shows" = some (some (.ref f)) ∧ Ss.Dn (L2.KOf KX) mg "answer_shows" Ss.s_answer_shows ["house", "numbers", "rows"] f fd ∧ ∀ (s : Shared) (us : List Value), us.length = (["house", "numbers", "rows"] : List Str).length → BindsTo s fd ⟨us, []⟩ ((["house", "numbers", "rows"] : List Str).zip us) := by
      dsimp only [L2.KOf]
      refine' Ss.ex_dn KX G ?a ?l ?c ?k ?b
      case a => k_is
      case l => k_is
      case c => k_is
      case k => k_is
      case b => exact fun _ _ _ _ _ _ us hl => match us, hl with | [_, _, _], _ => rfl
    obtain ⟨f_answer_wanted, fd_answer_wanted, n_answer_wanted, D_answer_wanted, B_answer_wanted⟩ : ∃ f fd, PySem.W.nsIn (L2.KOf KX) mainGlobals "answer_wanted" = some (some (.ref f)) ∧ Ss.Dn (L2.KOf KX) mg "answer_wanted" Ss.s_answer_wanted ["house", "numbers", "rows"] f fd ∧ ∀ (s : Shared) (us : List Value), us.length = (["house", "numbers", "rows"] : List Str).length → BindsTo s fd ⟨us, []⟩ ((["house", "numbers", "rows"] : List Str).zip us) := by
      dsimp only [L2.KOf]
      refine' Ss.ex_dn KX G ?a ?l ?c ?k ?b
      case a => k_is
      case l => k_is
      case c => k_is
      case k => k_is
      case b => exact fun _ _ _ _ _ _ us hl => match us, hl with | [_, _, _], _ => rfl
    obtain ⟨f_answer_gain, fd_answer_gain, n_answer_gain, D_answer_gain, B_answer_gain⟩ : ∃ f fd, PySem.W.nsIn (L2.KOf KX) mainGlobals "answer_gain" = some (some (.ref f)) ∧ Ss.Dn (L2.KOf KX) mg "answer_gain" Ss.s_answer_gain ["house", "numbers", "rows"] f fd ∧ ∀ (s : Shared) (us : List Value), us.length = (["house", "numbers", "rows"] : List Str).length → BindsTo s fd ⟨us, []⟩ ((["house", "numbers", "rows"] : List Str).zip us) := by
      dsimp only [L2.KOf]
      refine' Ss.ex_dn KX G ?a ?l ?c ?k ?b
      case a => k_is
      case l => k_is
      case c => k_is
      case k => k_is
      case b => exact fun _ _ _ _ _ _ us hl => match us, hl with | [_, _, _], _ => rfl
    obtain ⟨f_answer_ifbid, fd_answer_ifbid, n_answer_ifbid, D_answer_ifbid, B_answer_ifbid⟩ : ∃ f fd, PySem.W.nsIn (L2.KOf KX) mainGlobals "answer_ifbid" = some (some (.ref f)) ∧ Ss.Dn (L2.KOf KX) mg "answer_ifbid" Ss.s_answer_ifbid ["house", "numbers", "rows"] f fd ∧ ∀ (s : Shared) (us : List Value), us.length = (["house", "numbers", "rows"] : List Str).length → BindsTo s fd ⟨us, []⟩ ((["house", "numbers", "rows"] : List Str).zip us) := by
      dsimp only [L2.KOf]
      refine' Ss.ex_dn KX G ?a ?l ?c ?k ?b
      case a => k_is
      case l => k_is
      case c => k_is
      case k => k_is
      case b => exact fun _ _ _ _ _ _ us hl => match us, hl with | [_, _, _], _ => rfl
    obtain ⟨f_answer_offers, fd_answer_offers, n_answer_offers, D_answer_offers, B_answer_offers⟩ : ∃ f fd, PySem.W.nsIn (L2.KOf KX) mainGlobals "answer_offers" = some (some (.ref f)) ∧ Ss.Dn (L2.KOf KX) mg "answer_offers" Ss.s_answer_offers ["house", "numbers", "rows"] f fd ∧ ∀ (s : Shared) (us : List Value), us.length = (["house", "numbers", "rows"] : List Str).length → BindsTo s fd ⟨us, []⟩ ((["house", "numbers", "rows"] : List Str).zip us) := by
      dsimp only [L2.KOf]
      refine' Ss.ex_dn KX G ?a ?l ?c ?k ?b
      case a => k_is
      case l => k_is
      case c => k_is
      case k => k_is
      case b => exact fun _ _ _ _ _ _ us hl => match us, hl with | [_, _, _], _ => rfl
    obtain ⟨f_answer_next, fd_answer_next, n_answer_next, D_answer_next, B_answer_next⟩ : ∃ f fd, PySem.W.nsIn (L2.KOf KX) mainGlobals "answer_next" = some (some (.ref f)) ∧ Ss.Dn (L2.KOf KX) mg "answer_next" Ss.s_answer_next ["house", "reader"] f fd ∧ ∀ (s : Shared) (us : List Value), us.length = (["house", "reader"] : List Str).length → BindsTo s fd ⟨us, []⟩ ((["house", "reader"] : List Str).zip us) := by
      dsimp only [L2.KOf]
      refine' Ss.ex_dn KX G ?a ?l ?c ?k ?b
      case a => k_is
      case l => k_is
      case c => k_is
      case k => k_is
      case b => exact fun _ _ _ _ _ _ us hl => match us, hl with | [_, _], _ => rfl
    obtain ⟨f_answers, fd_answers, n_answers, D_answers, B_answers⟩ : ∃ f fd, PySem.W.nsIn (L2.KOf KX) mainGlobals "answers" = some (some (.ref f)) ∧ Ss.Dn (L2.KOf KX) mg "answers" Ss.s_answers ["calls"] f fd ∧ ∀ (s : Shared) (us : List Value), us.length = (["calls"] : List Str).length → BindsTo s fd ⟨us, []⟩ ((["calls"] : List Str).zip us) := by
      dsimp only [L2.KOf]
      refine' Ss.ex_dn KX G ?a ?l ?c ?k ?b
      case a => k_is
      case l => k_is
      case c => k_is
      case k => k_is
      case b => exact fun _ _ _ _ _ _ us hl => match us, hl with | [_], _ => rfl
    obtain ⟨ac, t0, f0, t1, f1, t2, f2, t3, f3, t4, f4, t5, f5, t6, f6, t7, f7, t8, f8, t9, f9, t10, f10, t11, f11, t12, f12, t13, f13, t14, f14, t15, f15, nCalls, sqC, ⟨gn0, sq0⟩, ⟨gn1, sq1⟩, ⟨gn2, sq2⟩, ⟨gn3, sq3⟩, ⟨gn4, sq4⟩, ⟨gn5, sq5⟩, ⟨gn6, sq6⟩, ⟨gn7, sq7⟩, ⟨gn8, sq8⟩, ⟨gn9, sq9⟩, ⟨gn10, sq10⟩, ⟨gn11, sq11⟩, ⟨gn12, sq12⟩, ⟨gn13, sq13⟩, ⟨gn14, sq14⟩, ⟨gn15, sq15⟩⟩ : ∃ (ac t0 f0 t1 f1 t2 f2 t3 f3 t4 f4 t5 f5 t6 f6 t7 f7 t8 f8 t9 f9 t10 f10 t11 f11 t12 f12 t13 f13 t14 f14 t15 f15 : Addr), PySem.W.nsIn (L2.KOf KX) mainGlobals "CALLS" = some (some (.ref ac)) ∧ (∀ H, L2.SqT (L2.KOf KX) H ac [.ref t0, .ref t1, .ref t2, .ref t3, .ref t4, .ref t5, .ref t6, .ref t7, .ref t8, .ref t9, .ref t10, .ref t11, .ref t12, .ref t13, .ref t14, .ref t15]) ∧ (PySem.W.nsIn (L2.KOf KX) mainGlobals "answer_slices" = some (some (.ref f0)) ∧ ∀ H, L2.SqT (L2.KOf KX) H t0 [.ref f0, .int 2, .int 0]) ∧ (PySem.W.nsIn (L2.KOf KX) mainGlobals "answer_bid" = some (some (.ref f1)) ∧ ∀ H, L2.SqT (L2.KOf KX) H t1 [.ref f1, .int 1, .int 1]) ∧ (PySem.W.nsIn (L2.KOf KX) mainGlobals "answer_unbid" = some (some (.ref f2)) ∧ ∀ H, L2.SqT (L2.KOf KX) H t2 [.ref f2, .int 1, .int 0]) ∧ (PySem.W.nsIn (L2.KOf KX) mainGlobals "answer_split" = some (some (.ref f3)) ∧ ∀ H, L2.SqT (L2.KOf KX) H t3 [.ref f3, .int 0, .int 0]) ∧ (PySem.W.nsIn (L2.KOf KX) mainGlobals "answer_sum_of" = some (some (.ref f4)) ∧ ∀ H, L2.SqT (L2.KOf KX) H t4 [.ref f4, .int 0, .int 0]) ∧ (PySem.W.nsIn (L2.KOf KX) mainGlobals "answer_pays" = some (some (.ref f5)) ∧ ∀ H, L2.SqT (L2.KOf KX) H t5 [.ref f5, .int 1, .int 0]) ∧ (PySem.W.nsIn (L2.KOf KX) mainGlobals "answer_prices" = some (some (.ref f6)) ∧ ∀ H, L2.SqT (L2.KOf KX) H t6 [.ref f6, .int 1, .int 0]) ∧ (PySem.W.nsIn (L2.KOf KX) mainGlobals "answer_income" = some (some (.ref f7)) ∧ ∀ H, L2.SqT (L2.KOf KX) H t7 [.ref f7, .int 0, .int 0]) ∧ (PySem.W.nsIn (L2.KOf KX) mainGlobals "answer_told" = some (some (.ref f8)) ∧ ∀ H, L2.SqT (L2.KOf KX) H t8 [.ref f8, .int 1, .int 0]) ∧ (PySem.W.nsIn (L2.KOf KX) mainGlobals "answer_one" = some (some (.ref f9)) ∧ ∀ H, L2.SqT (L2.KOf KX) H t9 [.ref f9, .int 0, .int 0]) ∧ (PySem.W.nsIn (L2.KOf KX) mainGlobals "answer_between" = some (some (.ref f10)) ∧ ∀ H, L2.SqT (L2.KOf KX) H t10 [.ref f10, .int 0, .int 0]) ∧ (PySem.W.nsIn (L2.KOf KX) mainGlobals "answer_shows" = some (some (.ref f11)) ∧ ∀ H, L2.SqT (L2.KOf KX) H t11 [.ref f11, .int 1, .int 1]) ∧ (PySem.W.nsIn (L2.KOf KX) mainGlobals "answer_wanted" = some (some (.ref f12)) ∧ ∀ H, L2.SqT (L2.KOf KX) H t12 [.ref f12, .int 2, .int 0]) ∧ (PySem.W.nsIn (L2.KOf KX) mainGlobals "answer_gain" = some (some (.ref f13)) ∧ ∀ H, L2.SqT (L2.KOf KX) H t13 [.ref f13, .int 1, .int 1]) ∧ (PySem.W.nsIn (L2.KOf KX) mainGlobals "answer_ifbid" = some (some (.ref f14)) ∧ ∀ H, L2.SqT (L2.KOf KX) H t14 [.ref f14, .int 1, .int 2]) ∧ (PySem.W.nsIn (L2.KOf KX) mainGlobals "answer_offers" = some (some (.ref f15)) ∧ ∀ H, L2.SqT (L2.KOf KX) H t15 [.ref f15, .int 0, .int 0]) := by
      dsimp only [L2.KOf]
      refine' Ss.ex_tab ?aC ?lC ?en0 ?el0 ?en1 ?el1 ?en2 ?el2 ?en3 ?el3 ?en4 ?el4 ?en5 ?el5 ?en6 ?el6 ?en7 ?el7 ?en8 ?el8 ?en9 ?el9 ?en10 ?el10 ?en11 ?el11 ?en12 ?el12 ?en13 ?el13 ?en14 ?el14 ?en15 ?el15
      case aC => k_is
      case lC => k_is
      case en0 => k_is
      case el0 => k_is
      case en1 => k_is
      case el1 => k_is
      case en2 => k_is
      case el2 => k_is
      case en3 => k_is
      case el3 => k_is
      case en4 => k_is
      case el4 => k_is
      case en5 => k_is
      case el5 => k_is
      case en6 => k_is
      case el6 => k_is
      case en7 => k_is
      case el7 => k_is
      case en8 => k_is
      case el8 => k_is
      case en9 => k_is
      case el9 => k_is
      case en10 => k_is
      case el10 => k_is
      case en11 => k_is
      case el11 => k_is
      case en12 => k_is
      case el12 => k_is
      case en13 => k_is
      case el13 => k_is
      case en14 => k_is
      case el14 => k_is
      case en15 => k_is
      case el15 => k_is
    have e0 : f0 = f_answer_slices := by rw [n_answer_slices] at gn0; exact (Value.ref.inj (Option.some.inj (Option.some.inj gn0))).symm
    subst e0
    have e1 : f1 = f_answer_bid := by rw [n_answer_bid] at gn1; exact (Value.ref.inj (Option.some.inj (Option.some.inj gn1))).symm
    subst e1
    have e2 : f2 = f_answer_unbid := by rw [n_answer_unbid] at gn2; exact (Value.ref.inj (Option.some.inj (Option.some.inj gn2))).symm
    subst e2
    have e3 : f3 = f_answer_split := by rw [n_answer_split] at gn3; exact (Value.ref.inj (Option.some.inj (Option.some.inj gn3))).symm
    subst e3
    have e4 : f4 = f_answer_sum_of := by rw [n_answer_sum_of] at gn4; exact (Value.ref.inj (Option.some.inj (Option.some.inj gn4))).symm
    subst e4
    have e5 : f5 = f_answer_pays := by rw [n_answer_pays] at gn5; exact (Value.ref.inj (Option.some.inj (Option.some.inj gn5))).symm
    subst e5
    have e6 : f6 = f_answer_prices := by rw [n_answer_prices] at gn6; exact (Value.ref.inj (Option.some.inj (Option.some.inj gn6))).symm
    subst e6
    have e7 : f7 = f_answer_income := by rw [n_answer_income] at gn7; exact (Value.ref.inj (Option.some.inj (Option.some.inj gn7))).symm
    subst e7
    have e8 : f8 = f_answer_told := by rw [n_answer_told] at gn8; exact (Value.ref.inj (Option.some.inj (Option.some.inj gn8))).symm
    subst e8
    have e9 : f9 = f_answer_one := by rw [n_answer_one] at gn9; exact (Value.ref.inj (Option.some.inj (Option.some.inj gn9))).symm
    subst e9
    have e10 : f10 = f_answer_between := by rw [n_answer_between] at gn10; exact (Value.ref.inj (Option.some.inj (Option.some.inj gn10))).symm
    subst e10
    have e11 : f11 = f_answer_shows := by rw [n_answer_shows] at gn11; exact (Value.ref.inj (Option.some.inj (Option.some.inj gn11))).symm
    subst e11
    have e12 : f12 = f_answer_wanted := by rw [n_answer_wanted] at gn12; exact (Value.ref.inj (Option.some.inj (Option.some.inj gn12))).symm
    subst e12
    have e13 : f13 = f_answer_gain := by rw [n_answer_gain] at gn13; exact (Value.ref.inj (Option.some.inj (Option.some.inj gn13))).symm
    subst e13
    have e14 : f14 = f_answer_ifbid := by rw [n_answer_ifbid] at gn14; exact (Value.ref.inj (Option.some.inj (Option.some.inj gn14))).symm
    subst e14
    have e15 : f15 = f_answer_offers := by rw [n_answer_offers] at gn15; exact (Value.ref.inj (Option.some.inj (Option.some.inj gn15))).symm
    subst e15
    have g_HOUSE : Ss.GI mg "HOUSE" (0) := by
      refine' Ss.ex_gi KX G ?a
      case a => k_is
    have g_BIDDERS : Ss.GI mg "BIDDERS" (8) := by
      refine' Ss.ex_gi KX G ?a
      case a => k_is
    have g_MOST_SLICES : Ss.GI mg "MOST_SLICES" (60) := by
      refine' Ss.ex_gi KX G ?a
      case a => k_is
    have g_MOST_AMOUNT : Ss.GI mg "MOST_AMOUNT" (1000000000) := by
      refine' Ss.ex_gi KX G ?a
      case a => k_is
    have g_NO_REFUSAL : Ss.GI mg "NO_REFUSAL" (0) := by
      refine' Ss.ex_gi KX G ?a
      case a => k_is
    have g_SLICES_BEYOND : Ss.GI mg "SLICES_BEYOND" (-1) := by
      refine' Ss.ex_gi KX G ?a
      case a => k_is
    have g_RESERVE_BEYOND : Ss.GI mg "RESERVE_BEYOND" (-2) := by
      refine' Ss.ex_gi KX G ?a
      case a => k_is
    have g_WHO_BEYOND : Ss.GI mg "WHO_BEYOND" (-1) := by
      refine' Ss.ex_gi KX G ?a
      case a => k_is
    have g_NO_BID : Ss.GI mg "NO_BID" (-2) := by
      refine' Ss.ex_gi KX G ?a
      case a => k_is
    have g_TOO_MANY_OFFERS : Ss.GI mg "TOO_MANY_OFFERS" (-3) := by
      refine' Ss.ex_gi KX G ?a
      case a => k_is
    have g_OFFER_BEYOND : Ss.GI mg "OFFER_BEYOND" (-4) := by
      refine' Ss.ex_gi KX G ?a
      case a => k_is
    have g_OFFER_RISES : Ss.GI mg "OFFER_RISES" (-5) := by
      refine' Ss.ex_gi KX G ?a
      case a => k_is
    have g_SPLIT_BEYOND : Ss.GI mg "SPLIT_BEYOND" (-3) := by
      refine' Ss.ex_gi KX G ?a
      case a => k_is
    have g_TRUTH_BEYOND : Ss.GI mg "TRUTH_BEYOND" (-3) := by
      refine' Ss.ex_gi KX G ?a
      case a => k_is
    have g_IFBID_TRUTH_BEYOND : Ss.GI mg "IFBID_TRUTH_BEYOND" (-6) := by
      refine' Ss.ex_gi KX G ?a
      case a => k_is
    have g_NO_SLICES : Ss.GI mg "NO_SLICES" (-7) := by
      refine' Ss.ex_gi KX G ?a
      case a => k_is
    have g_SLICES : Ss.GI mg "SLICES" (0) := by
      refine' Ss.ex_gi KX G ?a
      case a => k_is
    have b_dict : mg "dict" = none := by
      refine' Ss.ex_no KX G ?a
      case a => k_is
    have b_range : mg "range" = none := by
      refine' Ss.ex_no KX G ?a
      case a => k_is
    have b_sorted : mg "sorted" = none := by
      refine' Ss.ex_no KX G ?a
      case a => k_is
    have b_len : mg "len" = none := by
      refine' Ss.ex_no KX G ?a
      case a => k_is
    have b_sum : mg "sum" = none := by
      refine' Ss.ex_no KX G ?a
      case a => k_is
    have b_list : mg "list" = none := by
      refine' Ss.ex_no KX G ?a
      case a => k_is
    have b_reversed : mg "reversed" = none := by
      refine' Ss.ex_no KX G ?a
      case a => k_is
    have b_any : mg "any" = none := by
      refine' Ss.ex_no KX G ?a
      case a => k_is
    have b_all : mg "all" = none := by
      refine' Ss.ex_no KX G ?a
      case a => k_is
    have TS : Ss.TxS (L2.KOf KX) mg CSale := ⟨clSale, noSale_slices, noSale_reserve, noSale_bids, PySem.W.mg_of KX G nCSale, g_BIDDERS, g_HOUSE, b_dict, b_range, b_sorted, b_len, b_sum, b_list, b_reversed, b_all⟩
    have TR : Ss.TxR (L2.KOf KX) mg CReader := ⟨clReader, noReader_calls, noReader_at, PySem.W.mg_of KX G nCReader, b_len⟩
    have TO : Ss.TxO (L2.KOf KX) mg CHouse := ⟨clHouse, noHouse_sale, PySem.W.mg_of KX G nCHouse⟩
    have TH : Ss.TxH mg := ⟨g_MOST_SLICES, g_MOST_AMOUNT, g_BIDDERS, g_NO_REFUSAL, g_SLICES_BEYOND, g_RESERVE_BEYOND, g_WHO_BEYOND, g_NO_BID, g_TOO_MANY_OFFERS, g_OFFER_BEYOND, g_OFFER_RISES, g_SPLIT_BEYOND, g_TRUTH_BEYOND, g_IFBID_TRUTH_BEYOND, g_NO_SLICES, g_SLICES, b_len, b_any, b_all, b_range, b_sorted⟩
    have efa : fa = f_answers := Value.ref.inj (Option.some.inj (hmg.symm.trans D_answers.mg))
    subst efa
    refine ⟨fd_answers, B_answers, fun base _ _ => ?_⟩
    have gAll := Ss.ok_all (P := PySem.Challenge.rw_slicesale_s01_answers.prog) (w := w) (base := base) D_all_offers TS D_bidders D_row_of
    have gOrd := Ss.ok_ord D_in_order TS D_all_offers D_greater_first gAll
    have gMet := Ss.ok_met D_met_offers TS D_in_order gOrd
    have gLeft := Ss.ok_left D_left_offers TS D_in_order gOrd
    have gGS := Ss.ok_gs D_greatest_sum TS D_met_offers D_amounts_of gMet
    have gGot := Ss.ok_got D_got_by TS D_met_offers D_own_of gMet
    have gSplit := Ss.ok_split D_split_of TS D_met_offers D_own_of D_bidders gMet
    have gWout := Ss.ok_without (P := PySem.Challenge.rw_slicesale_s01_answers.prog) (w := w) (base := base) D_without_bid TS mkSale FSale bSale
    have gWith := Ss.ok_with (P := PySem.Challenge.rw_slicesale_s01_answers.prog) (w := w) (base := base) D_with_bid TS mkSale FSale bSale
    have gPay := Ss.ok_pay D_payment_of TS D_met_offers D_others_of D_greatest_sum D_without_bid D_amounts_of gMet gGS gWout
    have gPrices := Ss.ok_prices D_prices_of TS D_met_offers D_got_by D_without_bid D_amounts_of gMet gGot gWout
    have gIncome := Ss.ok_income D_income_of TS D_payment_of gPay
    have gTold := Ss.ok_told D_told_of TS D_met_offers D_own_of D_amounts_of gMet
    have gLeast := Ss.ok_least D_least_met D_met_offers D_amounts_of gMet
    have gShw := Ss.ok_shw (P := PySem.Challenge.rw_slicesale_s01_answers.prog) (w := w) (base := base) D_shows_split TS D_bidders D_row_of D_proves
    have gWan := Ss.ok_wan D_wanted_of TS D_all_offers D_others_of gAll
    have gGain := Ss.ok_gain D_gain_of TS D_got_by D_payment_of gGot gPay
    have gIsSp := Ss.ok_isSp (P := PySem.Challenge.rw_slicesale_s01_answers.prog) (w := w) (base := base) D_is_split TH
    have gIsTr := Ss.ok_isTr (P := PySem.Challenge.rw_slicesale_s01_answers.prog) (w := w) (base := base) D_is_truth TH TS D_is_amount
    have gRef := Ss.ok_ref (P := PySem.Challenge.rw_slicesale_s01_answers.prog) (w := w) (base := base) D_bid_refusal TH TS D_is_amount D_rises
    have a0 := Ss.ok_A0 (P := PySem.Challenge.rw_slicesale_s01_answers.prog) (w := w) (base := base) D_answer_slices TH TS TO D_is_amount mkSale FSale bSale
    have a1 := Ss.ok_A1 D_answer_bid TH TS TO D_bid_refusal D_with_bid gRef gWith
    have a2 := Ss.ok_A2 D_answer_unbid TH TS TO D_without_bid gWout
    have a3 := Ss.ok_A3 D_answer_split TO D_split_of gSplit
    have a4 := Ss.ok_A4 D_answer_sum_of TO D_greatest_sum gGS
    have a5 := Ss.ok_A5 D_answer_pays TH TS TO D_payment_of gPay
    have a6 := Ss.ok_A6 D_answer_prices TH TS TO D_prices_of gPrices
    have a7 := Ss.ok_A7 D_answer_income TO D_income_of gIncome
    have a8 := Ss.ok_A8 D_answer_told TH TS TO D_told_of gTold
    have a9 := Ss.ok_A9 D_answer_one TH TS TO D_amounts_of D_left_offers gLeft
    have a10 := Ss.ok_A10 D_answer_between TH TS TO D_amounts_of D_left_offers gLeft D_least_met gLeast
    have a11 := Ss.ok_A11 D_answer_shows TH TS TO D_is_split D_shows_split gIsSp gShw
    have a12 := Ss.ok_A12 D_answer_wanted TH TS TO D_wanted_of gWan
    have a13 := Ss.ok_A13 D_answer_gain TH TS TO D_is_truth D_gain_of gIsTr gGain
    have a14 := Ss.ok_A14 D_answer_ifbid TH TS TO D_bid_refusal D_with_bid D_is_truth D_gain_of gRef gWith gIsTr gGain
    have a15 := Ss.ok_A15 (P := PySem.Challenge.rw_slicesale_s01_answers.prog) (w := w) (base := base) D_answer_offers TH TS TO
    have TB : Ss.Tab PySem.Challenge.rw_slicesale_s01_answers.prog w (L2.KOf KX) mg base CSale CHouse := by
      refine ⟨ac, _, PySem.W.mg_of KX G nCalls, sqC, fun i q hi => ?_⟩
      match i, hi with
      | 0, hi => obtain rfl := Option.some.inj hi; exact ⟨_, _, _, rfl, sq0, a0.mono (by decide), D_answer_slices.F.kp, D_answer_slices.b⟩
      | 1, hi => obtain rfl := Option.some.inj hi; exact ⟨_, _, _, rfl, sq1, a1.mono (by decide), D_answer_bid.F.kp, D_answer_bid.b⟩
      | 2, hi => obtain rfl := Option.some.inj hi; exact ⟨_, _, _, rfl, sq2, a2.mono (by decide), D_answer_unbid.F.kp, D_answer_unbid.b⟩
      | 3, hi => obtain rfl := Option.some.inj hi; exact ⟨_, _, _, rfl, sq3, a3.mono (by decide), D_answer_split.F.kp, D_answer_split.b⟩
      | 4, hi => obtain rfl := Option.some.inj hi; exact ⟨_, _, _, rfl, sq4, a4.mono (by decide), D_answer_sum_of.F.kp, D_answer_sum_of.b⟩
      | 5, hi => obtain rfl := Option.some.inj hi; exact ⟨_, _, _, rfl, sq5, a5.mono (by decide), D_answer_pays.F.kp, D_answer_pays.b⟩
      | 6, hi => obtain rfl := Option.some.inj hi; exact ⟨_, _, _, rfl, sq6, a6.mono (by decide), D_answer_prices.F.kp, D_answer_prices.b⟩
      | 7, hi => obtain rfl := Option.some.inj hi; exact ⟨_, _, _, rfl, sq7, a7.mono (by decide), D_answer_income.F.kp, D_answer_income.b⟩
      | 8, hi => obtain rfl := Option.some.inj hi; exact ⟨_, _, _, rfl, sq8, a8.mono (by decide), D_answer_told.F.kp, D_answer_told.b⟩
      | 9, hi => obtain rfl := Option.some.inj hi; exact ⟨_, _, _, rfl, sq9, a9.mono (by decide), D_answer_one.F.kp, D_answer_one.b⟩
      | 10, hi => obtain rfl := Option.some.inj hi; exact ⟨_, _, _, rfl, sq10, a10.mono (by decide), D_answer_between.F.kp, D_answer_between.b⟩
      | 11, hi => obtain rfl := Option.some.inj hi; exact ⟨_, _, _, rfl, sq11, a11.mono (by decide), D_answer_shows.F.kp, D_answer_shows.b⟩
      | 12, hi => obtain rfl := Option.some.inj hi; exact ⟨_, _, _, rfl, sq12, a12.mono (by decide), D_answer_wanted.F.kp, D_answer_wanted.b⟩
      | 13, hi => obtain rfl := Option.some.inj hi; exact ⟨_, _, _, rfl, sq13, a13.mono (by decide), D_answer_gain.F.kp, D_answer_gain.b⟩
      | 14, hi => obtain rfl := Option.some.inj hi; exact ⟨_, _, _, rfl, sq14, a14.mono (by decide), D_answer_ifbid.F.kp, D_answer_ifbid.b⟩
      | 15, hi => obtain rfl := Option.some.inj hi; exact ⟨_, _, _, rfl, sq15, a15.mono (by decide), D_answer_offers.F.kp, D_answer_offers.b⟩
      | i + 16, hi => simp [Ss.shapes] at hi
    have gNext := Ss.ok_next D_answer_next TH TO TR TB MReader_number MReader_numbers MReader_row
    exact Ss.ok_main D_answers TO TR D_answer_next MReader_done mkHouse FHouse bHouse mkReader FReader bReader gNext
  case S =>
    intro K H xs a hO hwi hask hx
    cases hx with
    | cons h1 h2 =>
      cases h2
      cases h1 with
      | lst hs ha =>
        have e := L2.ints_dw a.1 _ ha
        subst e
        exact ⟨_, a.1, rfl, hs, hask, fun H' p hp => .lst (L2.SqL.of hp) (L2.dw_ints _)⟩
