import PyProof.Rows.All
import Wide.All
import OpenK.AllK
import Wide.FinOn
import Lean
import PyProof.EqAt
import PyProof.EqKinds
import PyProof.TupleCall
import PySem.Challenge.RW_formsmith_k05_commands
noncomputable section
set_option Elab.async false
set_option linter.all false
set_option maxRecDepth 100000
namespace L2
open PySem PySem.Spec PyProof.Rows
abbrev Key := Sum Int Str
def keyIs : Key → Value → Bool
  | .inl k, v => Value.isInt k v
  | .inr x, v => Value.isStrOf x v
def keyH (w : World) : Key → Int
  | .inl k => hashInt k
  | .inr x => hashStr w x
theorem keyIs_shape : ∀ {k : Key} {v : Value}, keyIs k v = true → (∃ i t, k = Sum.inl i ∧ v = Value.int i t) ∨ (∃ x t, k = Sum.inr x ∧ v = Value.str x t)
  | .inl i, v, h => by
    obtain ⟨t, e⟩ := Value.isInt_shape (k := i) (v := v) h
    exact .inl ⟨i, t, rfl, e⟩
  | .inr x, v, h => by
    obtain ⟨t, e⟩ := Value.isStrOf_shape (x := x) (v := v) h
    exact .inr ⟨x, t, rfl, e⟩
theorem keyIs_int (i : Int) (t : Tok) : keyIs (.inl i) (.int i t) = true := by simp [keyIs, Value.isInt]
theorem keyIs_str (x : Str) (t : Tok) : keyIs (.inr x) (.str x t) = true := by simp [keyIs, Value.isStrOf]
theorem key_ll (a b : Int) : decide ((Sum.inl a : Key) = Sum.inl b) = (a == b) := by
  by_cases e : a = b
  · subst e; simp
  · have h : ¬ (Sum.inl a : Key) = Sum.inl b := fun q => e (Sum.inl.inj q)
    rw [decide_eq_false h]
    exact (beq_eq_false_iff_ne.mpr e).symm
theorem key_rr (a b : Str) : decide ((Sum.inr a : Key) = Sum.inr b) = decide (a = b) := by
  by_cases e : a = b
  · subst e; simp
  · have h : ¬ (Sum.inr a : Key) = Sum.inr b := fun q => e (Sum.inr.inj q)
    rw [decide_eq_false h, decide_eq_false e]
theorem key_lr (a : Int) (b : Str) : decide ((Sum.inl a : Key) = Sum.inr b) = false := decide_eq_false (fun q => nomatch q)
theorem key_rl (a : Str) (b : Int) : decide ((Sum.inr a : Key) = Sum.inl b) = false := decide_eq_false (fun q => nomatch q)
def mixKind (prog : Program) (w : World) : PySem.KeyKind prog w Key where
  is := keyIs
  hash := keyH w
  inj := fun v a b ha hb => by
    rcases keyIs_shape ha with ⟨i, t, rfl, rfl⟩ | ⟨x, t, rfl, rfl⟩
    · rcases keyIs_shape hb with ⟨j, u, rfl, e⟩ | ⟨y, u, rfl, e⟩
      · injection e with e1 _; rw [e1]
      · exact nomatch e
    · rcases keyIs_shape hb with ⟨j, u, rfl, e⟩ | ⟨y, u, rfl, e⟩
      · exact nomatch e
      · injection e with e1 _; rw [e1]
  byValue := fun k v h => by
    rcases keyIs_shape h with ⟨i, t, rfl, rfl⟩ | ⟨x, t, rfl, rfl⟩ <;> rfl
  pyHash := fun hv h => by
    rcases keyIs_shape hv with ⟨i, t, rfl, rfl⟩ | ⟨x, t, rfl, rfl⟩
    · exact wpAny_pyHash_int h
    · exact wpAny_pyHash_str h
  eqBool := fun hu hv h => by
    rcases keyIs_shape hu with ⟨i, t, rfl, rfl⟩ | ⟨x, t, rfl, rfl⟩
    · rcases keyIs_shape hv with ⟨j, u, rfl, rfl⟩ | ⟨y, u, rfl, rfl⟩
      · rw [key_ll] at h; exact wpAny_eqBool_int h
      · rw [key_lr] at h; exact SeqAt.EqAt.int_str i t y u _ _ _ _ h
    · rcases keyIs_shape hv with ⟨j, u, rfl, rfl⟩ | ⟨y, u, rfl, rfl⟩
      · rw [key_rl] at h; exact SeqAt.EqAt.str_int x t j u _ _ _ _ h
      · rw [key_rr] at h; exact wpAny_eqBool_str h
  «strs» := fun k x t v h => by
    rcases keyIs_shape h with ⟨i, u, rfl, e⟩ | ⟨y, u, rfl, e⟩
    · exact nomatch e
    · injection e with e1 _
      subst e1
      cases v <;> rfl
theorem mixKind_int (prog : Program) (w : World) (i : Int) (t : Tok) : (mixKind prog w).is (.inl i) (.int i t) = true := keyIs_int i t
theorem mixKind_str (prog : Program) (w : World) (x : Str) (t : Tok) : (mixKind prog w).is (.inr x) (.str x t) = true := keyIs_str x t
end L2
namespace L2
open PySem PySem.Spec PyProof.Rows
inductive V where
  | non | bl (b : Bool) | int (i : Int) | str (x : Str) | byt (b : Array UInt8) | flt (b : UInt64) | ref (a : Addr) | ty (n : String)
  deriving DecidableEq
def RelV : V → Value → Prop
  | .non, u => u = Value.none
  | .bl b, u => u = Value.bool b
  | .int i, u => ∃ t, u = Value.int i t
  | .str x, u => ∃ t, u = Value.str x t
  | .byt b, u => ∃ t, u = Value.bytes b t
  | .flt b, u => ∃ t, u = Value.float b t
  | .ref a, u => u = Value.ref a
  | .ty n, u => u = Value.type n
abbrev Vals : List V → List Value → Prop := Paired RelV
theorem Vals.length {xs : List V} {us : List Value} (r : Vals xs us) : xs.length = us.length := Paired.length r
theorem Vals.get : ∀ {xs : List V} {us : List Value} {i : Nat} {x : V}, Vals xs us → xs[i]? = some x → ∃ u, us[i]? = some u ∧ RelV x u
  | _, _, _, _, .nil, e => by simp at e
  | _, _, 0, _, .cons r _, e => by simp at e; subst e; exact ⟨_, rfl, r⟩
  | _, _, i + 1, x, .cons _ t, e => by
    obtain ⟨u, h1, h2⟩ := Vals.get (i := i) (x := x) t (by simpa using e)
    exact ⟨u, by simpa using h1, h2⟩
theorem Vals.set {x : V} {u : Value} (r : RelV x u) : ∀ {xs : List V} {us : List Value} (i : Nat), Vals xs us → Vals (xs.set i x) (us.set i u)
  | _, _, _, .nil => .nil
  | _, _, 0, .cons _ t => .cons r t
  | _, _, i + 1, .cons q t => .cons q (Vals.set r i t)
theorem Vals.append : ∀ {xs ys : List V} {us ws : List Value}, Vals xs us → Vals ys ws → Vals (xs ++ ys) (us ++ ws)
  | _, _, _, _, .nil, s => s
  | _, _, _, _, .cons r t, s => .cons r (Vals.append t s)
theorem Vals.take : ∀ {xs : List V} {us : List Value} (n : Nat), Vals xs us → Vals (xs.take n) (us.take n)
  | _, _, 0, _ => .nil
  | _, _, _ + 1, .nil => .nil
  | _, _, n + 1, .cons r t => .cons r (Vals.take n t)
theorem Vals.drop : ∀ {xs : List V} {us : List Value} (n : Nat), Vals xs us → Vals (xs.drop n) (us.drop n)
  | _, _, 0, r => r
  | _, _, _ + 1, .nil => .nil
  | _, _, n + 1, .cons _ t => Vals.drop n t
def RelO : Option V → Option Value → Prop
  | some v, some u => RelV v u
  | none, none => True
  | _, _ => False
def KV {κ : Type} : List (κ × V) → List (κ × Value) → Prop := Paired fun (p : κ × V) (q : κ × Value) => p.1 = q.1 ∧ RelV p.2 q.2
def kV : Key → V
  | .inl i => .int i
  | .inr x => .str x
inductive HO where
  /-- a list -/
  | lst (xs : List V)
  /-- a tuple (never changes) -/
  | tup (xs : List V)
  /-- a dict whose keys are ints and texts; one whose keys are tuples of ints and texts (the empty one is both) -/
  | dK (kvs : List (Key × V)) | dT (kvs : List (List Key × V))
  /-- a set of ints: its members, its size -/
  | set (S : Int → Bool) (n : Nat)
  /-- an instance of the class at C, its dict at dx, its attributes -/
  | ins (C dx : Addr) (fs : List (Str × V))
  /-- the dict of the instance at x -/
  | own (x : Addr)
  /-- the dict of an exception -/
  | xd (fs : List (Str × V))
  /-- a bound method, f of x -/
  | met (f x : Addr)
  /-- a range object lo, lo + 1, .. below hi -/
  | rng (lo hi : Int)
  /-- a thing that is known to the object (the script; a dict while a loop walks it): read, never written while it is so -/
  | frz (o : Obj) (u : HO)
  /-- a code object's table -/
  | tbl (ps : Array Value)
  /-- any other thing, by what is true of its one object (a def of one's own: SetO a S n := HO.ext fun h => ..) -/
  | ext (φ : Heap → Prop)
abbrev Hp := Addr → Option HO
def upd (H : Hp) (a : Addr) (o : HO) : Hp := fun b => if b = a then some o else H b
theorem upd_same {H : Hp} {a : Addr} {o : HO} : upd H a o a = some o := by unfold upd; rw [if_pos rfl]
theorem upd_ne {H : Hp} {a b : Addr} {o : HO} (h : b ≠ a) : upd H a o b = H b := by unfold upd; rw [if_neg h]
theorem ne_of_none {H : Hp} {a b : Addr} {o : HO} (h : H a = some o) (h' : H b = none) : a ≠ b := by
  intro e; subst e; rw [h] at h'; cases h'
section
variable (P : Program) (w : World)
def ObjOk (H : Hp) (h : Heap) (a : Addr) : HO → Prop
  | .lst xs => xs.length ≤ sizeLine ∧ ∃ (its : List Value) (n : Nat), Vals xs its ∧ h.get? a = some { cls := .type "list", data := .seq its.toArray n }
  | .tup xs => xs.length ≤ sizeLine ∧ ∃ its : List Value, Vals xs its ∧ IsTup h a its.toArray
  | .dK kvs => kvs.length ≤ sizeLine ∧ (a == sysModules) = false ∧ ∃ vs, KV kvs vs ∧ h.DictOf (mixKind P w) a vs
  | .dT kvs => kvs.length ≤ sizeLine ∧ (a == sysModules) = false ∧ ∃ xs : List (List Key × Addr × Value),
      Paired (fun (p : List Key × V) (q : List Key × Addr × Value) => p.1 = q.1 ∧ H q.2.1 = some (.tup (p.1.map kV)) ∧ RelV p.2 q.2.2) kvs xs ∧
      ∃ o es ep, h.get? a = some o ∧ o.ExactDict ∧ o.data = .dict es ep ∧ es.toList = xs.map (entryOfKey (tupleKind (mixKind P w))) ∧ (xs.map (·.1)).Nodup
  | .set S n => h.SetOf (intKind P w) a S n
  | .ins C dx fs => H dx = some (.own a) ∧ fs.length ≤ 1000 ∧ dx ≠ a ∧ h.get? a = some (PySem.W.instObj C dx) ∧
      ∃ mA, h.Ns1 dx mA ∧ (∀ f, RelO (fs.lookup f) (mA f)) ∧ PySem.Within mA (fs.map (·.1))
  | .own _ => ∃ o, h.get? a = some o
  | .xd fs => ∃ mA, h.Ns1 a mA ∧ ∀ f, RelO (fs.lookup f) (mA f)
  | .rng lo hi => ∃ t u v, h.get? a = some { cls := .type "range", data := .fields #[.int lo t, .int hi u, .int 1 v] }
  | .frz o u => h.get? a = some o ∧ ObjOk H h a u
  | .tbl ps => h.get? a = some { cls := .none, data := .fields ps }
  | .met f x => h.get? a = some (PySem.W.methodObj (.ref f) (.ref x))
  | .ext φ => φ h ∧ (∃ o, h.get? a = some o) ∧ ∀ h1 h2 : Heap, φ h1 → (∀ o, h1.get? a = some o → h2.get? a = some o) → φ h2
def HOk (H : Hp) (h : Heap) : Prop := ∀ a o, H a = some o → ObjOk P w H h a o
end
section
variable {P : Program} {w : World} {H H' : Hp} {h h' : Heap} {a : Addr} {o : HO}
theorem ObjOk.lt (x : ObjOk P w H h a o) : a < h.objs.size := by
  cases o with
  | lst xs => obtain ⟨_, _, _, _, e⟩ := x; exact Heap.lt_size e
  | tup xs => obtain ⟨_, _, _, p⟩ := x; exact p.lt
  | dK kvs => obtain ⟨_, _, _, _, o, _, _, e, _⟩ := x; exact Heap.lt_size e
  | dT kvs => obtain ⟨_, _, _, _, o, _, _, e, _⟩ := x; exact Heap.lt_size e
  | set S n => obtain ⟨o, _, _, _, e, _⟩ := x; exact Heap.lt_size e
  | ins C dx fs => obtain ⟨_, _, _, e, _⟩ := x; exact Heap.lt_size e
  | own y => obtain ⟨_, e⟩ := x; exact Heap.lt_size e
  | xd fs => obtain ⟨_, ⟨_, _, _, e, _⟩, _⟩ := x; exact Heap.lt_size e
  | rng lo hi => obtain ⟨_, _, _, e⟩ := x; exact Heap.lt_size e
  | frz ob u => obtain ⟨e, _⟩ := x; exact Heap.lt_size e
  | tbl ps => exact Heap.lt_size (show h.get? a = some _ from x)
  | met f y => exact Heap.lt_size (show h.get? a = some _ from x)
  | ext φ => obtain ⟨_, ⟨_, e⟩, _⟩ := x; exact Heap.lt_size e
theorem Paired.mapP {α β : Type} {F G : α → β → Prop} : ∀ {l₁ : List α} {l₂ : List β}, Paired F l₁ l₂ → (∀ a b, F a b → G a b) → Paired G l₁ l₂
  | _, _, .nil, _ => .nil
  | _, _, .cons r t, f => .cons (f _ _ r) (Paired.mapP t f)
theorem ObjOk.stay (x : ObjOk P w H h a o) (k : ∀ b u, (b = a ∨ H b = some (.own a)) → h.get? b = some u → h'.get? b = some u)
    (ho : ∀ b, H b = some (.own a) → H' b = some (.own a)) (ht : ∀ b xs, H b = some (.tup xs) → H' b = some (.tup xs)) : ObjOk P w H' h' a o := by
  induction o with
  | lst xs => obtain ⟨z, its, n, r, e⟩ := x; exact ⟨z, its, n, r, k _ _ (.inl rfl) e⟩
  | tup xs => obtain ⟨z, its, r, ob, e, c⟩ := x; exact ⟨z, its, r, ob, k _ _ (.inl rfl) e, c⟩
  | dK kvs => obtain ⟨z, y, vs, r, ob, es, ep, e, c⟩ := x; exact ⟨z, y, vs, r, ob, es, ep, k _ _ (.inl rfl) e, c⟩
  | dT kvs =>
    obtain ⟨z, y, xs, r, ob, es, ep, e, c⟩ := x
    exact ⟨z, y, xs, Paired.mapP r fun p q z => ⟨z.1, ht _ _ z.2.1, z.2.2⟩, ob, es, ep, k _ _ (.inl rfl) e, c⟩
  | set S n => obtain ⟨ob, es, ep, t, e, c⟩ := x; exact ⟨ob, es, ep, t, k _ _ (.inl rfl) e, c⟩
  | ins C dx fs =>
    obtain ⟨d, z, ne, e, mA, ⟨od, es, ep, e2, c⟩, r⟩ := x
    exact ⟨ho _ d, z, ne, k _ _ (.inl rfl) e, mA, ⟨od, es, ep, k _ _ (.inr d) e2, c⟩, r⟩
  | own y => obtain ⟨ob, e⟩ := x; exact ⟨ob, k _ _ (.inl rfl) e⟩
  | xd fs => obtain ⟨mA, ⟨od, es, ep, e, c⟩, r⟩ := x; exact ⟨mA, ⟨od, es, ep, k _ _ (.inl rfl) e, c⟩, r⟩
  | rng lo hi => obtain ⟨t, u, v, e⟩ := x; exact ⟨t, u, v, k _ _ (.inl rfl) e⟩
  | frz ob u ih => obtain ⟨e, q⟩ := x; exact ⟨k _ _ (.inl rfl) e, ih q⟩
  | tbl ps =>
    have e : h.get? a = some { cls := .none, data := .fields ps } := x
    show h'.get? a = some { cls := .none, data := .fields ps }
    exact k a _ (.inl rfl) e
  | met f y =>
    have e : h.get? a = some (PySem.W.methodObj (.ref f) (.ref y)) := x
    show h'.get? a = some (PySem.W.methodObj (.ref f) (.ref y))
    exact k a _ (.inl rfl) e
  | ext φ => obtain ⟨p, ⟨o, e⟩, st⟩ := x; exact ⟨st _ _ p fun o q => k _ _ (.inl rfl) q, ⟨o, k _ _ (.inl rfl) e⟩, st⟩
theorem HOk.lt (x : HOk P w H h) (e : H a = some o) : a < h.objs.size := (x a o e).lt
theorem HOk.fresh (x : HOk P w H h) (e : h.objs.size ≤ a) : H a = none := by
  cases q : H a with
  | none => rfl
  | some u => exact absurd (Nat.lt_of_lt_of_le (x.lt q) e) (Nat.lt_irrefl _)
theorem HOk.kept (x : HOk P w H h) (k : ∀ b u, h.get? b = some u → h'.get? b = some u) : HOk P w H h' := fun a o e =>
  (x a o e).stay (fun b u _ q => k b u q) (fun _ q => q) fun _ _ q => q
theorem HOk.laid (x : HOk P w H h) (k : ∀ b u, h.get? b = some u → h'.get? b = some u) (hp : h.objs.size ≤ a) (new : ObjOk P w (upd H a o) h' a o) : HOk P w (upd H a o) h' := fun b u e => by
  have hn := x.fresh hp
  by_cases hb : b = a
  · subst hb; rw [upd_same] at e; cases e; exact new
  · rw [upd_ne hb] at e
    exact (x b u e).stay (fun c v _ q => k c v q) (fun c q => by rw [upd_ne (ne_of_none q hn)]; exact q) fun c xs q => by rw [upd_ne (ne_of_none q hn)]; exact q
end
def Rd (H : Hp) (a : Addr) (u : HO) : Prop := H a = some u ∨ ∃ o, H a = some (.frz o u)
theorem Rd.of {H : Hp} {a : Addr} {u : HO} (h : H a = some u) : Rd H a u := .inl h
theorem Rd.ok {P : Program} {w : World} {H : Hp} {h : Heap} {a : Addr} {u : HO} (r : Rd H a u) (x : HOk P w H h) : ObjOk P w H h a u := by
  rcases r with r | ⟨o, r⟩
  · exact x a u r
  · obtain ⟨_, q⟩ := x a _ r
    exact q
def Mut : Option HO → Prop
  | some (.lst _) => True
  | some (.dK _) => True
  | some (.dT _) => True
  | some (.set _ _) => True
  | some (.ins _ _ _) => True
  | some (.ext _) => True
  | _ => False
section
variable {P : Program} {w : World} {H : Hp} {h h' : Heap} {x e : Addr} {o' : HO}
theorem HOk.write (ok : HOk P w H h) (mu : Mut (H x)) (he : e = x ∨ H e = some (.own x)) (k : ∀ b u, b ≠ e → h.get? b = some u → h'.get? b = some u) (heo : ∃ u, h'.get? e = some u)
    (new : ObjOk P w (upd H x o') h' x o') : HOk P w (upd H x o') h' := fun b u q => by
  have nown : ∀ c y, H c = some (.own y) → c ≠ x := fun c y r z => by subst z; rw [r] at mu; exact mu
  have ntup : ∀ c xs, H c = some (.tup xs) → c ≠ x := fun c xs r z => by subst z; rw [r] at mu; exact mu
  by_cases hb : b = x
  · subst hb; rw [upd_same] at q; cases q; exact new
  · rw [upd_ne hb] at q
    by_cases hbe : b = e
    · have q' : H b = some (.own x) := by
        rcases he with z | z
        · exact absurd (hbe.trans z) hb
        · rw [hbe]; exact z
      rw [q] at q'; cases q'
      obtain ⟨v, hv⟩ := heo
      exact ⟨v, by rw [hbe]; exact hv⟩
    · refine (ok b u q).stay (fun c v hc r => k c v ?_ r) (fun c r => by rw [upd_ne (nown c b r)]; exact r) fun c xs r => by rw [upd_ne (ntup c xs r)]; exact r
      rcases hc with rfl | hc
      · exact hbe
      · rintro rfl
        rcases he with z | z
        · exact nown c b hc z
        · rw [hc] at z; cases z; exact hb rfl
end
structure Un (fs ex : List Addr) (H H' : Hp) (h h' : Heap) : Prop where
  keep : ∀ b o, h.get? b = some o → H b = none → b ∉ fs → b ∉ ex → h'.get? b = some o
  slot : ∀ b o, h.get? b = some o → H b = none → b ∈ fs → b ∉ ex → ∃ sl, h'.get? b = some { o with slots := sl }
  free : ∀ b o, h.get? b = some o → H b = none → b ∉ ex → H' b = none
  there : ∀ b o, h.get? b = some o → b ∉ ex → ∃ o', h'.get? b = some o'
  tups : ∀ b xs, H b = some (.tup xs) → H' b = some (.tup xs)
  frzs : ∀ b o u, H b = some (.frz o u) → H' b = some (.frz o u)
  tbls : ∀ b ps, H b = some (.tbl ps) → ∃ more, H' b = some (.tbl (ps ++ more))
section
variable {fs fs' ex ex' : List Addr} {H H1 H2 : Hp} {h h1 h2 h' : Heap} {a x e : Addr} {o : HO}
theorem Un.any (u : Un fs ex H H1 h h1) {b : Addr} {ob : Obj} (q : h.get? b = some ob) (n : H b = none) (hx : b ∉ ex) : ∃ sl, h1.get? b = some { ob with slots := sl } := by
  by_cases hb : b ∈ fs
  · exact u.slot b ob q n hb hx
  · exact ⟨ob.slots, u.keep b ob q n hb hx⟩
theorem Un.trans (a : Un fs ex H H1 h h1) (b : Un fs ex H1 H2 h1 h2) : Un fs ex H H2 h h2 where
  keep := fun c ob q n hc hx => b.keep c ob (a.keep c ob q n hc hx) (a.free c ob q n hx) hc hx
  slot := fun c ob q n hc hx => by
    obtain ⟨sl, e1⟩ := a.slot c ob q n hc hx
    obtain ⟨sl', e2⟩ := b.slot c _ e1 (a.free c ob q n hx) hc hx
    exact ⟨sl', e2⟩
  free := fun c ob q n hx => by
    obtain ⟨o', e1⟩ := a.there c ob q hx
    exact b.free c o' e1 (a.free c ob q n hx) hx
  there := fun c ob q hx => by
    obtain ⟨o', e1⟩ := a.there c ob q hx
    exact b.there c o' e1 hx
  tups := fun c xs q => b.tups c xs (a.tups c xs q)
  frzs := fun c ob xs q => b.frzs c ob xs (a.frzs c ob xs q)
  tbls := fun c ps q => by
    obtain ⟨m1, e1⟩ := a.tbls c ps q
    obtain ⟨m2, e2⟩ := b.tbls c _ e1
    exact ⟨m1 ++ m2, by rw [e2, Array.append_assoc]⟩
theorem Un.kept (k : ∀ b u, h.get? b = some u → h'.get? b = some u) : Un fs ex H H h h' :=
  ⟨fun b ob q _ _ _ => k b ob q, fun b ob q _ _ _ => ⟨ob.slots, k b ob q⟩, fun _ _ _ n _ => n, fun b ob q _ => ⟨ob, k b ob q⟩, fun _ _ q => q, fun _ _ _ q => q, fun _ ps q => ⟨#[], by rw [q]; simp⟩⟩
theorem Un.refl : Un fs ex H H h h := Un.kept fun _ _ q => q
theorem Un.laid (k : ∀ b u, h.get? b = some u → h'.get? b = some u) (hp : h.objs.size ≤ a) (hn : H a = none) : Un fs ex H (upd H a o) h h' where
  keep := fun b u q _ _ _ => k b u q
  slot := fun b u q _ _ _ => ⟨u.slots, k b u q⟩
  free := fun b u q n _ => by rw [upd_ne (Nat.ne_of_lt (Nat.lt_of_lt_of_le (Heap.lt_size q) hp))]; exact n
  there := fun b u q _ => ⟨u, k b u q⟩
  tups := fun b xs q => by rw [upd_ne (ne_of_none q hn)]; exact q
  frzs := fun b u xs q => by rw [upd_ne (ne_of_none q hn)]; exact q
  tbls := fun b ps q => ⟨#[], by rw [upd_ne (ne_of_none q hn), q]; simp⟩
theorem Un.write (mu : Mut (H x)) (he : e = x ∨ H e = some (.own x)) (k : ∀ b u, b ≠ e → h.get? b = some u → h'.get? b = some u) (heo : ∃ u, h'.get? e = some u) : Un fs ex H (upd H x o) h h' := by
  have hx : ∀ b, H b = none → b ≠ x := fun b n z => by subst z; rw [n] at mu; exact mu
  have hb : ∀ b, H b = none → b ≠ e := fun b n z => by
    subst z
    rcases he with r | r
    · exact hx b n r
    · rw [n] at r; cases r
  have hm : ∀ b u, H b = some u → ¬ Mut (some u) → b ≠ x := fun b u q nm z => by subst z; rw [q] at mu; exact nm mu
  refine ⟨fun b u q n _ _ => k b u (hb b n) q, fun b u q n _ _ => ⟨u.slots, k b u (hb b n) q⟩, fun b u q n _ => by rw [upd_ne (hx b n)]; exact n, fun b u q _ => ?_,
    fun b xs q => by rw [upd_ne (hm b _ q fun z => z)]; exact q, fun b u xs q => by rw [upd_ne (hm b _ q fun z => z)]; exact q, fun b ps q => ⟨#[], by rw [upd_ne (hm b _ q fun z => z), q]; simp⟩⟩
  by_cases hbe : b = e
  · subst hbe; exact heo
  · exact ⟨u, k b u hbe q⟩
theorem Un.mono (u : Un fs ex H H1 h h1) (hs : ∀ b ∈ fs, b ∈ fs') (hx : ∀ b ∈ ex, b ∈ ex') : Un fs' ex' H H1 h h1 :=
  ⟨fun b ob q n hb he => u.keep b ob q n (fun z => hb (hs b z)) fun z => he (hx b z), fun _ _ q n _ he => u.any q n fun z => he (hx _ z), fun b ob q n he => u.free b ob q n fun z => he (hx b z), fun b ob q he => u.there b ob q fun z => he (hx b z), u.tups, u.frzs, u.tbls⟩
end
def trk (h : Heap) (H : Hp) : List Addr := (List.range h.objs.size).filter fun a => (H a).isSome
def hidT (h : Heap) (H : Hp) : Heap := PySem.W.hideAll h (trk h H)
theorem hidT_size (h : Heap) (H : Hp) : (hidT h H).objs.size = h.objs.size := PySem.W.hideAll_size _ _
theorem hidT_get {h : Heap} {H : Hp} {b : Addr} {o : Obj} (e : h.get? b = some o) (n : H b = none) : (hidT h H).get? b = some o :=
  PySem.W.hideAll_get _ e fun hm => by
    have q : (H b).isSome = true := (List.mem_filter.mp hm).2
    rw [n] at q; simp at q
theorem of_hidT {h : Heap} {H : Hp} {b : Addr} {o : Obj} (e : (hidT h H).get? b = some o) : h.get? b = some o ∧ H b = none := by
  have e' : h.get? b = some o := PySem.W.of_hideAll (trk h H) e
  refine ⟨e', ?_⟩
  cases q : H b with
  | none => rfl
  | some x =>
    have hm : b ∈ trk h H := List.mem_filter.mpr ⟨List.mem_range.mpr (Heap.lt_size e'), by simp [q]⟩
    have z : (hidT h H).get? b = none := PySem.W.hideAll_none (trk h H) hm
    rw [z] at e; cases e
def allNews (g h : Heap) (L : Addr) : List (Addr × Obj) := (List.range h.objs.size).filterMap fun a => if a = L ∨ (g.get? a).isSome = true then none else (h.get? a).map fun o => (a, o)
def rest (g h : Heap) (L d : Addr) : List (Addr × Obj) := (allNews g h L).filter fun p => decide (p.1 ≠ d)
end L2
namespace L2
open PySem PySem.Spec PyProof.Rows
structure Mod (K : PySem.W.Frag) (mg : Str → Option Value) (base : Heap) : Prop where
  kin : K.In base
  glob : base.Ns mainGlobals mg
  blt : ∃ mb, base.Ns builtinsNs mb ∧ ∀ x : Str, x ≠ "__name__" → mb x = bootBuiltins x
  nolimit : base.NoLimit
structure Cx where
  prog : Program
  w : World
  K : PySem.W.Frag
  mg : Str → Option Value
  base : Heap
  A : Around
  N : List Str
  s₀ : Shared
  H₀ : Hp
  env : Env
  outer : List Env
  stack : List Env
  ex : List Addr
  fn : Str → Bool
  calm : Bool
  pn : List (Addr × Obj)
  xe : Value → Shared → Prop
def frs (l : List Env) : List Addr := l.filterMap (·.frame)
abbrev Cx.fs (X : Cx) : List Addr := frs X.outer
def Vis (sc : Scope) (x : Str) : Prop := sc.names.lookup x = some .local ∨ sc.names.lookup x = some .cell ∨ sc.names.lookup x = some .free
def Loc (sc : Scope) (x : Str) : Prop := sc.names.lookup x = some .local ∨ sc.names.lookup x = some .cell
def Look (env : Env) (h : Heap) (m : Str → Option Value) (x : Str) (u : Value) : Prop :=
  (env.kindOf x = some .local ∧ m x = some u) ∨ ((env.kindOf x = some .cell ∨ env.kindOf x = some .free) ∧ ∃ c, env.cells.lookup x = some c ∧ h.IsCell c (some u))
structure Cx.Ok (X : Cx) : Prop where
  mod : Mod X.K X.mg X.base
  kind : X.env.scope.kind = .function
  glob : X.env.globals = mainGlobals
  blt : X.env.builtins = builtinsNs
  above : X.s₀.heap.objs.size ≤ X.env.locals
  inj : ∀ x y c, X.env.cells.lookup x = some c → X.env.cells.lookup y = some c → x = y
  has : ∀ x, (X.env.kindOf x = some .cell ∨ X.env.kindOf x = some .free) → ∃ c, X.env.cells.lookup x = some c
  cab : ∀ x c, X.fn x = true → X.env.cells.lookup x = some c → X.s₀.heap.objs.size ≤ c
  hd : X.calm = true → X.A.handled = none
  frames : X.A.frames = some X.stack
  stk : X.stack = X.outer ∨ (X.stack = X.env :: X.outer ∧ X.env.frame = some X.env.locals)
  exf : ∀ b ∈ X.ex, b ≠ X.env.locals ∧ ∀ x c, X.env.cells.lookup x = some c → c ≠ b
  bs : ∀ b o, X.base.get? b = some o → X.s₀.heap.get? b = some o ∧ X.H₀ b = none
  bsz : X.base.objs.size ≤ X.s₀.heap.objs.size
  noex : ∀ b o, X.base.get? b = some o → b ∉ X.ex
  exfs : ∀ b ∈ X.ex, b ∉ X.fs
  funs : X.s₀.heap.FunFrames X.base X.outer
  frf : ∀ b ∈ X.fs, X.H₀ b = none
structure Inv (X : Cx) (pins : List (Addr × Obj)) (σ : List (Option V)) (H : Hp) (s : Shared) : Prop where
  ok : X.Ok
  os : s.os = X.s₀.os
  bare : AllBare s.gens
  base : Un X.fs X.ex X.H₀ H X.s₀.heap s.heap
  loc : ∃ m, s.heap.Ns X.env.locals m ∧ ∀ (i : Nat) (x : Str) (v : V), X.N[i]? = some x → σ[i]? = some (some v) → Vis X.env.scope x → ∃ u, RelV v u ∧ Look X.env s.heap m x u
  cell : ∀ x c, X.env.cells.lookup x = some c → ∃ v, s.heap.IsCell c v
  free : H X.env.locals = none
  freeC : ∀ x c, X.env.cells.lookup x = some c → H c = none
  pin : ∀ p ∈ X.pn ++ pins, s.heap.get? p.1 = some p.2 ∧ H p.1 = none ∧ p.1 ≠ X.env.locals ∧ p.1 ∉ X.fs ∧ ∀ v, p.2.data ≠ .cell v
  hok : HOk X.prog X.w H s.heap
  len : σ.length = X.N.length
section
variable {X : Cx} {pins : List (Addr × Obj)} {σ : List (Option V)} {H H' : Hp} {s : Shared} {h' : Heap}
theorem Cx.Ok.nofr (ok : X.Ok) {b : Addr} {o : Obj} (e : X.base.get? b = some o) : b ∉ X.fs := fun hb => by
  have := (ok.funs.mem hb).1
  rw [e] at this; cases this
theorem Inv.bs (I : Inv X pins σ H s) : ∀ b o, X.base.get? b = some o → s.heap.get? b = some o ∧ H b = none := fun b o e =>
  ⟨I.base.keep b o (I.ok.bs b o e).1 (I.ok.bs b o e).2 (I.ok.nofr e) (I.ok.noex b o e), I.base.free b o (I.ok.bs b o e).1 (I.ok.bs b o e).2 (I.ok.noex b o e)⟩
theorem Inv.bk (I : Inv X pins σ H s) : ∀ b o, X.base.get? b = some o → s.heap.get? b = some o := fun b o e => (I.bs b o e).1
theorem Inv.mod (I : Inv X pins σ H s) : Mod X.K X.mg X.base := I.ok.mod
theorem Inv.kIn (I : Inv X pins σ H s) : X.K.In s.heap := I.ok.mod.kin.keeps I.bk
theorem Inv.nolimit (I : Inv X pins σ H s) : s.heap.NoLimit := I.ok.mod.nolimit.keeps I.bk
theorem Inv.fr (I : Inv X pins σ H s) : ∃ m, Fr X.base X.env.locals s.heap m :=
  let ⟨m, hn, _⟩ := I.loc
  ⟨m, hn, I.bk, Nat.le_trans I.ok.bsz I.ok.above⟩
theorem Inv.lt (I : Inv X pins σ H s) : X.env.locals < s.heap.objs.size := let ⟨_, hn, _⟩ := I.loc; hn.lt
theorem Inv.sz (I : Inv X pins σ H s) : X.s₀.heap.objs.size ≤ s.heap.objs.size := Nat.le_trans I.ok.above (Nat.le_of_lt I.lt)
theorem Inv.nofs (I : Inv X pins σ H s) {a : Addr} (h : s.heap.objs.size ≤ a) : a ∉ X.fs := fun hb => by
  obtain ⟨_, o, ho, _⟩ := I.ok.funs.mem hb
  exact absurd (Nat.lt_of_lt_of_le (Heap.lt_size ho) (Nat.le_trans I.sz h)) (Nat.lt_irrefl _)
theorem Inv.cne (I : Inv X pins σ H s) : ∀ x c, X.env.cells.lookup x = some c → c ≠ X.env.locals := fun x c e z => by
  obtain ⟨v, o, ho, hd⟩ := I.cell x c e
  obtain ⟨m, ⟨o', es, ep, ho', hd', _⟩, _⟩ := I.loc
  rw [z, ho'] at ho; cases ho; rw [hd'] at hd; cases hd
theorem Inv.funs (I : Inv X pins σ H s) : s.heap.FunFrames X.base X.outer := by
  have all : ∀ (l : List Env), (∀ b ∈ frs l, b ∈ X.fs) → X.s₀.heap.FunFrames X.base l → s.heap.FunFrames X.base l := by
    intro l
    induction l with
    | nil => intro _ _; trivial
    | cons env r ih =>
      intro hs hl
      obtain ⟨hk, ⟨L, o, hf, hn, ho, hd⟩, hr⟩ := hl
      have hL : L ∈ X.fs := hs L (by unfold frs; rw [List.filterMap_cons, hf]; exact List.mem_cons_self)
      obtain ⟨sl, e⟩ := I.base.slot L o ho (I.ok.frf L hL) hL fun z => I.ok.exfs L z hL
      exact ⟨hk, ⟨L, _, hf, hn, e, hd⟩, ih (fun b hb => hs b (by unfold frs; rw [List.filterMap_cons, hf]; exact List.mem_cons_of_mem _ hb)) hr⟩
  exact all X.outer (fun _ hb => hb) I.ok.funs
theorem Inv.stack (I : Inv X pins σ H s) : s.heap.FunFrames X.base X.stack := by
  rcases I.ok.stk with e | ⟨e, hf⟩
  · rw [e]; exact I.funs
  · rw [e]
    obtain ⟨m, hn, _⟩ := I.loc
    refine .cons (by rw [I.ok.kind]; decide) hf hn ?_ I.funs
    exact Heap.get?_none_of_le (Nat.le_trans I.ok.bsz I.ok.above)
theorem Inv.stkSub (I : Inv X pins σ H s) : ∀ b ∈ frs X.stack, b ∈ X.env.locals :: X.fs := fun b hb => by
  rcases I.ok.stk with e | ⟨e, hf⟩
  · rw [e] at hb; exact List.mem_cons_of_mem _ hb
  · rw [e] at hb
    unfold frs at hb
    rw [List.filterMap_cons, hf] at hb
    exact hb
theorem Inv.stkFree (I : Inv X pins σ H s) : ∀ b ∈ frs X.stack, H b = none := fun b hb => by
  rcases List.mem_cons.mp (I.stkSub b hb) with e | hb
  · rw [e]; exact I.free
  · obtain ⟨_, o, ho, _⟩ := I.ok.funs.mem hb
    exact I.base.free b o ho (I.ok.frf b hb) fun z => I.ok.exfs b z hb
theorem Inv.step {g' : Array GenState} {t' : Nat} {d' : Drawn} {ch : List Addr} (I : Inv X pins σ H s)
    (hch : ∀ b ∈ ch, (b ∈ X.ex ∨ X.s₀.heap.objs.size ≤ b) ∧ b ≠ X.env.locals ∧ (∀ x c, X.env.cells.lookup x = some c → c ≠ b) ∧ ∀ p ∈ X.pn ++ pins, p.1 ≠ b)
    (keep : ∀ b o, b ≠ X.env.locals → b ∉ X.fs → b ∉ ch → s.heap.get? b = some o → H b = none → h'.get? b = some o)
    (slot : ∀ b o, b ≠ X.env.locals → b ∈ X.fs → b ∉ ch → s.heap.get? b = some o → H b = none → ∃ sl, h'.get? b = some { o with slots := sl }) (free : ∀ b o, b ∉ ch → s.heap.get? b = some o → H b = none → H' b = none)
    (there : ∀ b o, b ∉ ch → s.heap.get? b = some o → ∃ o', h'.get? b = some o')
    (tups : ∀ b xs, H b = some (.tup xs) → H' b = some (.tup xs)) (frzs : ∀ b o u, H b = some (.frz o u) → H' b = some (.frz o u)) (tbls : ∀ b ps, H b = some (.tbl ps) → ∃ more, H' b = some (.tbl (ps ++ more)))
    (ns : ∀ m, s.heap.Ns X.env.locals m → h'.Ns X.env.locals m) (hok : HOk X.prog X.w H' h') (hg : AllBare g') :
    Inv X pins σ H' { s with heap := h', gens := g', drawn := d', toks := t' } := by
  have neL : ∀ b o, X.s₀.heap.get? b = some o → b ≠ X.env.locals := fun b o e => Nat.ne_of_lt (Nat.lt_of_lt_of_le (Heap.lt_size e) I.ok.above)
  have neC : ∀ b o, X.s₀.heap.get? b = some o → b ∉ X.ex → b ∉ ch := fun b o e hx hb => by
    rcases (hch b hb).1 with z | z
    · exact hx z
    · exact absurd (Nat.lt_of_lt_of_le (Heap.lt_size e) z) (Nat.lt_irrefl _)
  have cellK : ∀ x c, X.env.cells.lookup x = some c → ∀ v, s.heap.IsCell c v → h'.IsCell c v := fun x c e v ⟨o, ho, hd⟩ => by
    have nch : c ∉ ch := fun z => (hch c z).2.2.1 x c e rfl
    by_cases hc : c ∈ X.fs
    · obtain ⟨sl, q⟩ := slot c o (I.cne x c e) hc nch ho (I.freeC x c e)
      exact ⟨_, q, hd⟩
    · exact ⟨o, keep c o (I.cne x c e) hc nch ho (I.freeC x c e), hd⟩
  refine ⟨I.ok, I.os, hg, ⟨fun b o e n hb hx => ?_, fun b o e n hb hx => ?_, fun b o e n hx => ?_, fun b o e hx => ?_, fun b xs e => tups b xs (I.base.tups b xs e), fun b o xs e => frzs b o xs (I.base.frzs b o xs e), fun b ps e => ?_⟩, ?_, fun x c e => ?_, ?_, fun x c e => ?_, fun p hp => ?_, hok, I.len⟩
  · exact keep b o (neL b o e) hb (neC b o e hx) (I.base.keep b o e n hb hx) (I.base.free b o e n hx)
  · obtain ⟨sl, e1⟩ := I.base.slot b o e n hb hx
    obtain ⟨sl', e2⟩ := slot b _ (neL b o e) hb (neC b o e hx) e1 (I.base.free b o e n hx)
    exact ⟨sl', e2⟩
  · obtain ⟨o', e1⟩ := I.base.there b o e hx
    exact free b o' (neC b o e hx) e1 (I.base.free b o e n hx)
  · obtain ⟨o', e1⟩ := I.base.there b o e hx
    exact there b o' (neC b o e hx) e1
  · obtain ⟨m1, e1⟩ := I.base.tbls b ps e
    obtain ⟨m2, e2⟩ := tbls b _ e1
    exact ⟨m1 ++ m2, by rw [e2, Array.append_assoc]⟩
  · obtain ⟨m, hn, hl⟩ := I.loc
    refine ⟨m, ns m hn, fun i x v e1 e2 e3 => ?_⟩
    obtain ⟨u, r, l⟩ := hl i x v e1 e2 e3
    refine ⟨u, r, ?_⟩
    rcases l with l | ⟨k, c, e, z⟩
    · exact .inl l
    · exact .inr ⟨k, c, e, cellK x c e _ z⟩
  · obtain ⟨v, z⟩ := I.cell x c e
    exact ⟨v, cellK x c e v z⟩
  · obtain ⟨m, ⟨o, _, _, ho, _⟩, _⟩ := I.loc
    exact free _ o (fun z => (hch _ z).2.1 rfl) ho I.free
  · obtain ⟨v, o, ho, hd⟩ := I.cell x c e
    exact free c o (fun z => (hch c z).2.2.1 x c e rfl) ho (I.freeC x c e)
  · obtain ⟨e, n, ne, nf, d⟩ := I.pin p hp
    have nch : p.1 ∉ ch := fun z => (hch p.1 z).2.2.2 p hp rfl
    exact ⟨keep p.1 p.2 ne nf nch e n, free p.1 p.2 nch e n, ne, nf, d⟩
theorem Inv.un {t' : Nat} (I : Inv X pins σ H s) (u : Un X.fs [] H H' s.heap h') (hok : HOk X.prog X.w H' h') : Inv X pins σ H' { s with heap := h', toks := t' } := by
  obtain ⟨m, ⟨o, es, ep, ho, r⟩, _⟩ := id I.loc
  obtain ⟨sl, hL⟩ := u.any ho I.free (by simp)
  exact I.step (g' := s.gens) (d' := s.drawn) (ch := []) (fun _ z => nomatch z) (fun b o _ hb _ e n => u.keep b o e n hb (by simp)) (fun b o _ hb _ e n => u.slot b o e n hb (by simp)) (fun b o _ e n => u.free b o e n (by simp)) (fun b o _ e => u.there b o e (by simp)) u.tups u.frzs u.tbls (fun m' hm => by
    obtain ⟨o', es', ep', ho', r'⟩ := hm
    rw [ho] at ho'; cases ho'
    exact ⟨_, es', ep', hL, r'⟩) hok I.bare
theorem Inv.call {g' : Array GenState} {t' : Nat} {d' : Drawn} {ch : List Addr} (I : Inv X pins σ H s) (u : Un (frs X.stack) ch H H' s.heap h') (hok : HOk X.prog X.w H' h') (hg : AllBare g')
    (hch : ∀ b ∈ ch, (b ∈ X.ex ∨ X.s₀.heap.objs.size ≤ b) ∧ b ≠ X.env.locals ∧ (∀ x c, X.env.cells.lookup x = some c → c ≠ b) ∧ ∀ p ∈ X.pn ++ pins, p.1 ≠ b) :
    Inv X pins σ H' { s with heap := h', gens := g', drawn := d', toks := t' } := by
  obtain ⟨m, ⟨o, es, ep, ho, r⟩, _⟩ := id I.loc
  obtain ⟨sl, hL⟩ := u.any ho I.free fun z => (hch _ z).2.1 rfl
  exact I.step (ch := ch) hch (fun b o hL hb hc e n => u.keep b o e n (fun z => (List.mem_cons.mp (I.stkSub b z)).elim hL hb) hc) (fun b o _ _ hc e n => u.any e n hc) (fun b o hc e n => u.free b o e n hc) (fun b o hc e => u.there b o e hc) u.tups u.frzs u.tbls (fun m' hm => by
    obtain ⟨o', es', ep', ho', r'⟩ := hm
    rw [ho] at ho'; cases ho'
    exact ⟨_, es', ep', hL, r'⟩) hok hg
theorem Inv.turned {t' : Nat} {it : Addr} (I : Inv X pins σ H s) (k : ∀ b o, b ≠ it → s.heap.get? b = some o → h'.get? b = some o) (hn : H it = none) (hL : it ≠ X.env.locals)
    (h1 : it ∈ X.ex ∨ X.s₀.heap.objs.size ≤ it) (h2 : ∀ x c, X.env.cells.lookup x = some c → c ≠ it) (h3 : ∀ p ∈ X.pn ++ pins, p.1 ≠ it) : Inv X pins σ H { s with heap := h', toks := t' } := by
  have nit : ∀ b u, H b = some u → b ≠ it := fun b u e z => by rw [z, hn] at e; cases e
  refine I.step (g' := s.gens) (d' := s.drawn) (ch := [it]) (fun b hb => ?_) (fun b o _ _ hc e _ => k b o (fun z => hc (by simp [z])) e) (fun b o _ _ hc e _ => ⟨o.slots, k b o (fun z => hc (by simp [z])) e⟩) (fun _ _ _ _ n => n)
    (fun b o hc e => ⟨o, k b o (fun z => hc (by simp [z])) e⟩) (fun _ _ e => e) (fun _ _ _ e => e) (fun b ps e => ⟨#[], by rw [e]; simp⟩) (fun m hm => ?_) (fun b u e => ?_) I.bare
  · have e : b = it := by simpa using hb
    subst e
    exact ⟨h1, hL, h2, h3⟩
  · obtain ⟨o, es, ep, ho, r⟩ := hm
    exact ⟨o, es, ep, k _ o (Ne.symm hL) ho, r⟩
  · refine (I.hok b u e).stay (fun c v hc q => k c v ?_ q) (fun _ q => q) fun _ _ q => q
    rcases hc with z | z
    · rw [z]; exact nit b u e
    · exact nit c _ z
theorem Inv.tok (I : Inv X pins σ H s) (t : Nat) : Inv X pins σ H { s with toks := t } := I.un (h' := s.heap) (t' := t) Un.refl I.hok
theorem Inv.kept {t' : Nat} (I : Inv X pins σ H s) (k : ∀ b u, s.heap.get? b = some u → h'.get? b = some u) : Inv X pins σ H { s with heap := h', toks := t' } := I.un (Un.kept k) (I.hok.kept k)
theorem Inv.laid {a : Addr} {o : HO} {t' : Nat} (I : Inv X pins σ H s) (k : ∀ b u, s.heap.get? b = some u → h'.get? b = some u) (hp : s.heap.objs.size ≤ a) (new : ObjOk X.prog X.w (upd H a o) h' a o) :
    Inv X pins σ (upd H a o) { s with heap := h', toks := t' } := I.un (Un.laid k hp (I.hok.fresh hp)) (I.hok.laid k hp new)
theorem Inv.write {x e : Addr} {o : HO} {t' : Nat} (I : Inv X pins σ H s) (mu : Mut (H x)) (he : e = x ∨ H e = some (.own x)) (k : ∀ b u, b ≠ e → s.heap.get? b = some u → h'.get? b = some u) (heo : ∃ u, h'.get? e = some u)
    (new : ObjOk X.prog X.w (upd H x o) h' x o) : Inv X pins σ (upd H x o) { s with heap := h', toks := t' } := I.un (Un.write mu he k heo) (I.hok.write mu he k heo new)
theorem Inv.weak {σ' : List (Option V)} (I : Inv X pins σ H s) (hl : σ'.length = σ.length) (w : ∀ (i : Nat) v, σ'[i]? = some (some v) → σ[i]? = some (some v)) : Inv X pins σ' H s :=
  ⟨I.ok, I.os, I.bare, I.base, let ⟨m, hn, hl'⟩ := I.loc; ⟨m, hn, fun i x v e1 e2 e3 => hl' i x v e1 (w i v e2) e3⟩, I.cell, I.free, I.freeC, I.pin, I.hok, hl.trans I.len⟩
theorem Inv.pins_of {pins' : List (Addr × Obj)} (I : Inv X pins σ H s) (h : ∀ p ∈ pins', s.heap.get? p.1 = some p.2 ∧ H p.1 = none ∧ p.1 ≠ X.env.locals ∧ p.1 ∉ X.fs ∧ ∀ v, p.2.data ≠ .cell v) : Inv X pins' σ H s :=
  ⟨I.ok, I.os, I.bare, I.base, I.loc, I.cell, I.free, I.freeC, fun p hp => (List.mem_append.mp hp).elim (fun z => I.pin p (List.mem_append_left _ z)) (h p), I.hok, I.len⟩
theorem nodup_ix {N : List Str} (hN : N.Nodup) {i j : Nat} {x : Str} (a : N[i]? = some x) (b : N[j]? = some x) : i = j := by
  obtain ⟨h1, e1⟩ := List.getElem?_eq_some_iff.mp a
  obtain ⟨h2, e2⟩ := List.getElem?_eq_some_iff.mp b
  exact (List.getElem_inj hN).mp (e1.trans e2.symm)
theorem store_ok2 {M : Model} {A : Around} {E : Value → Shared → Prop} {i : Nat} {x : Str} {v : V} {u : Value} {Q : Unit → Shared → Prop} (I : Inv X pins σ H s) (hN : X.N.Nodup) (hi : X.N[i]? = some x) (hx : Loc X.env.scope x) (r : RelV v u)
    (h : ∀ s', Inv X pins (σ.set i (some v)) H s' → (∃ a, Heap.SameBut a s.heap s'.heap ∧ (a = X.env.locals ∨ X.env.cells.lookup x = some a)) → Q () s') (hf : X.fn x = true ∨ X.env.scope.names.lookup x = some .local := by first | exact .inl rfl | exact .inr rfl | assumption) : wpAny M A (storeName X.env x u) Q E s := by
  obtain ⟨m, hn, hl⟩ := id I.loc
  have hcls : (X.env.scope.kind == .class || (X.env.scope.kind == .module && X.env.locals != X.env.globals)) = false := by rw [I.ok.kind]; rfl
  have hiσ : i < σ.length := by rw [I.len]; exact (List.getElem?_eq_some_iff.mp hi).1
  have cne := I.cne
  have tracked : ∀ {a : Addr} {h' : Heap}, (∃ o, s.heap.get? a = some o ∧ H a = none) → Heap.SameBut a s.heap h' → HOk X.prog X.w H h' := fun {a h'} ha hs b ob e => by
    obtain ⟨_, _, hfree⟩ := ha
    refine (I.hok b ob e).stay (fun c w' hc q => (hs.2 c ?_).trans q) (fun _ q => q) fun _ _ q => q
    rintro rfl
    rcases hc with rfl | hc
    · rw [hfree] at e; cases e
    · rw [hfree] at hc; cases hc
  rcases hx with hk | hk
  · refine wpAny_storeName_local hk hn (fun h' hn' hs => ?_) hcls
    obtain ⟨oL, _, _, hoL, _⟩ := id hn
    refine h _ ⟨I.ok, I.os, I.bare, ⟨fun b o e n hb hx => ?_, fun b o e n hb hx => ?_, I.base.free, fun b o e hx => ?_, I.base.tups, I.base.frzs, I.base.tbls⟩, ⟨_, hn', fun j y v' e1 e2 e3 => ?_⟩, fun y c e => ?_, I.free, I.freeC, fun p hp => ?_, tracked ⟨oL, hoL, I.free⟩ hs, by simpa using I.len⟩ ⟨_, hs, .inl rfl⟩
    · exact (hs.2 b (Nat.ne_of_lt (Nat.lt_of_lt_of_le (Heap.lt_size e) I.ok.above))).trans (I.base.keep b o e n hb hx)
    · obtain ⟨sl, e1⟩ := I.base.slot b o e n hb hx
      exact ⟨sl, (hs.2 b (Nat.ne_of_lt (Nat.lt_of_lt_of_le (Heap.lt_size e) I.ok.above))).trans e1⟩
    · obtain ⟨o', e1⟩ := I.base.there b o e hx
      exact ⟨o', (hs.2 b (Nat.ne_of_lt (Nat.lt_of_lt_of_le (Heap.lt_size e) I.ok.above))).trans e1⟩
    · by_cases hj : j = i
      · subst hj
        rw [hi] at e1; cases e1
        rw [List.getElem?_set_self hiσ] at e2
        cases e2
        exact ⟨u, r, .inl ⟨hk, by simp⟩⟩
      · rw [List.getElem?_set_ne (Ne.symm hj)] at e2
        obtain ⟨u', r', q⟩ := hl j y v' e1 e2 e3
        refine ⟨u', r', ?_⟩
        rcases q with ⟨k, e⟩ | ⟨k, c, e, z⟩
        · refine .inl ⟨k, ?_⟩
          have : y ≠ x := fun e => hj (nodup_ix hN e1 (e ▸ hi))
          simp [this, e]
        · exact .inr ⟨k, c, e, z.sameBut hs (cne y c e)⟩
    · obtain ⟨w', z⟩ := I.cell y c e
      exact ⟨w', z.sameBut hs (cne y c e)⟩
    · obtain ⟨e, n, ne, nf, d⟩ := I.pin p hp
      exact ⟨(hs.2 p.1 ne).trans e, n, ne, nf, d⟩
  · have hfn : X.fn x = true := by
      rcases hf with z | z
      · exact z
      · rw [z] at hk; cases hk
    obtain ⟨c, hc⟩ := I.ok.has x (.inl hk)
    obtain ⟨w', z⟩ := I.cell x c hc
    refine wpAny_storeName_cell I.ok.kind hk hc z (fun h' hc' hs => ?_)
    obtain ⟨oc, hoc, hocd⟩ := id z
    refine h { s with heap := h' } ⟨I.ok, I.os, I.bare, ⟨fun b o e n hb hx => ?_, fun b o e n hb hx => ?_, I.base.free, fun b o e hx => ?_, I.base.tups, I.base.frzs, I.base.tbls⟩, ⟨m, hn.sameBut hs (Ne.symm (cne x c hc)), fun j y v' e1 e2 e3 => ?_⟩, fun y c' e => ?_, I.free, I.freeC, fun p hp => ?_, tracked ⟨oc, hoc, I.freeC x c hc⟩ hs, by simpa using I.len⟩ ⟨c, hs, .inr hc⟩
    · exact (hs.2 b (Nat.ne_of_lt (Nat.lt_of_lt_of_le (Heap.lt_size e) (I.ok.cab x c hfn hc)))).trans (I.base.keep b o e n hb hx)
    · obtain ⟨sl, e1⟩ := I.base.slot b o e n hb hx
      exact ⟨sl, (hs.2 b (Nat.ne_of_lt (Nat.lt_of_lt_of_le (Heap.lt_size e) (I.ok.cab x c hfn hc)))).trans e1⟩
    · obtain ⟨o', e1⟩ := I.base.there b o e hx
      exact ⟨o', (hs.2 b (Nat.ne_of_lt (Nat.lt_of_lt_of_le (Heap.lt_size e) (I.ok.cab x c hfn hc)))).trans e1⟩
    · by_cases hj : j = i
      · subst hj
        rw [hi] at e1; cases e1
        rw [List.getElem?_set_self hiσ] at e2
        cases e2
        exact ⟨u, r, .inr ⟨.inl hk, c, hc, hc'⟩⟩
      · rw [List.getElem?_set_ne (Ne.symm hj)] at e2
        obtain ⟨u', r', q⟩ := hl j y v' e1 e2 e3
        refine ⟨u', r', ?_⟩
        rcases q with q | ⟨k, c', e, z'⟩
        · exact .inl q
        · refine .inr ⟨k, c', e, z'.sameBut hs ?_⟩
          rintro rfl
          exact hj (nodup_ix hN e1 (I.ok.inj _ _ _ e hc ▸ hi))
    · by_cases hcc : c' = c
      · subst hcc; exact ⟨_, hc'⟩
      · obtain ⟨w2, z2⟩ := I.cell y c' e
        exact ⟨w2, z2.sameBut hs hcc⟩
    · obtain ⟨e, n, ne, nf, d⟩ := I.pin p hp
      refine ⟨(hs.2 p.1 ?_).trans e, n, ne, nf, d⟩
      intro q
      rw [q, hoc] at e
      have q' : oc = p.2 := Option.some.inj e
      exact d w' (by rw [← q']; exact hocd)
theorem store_ok {M : Model} {A : Around} {E : Value → Shared → Prop} {i : Nat} {x : Str} {v : V} {u : Value} {Q : Unit → Shared → Prop} (I : Inv X pins σ H s) (hN : X.N.Nodup) (hi : X.N[i]? = some x) (hx : Loc X.env.scope x) (r : RelV v u)
    (h : ∀ s', Inv X pins (σ.set i (some v)) H s' → Q () s') (hf : X.fn x = true ∨ X.env.scope.names.lookup x = some .local := by first | exact .inl rfl | exact .inr rfl | assumption) : wpAny M A (storeName X.env x u) Q E s :=
  store_ok2 I hN hi hx r (fun s' I' _ => h s' I') hf
theorem Inv.call' {s' : Shared} {ch : List Addr} (I : Inv X pins σ H s) (ho : s'.os = s.os) (u : Un (frs X.stack) ch H H' s.heap s'.heap) (hok : HOk X.prog X.w H' s'.heap) (hg : AllBare s'.gens)
    (hch : ∀ b ∈ ch, (b ∈ X.ex ∨ X.s₀.heap.objs.size ≤ b) ∧ b ≠ X.env.locals ∧ (∀ x c, X.env.cells.lookup x = some c → c ≠ b) ∧ ∀ p ∈ X.pn ++ pins, p.1 ≠ b) : Inv X pins σ H' s' := by
  obtain ⟨h', g', d', t', o'⟩ := s'
  have e : o' = s.os := ho
  subst e
  exact I.call (g' := g') (t' := t') (d' := d') u hok hg hch
end
abbrev XK := Value → Option Addr → Hp → Prop
abbrev St := List (Option V)
abbrev VK := V → Hp → Prop
abbrev TE := St → Hp → VK → Prop
abbrev TT := St → Hp → (Bool → Hp → Prop) → Prop
abbrev TA := St → Hp → (List V → Hp → Prop) → Prop
structure Ends where
  nx : St → Hp → Prop
  rt : VK
  bk : St → Hp → Prop := fun _ _ => False
  ct : St → Hp → Prop := fun _ _ => False
abbrev TS := Ends → St → Hp → Prop
def EP (X : Cx) (pins : List (Addr × Obj)) (σ : St) (Q : VK) (u : Value) (s' : Shared) : Prop := ∃ v H', Inv X pins σ H' s' ∧ RelV v u ∧ Q v H'
def TP (X : Cx) (pins : List (Addr × Obj)) (σ : St) (Q : Bool → Hp → Prop) (b : Bool) (s' : Shared) : Prop := ∃ H', Inv X pins σ H' s' ∧ Q b H'
def AP (X : Cx) (pins : List (Addr × Obj)) (σ : St) (Q : List V → Hp → Prop) (us : List Value) (s' : Shared) : Prop := ∃ vs H', Inv X pins σ H' s' ∧ Vals vs us ∧ Q vs H'
def SP (X : Cx) (pins : List (Addr × Obj)) (D : Ends) (f : Flow) (s' : Shared) : Prop :=
  match f with
  | .next => ∃ σ' H', Inv X pins σ' H' s' ∧ D.nx σ' H'
  | .brk => ∃ σ' H', Inv X pins σ' H' s' ∧ D.bk σ' H'
  | .cont => ∃ σ' H', Inv X pins σ' H' s' ∧ D.ct σ' H'
  | .ret u => ∃ v σ' H', Inv X pins σ' H' s' ∧ RelV v u ∧ D.rt v H'
def PE (X : Cx) (e : Expr) (t : TE) : Prop :=
  ∀ (pins : List (Addr × Obj)) (s : Shared) (σ : St) (H : Hp) (Q : VK), Inv X pins σ H s → t σ H Q → wpAny (model X.prog X.w) X.A (eval e X.env) (EP X pins σ Q) X.xe s
def PT (X : Cx) (e : Expr) (t : TT) : Prop :=
  ∀ (pins : List (Addr × Obj)) (s : Shared) (σ : St) (H : Hp) (Q : Bool → Hp → Prop), Inv X pins σ H s → t σ H Q → wpAny (model X.prog X.w) X.A (isTrue e X.env (eval e X.env)) (TP X pins σ Q) X.xe s
def PW (X : Cx) (e : Expr) (t : TT) : Prop :=
  ∀ (whole : Sem Value) (pins : List (Addr × Obj)) (s : Shared) (σ : St) (H : Hp) (Q : Bool → Hp → Prop), Inv X pins σ H s → t σ H Q → wpAny (model X.prog X.w) X.A (isTrue e X.env whole) (TP X pins σ Q) X.xe s
theorem PW.pt {X : Cx} {e : Expr} {t : TT} (h : PW X e t) : PT X e t := h _
def PA (X : Cx) (es : List Expr) (t : TA) : Prop :=
  ∀ (pos : Pos) (pins : List (Addr × Obj)) (s : Shared) (σ : St) (H : Hp) (Q : List V → Hp → Prop), Inv X pins σ H s → t σ H Q → wpAny (model X.prog X.w) X.A (spliced (backTo pos (starEach es X.env))) (AP X pins σ Q) X.xe s
def PS (X : Cx) (st : Stmt) (t : TS) : Prop :=
  ∀ (pins : List (Addr × Obj)) (s : Shared) (σ : St) (H : Hp) (D : Ends), Inv X pins σ H s → t D σ H → wpAny (model X.prog X.w) X.A (exec st X.env) (SP X pins D) X.xe s
def PSs (X : Cx) (st : List Stmt) (t : TS) : Prop :=
  ∀ (pins : List (Addr × Obj)) (s : Shared) (σ : St) (H : Hp) (D : Ends), Inv X pins σ H s → t D σ H → wpAny (model X.prog X.w) X.A (execs st X.env) (SP X pins D) X.xe s
theorem thn {α : Type} {t : Sem α} {Q Q' : α → Shared → Prop} {M : Model} {A : Around} {E : Value → Shared → Prop} {s : Shared} (h : wpAny M A t Q E s) (hQ : ∀ a s, Q a s → Q' a s) : wpAny M A t Q' E s := wpAny_mono h hQ fun _ _ x => x
end L2
namespace L2
open PySem PySem.Spec PyProof.Rows
section
variable {X : Cx}
def tVar (i : Nat) : TE := fun σ H Q => ∃ v, σ[i]? = some (some v) ∧ Q v H
def tC (v : V) : TE := fun _ H Q => Q v H
theorem pe_var {i : Nat} {x : Str} {pos : Pos} (hN : X.N[i]? = some x) (hv : Vis X.env.scope x) (hd : (x == ("__debug__" : Str)) = false := by decide) (hcd : (x == ("__classdict__" : Str)) = false := by decide) : PE X (.Name x pos) (tVar i) := by
  intro pins s σ H Q I h
  obtain ⟨v, e, h⟩ := h
  obtain ⟨m, hn, hl⟩ := I.loc
  obtain ⟨u, r, l⟩ := hl i x v hN e hv
  have fin : EP X pins σ Q u s := ⟨v, H, I, r, h⟩
  rcases l with ⟨hk, hm⟩ | ⟨hk, c, hc, hcell⟩
  · exact wpAny_Name (wpAny_loadName_local I.ok.kind hk hn hm fin) hd
  · rcases hk with hk | hk
    · exact wpAny_Name (wpAny_loadName_cell I.ok.kind hk hc hcell fin) hd
    · exact wpAny_Name (wpAny_loadName_free I.ok.kind hk hc hcell fin hcd) hd
theorem pe_int {i j pos} : PE X (.Constant (.int i) j pos) (tC (.int i)) := fun _ _ _ H _ I h => wpAny_Constant_int ⟨.int i, H, I.tok _, ⟨_, rfl⟩, h⟩
theorem pe_bl {b j pos} : PE X (.Constant (.bool b) j pos) (tC (.bl b)) := fun _ _ _ H _ I h => Constant_bool ⟨.bl b, H, I, rfl, h⟩
theorem pe_non {j pos} : PE X (.Constant .none j pos) (tC .non) := fun _ _ _ H _ I h => Constant_none ⟨.non, H, I, rfl, h⟩
theorem pe_str {x j pos} : PE X (.Constant (.str x) j pos) (tC (.str x)) := fun _ _ _ H _ I h => Calls.Constant_str ⟨.str x, H, I.tok _, ⟨_, rfl⟩, h⟩
def Gl (X : Cx) (x : Str) : Prop := X.env.kindOf x = some .globalImplicit
theorem ld_glob {E : Value → Shared → Prop} {pins : List (Addr × Obj)} {s : Shared} {σ : St} {H : Hp} {x : Str} {u : Value} {pos : Pos} {Q : Value → Shared → Prop} (I : Inv X pins σ H s) (hg : Gl X x) (hm : X.mg x = some u) (h : Q u s)
    (hd : (x == ("__debug__" : Str)) = false := by decide) : wpAny (model X.prog X.w) X.A (eval (.Name x pos) X.env) Q E s :=
  Calls.Name_function_global I.ok.kind hg (Calls.loadGlobal_global (by rw [I.ok.glob]; exact I.mod.glob.keeps I.bk) hm h) hd
theorem ld_blt {E : Value → Shared → Prop} {pins : List (Addr × Obj)} {s : Shared} {σ : St} {H : Hp} {x : Str} {u : Value} {pos : Pos} {Q : Value → Shared → Prop} (I : Inv X pins σ H s) (hg : Gl X x) (hm : X.mg x = none) (hv : bootBuiltins x = some u) (h : Q u s)
    (hn : x ≠ "__name__" := by decide) (hd : (x == ("__debug__" : Str)) = false := by decide) : wpAny (model X.prog X.w) X.A (eval (.Name x pos) X.env) Q E s := by
  obtain ⟨mb, h1, h2⟩ := I.mod.blt
  exact Calls.Name_function_global I.ok.kind hg (Calls.loadGlobal_builtin (by rw [I.ok.glob]; exact I.mod.glob.keeps I.bk) hm (by rw [I.ok.blt]; exact h1.keeps I.bk) ((h2 x hn).trans hv) h) hd
theorem pe_glob {x : Str} {v : V} {u : Value} {pos : Pos} (hg : Gl X x) (hm : X.mg x = some u) (r : RelV v u) (hd : (x == ("__debug__" : Str)) = false := by decide) : PE X (.Name x pos) (tC v) :=
  fun _ _ _ H _ I h => ld_glob I hg hm ⟨v, H, I, r, h⟩ hd
theorem pe_bltn {x : Str} {v : V} {u : Value} {pos : Pos} (hg : Gl X x) (hm : X.mg x = none) (hv : bootBuiltins x = some u) (r : RelV v u) (hn : x ≠ "__name__" := by decide) (hd : (x == ("__debug__" : Str)) = false := by decide) : PE X (.Name x pos) (tC v) :=
  fun _ _ _ H _ I h => ld_blt I hg hm hv ⟨v, H, I, r, h⟩ hn hd
variable {a b : Expr} {ta tb : TE} {pos : Pos}
variable {tA tB' : TT} {rest : List Expr}
def tAnd (t u : TT) : TT := fun σ H Q => t σ H fun c H1 => if c = true then u σ H1 Q else Q false H1
def tOr (t u : TT) : TT := fun σ H Q => t σ H fun c H1 => if c = true then Q true H1 else u σ H1 Q
def tNot (t : TT) : TT := fun σ H Q => t σ H fun c H1 => Q (!c) H1
theorem pw_and1 (ha : PT X a tA) : PW X (.BoolOp .And [a] pos) tA := by
  intro wh pins s σ H Q I h
  refine isTrue_and (thn (ha pins s σ H Q I h) fun c s1 e => ?_)
  cases c with
  | true => exact isTrue_and_nil e
  | false => exact e
theorem pw_or1 (ha : PT X a tA) : PW X (.BoolOp .Or [a] pos) tA := by
  intro wh pins s σ H Q I h
  refine isTrue_or (thn (ha pins s σ H Q I h) fun c s1 e => ?_)
  cases c with
  | false => exact isTrue_or_nil e
  | true => exact e
theorem pw_and (ha : PT X a tA) (hb : PW X (.BoolOp .And (b :: rest) pos) tB') : PW X (.BoolOp .And (a :: b :: rest) pos) (tAnd tA tB') := by
  intro wh pins s σ H Q I h
  refine isTrue_and (thn (ha pins s σ H _ I h) fun c s1 ⟨H1, I1, q1⟩ => ?_)
  cases c with
  | true => exact hb wh pins s1 σ H1 Q I1 q1
  | false => exact ⟨H1, I1, q1⟩
theorem pw_or (ha : PT X a tA) (hb : PW X (.BoolOp .Or (b :: rest) pos) tB') : PW X (.BoolOp .Or (a :: b :: rest) pos) (tOr tA tB') := by
  intro wh pins s σ H Q I h
  refine isTrue_or (thn (ha pins s σ H _ I h) fun c s1 ⟨H1, I1, q1⟩ => ?_)
  cases c with
  | true => exact ⟨H1, I1, q1⟩
  | false => exact hb wh pins s1 σ H1 Q I1 q1
theorem pt_not (ha : PT X a tA) : PT X (.UnaryOp .Not a pos) (tNot tA) := by
  intro pins s σ H Q I h
  exact isTrue_not (ha pins s σ H (fun c H1 => Q (!c) H1) I h)
def tAndV (ta tb : TE) : TE := fun σ H Q => ta σ H fun x H1 => ∃ c, x = .bl c ∧ if c = true then tb σ H1 Q else Q (.bl false) H1
theorem pe_one {op} {t : TE} (h : PE X a t) : PE X (.BoolOp op [a] pos) t := fun pins s σ H Q I hw => BoolOp_one (h pins s σ H Q I hw)
theorem pe_and (ha : PE X a ta) (hb : PE X (.BoolOp .And (b :: rest) pos) tb) : PE X (.BoolOp .And (a :: b :: rest) pos) (tAndV ta tb) := by
  intro pins s σ H Q I h
  refine BoolOp_and (thn (ha pins s σ H _ I h) fun v s1 ⟨x, H1, I1, r1, q1⟩ => ?_)
  obtain ⟨c, rfl, q1⟩ := q1
  cases r1
  refine wpAny_truthy_bool ?_
  cases c with
  | true => exact hb pins s1 σ H1 Q I1 q1
  | false => exact ⟨.bl false, H1, I1, rfl, q1⟩
def tIf (t : TT) (ta tb : TE) : TE := fun σ H Q => t σ H fun c H1 => if c = true then ta σ H1 Q else tb σ H1 Q
theorem pe_ifExp {c : Expr} (hc : PT X c tA) (ha : PE X a ta) (hb : PE X b tb) : PE X (.IfExp c a b pos) (tIf tA ta tb) := by
  intro pins s σ H Q I h
  refine wpAny_IfExp (thn (hc pins s σ H _ I h) fun d s1 ⟨H1, I1, q1⟩ => ?_)
  cases d with
  | true => exact ha pins s1 σ H1 Q I1 q1
  | false => exact hb pins s1 σ H1 Q I1 q1
end
end L2
namespace L2
open PySem PySem.Spec PyProof.Rows
def SqL (K : PySem.W.Frag) (H : Hp) (a : Addr) (xs : List V) : Prop :=
  Rd H a (.lst xs) ∨
    ∃ (o : Obj) (its : Array Value) (n : Nat), K.lookup a = some o ∧ o.cls = .type "list" ∧ o.dict = none ∧ o.data = .seq its n ∧ its.size ≤ sizeLine ∧ Vals xs its.toList
def SqT (K : PySem.W.Frag) (H : Hp) (a : Addr) (xs : List V) : Prop :=
  Rd H a (.tup xs) ∨
    ∃ (o : Obj) (its : Array Value) (n : Nat), K.lookup a = some o ∧ o.cls = .type "tuple" ∧ o.data = .seq its n ∧ its.size ≤ sizeLine ∧ Vals xs its.toList
def absV : Value → Option V
  | .none => some .non
  | .bool b => some (.bl b)
  | .int i _ => some (.int i)
  | .str x _ => some (.str x)
  | .bytes b _ => some (.byt b)
  | .float b _ => some (.flt b)
  | .ref a => some (.ref a)
  | .type n => some (.ty n)
  | _ => none
theorem RelV.abs {x : V} {u : Value} (r : RelV x u) : absV u = some x := by
  cases x with
  | non => cases r; rfl
  | bl _ => cases r; rfl
  | int _ => obtain ⟨t, rfl⟩ := r; rfl
  | str _ => obtain ⟨t, rfl⟩ := r; rfl
  | byt _ => obtain ⟨t, rfl⟩ := r; rfl
  | flt _ => obtain ⟨t, rfl⟩ := r; rfl
  | ref _ => cases r; rfl
  | ty _ => cases r; rfl
theorem RelV.inj {x y : V} {u : Value} (r : RelV x u) (q : RelV y u) : x = y := Option.some.inj (r.abs.symm.trans q.abs)
theorem Vals.inj : ∀ {xs ys : List V} {us : List Value}, Vals xs us → Vals ys us → xs = ys
  | _, _, _, .nil, .nil => rfl
  | _, _, _, .cons r t, .cons r' t' => by rw [r.inj r', Vals.inj t t']
section
variable {X : Cx} {pins : List (Addr × Obj)} {σ : St} {H : Hp} {s : Shared} {a : Addr} {xs ys : List V}
theorem SqL.of {K : PySem.W.Frag} (h : H a = some (.lst xs)) : SqL K H a xs := .inl (.inl h)
theorem SqT.of {K : PySem.W.Frag} (h : H a = some (.tup xs)) : SqT K H a xs := .inl (.inl h)
theorem Inv.list (I : Inv X pins σ H s) (h : SqL X.K H a xs) : ∃ its : List Value, Vals xs its ∧ PlainL s.heap a its.toArray ∧ xs.length ≤ sizeLine := by
  rcases h with h | ⟨o, its, n, hk, hc, hd, hs, hz, r⟩
  · obtain ⟨z, its, n, r, e⟩ := h.ok I.hok
    exact ⟨its, r, ⟨_, n, e, rfl, rfl, rfl⟩, z⟩
  · refine ⟨its.toList, r, ⟨o, n, I.kIn a o hk, hc, hd, by simpa using hs⟩, ?_⟩
    have e := r.length
    simp only [Array.length_toList] at e
    omega
theorem Inv.tuple (I : Inv X pins σ H s) (h : SqT X.K H a xs) : ∃ its : List Value, Vals xs its ∧ IsTup s.heap a its.toArray ∧ xs.length ≤ sizeLine := by
  rcases h with h | ⟨o, its, n, hk, hc, hs, hz, r⟩
  · obtain ⟨z, its, r, p⟩ := h.ok I.hok
    exact ⟨its, r, p, z⟩
  · refine ⟨its.toList, r, ⟨o, I.kIn a o hk, hc, n, by simpa using hs⟩, ?_⟩
    have e := r.length
    simp only [Array.length_toList] at e
    omega
theorem Inv.list_inj (I : Inv X pins σ H s) (h : SqL X.K H a xs) (h' : SqL X.K H a ys) : xs = ys := by
  obtain ⟨its, r, ⟨o, n, e, _, _, d⟩, _⟩ := I.list h
  obtain ⟨its', r', ⟨o', n', e', _, _, d'⟩, _⟩ := I.list h'
  rw [e] at e'; cases e'
  rw [d] at d'
  injection d' with d1 _
  have : its = its' := by simpa using congrArg Array.toList d1
  subst this
  exact r.inj r'
theorem Inv.tuple_inj (I : Inv X pins σ H s) (h : SqT X.K H a xs) (h' : SqT X.K H a ys) : xs = ys := by
  obtain ⟨its, r, ⟨o, e, _, n, d⟩, _⟩ := I.tuple h
  obtain ⟨its', r', ⟨o', e', _, n', d'⟩, _⟩ := I.tuple h'
  rw [e] at e'; cases e'
  rw [d] at d'
  injection d' with d1 _
  have : its = its' := by simpa using congrArg Array.toList d1
  subst this
  exact r.inj r'
end
abbrev Cx.wish (X : Cx) (E : Value → Shared → Prop) : Cx := { X with xe := E }
abbrev Cx.nox (X : Cx) : Cx := X.wish fun _ _ => False
theorem Cx.Ok.wish {X : Cx} (ok : X.Ok) (E : Value → Shared → Prop) : (X.wish E).Ok :=
  ⟨ok.mod, ok.kind, ok.glob, ok.blt, ok.above, ok.inj, ok.has, ok.cab, ok.hd, ok.frames, ok.stk, ok.exf, ok.bs, ok.bsz, ok.noex, ok.exfs, ok.funs, ok.frf⟩
theorem Cx.Ok.unwish {X : Cx} {E : Value → Shared → Prop} (ok : (X.wish E).Ok) : X.Ok :=
  ⟨ok.mod, ok.kind, ok.glob, ok.blt, ok.above, ok.inj, ok.has, ok.cab, ok.hd, ok.frames, ok.stk, ok.exf, ok.bs, ok.bsz, ok.noex, ok.exfs, ok.funs, ok.frf⟩
section
variable {X : Cx} {pins : List (Addr × Obj)} {σ : St} {H : Hp} {s : Shared} {E : Value → Shared → Prop}
theorem Inv.wish (I : Inv X pins σ H s) (E : Value → Shared → Prop) : Inv (X.wish E) pins σ H s := ⟨I.ok.wish E, I.os, I.bare, I.base, I.loc, I.cell, I.free, I.freeC, I.pin, I.hok, I.len⟩
theorem Inv.unwish (I : Inv (X.wish E) pins σ H s) : Inv X pins σ H s := ⟨I.ok.unwish, I.os, I.bare, I.base, I.loc, I.cell, I.free, I.freeC, I.pin, I.hok, I.len⟩
theorem SP.unwish {D : Ends} {f : Flow} {s' : Shared} (h : SP (X.wish E) pins D f s') : SP X pins D f s' := by
  cases f with
  | next => obtain ⟨σ', H', I, q⟩ := h; exact ⟨σ', H', I.unwish, q⟩
  | brk => obtain ⟨σ', H', I, q⟩ := h; exact ⟨σ', H', I.unwish, q⟩
  | cont => obtain ⟨σ', H', I, q⟩ := h; exact ⟨σ', H', I.unwish, q⟩
  | ret u => obtain ⟨v, σ', H', I, r, q⟩ := h; exact ⟨v, σ', H', I.unwish, r, q⟩
theorem PE.nox {e : Expr} {t : TE} (h : PE X.nox e t) : PE X e t := fun pins s σ H Q I hw =>
  wpAny_mono (h pins s σ H Q (I.wish _) hw) (fun _ _ ⟨v, H', I', r, q⟩ => ⟨v, H', I'.unwish, r, q⟩) fun _ _ z => False.elim z
theorem PT.nox {e : Expr} {t : TT} (h : PT X.nox e t) : PT X e t := fun pins s σ H Q I hw =>
  wpAny_mono (h pins s σ H Q (I.wish _) hw) (fun _ _ ⟨H', I', q⟩ => ⟨H', I'.unwish, q⟩) fun _ _ z => False.elim z
theorem PSs.nox {st : List Stmt} {t : TS} (h : PSs X.nox st t) : PSs X st t := fun pins s σ H D I hw =>
  wpAny_mono (h pins s σ H D (I.wish _) hw) (fun _ _ q => q.unwish) fun _ _ z => False.elim z
end
section
variable {X : Cx} {st : Stmt} {rest : List Stmt} {t u : TS} {e : Expr} {te : TE} {pos : Pos}
def tNext : TS := fun D σ H => D.nx σ H
def tSeq (t u : TS) : TS := fun D σ H => t { D with nx := u D } σ H
theorem pss_nil : PSs X [] tNext := fun _ _ σ H _ I h => wpAny_execs_nil ⟨σ, H, I, h⟩
theorem pss_cons (h1 : PS X st t) (h2 : PSs X rest u) : PSs X (st :: rest) (tSeq t u) := by
  intro pins s σ H D I h
  refine wpAny_execs_cons (thn (h1 pins s σ H { D with nx := u D } I h) fun f s1 q => ?_)
  cases f with
  | next =>
    obtain ⟨σ', H', I', q⟩ := q
    exact h2 pins s1 σ' H' D I' q
  | ret v => exact q
  | brk => exact q
  | cont => exact q
theorem pss_one (h1 : PS X st t) : PSs X [st] t := by
  intro pins s σ H D I h
  refine wpAny_execs_cons (thn (h1 pins s σ H D I h) fun f s1 q => ?_)
  cases f with
  | next => exact wpAny_execs_nil q
  | ret v => exact q
  | brk => exact q
  | cont => exact q
theorem Inv.quiet {pins : List (Addr × Obj)} {σ : St} {H : Hp} {s : Shared} (I : Inv X pins σ H s) : interactive X.env = false := by simp [interactive, I.ok.kind]
def tDrop (te : TE) : TS := fun D σ H => te σ H fun _ H1 => D.nx σ H1
theorem ps_expr (he : PE X e te) (hs : swapsWith e none pos.line X.env = pure false := by rfl) : PS X (.Expr e pos) (tDrop te) := by
  intro pins s σ H D I h
  exact wpAny_Expr_any (thn (he pins s σ H _ I h) fun v s1 ⟨x, H1, I1, r1, q1⟩ => ⟨σ, H1, I1, q1⟩) I.quiet hs
def tRet (te : TE) : TS := fun D σ H => te σ H D.rt
theorem ps_ret (he : PE X e te) : PS X (.Return (some e) pos) (tRet te) := by
  intro pins s σ H D I h
  exact wpAny_Return_some (thn (he pins s σ H _ I h) fun v s1 ⟨x, H1, I1, r1, q1⟩ => ⟨x, σ, H1, I1, r1, q1⟩)
def tIfS (c : TT) (t u : TS) : TS := fun D σ H => c σ H fun b H1 => if b = true then t D σ H1 else u D σ H1
theorem ps_if {c : Expr} {a b : List Stmt} {tc : TT} (hc : PT X c tc) (ha : PSs X a t) (hb : PSs X b u) : PS X (.If c a b pos) (tIfS tc t u) := by
  intro pins s σ H D I h
  refine wpAny_If (thn (hc pins s σ H _ I h) fun d s1 ⟨H1, I1, q1⟩ => ?_)
  cases d with
  | true => exact ha pins s1 σ H1 D I1 q1
  | false => exact hb pins s1 σ H1 D I1 q1
end
abbrev TG := V → St → Hp → (St → Hp → Prop) → Prop
def PG (X : Cx) (target : Expr) (t : TG) : Prop :=
  ∀ (pins : List (Addr × Obj)) (s : Shared) (σ : St) (H : Hp) (v : V) (u : Value) (Q : St → Hp → Prop), Inv X pins σ H s → RelV v u → t v σ H Q →
    wpAny (model X.prog X.w) X.A (assign target X.env u) (fun _ s' => ∃ σ' H', Inv X pins σ' H' s' ∧ Q σ' H') X.xe s
abbrev TSet := V → V → V → Hp → (Hp → Prop) → Prop
def PSet (X : Cx) (t : TSet) : Prop :=
  ∀ (pins : List (Addr × Obj)) (s : Shared) (σ : St) (H : Hp) (o i v : V) (ov iv u : Value) (Q : Hp → Prop), Inv X pins σ H s → RelV o ov → RelV i iv → RelV v u → t o i v H Q →
    wpAny (model X.prog X.w) X.A (setItem ov iv u) (fun _ s' => ∃ H', Inv X pins σ H' s' ∧ Q H') X.xe s
section
variable {X : Cx} {pos : Pos}
def gName (i : Nat) : TG := fun v σ H Q => Q (σ.set i (some v)) H
theorem pg_name {i : Nat} {x : Str} (hN : X.N.Nodup) (hi : X.N[i]? = some x) (hx : Loc X.env.scope x) (hf : X.fn x = true ∨ X.env.scope.names.lookup x = some .local := by first | exact .inl rfl | exact .inr rfl | assumption) : PG X (.Name x pos) (gName i) := by
  intro pins s σ H v u Q I r h
  exact wpAny_assign_Name (store_ok I hN hi hx r (fun s' I' => ⟨_, H, I', h⟩) hf)
def gSub (to ti : TE) (t : TSet) : TG := fun v σ H Q => to σ H fun o H1 => ti σ H1 fun i H2 => t o i v H2 fun H3 => Q σ H3
theorem pg_sub {o i : Expr} {to ti : TE} {t : TSet} (ho : PE X o to) (hi : PE X i ti) (hs : PSet X t)
    (ha : ∀ v, assign (.Subscript o i pos) X.env v = (do
      let ov ← holding [v] (eval o X.env)
      let iv ← holding [v, ov] (eval i X.env)
      standAt pos
      holding [v, ov, iv] (setItem ov iv v)
      release [v, ov, iv] []) := by intro _; rfl) : PG X (.Subscript o i pos) (gSub to ti t) := by
  intro pins s σ H v u Q I r h
  rw [ha]
  refine wpAny_bind (wpAny_holding (thn (ho pins s σ H _ I h) fun ov s1 ⟨x, H1, I1, r1, q1⟩ => ?_))
  refine wpAny_bind (wpAny_holding (thn (hi pins s1 σ H1 _ I1 q1) fun iv s2 ⟨y, H2, I2, r2, q2⟩ => ?_))
  refine wpAny_bind (wpAny_standAt (wpAny_bind (wpAny_holding (thn (hs pins s2 σ H2 x y v ov iv u _ I2 r1 r2 r q2) fun _ s3 ⟨H3, I3, q3⟩ => ?_))))
  exact wpAny_release ⟨σ, H3, I3, q3⟩
def tAsg (te : TE) (g : TG) : TS := fun D σ H => te σ H fun x H1 => g x σ H1 D.nx
theorem ps_asg {tg e : Expr} {te : TE} {g : TG} (he : PE X e te) (hg : PG X tg g) (hs : swapsWithSole [tg] e pos.line X.env = pure false := by rfl) (hw : swappedStores [tg] e X.env = pure none := by rfl)
    (h1 : (assignEach [tg] X.env).map (·.2) = [assign tg X.env] := by rfl) : PS X (.Assign [tg] e pos) (tAsg te g) := by
  intro pins s σ H D I h
  refine wpAny_Assign_stores (thn (he pins s σ H _ I h) fun v s1 ⟨x, H1, I1, r1, q1⟩ => ?_) hs hw
  rw [h1]
  exact thn (hg pins s1 σ H1 x v _ I1 r1 q1) fun _ s2 q => q
theorem ps_set {i : Nat} {x : Str} {e : Expr} {te : TE} {pos' : Pos} (hN : X.N.Nodup) (hi : X.N[i]? = some x) (hx : Loc X.env.scope x) (he : PE X e te) (hs : swapsWith e (some (.Name x pos')) pos.line X.env = pure false := by rfl) (hf : X.fn x = true ∨ X.env.scope.names.lookup x = some .local := by first | exact .inl rfl | exact .inr rfl | assumption) :
    PS X (.Assign [.Name x pos'] e pos) (tAsg te (gName i)) := by
  intro pins s σ H D I h
  refine wpAny_Assign_Name (thn (he pins s σ H _ I h) fun v s1 ⟨y, H1, I1, r1, q1⟩ => ?_) hs
  exact store_ok I1 hN hi hx r1 (fun s2 I2 => ⟨_, H1, I2, q1⟩) hf
end
section
variable {X : Cx} {pos : Pos}
end
structure It where
  go : Nat → Hp → Prop
  yld : Nat → Hp → V → Hp → Prop
  stop : Nat → Hp → Prop
def FpOk (X : Cx) (pins : List (Addr × Obj)) (H : Hp) (b : Addr) : Prop :=
  H b = none ∧ b ≠ X.env.locals ∧ b ∉ X.fs ∧ (b ∈ X.ex ∨ X.s₀.heap.objs.size ≤ b) ∧ (∀ x c, X.env.cells.lookup x = some c → c ≠ b) ∧ ∀ p ∈ X.pn ++ pins, p.1 ≠ b
theorem Inv.fpOk {X : Cx} {pins : List (Addr × Obj)} {σ : St} {H H' : Hp} {s : Shared} {b : Addr} (I : Inv X pins σ H s) (hb : s.heap.objs.size ≤ b) (hn : H' b = none) : FpOk X pins H' b := by
  refine ⟨hn, Nat.ne_of_gt (Nat.lt_of_lt_of_le I.lt hb), I.nofs hb, .inr (Nat.le_trans I.sz hb), fun x c e z => ?_, fun p hp z => ?_⟩
  · obtain ⟨v, q⟩ := I.cell x c e
    exact absurd (Nat.lt_of_lt_of_le q.lt (by rw [z]; exact hb)) (Nat.lt_irrefl _)
  · exact absurd (Nat.lt_of_lt_of_le (Heap.lt_size (I.pin p hp).1) (by rw [z]; exact hb)) (Nat.lt_irrefl _)
structure Turn (P : Program) (w : World) (K : PySem.W.Frag) (tg : Expr) (J : It) (fp : List Addr) (it : Addr) (tn : Nat → Heap → Prop) : Prop where
  mem : it ∈ fp
  obj : ∀ i h, tn i h → ∀ b ∈ fp, ∃ o, h.get? b = some o ∧ ∀ v, o.data ≠ .cell v
  keep : ∀ i h h', tn i h → (∀ b ∈ fp, ∀ o, h.get? b = some o → h'.get? b = some o) → tn i h'
  item : ∀ (X : Cx), X.prog = P → X.w = w → X.K = K → X.calm = true → ∀ (i : Nat) (pins : List (Addr × Obj)) (s : Shared) (σ : St) (H : Hp) (E : Value → Shared → Prop), Inv X pins σ H s → (∀ b ∈ fp, FpOk X pins H b) → tn i s.heap → J.go i H →
    wpAny (model P w) X.A (pyNext (.ref it)) (fun r s1 => ∃ u, r = some u ∧
      wpAny (model P w) X.A (letOwnedTupleGo tg (.ref it) u) (fun _ s2 => ∃ x H', Inv X pins σ H' s2 ∧ RelV x u ∧ J.yld i H x H' ∧ tn (i + 1) s2.heap ∧ ∀ b ∈ fp, H' b = none) E s1) E s
  done : ∀ (X : Cx), X.prog = P → X.w = w → X.K = K → X.calm = true → ∀ (i : Nat) (pins : List (Addr × Obj)) (s : Shared) (σ : St) (H : Hp) (E : Value → Shared → Prop), Inv X pins σ H s → (∀ b ∈ fp, FpOk X pins H b) → tn i s.heap → J.stop i H →
    wpAny (model P w) X.A (pyNext (.ref it)) (fun r s1 => r = none ∧ Inv X pins σ H s1) E s
  self : ∀ (A : Around) (i : Nat) (s : Shared) (Q : Value → Shared → Prop) (E : Value → Shared → Prop), tn i s.heap → Q (.ref it) s → wpAny (model P w) A (pyIter (.ref it)) Q E s
abbrev TI := St → Hp → (It → Hp → Prop) → Prop
def PIE (X : Cx) (pins : List (Addr × Obj)) (σ : St) (tg : Expr) (R : It → Hp → Prop) (itv : Value) (s2 : Shared) : Prop :=
  ∃ (it : Addr) (fp : List Addr) (tn : Nat → Heap → Prop) (J : It) (H' : Hp), itv = .ref it ∧ Inv X pins σ H' s2 ∧ Turn X.prog X.w X.K tg J fp it tn ∧ tn 0 s2.heap ∧ (∀ b ∈ fp, FpOk X pins H' b) ∧ R J H'
def PI (X : Cx) (tg iter : Expr) (wi : TI) : Prop :=
  ∀ (pins : List (Addr × Obj)) (s : Shared) (σ : St) (H : Hp) (R : It → Hp → Prop), Inv X pins σ H s → wi σ H R →
    wpAny (model X.prog X.w) X.A (eval iter X.env) (fun v s1 => wpAny (model X.prog X.w) X.A (pyIter v) (PIE X pins σ tg R) X.xe s1) X.xe s
theorem go_of {M : Model} {A : Around} {E : Value → Shared → Prop} {s : Shared} {tg : Expr} {it : Addr} {u : Value} {o : Obj} {n : String} {vs : Array Value} {Q : Unit → Shared → Prop} (ho : s.heap.get? it = some o) (hc : o.cls = .type n) (hd : o.data = .fields vs)
    (hn : ["enumerate", "zip", "dict_itemiterator", "dict_reverseitemiterator", "odict_iterator", "itertools.zip_longest", "itertools.pairwise"].contains n = false) (hQ : Q () s) : wpAny M A (letOwnedTupleGo tg (.ref it) u) Q E s := by
  unfold letOwnedTupleGo
  cases tg <;> first
    | exact wpAny_pure hQ
    | (cases u <;> first
        | exact wpAny_pure hQ
        | (refine wpAny_bind (wpAny_load ho ?_)
           rw [hc, hd]
           show wpAny M A (if (["enumerate", "zip", "dict_itemiterator", "dict_reverseitemiterator", "odict_iterator", "itertools.zip_longest", "itertools.pairwise"].contains n && vs[0]? == some (rawInt _)) = true then _ else _) Q E s
           rw [if_neg (by intro h; rw [hn, Bool.false_and] at h; cases h)]
           exact wpAny_pure hQ))
def Itl (K : PySem.W.Frag) (a : Addr) : It :=
  ⟨fun i H => ∃ xs x, SqL K H a xs ∧ xs[i]? = some x, fun i H x H' => H' = H ∧ ∀ xs, SqL K H a xs → xs[i]? = some x, fun i H => ∃ xs, SqL K H a xs ∧ xs.length ≤ i⟩
def Itt (K : PySem.W.Frag) (a : Addr) : It :=
  ⟨fun i H => ∃ xs x, SqT K H a xs ∧ xs[i]? = some x, fun i H x H' => H' = H ∧ ∀ xs, SqT K H a xs → xs[i]? = some x, fun i H => ∃ xs, SqT K H a xs ∧ xs.length ≤ i⟩
def Itr (lo : Int) (n : Nat) : It := ⟨fun i _ => i < n, fun i H x H' => H' = H ∧ x = .int (lo + i), fun i _ => n ≤ i⟩
theorem turn_list {P : Program} {w : World} {K : PySem.W.Frag} {tg : Expr} (a it : Addr) : Turn P w K tg (Itl K a) [it] it (fun i h => h.IsListIter it a i) where
  mem := by simp
  obj := fun i h st b hb => by
    have e : b = it := by simpa using hb
    subst e
    obtain ⟨o, e, c, d⟩ := st
    exact ⟨o, e, fun v z => by rw [d] at z; cases z⟩
  keep := fun i h h' st k => st.at fun o e => k it (by simp) o e
  item := by
    intro X hP hw hK hc i pins s σ H E I hf st hg
    subst hP hw hK
    obtain ⟨xs, x, hq, hx⟩ := hg
    obtain ⟨its, rv, p, hz⟩ := I.list hq
    obtain ⟨u, hu, ru⟩ := rv.get hx
    obtain ⟨f0, f1, f2, f3, f4, f5⟩ := hf it (by simp)
    refine wpAny_pyNext_list_item st p.isList (x := u) (by simpa using hu) fun h' st' sb => ?_
    have I1 : Inv X pins σ H { s with heap := h' } := I.turned (t' := s.toks) (fun b o hb e => (sb.2 b hb).trans e) f0 f1 f3 f4 f5
    obtain ⟨o, e, c, d⟩ := id st'
    exact ⟨u, rfl, go_of (s := { s with heap := h' }) e c d (by decide) ⟨x, H, I1, ru, ⟨rfl, fun ys hy => by rw [I.list_inj hy hq]; exact hx⟩, st', fun b hb => (hf b hb).1⟩⟩
  done := by
    intro X hP hw hK hc i pins s σ H E I hf st hg
    subst hP hw hK
    obtain ⟨xs, hq, hx⟩ := hg
    obtain ⟨its, rv, p, hz⟩ := I.list hq
    obtain ⟨f0, f1, f2, f3, f4, f5⟩ := hf it (by simp)
    have hl := rv.length
    exact wpAny_pyNext_list_end (I.ok.hd hc) st p.isList (by simp; omega) fun h' eb => ⟨rfl, I.turned (t' := s.toks) (fun b o hb e => eb b o hb e) f0 f1 f3 f4 f5⟩
  self := fun _ _ _ _ _ st h => wpAny_pyIter_listiter st h
theorem turn_tuple {P : Program} {w : World} {K : PySem.W.Frag} {tg : Expr} (a it : Addr) : Turn P w K tg (Itt K a) [it] it (fun i h => h.IsTupleIter it a i) where
  mem := by simp
  obj := fun i h st b hb => by
    have e : b = it := by simpa using hb
    subst e
    obtain ⟨o, e, c, d⟩ := st
    exact ⟨o, e, fun v z => by rw [d] at z; cases z⟩
  keep := fun i h h' st k => st.at fun o e => k it (by simp) o e
  item := by
    intro X hP hw hK hc i pins s σ H E I hf st hg
    subst hP hw hK
    obtain ⟨xs, x, hq, hx⟩ := hg
    obtain ⟨its, rv, p, hz⟩ := I.tuple hq
    obtain ⟨u, hu, ru⟩ := rv.get hx
    obtain ⟨f0, f1, f2, f3, f4, f5⟩ := hf it (by simp)
    refine wpAny_pyNext_tuple_item st (show s.heap.IsTuple a its.toArray from p) (x := u) (by simpa using hu) fun h' st' sb => ?_
    have I1 : Inv X pins σ H { s with heap := h' } := I.turned (t' := s.toks) (fun b o hb e => (sb.2 b hb).trans e) f0 f1 f3 f4 f5
    obtain ⟨o, e, c, d⟩ := id st'
    exact ⟨u, rfl, go_of (s := { s with heap := h' }) e c d (by decide) ⟨x, H, I1, ru, ⟨rfl, fun ys hy => by rw [I.tuple_inj hy hq]; exact hx⟩, st', fun b hb => (hf b hb).1⟩⟩
  done := by
    intro X hP hw hK hc i pins s σ H E I hf st hg
    subst hP hw hK
    obtain ⟨xs, hq, hx⟩ := hg
    obtain ⟨its, rv, p, hz⟩ := I.tuple hq
    obtain ⟨f0, f1, f2, f3, f4, f5⟩ := hf it (by simp)
    have hl := rv.length
    exact wpAny_pyNext_tuple_end (I.ok.hd hc) st (show s.heap.IsTuple a its.toArray from p) (by simp; omega) fun h' eb => ⟨rfl, I.turned (t' := s.toks) (fun b o hb e => eb b o hb e) f0 f1 f3 f4 f5⟩
  self := fun _ _ _ _ _ st h => wpAny_pyIter_tupleiter st h
theorem turn_range {P : Program} {w : World} {K : PySem.W.Frag} {tg : Expr} (it : Addr) (lo : Int) (n : Nat) : Turn P w K tg (Itr lo n) [it] it (fun i h => IsRangeIter h it (lo + (i : Nat) * 1) ((n : Int) - (i : Nat)) 1) where
  mem := by simp
  obj := fun i h st b hb => by
    have e : b = it := by simpa using hb
    subst e
    exact ⟨_, st, fun v z => by
      have z' : Data.fields _ = Data.cell v := z
      cases z'⟩
  keep := fun i h h' st k => k it (by simp) _ st
  item := by
    intro X hP hw hK hc i pins s σ H E I hf st hg
    subst hP hw hK
    obtain ⟨f0, f1, f2, f3, f4, f5⟩ := hf it (by simp)
    have W := Walks.range (prog := X.prog) (w := X.w) (I.ok.hd hc) it lo 1 n
    refine W.item i s _ _ hg st fun v h' tk hv st' kk => ?_
    obtain ⟨t, rfl⟩ := hv
    have I1 : Inv X pins σ H { s with heap := h', toks := tk } := I.turned (fun b o hb e => kk b o (by simpa using hb) e) f0 f1 f3 f4 f5
    refine ⟨_, rfl, go_of (s := { s with heap := h', toks := tk }) (n := "range_iterator") st' rfl rfl (by decide) ⟨.int (lo + i), H, I1, ⟨t, ?_⟩, ⟨rfl, rfl⟩, st', fun b hb => (hf b hb).1⟩⟩
    rw [Int.mul_one]
  done := by
    intro X hP hw hK hc i pins s σ H E I hf st hg
    subst hP hw hK
    obtain ⟨f0, f1, f2, f3, f4, f5⟩ := hf it (by simp)
    exact wpAny_pyNext_range_end (I.ok.hd hc) st (by have : n ≤ i := hg; omega) fun h' eb => ⟨rfl, I.turned (t' := s.toks) (fun b o hb e => eb b o hb e) f0 f1 f3 f4 f5⟩
  self := fun _ _ _ _ _ st h => wpAny_pyIter_rangeiter st h
end L2
namespace L2
open PySem PySem.Spec PyProof.Rows
section
variable {X : Cx} {tg : Expr}
def iList (K : PySem.W.Frag) (tl : TE) : TI := fun σ H R => tl σ H fun x H1 => ∃ a, x = .ref a ∧ (∃ xs, SqL K H1 a xs) ∧ R (Itl K a) H1
def iTup (K : PySem.W.Frag) (tl : TE) : TI := fun σ H R => tl σ H fun x H1 => ∃ a, x = .ref a ∧ (∃ xs, SqT K H1 a xs) ∧ R (Itt K a) H1
theorem pi_list {l : Expr} {tl : TE} (hl : PE X l tl) : PI X tg l (iList X.K tl) := by
  intro pins s σ H R I h
  refine thn (hl pins s σ H _ I h) fun v s1 ⟨x, H1, I1, r1, q1⟩ => ?_
  obtain ⟨a, e, ⟨xs, hq⟩, q⟩ := q1
  subst e
  cases r1
  obtain ⟨its, rv, p, hz⟩ := I1.list hq
  refine wpAny_pyIter_list p.isList ?_
  refine ⟨s1.heap.objs.size, [s1.heap.objs.size], _, _, H1, rfl, I1.kept (t' := s1.toks) fun b o e => Heap.get?_push_of_some _ e, turn_list a _, ⟨_, Heap.get?_push_size _ rfl, rfl, rfl⟩, fun b hb => ?_, q⟩
  have e : b = s1.heap.objs.size := by simpa using hb
  subst e
  exact I1.fpOk (Nat.le_refl _) (I1.hok.fresh (Nat.le_refl _))
theorem pi_tup {l : Expr} {tl : TE} (hl : PE X l tl) : PI X tg l (iTup X.K tl) := by
  intro pins s σ H R I h
  refine thn (hl pins s σ H _ I h) fun v s1 ⟨x, H1, I1, r1, q1⟩ => ?_
  obtain ⟨a, e, ⟨xs, hq⟩, q⟩ := q1
  subst e
  cases r1
  obtain ⟨its, rv, p, hz⟩ := I1.tuple hq
  refine wpAny_pyIter_tuple (show s1.heap.IsTuple a its.toArray from p) ?_
  refine ⟨s1.heap.objs.size, [s1.heap.objs.size], _, _, H1, rfl, I1.kept (t' := s1.toks) fun b o e => Heap.get?_push_of_some _ e, turn_tuple a _, ⟨_, Heap.get?_push_size _ rfl, rfl, rfl⟩, fun b hb => ?_, q⟩
  have e : b = s1.heap.objs.size := by simpa using hb
  subst e
  exact I1.fpOk (Nat.le_refl _) (I1.hok.fresh (Nat.le_refl _))
theorem range_it {pins : List (Addr × Obj)} {σ : St} {H : Hp} {s : Shared} {R : It → Hp → Prop} {E : Value → Shared → Prop} {lo hi : Int} {t u v : Tok} {tk : Nat} (I : Inv X pins σ H s) (h1 : -(2 ^ 62) ≤ lo) (h2 : lo < 2 ^ 62) (h3 : -(2 ^ 62) ≤ hi) (h4 : hi < 2 ^ 62)
    (q : R (Itr lo (hi - lo).toNat) H) : wpAny (model X.prog X.w) X.A (pyIter (.ref s.heap.objs.size)) (PIE X pins σ tg R) E { s with heap := s.heap.push { cls := .type "range", data := .fields #[.int lo t, .int hi u, .int 1 v] }, toks := tk } := by
  refine wpAny_pyIter_range (IsRange.new ..) (small_one h1 h2 h3 h4) ?_
  have I1 : Inv X pins σ H { s with heap := s.heap.push { cls := .type "range", data := .fields #[.int lo t, .int hi u, .int 1 v] }, toks := tk } := I.kept fun b o e => Heap.get?_push_of_some _ e
  refine ⟨(s.heap.push { cls := .type "range", data := .fields #[.int lo t, .int hi u, .int 1 v] }).objs.size, [(s.heap.push { cls := .type "range", data := .fields #[.int lo t, .int hi u, .int 1 v] }).objs.size], _, _, H, rfl,
    I1.kept (t' := tk) fun b o e => Heap.get?_push_of_some _ e, turn_range _ lo (hi - lo).toNat, ?_, fun b hb => ?_, q⟩
  · have e1 : lo + ((0 : Nat) : Int) * 1 = lo := by simp
    have e2 : (((hi - lo).toNat : Nat) : Int) - ((0 : Nat) : Int) = Builtin.Range.rangeSize lo hi 1 := by rw [rangeSize_one]; split <;> omega
    show IsRangeIter _ _ (lo + ((0 : Nat) : Int) * 1) ((((hi - lo).toNat : Nat) : Int) - ((0 : Nat) : Int)) 1
    rw [e1, e2]
    exact Heap.get?_push_size _ rfl
  · have e : b = (s.heap.push { cls := .type "range", data := .fields #[.int lo t, .int hi u, .int 1 v] }).objs.size := by simpa using hb
    subst e
    exact I1.fpOk (Nat.le_refl _) (I1.hok.fresh (Nat.le_refl _))
def iRng1 (ta : TA) : TI := fun σ H R => ta σ H fun vs H1 => ∃ j : Int, vs = [.int j] ∧ -(2 ^ 62) ≤ j ∧ j < 2 ^ 62 ∧ R (Itr 0 j.toNat) H1
theorem pi_range1 {a : Expr} {ta : TA} {p pos : Pos} (hg : Gl X "range") (hm : X.mg "range" = none) (ha : PA X [a] ta) (hs : starEach [a] X.env = [(false, eval a X.env)] := by rfl) : PI X tg (.Call (.Name "range" p) [a] [] pos) (iRng1 ta) := by
  intro pins s σ H R I h
  refine Call_ (ld_blt I hg hm boot_range (PyProof.Rows.callWith_type1 (thn (ha pos pins s σ H _ I h) fun us s1 ⟨vs, H1, I1, r1, q1⟩ => ?_) hs rfl))
  obtain ⟨j, e, q1, q2, q⟩ := q1
  subst e
  cases r1 with
  | cons r rr =>
    cases rr
    obtain ⟨t, rfl⟩ := r
    exact call_range_1 (range_it I1 (by omega) (by omega) q1 q2 (by simpa using q))
def tFor (wi : TI) (g : TG) (tb : TS) : TS := fun D σ H => wi σ H fun J H1 => ∃ W : Nat → Nat → St → Hp → Prop, (∃ m, W 0 m σ H1) ∧ ∀ i m σ H, W i m σ H →
  (J.stop i H ∧ D.nx σ H) ∨ (J.go i H ∧ ∃ N : St → Hp → Prop, (∀ σ' H', N σ' H' → ∃ m', m' < m ∧ W (i + 1) m' σ' H') ∧ ∀ x H', J.yld i H x H' → g x σ H' fun σ2 H2 => tb { D with nx := N, ct := N, bk := D.nx } σ2 H2)
def pinsAt (fp : List Addr) (h : Heap) : List (Addr × Obj) := fp.filterMap fun b => (h.get? b).map fun o => (b, o)
theorem mem_pinsAt {fp : List Addr} {h : Heap} {b : Addr} {o : Obj} (hb : b ∈ fp) (e : h.get? b = some o) : (b, o) ∈ pinsAt fp h := List.mem_filterMap.mpr ⟨b, hb, by rw [e]; rfl⟩
theorem of_pinsAt {fp : List Addr} {h : Heap} {p : Addr × Obj} (hp : p ∈ pinsAt fp h) : p.1 ∈ fp ∧ h.get? p.1 = some p.2 := by
  obtain ⟨b, hb, e⟩ := List.mem_filterMap.mp hp
  cases q : h.get? b with
  | none => rw [q] at e; cases e
  | some o =>
    rw [q] at e
    have e' : (b, o) = p := Option.some.inj e
    subst e'
    exact ⟨hb, q⟩
theorem Inv.pinned {pins : List (Addr × Obj)} {σ : St} {H : Hp} {s : Shared} {fp : List Addr} (I : Inv X pins σ H s) (hf : ∀ b ∈ fp, FpOk X pins H b) (ho : ∀ b ∈ fp, ∃ o, s.heap.get? b = some o ∧ ∀ v, o.data ≠ .cell v) : Inv X (pins ++ pinsAt fp s.heap) σ H s :=
  I.pins_of fun p hp => (List.mem_append.mp hp).elim (fun z => I.pin p (List.mem_append_right _ z)) fun z => by
    obtain ⟨hb, e⟩ := of_pinsAt z
    obtain ⟨f0, f1, f2, _⟩ := hf p.1 hb
    obtain ⟨o, e', d⟩ := ho p.1 hb
    rw [e] at e'; cases e'
    exact ⟨e, f0, f1, f2, d⟩
theorem Inv.unpinned {pins pl : List (Addr × Obj)} {σ : St} {H : Hp} {s : Shared} (I : Inv X (pins ++ pl) σ H s) : Inv X pins σ H s := I.pins_of fun p hp => I.pin p (List.mem_append_right _ (List.mem_append_left _ hp))
theorem ps_for {iter : Expr} {body : List Stmt} {wi : TI} {g : TG} {tb : TS} {pos : Pos} (hp : PassesOwn (model X.prog X.w) X.A X.env X.xe) (hc : X.calm = true) (hi : PI X tg iter wi) (hg : PG X tg g) (hb : PSs X body tb)
    (hs : ∀ x, foldedSetIterable iter X.env x = pure x := by intro _; rfl) : PS X (.For tg iter body [] pos) (tFor wi g tb) := by
  intro pins s σ H D I h
  refine wpAny_For (thn (hi pins s σ H _ I h) fun v s1 h1 => thn h1 fun itv s2 h2 => ?_) hs
  obtain ⟨it, fp, tn, J, H2, e, I2, T, st2, f2, W, ⟨m0, w0⟩, turn⟩ := h2
  subst e
  -- what stays true of the iterator's objects through the loop
  have stat : ∀ {H' : Hp}, (∀ b ∈ fp, H' b = none) → ∀ b ∈ fp, FpOk X pins H' b := fun hn b hb => ⟨hn b hb, (f2 b hb).2⟩
  refine codeAny_forLoop_any (fun n s' => ∃ i σ' H', Inv X pins σ' H' s' ∧ tn i s'.heap ∧ (∀ b ∈ fp, H' b = none) ∧ W i n σ' H') ?_ m0 ⟨0, σ, H2, I2, st2, fun b hb => (f2 b hb).1, w0⟩
  rintro n s3 ⟨i, σ3, H3, I3, st3, fr3, w3⟩
  rcases turn i n σ3 H3 w3 with ⟨stop, qn⟩ | ⟨go, N, hN, step⟩
  · refine wpAny_passesOwn hp (thn (T.done X rfl rfl rfl hc i pins s3 σ3 H3 X.xe I3 (stat fr3) st3 stop) fun r s4 ⟨hr, I4⟩ => ?_)
    subst hr
    exact wpAny_execs_nil ⟨σ3, H3, I4, qn⟩
  · refine wpAny_passesOwn hp (thn (T.item X rfl rfl rfl hc i pins s3 σ3 H3 X.xe I3 (stat fr3) st3 go) fun r s4 ⟨u, hr, h4⟩ => ?_)
    subst hr
    refine wpAny_passesOwn hp (thn h4 fun _ s5 ⟨x, H5, I5, r5, y5, st5, fr5⟩ => ?_)
    have I5' := I5.pinned (stat fr5) (T.obj _ _ st5)
    refine wpAny_passesOwn hp (thn (hg _ s5 σ3 H5 x u _ I5' r5 (step x H5 y5)) fun _ s6 ⟨σ6, H6, I6, q6⟩ => ?_)
    refine wpAny_passesOwn hp (thn (hb _ s6 σ6 H6 _ I6 q6) fun f s7 q7 => ?_)
    have again : ∀ {σ7 : St} {H7 : Hp}, Inv X (pins ++ pinsAt fp s5.heap) σ7 H7 s7 → N σ7 H7 → ∃ m, m < n ∧ ∃ i σ' H', Inv X pins σ' H' s7 ∧ tn i s7.heap ∧ (∀ b ∈ fp, H' b = none) ∧ W i m σ' H' := fun {σ7 H7} I7 n7 => by
      obtain ⟨m', hm, w7⟩ := hN σ7 H7 n7
      refine ⟨m', hm, i + 1, σ7, H7, I7.unpinned, T.keep _ _ _ st5 fun b hb o e => (I7.pin (b, o) (List.mem_append_right _ (List.mem_append_right _ (mem_pinsAt hb e)))).1, fun b hb => ?_, w7⟩
      obtain ⟨o, e, d⟩ := T.obj _ _ st5 b hb
      exact (I7.pin (b, o) (List.mem_append_right _ (List.mem_append_right _ (mem_pinsAt hb e)))).2.1
    cases f with
    | next => obtain ⟨σ7, H7, I7, n7⟩ := q7; exact again I7 n7
    | cont => obtain ⟨σ7, H7, I7, n7⟩ := q7; exact again I7 n7
    | brk => obtain ⟨σ7, H7, I7, q7⟩ := q7; exact ⟨σ7, H7, I7.unpinned, q7⟩
    | ret v => obtain ⟨x7, σ7, H7, I7, r7, q7⟩ := q7; exact ⟨x7, σ7, H7, I7.unpinned, r7, q7⟩
end
end L2
namespace L2
open PySem PySem.Spec PyProof.Rows
abbrev R2 := V → V → Hp → VK → Prop
def OpR (X : Cx) (f : Value → Value → Sem Value) (r : R2) : Prop :=
  ∀ (pins : List (Addr × Obj)) (s : Shared) (σ : St) (H : Hp) (x y : V) (v u : Value) (Q : VK), Inv X pins σ H s → RelV x v → RelV y u → r x y H Q →
    wpAny (model X.prog X.w) X.A (f v u) (EP X pins σ Q) X.xe s
def UnR (X : Cx) (f : Value → Sem Value) (r : V → Hp → VK → Prop) : Prop :=
  ∀ (pins : List (Addr × Obj)) (s : Shared) (σ : St) (H : Hp) (x : V) (v : Value) (Q : VK), Inv X pins σ H s → RelV x v → r x H Q →
    wpAny (model X.prog X.w) X.A (f v) (EP X pins σ Q) X.xe s
def CallR (X : Cx) (f : Value) (r : List V → Hp → VK → Prop) : Prop :=
  ∀ (pins : List (Addr × Obj)) (s : Shared) (σ : St) (H : Hp) (xs : List V) (us : List Value) (Q : VK), Inv X pins σ H s → Vals xs us → r xs H Q →
    wpAny (model X.prog X.w) X.A (call f us) (EP X pins σ Q) X.xe s
def TruR (X : Cx) (r : V → Hp → (Bool → Hp → Prop) → Prop) : Prop :=
  ∀ (pins : List (Addr × Obj)) (s : Shared) (σ : St) (H : Hp) (x : V) (v : Value) (Q : Bool → Hp → Prop), Inv X pins σ H s → RelV x v → r x H Q →
    wpAny (model X.prog X.w) X.A (truthy v) (TP X pins σ Q) X.xe s
def tOp (r : R2) (ta tb : TE) : TE := fun σ H Q => ta σ H fun x H1 => tb σ H1 fun y H2 => r x y H2 Q
def tUn (r : V → Hp → VK → Prop) (ta : TE) : TE := fun σ H Q => ta σ H fun x H1 => r x H1 Q
def rI (C : Int → Int → Prop) (g : Int → Int → V) : R2 := fun x y H Q => ∃ i j, x = .int i ∧ y = .int j ∧ C i j ∧ Q (g i j) H
def rI0 (g : Int → Int → V) : R2 := fun x y H Q => ∃ i j, x = .int i ∧ y = .int j ∧ Q (g i j) H
def rU (g : Int → V) : V → Hp → VK → Prop := fun x H Q => ∃ i, x = .int i ∧ Q (g i) H
section
variable {X : Cx} {a b c : Expr} {ta tb tc : TE} {pos : Pos}
theorem binT (ha : PE X a ta) (hb : PE X b tb) {pins : List (Addr × Obj)} {s : Shared} {σ : St} {H : Hp} {R : V → V → Hp → Prop} (I : Inv X pins σ H s)
    (h : ta σ H fun x H1 => tb σ H1 fun y H2 => R x y H2) {Q : Value → Shared → Prop} {f : Value → Value → Sem Value}
    (hf : ∀ v u s2 x y H2, Inv X pins σ H2 s2 → RelV x v → RelV y u → R x y H2 → wpAny (model X.prog X.w) X.A (f v u) Q X.xe s2) :
    wpAny (model X.prog X.w) X.A (eval a X.env) (fun v s₁ => wpAny (model X.prog X.w) X.A (eval b X.env) (fun u s₂ => wpAny (model X.prog X.w) X.A (f v u) Q X.xe s₂) X.xe s₁) X.xe s := by
  refine thn (ha pins s σ H _ I h) fun v s1 ⟨x, H1, I1, r1, q1⟩ => ?_
  refine thn (hb pins s1 σ H1 _ I1 q1) fun u s2 ⟨y, H2, I2, r2, q2⟩ => ?_
  exact hf v u s2 x y H2 I2 r1 r2 q2
theorem pe_op {op : Operator} {r : R2} (ho : OpR X (binaryOp op) r) (ha : PE X a ta) (hb : PE X b tb) : PE X (.BinOp a op b pos) (tOp r ta tb) := by
  intro pins s σ H Q I h
  exact wpAny_BinOp (binT ha hb I h fun v u s2 x y H2 I2 rx ry q => ho pins s2 σ H2 x y v u Q I2 rx ry q)
theorem pe_un {op : UnaryOp} {r : V → Hp → VK → Prop} (ho : UnR X (unaryOp op) r) (ha : PE X a ta) : PE X (.UnaryOp op a pos) (tUn r ta) := by
  intro pins s σ H Q I h
  exact UnaryOp_ (thn (ha pins s σ H _ I h) fun v s1 ⟨x, H1, I1, r1, q1⟩ => ho pins s1 σ H1 x v Q I1 r1 q1)
theorem opI {f : Value → Value → Sem Value} {C : Int → Int → Prop} {g : Int → Int → Int}
    (rule : ∀ (i j : Int) (t u : Tok) (s : Shared) (Q : Value → Shared → Prop) (E : Value → Shared → Prop), C i j → Q (.int (g i j) s.toks) { s with toks := s.toks + 1 } → wpAny (model X.prog X.w) X.A (f (.int i t) (.int j u)) Q E s) :
    OpR X f (rI C fun i j => .int (g i j)) := by
  intro pins s σ H x y v u Q I rx ry h
  obtain ⟨i, j, rfl, rfl, hc, q⟩ := h
  obtain ⟨t, rfl⟩ := rx
  obtain ⟨t', rfl⟩ := ry
  exact rule i j t t' s _ _ hc ⟨.int (g i j), H, I.tok _, ⟨_, rfl⟩, q⟩
theorem opI0 {f : Value → Value → Sem Value} {g : Int → Int → Int}
    (rule : ∀ (i j : Int) (t u : Tok) (s : Shared) (Q : Value → Shared → Prop) (E : Value → Shared → Prop), Q (.int (g i j) s.toks) { s with toks := s.toks + 1 } → wpAny (model X.prog X.w) X.A (f (.int i t) (.int j u)) Q E s) :
    OpR X f (rI0 fun i j => .int (g i j)) := by
  intro pins s σ H x y v u Q I rx ry h
  obtain ⟨i, j, rfl, rfl, q⟩ := h
  obtain ⟨t, rfl⟩ := rx
  obtain ⟨t', rfl⟩ := ry
  exact rule i j t t' s _ _ ⟨.int (g i j), H, I.tok _, ⟨_, rfl⟩, q⟩
theorem opB0 {f : Value → Value → Sem Value} {g : Int → Int → Bool}
    (rule : ∀ (i j : Int) (t u : Tok) (s : Shared) (Q : Value → Shared → Prop) (E : Value → Shared → Prop), Q (.bool (g i j)) s → wpAny (model X.prog X.w) X.A (f (.int i t) (.int j u)) Q E s) :
    OpR X f (rI0 fun i j => .bl (g i j)) := by
  intro pins s σ H x y v u Q I rx ry h
  obtain ⟨i, j, rfl, rfl, q⟩ := h
  obtain ⟨t, rfl⟩ := rx
  obtain ⟨t', rfl⟩ := ry
  exact rule i j t t' s _ _ ⟨.bl (g i j), H, I, rfl, q⟩
def CDiv (i j : Int) : Prop := 0 < j ∧ j < 1073741824
def CMul (i j : Int) : Prop := (-(2 ^ 64) < i ∧ i < 2 ^ 64) ∨ (-(2 ^ 64) < j ∧ j < 2 ^ 64)
theorem CMul.ok {i j : Int} (h : CMul i j) : IntMulOk i j := by
  rcases h with ⟨h1, h2⟩ | ⟨h1, h2⟩
  · exact .of_left (intBits_le_64 h1 h2)
  · exact .of_right (intBits_le_64 h1 h2)
theorem op_add : OpR X (binaryOp .Add) (rI0 fun i j => .int (i + j)) := opI0 fun _ _ _ _ _ _ _ q => add_int q
theorem op_sub : OpR X (binaryOp .Sub) (rI0 fun i j => .int (i - j)) := opI0 fun _ _ _ _ _ _ _ q => sub_int q
theorem op_mul : OpR X (binaryOp .Mult) (rI CMul fun i j => .int (i * j)) := opI fun _ _ _ _ _ _ _ hc q => mul_int q hc.ok
theorem op_fdiv : OpR X (binaryOp .FloorDiv) (rI CDiv fun i j => .int (i / j)) := opI fun i j _ _ _ _ _ hc q => by
  have h1 : (0 : Int) < j := hc.1
  have h2 : j < 1073741824 := hc.2
  exact floordiv_int (by omega) (by rw [Int.fdiv_eq_ediv_of_nonneg i (by omega)]; exact q) (.inl (PyProof.noPylong_small (by omega)))
theorem op_mod : OpR X (binaryOp .Mod) (rI (fun _ j => 0 < j) fun i j => .int (i % j)) := opI fun i j _ _ _ _ _ hc q => by
  have h1 : (0 : Int) < j := hc
  exact mod_int' (by omega) (by rw [Int.fmod_eq_emod_of_nonneg i (by omega)]; exact q)
theorem unI {f : Value → Sem Value} {g : Int → Int}
    (rule : ∀ (i : Int) (t : Tok) (s : Shared) (Q : Value → Shared → Prop) (E : Value → Shared → Prop), Q (.int (g i) s.toks) { s with toks := s.toks + 1 } → wpAny (model X.prog X.w) X.A (f (.int i t)) Q E s) :
    UnR X f (rU fun i => .int (g i)) := by
  intro pins s σ H x v Q I rx h
  obtain ⟨i, rfl, q⟩ := h
  obtain ⟨t, rfl⟩ := rx
  exact rule i t s _ _ ⟨.int (g i), H, I.tok _, ⟨_, rfl⟩, q⟩
theorem un_neg : UnR X (unaryOp .USub) (rU fun i => .int (-i)) := unI fun _ _ _ _ _ q => neg_int q
theorem op_add_ib : OpR X (binaryOp .Add) (fun x y H Q => ∃ i k, x = .int i ∧ y = .bl k ∧ Q (.int (i + b2i k)) H) := by
  intro pins s σ H x y v u Q I rx ry h
  obtain ⟨i, k, rfl, rfl, q⟩ := h
  obtain ⟨t, rfl⟩ := rx
  cases ry
  exact add_int_bool ⟨.int (i + b2i k), H, I.tok _, ⟨_, rfl⟩, q⟩
end
section
variable {X : Cx} {a b c : Expr} {ta tb tc : TE} {pos : Pos}
theorem fin_bl {pins : List (Addr × Obj)} {σ : St} {H : Hp} {s : Shared} {Q : VK} {k k' : Bool} (I : Inv X pins σ H s) (q : Q (.bl k) H) (e : k = k') : EP X pins σ Q (.bool k') s := by
  subst e
  exact ⟨.bl k, H, I, rfl, q⟩
theorem op_lt : OpR X (compareOp .Lt) (rI0 fun i j => .bl (decide (i < j))) := opB0 fun _ _ _ _ _ _ _ q => lt_int q
theorem op_le : OpR X (compareOp .LtE) (rI0 fun i j => .bl (decide (i ≤ j))) := opB0 fun _ _ _ _ _ _ _ q => le_int q
theorem op_gt : OpR X (compareOp .Gt) (rI0 fun i j => .bl (decide (j < i))) := opB0 fun _ _ _ _ _ _ _ q => gt_int q
theorem op_isN : OpR X (compareOp .Is) (fun x y H Q => y = .non ∧ Q (.bl (decide (x = .non))) H) := by
  intro pins s σ H x y v u Q I rx ry h
  obtain ⟨rfl, q⟩ := h
  cases ry
  refine is_none_gen (fin_bl I q ?_)
  cases x <;> first
    | (cases rx; rfl)
    | (obtain ⟨t, rfl⟩ := rx; rfl)
theorem OpR.or {f : Value → Value → Sem Value} {r r' : R2} (h : OpR X f r) (h' : OpR X f r') : OpR X f (fun x y H Q => r x y H Q ∨ r' x y H Q) := by
  intro pins s σ H x y v u Q I rx ry q
  rcases q with q | q
  · exact h pins s σ H x y v u Q I rx ry q
  · exact h' pins s σ H x y v u Q I rx ry q
theorem nomark (b : Expr) {op : CmpOp} (h : op ≠ .In := by decide) (h2 : op ≠ .NotIn := by decide) : behindInMarks op b = false := by
  have e1 : (op == CmpOp.In) = false := by cases op <;> first | rfl | exact absurd rfl h
  have e2 : (op == CmpOp.NotIn) = false := by cases op <;> first | rfl | exact absurd rfl h2
  cases b <;> simp [behindInMarks, e1, e2]
theorem pe_cmpR {op : CmpOp} {r : R2} (ho : OpR X (compareOp op) r) (ha : PE X a ta) (hb : PE X b tb) (hm : behindInMarks op b = false) : PE X (.Compare a [op] [b] pos) (tOp r ta tb) := by
  intro pins s σ H Q I h
  exact wpAny_Compare1 (binT ha hb I h fun v u s2 x y H2 I2 rx ry q => ho pins s2 σ H2 x y v u Q I2 rx ry q) hm
def tTest (t : TE) : TT := fun σ H Q => t σ H fun x H' => ∃ k, x = .bl k ∧ Q k H'
theorem pt_cmpR {op : CmpOp} {r : R2} (ho : OpR X (compareOp op) r) (ha : PE X a ta) (hb : PE X b tb) (hm : behindInMarks op b = false) : PT X (.Compare a [op] [b] pos) (tTest (tOp r ta tb)) := by
  intro pins s σ H Q I h
  refine wpAny_isTrue_Compare1 (thn (ha pins s σ H _ I h) fun v s1 ⟨x, H1, I1, r1, q1⟩ => thn (hb pins s1 σ H1 _ I1 q1) fun u s2 ⟨y, H2, I2, r2, q2⟩ =>
    thn (ho pins s2 σ H2 x y v u _ I2 r1 r2 q2) fun c s3 ⟨z, H3, I3, r3, k, e, q3⟩ => ?_) hm
  subst e
  cases r3
  exact wpAny_truthy_bool ⟨H3, I3, q3⟩
def tChain (r r' : R2) (ta tb tc : TE) : TE := fun σ H Q => ta σ H fun x H1 => tb σ H1 fun y H2 => r x y H2 fun z H3 => ∃ k, z = .bl k ∧
  (if k = true then tc σ H3 fun w' H4 => r' y w' H4 Q else Q (.bl false) H3)
theorem pt_chain {op op' : CmpOp} {r r' : R2} (ho : OpR X (compareOp op) r) (ho' : OpR X (compareOp op') r') (ha : PE X a ta) (hb : PE X b tb) (hc : PE X c tc)
    (hm : lastMarks [op, op'] [b, c] = false := by with_unfolding_all rfl) : PT X (.Compare a [op, op'] [b, c] pos) (tTest (tChain r r' ta tb tc)) := by
  intro pins s σ H Q I h
  refine isTrue_chain (thn (ha pins s σ H _ I h) fun v s1 ⟨x, H1, I1, r1, q1⟩ => test_link (thn (hb pins s1 σ H1 _ I1 q1) fun u s2 ⟨y, H2, I2, r2, q2⟩ =>
    thn (ho pins s2 σ H2 x y v u _ I2 r1 r2 q2) fun d s3 ⟨z, H3, I3, r3, k, e, q3⟩ => ?_)) hm
  subst e
  cases r3
  refine wpAny_truthy_bool ?_
  cases k with
  | false =>
    obtain ⟨k', e', q'⟩ := q3
    cases e'
    exact ite_ff ⟨H3, I3, q'⟩
  | true =>
    refine ite_tt (test_last (thn (hc pins s3 σ H3 _ I3 q3) fun w' s4 ⟨z', H4, I4, r4, q4⟩ => thn (ho' pins s4 σ H4 y z' u w' _ I4 r2 r4 q4) fun d' s5 ⟨z2, H5, I5, r5, k2, e2, q5⟩ => ?_))
    subst e2
    cases r5
    exact wpAny_truthy_bool ⟨H5, I5, q5⟩
def TruV (K : PySem.W.Frag) (x : V) (H : Hp) (k : Bool) : Prop :=
  match x with
  | .non => k = false
  | .bl b => k = b
  | .int i => k = (i != 0)
  | .str y => y.length ≤ sizeLine ∧ k = ((y.length : Int) != 0)
  | .byt y => y.size ≤ sizeLine ∧ k = ((y.size : Int) != 0)
  | .ref p => (∃ xs, SqL K H p xs ∧ k = !xs.isEmpty) ∨ (∃ xs, SqT K H p xs ∧ k = !xs.isEmpty) ∨ ∃ kvs, H p = some (.dK kvs) ∧ k = !kvs.isEmpty
  | _ => False
theorem isEmpty_kv {κ : Type} {kvs : List (κ × V)} {vs : List (κ × Value)} (r : KV kvs vs) : (!vs.isEmpty) = !kvs.isEmpty := by
  cases r <;> rfl
theorem isEmpty_of {xs : List V} {its : List Value} (r : Vals xs its) : (!its.toArray.isEmpty) = !xs.isEmpty := by
  cases r <;> simp
theorem line63 : (sizeLine : Nat) < 2 ^ 63 := by rw [sizeLine_eq]; decide
theorem tru_ok : TruR X (fun x H Q => ∃ k, TruV X.K x H k ∧ Q k H) := by
  intro pins s σ H x v Q I rx h
  obtain ⟨k, e, q⟩ := h
  have hl := line63
  have hs : sizeLine = 16777216 := sizeLine_eq
  cases x with
  | non =>
    cases rx
    have e' : k = false := e
    subst e'
    exact truthy_none ⟨H, I, q⟩
  | bl b =>
    cases rx
    have e' : k = b := e
    subst e'
    exact wpAny_truthy_bool ⟨H, I, q⟩
  | int i =>
    obtain ⟨t, rfl⟩ := rx
    have e' : k = (i != 0) := e
    subst e'
    exact PySem.P.truthy_int ⟨H, I, q⟩
  | str y =>
    obtain ⟨t, rfl⟩ := rx
    obtain ⟨hy, e'⟩ : y.length ≤ sizeLine ∧ k = ((y.length : Int) != 0) := e
    subst e'
    exact PySem.P.truthy_str (by omega) ⟨H, I.tok _, q⟩
  | byt y =>
    obtain ⟨t, rfl⟩ := rx
    obtain ⟨hy, e'⟩ : y.size ≤ sizeLine ∧ k = ((y.size : Int) != 0) := e
    subst e'
    exact PySem.W.truthy_bytes (by omega) ⟨H, I.tok _, q⟩
  | ref p =>
    cases rx
    have e' : (∃ xs, SqL X.K H p xs ∧ k = !xs.isEmpty) ∨ (∃ xs, SqT X.K H p xs ∧ k = !xs.isEmpty) ∨ ∃ kvs, H p = some (.dK kvs) ∧ k = !kvs.isEmpty := e
    rcases e' with ⟨xs, hx, e'⟩ | ⟨xs, hx, e'⟩ | ⟨kvs, hx, e'⟩
    · subst e'
      obtain ⟨its, r, pl, hz⟩ := I.list hx
      have hlen := r.length
      exact wpAny_truthy_list pl.isList (by simp only [List.size_toArray]; omega) ⟨H, I.tok _, by rw [isEmpty_of r]; exact q⟩
    · subst e'
      obtain ⟨its, r, pl, hz⟩ := I.tuple hx
      have hlen := r.length
      exact truthy_tuple pl (by simp only [List.size_toArray]; omega) ⟨H, I.tok _, by rw [isEmpty_of r]; exact q⟩
    · subst e'
      obtain ⟨hz, hS, vs, r, m⟩ : kvs.length ≤ sizeLine ∧ (p == sysModules) = false ∧ ∃ vs, KV kvs vs ∧ s.heap.DictOf (mixKind X.prog X.w) p vs := I.hok p _ hx
      have hlen : kvs.length = vs.length := Paired.length r
      exact wpAny_truthy_dict hS m (by omega) ⟨H, I.tok _, by rw [isEmpty_kv r]; exact q⟩
  | _ => exact (show False from e).elim
theorem pt_truth (ha : PE X a ta) (he : ∀ whole, isTrue a X.env whole = (do let v ← whole; standAt a.pos; holding [v] (truthy v))) :
    PT X a (fun σ H Q => ta σ H fun x H' => ∃ k, TruV X.K x H' k ∧ Q k H') := by
  intro pins s σ H Q I h
  exact isTrue_plain (thn (ha pins s σ H _ I h) fun v s1 ⟨x, H1, I1, r1, q1⟩ => tru_ok pins s1 σ H1 x v Q I1 r1 q1) (he _)
theorem op_add_str : OpR X (binaryOp .Add) (fun x y H Q => ∃ i j, x = .str i ∧ y = .str j ∧ i.length + j.length ≤ sizeLine ∧ Q (.str (i ++ j)) H) := by
  intro pins s σ H x y v u Q I rx ry h
  obtain ⟨i, j, rfl, rfl, hz, q⟩ := h
  obtain ⟨t, rfl⟩ := rx
  obtain ⟨t', rfl⟩ := ry
  exact add_str (fun t' tk => ⟨.str (i ++ j), H, I.tok _, ⟨_, rfl⟩, q⟩) hz
theorem vals1 {x : V} {us : List Value} (r : Vals [x] us) : ∃ u, us = [u] ∧ RelV x u := by
  cases r with
  | cons r1 r2 => cases r2; exact ⟨_, rfl, r1⟩
theorem vals2 {x y : V} {us : List Value} (r : Vals [x, y] us) : ∃ u w', us = [u, w'] ∧ RelV x u ∧ RelV y w' := by
  cases r with
  | cons r1 r2 =>
    cases r2 with
    | cons r3 r4 => cases r4; exact ⟨_, _, rfl, r1, r3⟩
theorem call_int1 : CallR X (.type "int") (fun xs H Q => (∃ i, xs = [.int i] ∧ Q (.int i) H) ∨ ∃ k, xs = [.bl k] ∧ Q (.int (if k then 1 else 0)) H) := by
  intro pins s σ H xs us Q I r h
  rcases h with ⟨i, rfl, q⟩ | ⟨k, rfl, q⟩
  · obtain ⟨u, rfl, t, rfl⟩ := vals1 r
    exact call_int_int ⟨.int i, H, I, ⟨_, rfl⟩, q⟩
  · obtain ⟨u, rfl, r1⟩ := vals1 r
    cases r1
    exact call_int_bool ⟨.int (if k then 1 else 0), H, I.tok _, ⟨_, rfl⟩, q⟩
end
end L2
namespace L2
open PySem PySem.Spec PyProof.Rows
structure ObjM (h : Heap) (x dx C : Addr) (mA : Str → Option Value) : Prop where
  obj : h.get? x = some (PySem.W.instObj C dx)
  ns : h.Ns1 dx mA
  ne : dx ≠ x
section
variable {prog : Program} {w : World} {A : Around} {E : Value → Shared → Prop} {s : Shared} {K : PySem.W.Frag} {x dx C f : Addr} {mA : Str → Option Value} {name : Str} {v : Value}
end
theorem RelO.some_of {v : V} {o : Option Value} (r : RelO (some v) o) : ∃ u, o = some u ∧ RelV v u := by
  cases o with
  | none => exact (show False from r).elim
  | some u => exact ⟨u, rfl, r⟩
section
variable {P : Program} {w : World} {H H' : Hp} {h h' : Heap} {a C dx : Addr} {fs fs' : List (Str × V)}
end
structure Cls (K : PySem.W.Frag) (C : Addr) : Prop where
  pg : PySem.W.plainGet K C Str.empty = true
  hd : PySem.W.hasDictIn K C = true
  po : PySem.W.plainOver K C = true
  sa : PySem.W.findIn K (.ref C) "__setattr__" = some (some (.builtin "object.__setattr__"))
theorem Cls.get {K : PySem.W.Frag} {C : Addr} (c : Cls K C) (f : Str) : PySem.W.plainGet K C f = true := c.pg
structure Con (K : PySem.W.Frag) (C : Addr) (f : Str) (v : V) (u : Value) : Prop where
  at_ : PySem.W.findIn K (.ref C) f = some (some u)
  rel : RelV v u
  get : PySem.W.specialIn K u "__get__" = some none
  cp : PySem.W.copiedNames.contains f = false
structure Meth (K : PySem.W.Frag) (C : Addr) (m : Str) (f : Addr) : Prop where
  at_ : PySem.W.findIn K (.ref C) m = some (some (.ref f))
  fn : PySem.W.isFn K (.ref f) = true
  kp : PySem.W.keepIn K (.ref f) = true
section
variable {X : Cx} {pins : List (Addr × Obj)} {σ : St} {H : Hp} {s : Shared} {a C dx : Addr} {fs : List (Str × V)} {f : Str} {v : V} {A : Around} {E : Value → Shared → Prop}
theorem Inv.made (I : Inv X pins σ H s) : Inv X pins σ (upd (upd H s.heap.objs.size (.own (s.heap.objs.size + 1))) (s.heap.objs.size + 1) (.ins C s.heap.objs.size []))
    { s with heap := (s.heap.push PySem.W.emptyDict).push (PySem.W.instObj C s.heap.objs.size) } := by
  have e1 : (s.heap.push PySem.W.emptyDict).get? s.heap.objs.size = some PySem.W.emptyDict := Heap.get?_push_size s.heap rfl
  have e2 : ((s.heap.push PySem.W.emptyDict).push (PySem.W.instObj C s.heap.objs.size)).get? (s.heap.objs.size + 1) = some (PySem.W.instObj C s.heap.objs.size) := by
    have := Heap.get?_push_size (s.heap.push PySem.W.emptyDict) (o := PySem.W.instObj C s.heap.objs.size) rfl
    rwa [Heap.size_push] at this
  have e3 : (s.heap.push PySem.W.emptyDict).Ns s.heap.objs.size (fun _ => none) := ⟨PySem.W.emptyDict, #[], _, e1, rfl, (fun e he => absurd he (by simp)), fun _ => rfl⟩
  have I1 := I.laid (a := s.heap.objs.size) (o := .own (s.heap.objs.size + 1)) (h' := s.heap.push PySem.W.emptyDict) (t' := s.toks) (fun b u q => Heap.get?_push_of_some _ q) (Nat.le_refl _) ⟨_, e1⟩
  refine I1.laid (a := s.heap.objs.size + 1) (o := .ins C s.heap.objs.size []) (t' := s.toks) (fun b u q => Heap.get?_push_of_some _ q) (Nat.le_of_eq (Heap.size_push _ _)) ?_
  have ne : s.heap.objs.size ≠ s.heap.objs.size + 1 := Nat.ne_of_lt (Nat.lt_succ_self _)
  refine ⟨by rw [upd_ne ne, upd_same], Nat.zero_le _, ne, e2, fun _ => none, (Heap.Ns1.of_empty e3).at fun o q => Heap.get?_push_of_some _ q, fun _ => True.intro, fun y hy => absurd rfl hy⟩
end
section
variable {X : Cx} {o e value : Expr} {f : Str} {pos pos' tpos : Pos} {ta tv : TE}
end
section
variable {X : Cx} {pins : List (Addr × Obj)} {σ : St} {H : Hp} {s : Shared} {A : Around} {E : Value → Shared → Prop} {Q : Value → Shared → Prop} {c : Value} {b : Bool}
inductive TyOf (K : PySem.W.Frag) (H : Hp) : V → Value → Prop where
  | non : TyOf K H .non (.type "NoneType")
  | bl (x : Bool) : TyOf K H (.bl x) (.type "bool")
  | int (i : Int) : TyOf K H (.int i) (.type "int")
  | str (x : Str) : TyOf K H (.str x) (.type "str")
  | flt (x : UInt64) : TyOf K H (.flt x) (.type "float")
  | lst {a : Addr} {xs : List V} (e : H a = some (.lst xs)) : TyOf K H (.ref a) (.type "list")
  | frz {a : Addr} {o : Obj} {xs : List V} (e : H a = some (.frz o (.lst xs))) : TyOf K H (.ref a) (.type "list")
  | tup {a : Addr} {xs : List V} (e : H a = some (.tup xs)) : TyOf K H (.ref a) (.type "tuple")
  | dK {a : Addr} {kvs : List (Key × V)} (e : H a = some (.dK kvs)) : TyOf K H (.ref a) (.type "dict")
  | dT {a : Addr} {kvs : List (List Key × V)} (e : H a = some (.dT kvs)) : TyOf K H (.ref a) (.type "dict")
  | ins {a C dx : Addr} {fs : List (Str × V)} (e : H a = some (.ins C dx fs)) (cl : Cls K C) (ha : PySem.W.findIn K (.ref C) "__class__" = some (some (.builtin "object.__class__")))
      (hn : PySem.W.specialIn K (.builtin "object.__class__") "__get__" = some (some (.builtin "getset_descriptor.__get__"))) (htk : PySem.W.takesIn K (.builtin "object.__class__") = some true)
      (hm : PySem.W.mroIn K C (.type "object") = some true) : TyOf K H (.ref a) (.ref C)
end
end L2
namespace L2
open PySem PySem.Spec PyProof.Rows
structure Room (k : Nat) (A : Around) : Prop where
  hd : A.handled = none
  dp : A.depth + 3 * k + 5 < recursionLimit
  un : A.units + 16 * k + 200 < cLine
  gd : A.guards = some []
theorem Room.mono {j k : Nat} {A : Around} (r : Room k A) (h : j ≤ k) : Room j A := ⟨r.hd, by have := r.dp; omega, by have := r.un; omega, r.gd⟩
theorem Room.deeper {k : Nat} {A : Around} (r : Room (k + 1) A) (env : Env) : Room k (A.deeper env) :=
  ⟨r.hd, by have := r.dp; show A.depth + 1 + 3 * k + 5 < _; omega, by have := r.un; show A.units + 3 + 16 * k + 200 < _; omega, r.gd⟩
theorem Room.in1 {k : Nat} {A : Around} (r : Room (k + 1) A) : Room k A.in1 :=
  ⟨r.hd, by have := r.dp; show A.depth + 3 * k + 5 < _; omega, by have := r.un; show A.units + 1 + 16 * k + 200 < _; omega, r.gd⟩
theorem Room.depth {k : Nat} {A : Around} (r : Room k A) : A.depth < recursionLimit := by have := r.dp; omega
theorem Room.units {k : Nat} {A : Around} (r : Room k A) : A.units + 64 < cLine := by have := r.un; omega
def tNil : TA := fun _ H Q => Q [] H
def tCons (ta : TE) (tr : TA) : TA := fun σ H Q => ta σ H fun x H1 => tr σ H1 fun xs H2 => Q (x :: xs) H2
section
variable {X : Cx} {e : Expr} {es : List Expr} {te : TE} {t : TA} {pos : Pos}
theorem pa_nil : PA X [] tNil := fun _ _ _ _ H Q I h => Calls.spliced_nil ⟨[], H, I, .nil, h⟩
theorem pa_cons (ha : PE X e te) (hr : PA X es t) (hs : starEach (e :: es) X.env = (false, eval e X.env) :: starEach es X.env := by rfl) : PA X (e :: es) (tCons te t) := by
  intro pos pins s σ H Q I h
  rw [hs]
  show wpAny _ _ (spliced ((false, eval e X.env) :: backTo pos (starEach es X.env))) _ _ s
  refine Calls.spliced_cons (thn (ha pins s σ H _ I h) fun u s1 ⟨x, H1, I1, r1, q1⟩ => ?_)
  exact thn (hr pos pins s1 σ H1 _ I1 q1) fun us s2 ⟨xs, H2, I2, r2, q2⟩ => ⟨x :: xs, H2, I2, .cons r1 r2, q2⟩
def tTup (t : TA) : TE := fun σ H Q => t σ H fun xs H1 => xs.length ≤ sizeLine ∧ ∀ p, H1 p = none → Q (.ref p) (upd H1 p (.tup xs))
def tLst (t : TA) : TE := fun σ H Q => t σ H fun xs H1 => xs.length ≤ sizeLine ∧ ∀ p, H1 p = none → Q (.ref p) (upd H1 p (.lst xs))
theorem pe_tup {x1} (h : PA X es t) : PE X (.Tuple es x1 pos) (tTup t) := by
  intro pins s σ H Q I hq
  refine wpAny_Tuple_spliced (thn (h pos pins s σ H _ I hq) fun us s1 ⟨xs, H1, I1, r, z, q⟩ => ⟨by rw [← r.length]; exact z, ?_⟩)
  have hf : H1 s1.heap.objs.size = none := I1.hok.fresh (Nat.le_refl _)
  refine ⟨.ref s1.heap.objs.size, upd H1 s1.heap.objs.size (.tup xs), I1.laid (t' := s1.toks) (fun b u e => Heap.get?_push_of_some _ e) (Nat.le_refl _) ?_, rfl, q _ hf⟩
  exact ⟨z, us, r, ⟨_, Heap.get?_push_size _ rfl, rfl, _, rfl⟩⟩
theorem pe_lst (h : PA X es t) : PE X (.List es pos) (tLst t) := by
  intro pins s σ H Q I hq
  refine wpAny_List_spliced (thn (h pos pins s σ H _ I hq) fun us s1 ⟨xs, H1, I1, r, z, q⟩ => ⟨by rw [← r.length]; exact z, ?_⟩)
  have hf : H1 s1.heap.objs.size = none := I1.hok.fresh (Nat.le_refl _)
  refine ⟨.ref s1.heap.objs.size, upd H1 s1.heap.objs.size (.lst xs), I1.laid (t' := s1.toks) (fun b u e => Heap.get?_push_of_some _ e) (Nat.le_refl _) ?_, rfl, q _ hf⟩
  exact ⟨z, us, 0, r, Heap.get?_push_size _ rfl⟩
end
abbrev Sp := List V → Hp → VK → XK → Prop
abbrev CXT := List Env → Hp → Shared → XK → Value → Shared → Prop
structure Env0 (P : Program) (w : World) (K : PySem.W.Frag) (mg : Str → Option Value) (base : Heap) (A : Around) (outer : List Env) (s : Shared) (H : Hp) : Prop where
  frames : A.frames = some outer
  mod : Mod K mg base
  bs : ∀ b o, base.get? b = some o → s.heap.get? b = some o ∧ H b = none
  bsz : base.objs.size ≤ s.heap.objs.size
  funs : s.heap.FunFrames base outer
  frf : ∀ b ∈ frs outer, H b = none
  hok : HOk P w H s.heap
  bare : AllBare s.gens
def CE (outer : List Env) (P : Program) (w : World) (H : Hp) (s : Shared) (Q : VK) (u : Value) (s' : Shared) : Prop :=
  ∃ v H', s'.os = s.os ∧ AllBare s'.gens ∧ Un (frs outer) [] H H' s.heap s'.heap ∧ HOk P w H' s'.heap ∧ RelV v u ∧ Q v H'
def CR (CX : CXT) (outer : List Env) (P : Program) (w : World) (H : Hp) (s : Shared) (Q : VK) (E : XK) (r : Result) (s' : Shared) : Prop :=
  match r with
  | .ok (.ret u) => CE outer P w H s Q u s'
  | .ok _ => False
  | .error e => CX outer H s E e s'
structure FnOk (P : Program) (w : World) (K : PySem.W.Frag) (mg : Str → Option Value) (base : Heap) (CX : CXT) (k : Nat) (f : Addr) (fd : FuncData) (ps : List Str) (sp : Sp) : Prop where
  len : ∀ vs H Q E, sp vs H Q E → vs.length = ps.length
  run : ∀ (A : Around) (outer : List Env) (s : Shared) (H : Hp) (args : Args) (us : List Value) (vs : List V) (Q : VK) (E : XK), Room k A → Env0 P w K mg base A outer s H → BindsTo s fd args (ps.zip us) → Vals vs us → sp vs H Q E →
    codeAny (model P w) A (.call (.ref f) args) (CR CX outer P w H s Q E) s
theorem FnOk.mono {P : Program} {w : World} {K : PySem.W.Frag} {mg : Str → Option Value} {base : Heap} {CX : CXT} {j k : Nat} {f : Addr} {fd : FuncData} {ps : List Str} {sp : Sp} (F : FnOk P w K mg base CX j f fd ps sp) (h : j ≤ k) :
    FnOk P w K mg base CX k f fd ps sp := ⟨F.len, fun A outer s H args us vs Q E hr => F.run A outer s H args us vs Q E (hr.mono h)⟩
theorem FnOk.imp {P : Program} {w : World} {K : PySem.W.Frag} {mg : Str → Option Value} {base : Heap} {CX : CXT} {k : Nat} {f : Addr} {fd : FuncData} {ps : List Str} {sp sp' : Sp} (F : FnOk P w K mg base CX k f fd ps sp)
    (h : ∀ vs H Q E, sp' vs H Q E → sp vs H Q E) : FnOk P w K mg base CX k f fd ps sp' :=
  ⟨fun vs H Q E q => F.len vs H Q E (h _ _ _ _ q), fun A outer s H args us vs Q E hr he hb hv hs => F.run A outer s H args us vs Q E hr he hb hv (h _ _ _ _ hs)⟩
theorem Env0.in1 {P : Program} {w : World} {K : PySem.W.Frag} {mg : Str → Option Value} {base : Heap} {A : Around} {outer : List Env} {s : Shared} {H : Hp} (e : Env0 P w K mg base A outer s H) :
    Env0 P w K mg base A.in1 outer s H := ⟨e.frames, e.mod, e.bs, e.bsz, e.funs, e.frf, e.hok, e.bare⟩
section
variable {X : Cx} {pins : List (Addr × Obj)} {σ : St} {H : Hp} {s s' : Shared}
theorem Inv.env0 (I : Inv X pins σ H s) : Env0 X.prog X.w X.K X.mg X.base X.A X.stack s H :=
  ⟨I.ok.frames, I.ok.mod, I.bs, Nat.le_trans I.ok.bsz I.sz, I.stack, I.stkFree, I.hok, I.bare⟩
theorem Inv.after {Q : VK} {u : Value} (I : Inv X pins σ H s) (h : CE X.stack X.prog X.w H s Q u s') : EP X pins σ Q u s' := by
  obtain ⟨v, H', os, bare, un, hok, r, q⟩ := h
  obtain ⟨hh, g, d, t, os'⟩ := s'
  obtain rfl : os' = s.os := os
  exact ⟨v, H', I.call (h' := hh) (g' := g) (d' := d) (t' := t) (ch := []) un hok bare (fun b z => absurd z (by simp)), r, q⟩
end
def tCall (sp : Sp) (dvs : List V) (E : XK) (t : TA) : TE := fun σ H Q => t σ H fun vs H1 => sp (vs ++ dvs) H1 Q E
def Binds (K : PySem.W.Frag) (fd : FuncData) (ps : List Str) (ds : List Value) : Prop :=
  ∀ (s : Shared) (us : List Value), K.In s.heap → (us ++ ds).length = ps.length → BindsTo s fd ⟨us, []⟩ (ps.zip (us ++ ds))
theorem Binds.all {K : PySem.W.Frag} {fd : FuncData} {ps : List Str} (h : ∀ us : List Value, us.length = ps.length → bindArgs fd ⟨us, []⟩ = pure (ps.zip us)) : Binds K fd ps [] := fun s us _ hl => by
  rw [List.append_nil] at hl ⊢
  exact .of_eq (h us hl)
def Passes (CX : CXT) (X : Cx) (E : XK) : Prop := ∀ (pins : List (Addr × Obj)) (σ : St) (H : Hp) (s : Shared) (e : Value) (s' : Shared), Inv X pins σ H s → CX X.stack H s E e s' → X.xe e s'
section
variable {X : Cx} {CX : CXT} {k : Nat} {f C : Addr} {fd : FuncData} {ps : List Str} {sp : Sp} {dvs : List V} {ds : List Value} {E : XK} {x m : Str} {p pos apos : Pos} {e o : Expr} {es : List Expr} {ta : TE} {t : TA}
theorem run_fn {pins : List (Addr × Obj)} {σ : St} {H : Hp} {s : Shared} {Q : VK} {us : List Value} {vs : List V} (F : FnOk X.prog X.w X.K X.mg X.base CX k f fd ps sp) (hr : Room k X.A) (hb : Binds X.K fd ps ds) (hd : Vals dvs ds) (hx : Passes CX X E)
    (I : Inv X pins σ H s) (r : Vals vs us) (h : sp (vs ++ dvs) H Q E) : wpAny (model X.prog X.w) X.A (call (.ref f) us) (EP X pins σ Q) X.xe s := by
  have r2 : Vals (vs ++ dvs) (us ++ ds) := r.append hd
  have hl : (us ++ ds).length = ps.length := by rw [← r2.length]; exact F.len _ _ _ _ h
  refine wpAny_call (codeAny_mono (F.run X.A X.stack s H ⟨us, []⟩ (us ++ ds) (vs ++ dvs) Q E hr I.env0 (hb s us I.kIn hl) r2 h) fun r s' hq => ?_)
  cases r with
  | error e => exact hx pins σ H s e s' I hq
  | ok fl =>
    cases fl with
    | ret u => exact I.after hq
    | next => exact False.elim hq
    | brk => exact False.elim hq
    | cont => exact False.elim hq
theorem pe_call (F : FnOk X.prog X.w X.K X.mg X.base CX k f fd ps sp) (hr : Room k X.A) (hg : Gl X x) (hm : X.mg x = some (.ref f)) (hk : PySem.W.keepIn X.K (.ref f) = true) (hb : Binds X.K fd ps ds) (hd : Vals dvs ds) (hx : Passes CX X E)
    (ha : PA X (e :: es) t) (hdb : (x == ("__debug__" : Str)) = false := by decide) (he : starEach (e :: es) X.env = (false, eval e X.env) :: starEach es X.env := by rfl) (hpl : (backTo pos (starEach es X.env)).any (·.1) = false := by rfl) :
    PE X (.Call (.Name x p) (e :: es) [] pos) (tCall sp dvs E t) := by
  intro pins s σ H Q I h
  refine wpAny_Call_Name_kw (ld_glob I hg hm ?_ hdb)
  refine PySem.W.callWith_K (h₀ := X.base) I.ok.mod.kin hk (thn (ha pos pins s σ H _ I h) fun us s1 ⟨vs, H1, I1, r, q⟩ => ⟨I1.kIn, ?_⟩) he hpl
  exact run_fn F hr hb hd hx I1 r q
structure Mk (K : PySem.W.Frag) (C f : Addr) : Prop where
  makes : PySem.W.makesIn K C = true
  init : PySem.W.findIn K (.ref C) "__init__" = some (some (.ref f))
  fn : PySem.W.isFn K (.ref f) = true
  kp : PySem.W.keepIn K (.ref C) = true
end
def PK (X : Cx) (kws : List Keyword) (t : TA) : Prop :=
  ∀ (pos : Pos) (pins : List (Addr × Obj)) (s : Shared) (σ : St) (H : Hp) (Q : List V → Hp → Prop), Inv X pins σ H s → t σ H Q → wpAny (model X.prog X.w) X.A (evalAll ((backToKw pos (keywordEach kws X.env)).map (·.2))) (AP X pins σ Q) X.xe s
section
variable {X : Cx} {CX : CXT} {k : Nat} {f C : Addr} {fd : FuncData} {ps ks : List Str} {sp : Sp} {E : XK} {x m : Str} {p pos apos kpos : Pos} {e o : Expr} {es : List Expr} {kws : List Keyword} {te ta : TE} {t tk : TA} {nm : Option Str}
structure KBinds (K : PySem.W.Frag) (fd : FuncData) (ps ks : List Str) (g : List Value → List Value → List Value) (gV : List V → List V → List V) : Prop where
  to : ∀ (s : Shared) (us ws : List Value), K.In s.heap → (g us ws).length = ps.length → BindsTo s fd ⟨us, ks.zip ws⟩ (ps.zip (g us ws))
  rel : ∀ {vs : List V} {us : List Value} {zs : List V} {ws : List Value}, Vals vs us → Vals zs ws → Vals (gV vs zs) (g us ws)
variable {g : List Value → List Value → List Value} {gV : List V → List V → List V}
end
structure FnScope (N P : List Str) (sc : Scope) : Prop where
  kind : sc.kind = .function
  co : sc.isCoroutine = false
  gen : sc.isGenerator = false
  nd : N.Nodup
  pre : N.take P.length = P
  par : ∀ x ∈ P, sc.names.lookup x = some .local ∨ sc.names.lookup x = some .cell
  nofree : ∀ y ∈ sc.names, y.2 ≠ .free
theorem bindL_out {kindOf : Str → Option NameKind} {x : Str} : ∀ {binds : List (Str × Value)} {m : Str → Option Value}, (∀ v, (x, v) ∉ binds) → bindL kindOf binds m x = m x
  | [], _, _ => rfl
  | (n, v) :: r, m, h => by
    unfold bindL
    rw [bindL_out fun w hw => h w (List.mem_cons_of_mem _ hw)]
    split
    · have : x ≠ n := by rintro rfl; exact h v List.mem_cons_self
      simp [this]
    · rfl
theorem bindC_out {kindOf : Str → Option NameKind} {x : Str} : ∀ {binds : List (Str × Value)} {m : Str → Option Value}, (∀ v, (x, v) ∉ binds) → bindC kindOf binds m x = m x
  | [], _, _ => rfl
  | (n, v) :: r, m, h => by
    unfold bindC
    rw [bindC_out fun w hw => h w (List.mem_cons_of_mem _ hw)]
    split
    · rfl
    · have : x ≠ n := by rintro rfl; exact h v List.mem_cons_self
      simp [this]
theorem bindL_get {kindOf : Str → Option NameKind} {x : Str} {v : Value} : ∀ {P : List Str} {vs : List Value} {i : Nat} {m : Str → Option Value}, P.Nodup → P[i]? = some x → vs[i]? = some v → kindOf x = some .local →
    bindL kindOf (P.zip vs) m x = some v
  | [], _, _, _, _, h, _, _ => by simp at h
  | _ :: _, [], _, _, _, _, h, _ => by simp at h
  | p :: P, w :: vs, 0, m, nd, h1, h2, hk => by
    simp at h1 h2; subst h1; subst h2
    show bindL kindOf ((p, w) :: P.zip vs) m p = _
    unfold bindL
    rw [bindL_out fun v hv => (List.nodup_cons.mp nd).1 (List.of_mem_zip hv).1, if_pos hk]
    simp
  | p :: P, w :: vs, i + 1, m, nd, h1, h2, hk => by
    show bindL kindOf ((p, w) :: P.zip vs) m x = _
    unfold bindL
    exact bindL_get (i := i) (List.nodup_cons.mp nd).2 (by simpa using h1) (by simpa using h2) hk
theorem bindC_get {kindOf : Str → Option NameKind} {x : Str} {v : Value} : ∀ {P : List Str} {vs : List Value} {i : Nat} {m : Str → Option Value}, P.Nodup → P[i]? = some x → vs[i]? = some v → kindOf x ≠ some .local →
    bindC kindOf (P.zip vs) m x = some v
  | [], _, _, _, _, h, _, _ => by simp at h
  | _ :: _, [], _, _, _, _, h, _ => by simp at h
  | p :: P, w :: vs, 0, m, nd, h1, h2, hk => by
    simp at h1 h2; subst h1; subst h2
    show bindC kindOf ((p, w) :: P.zip vs) m p = _
    unfold bindC
    rw [bindC_out fun v hv => (List.nodup_cons.mp nd).1 (List.of_mem_zip hv).1, if_neg hk]
    simp
  | p :: P, w :: vs, i + 1, m, nd, h1, h2, hk => by
    show bindC kindOf ((p, w) :: P.zip vs) m x = _
    unfold bindC
    exact bindC_get (i := i) (List.nodup_cons.mp nd).2 (by simpa using h1) (by simpa using h2) hk
def start (N : List Str) (vs : List V) : St := vs.map some ++ List.replicate (N.length - vs.length) none
def cxOf (CX : CXT) (P : Program) (w : World) (K : PySem.W.Frag) (mg : Str → Option Value) (base : Heap) (N : List Str) (qual : Str) (scope : Scope) (f : Addr) (cd : Value) (A : Around) (outer : List Env) (s : Shared) (H : Hp) (E : XK) : Cx where
  prog := P
  w := w
  K := K
  mg := mg
  base := base
  A := A.deeper (envOfC qual scope s.heap.objs.size f cd)
  N := N
  s₀ := s
  H₀ := H
  env := envOfC qual scope s.heap.objs.size f cd
  outer := outer
  stack := envOfC qual scope s.heap.objs.size f cd :: outer
  ex := []
  calm := true
  fn := fun _ => true
  pn := []
  xe := fun e s' => wpAny (model P w) (A.deeper (envOfC qual scope s.heap.objs.size f cd)) (leaving (envOfC qual scope s.heap.objs.size f cd) e) (fun _ s'' => CX outer H s E e s'') (fun e' s'' => CX outer H s E e' s'') s'
theorem cell_has {sc : Scope} {n : Nat} {x : Str} (h : sc.names.lookup x = some .cell) : ∃ c, (cellsFrom n sc.names []).lookup x = some c := by
  have q := PySem.W.cellsFrom_some sc.names n [] (.inl h)
  exact Option.isSome_iff_exists.mp q
theorem inv_start {CX : CXT} {P : Program} {w : World} {K : PySem.W.Frag} {mg : Str → Option Value} {base : Heap} {N ps : List Str} {qual : Str} {scope : Scope} {f : Addr} {cd : Value} {A : Around} {outer : List Env} {s s1 : Shared} {H : Hp} {E : XK} {us : List Value} {vs : List V}
    (S : FnScope N ps scope) (hd : A.handled = none) (e0 : Env0 P w K mg base A outer s H) (hl : vs.length = ps.length) (r : Vals vs us)
    (x : InCallC s s.heap.objs.size (bindL (envOfC qual scope s.heap.objs.size f cd).kindOf (ps.zip us) fun _ => none) (cellsFrom (s.heap.objs.size + 1) scope.names []) (bindC (envOfC qual scope s.heap.objs.size f cd).kindOf (ps.zip us) fun _ => none) s1) :
    Inv (cxOf CX P w K mg base N qual scope f cd A outer s H E) [] (start N vs) H s1 := by
  have hpl : ps.length ≤ N.length := by have := congrArg List.length S.pre; rw [List.length_take] at this; omega
  obtain ⟨h1, tk, rfl, hk⟩ := x.done
  have noA : ∀ b : Addr, b ∉ (cxOf CX P w K mg base N qual scope f cd A outer s H E).ex := fun b z => absurd (show b ∈ ([] : List Addr) from z) (by simp)
  refine ⟨⟨e0.mod, S.kind, rfl, rfl, Nat.le_refl _, fun y z c h1 h2 => ?_, fun y hy => ?_, fun y c _ h => ?_, fun _ => hd, Around.frames_deeper e0.frames, .inr ⟨rfl, rfl⟩, fun b z => absurd z (noA b), e0.bs, e0.bsz, fun b _ _ => noA b, fun b z => absurd z (noA b), e0.funs, e0.frf⟩,
    rfl, e0.bare, Un.kept hk, ⟨_, x.toInCall.ns, fun i y v h1 h2 h3 => ?_⟩, fun y c h => ⟨_, x.cell y c h⟩, e0.hok.fresh (Nat.le_refl _), fun y c h => ?_, fun p hp => absurd (show p ∈ ([] : List (Addr × Obj)) from hp) (by simp), e0.hok.kept hk, ?_⟩
  · exact name_of_addr x.apart (PySem.mem_of_lookup h1) (PySem.mem_of_lookup h2)
  · have hy : scope.names.lookup y = some .cell ∨ scope.names.lookup y = some .free := hy
    rcases hy with hy | hy
    · exact cell_has hy
    · exact absurd rfl (S.nofree _ (PySem.mem_of_lookup hy))
  · exact Nat.le_of_lt (x.above y c (PySem.mem_of_lookup h))
  · have hi : i < vs.length := by
      unfold start at h2
      by_cases hi : i < vs.length
      · exact hi
      · rw [List.getElem?_append_right (by simpa using hi)] at h2
        rw [List.getElem?_replicate] at h2
        split at h2 <;> cases h2
    have ha : vs[i]? = some v := by
      unfold start at h2
      rw [List.getElem?_append_left (by simpa using hi), List.getElem?_map] at h2
      cases e : vs[i]? with
      | none => rw [e] at h2; cases h2
      | some a => rw [e] at h2; cases h2; rfl
    obtain ⟨u, hu, rv⟩ := r.get ha
    have hp : ps[i]? = some y := by
      rw [← S.pre, List.getElem?_take_of_lt (by omega)]; exact h1
    have ndP : ps.Nodup := by rw [← S.pre]; exact S.nd.sublist (List.take_sublist _ _)
    refine ⟨u, rv, ?_⟩
    rcases S.par y (List.mem_of_getElem? hp) with k | k
    · exact .inl ⟨k, bindL_get ndP hp hu k⟩
    · obtain ⟨c, e⟩ := cell_has (n := s.heap.objs.size + 1) k
      refine .inr ⟨.inl k, c, e, ?_⟩
      have q := x.cell y c e
      rw [bindC_get ndP hp hu (by show scope.names.lookup y ≠ _; rw [k]; decide)] at q
      exact q
  · exact e0.hok.fresh (Nat.le_of_lt (x.above y c (PySem.mem_of_lookup h)))
  · unfold start
    show _ = N.length
    rw [List.length_append, List.length_map, List.length_replicate]
    omega
theorem fn_of {CX : CXT} {P : Program} {w : World} {K : PySem.W.Frag} {mg : Str → Option Value} {base : Heap} {k : Nat} {f : Addr} {name qual : Str} {params : Arguments} {body : List Stmt} {scope : Scope} {dV kV doc pm cdv ct oc : Value} {an od : Option Addr}
    {osl : Array (Option Value)} {N ps : List Str} {sp : Sp} (lk : K.lookup f = some ⟨oc, od, .func (PySem.W.fnOf name qual params body scope dV kV doc pm an cdv ct), osl⟩) (hcd : PySem.W.codeIn K cdv qual = true) (S : FnScope N ps scope)
    (len : ∀ vs H Q E, sp vs H Q E → vs.length = ps.length)
    (hbody : ∀ (A : Around) (outer : List Env) (s : Shared) (H : Hp) (vs : List V) (Q : VK) (E : XK), Room k (A.deeper (envOfC qual scope s.heap.objs.size f cdv)) → sp vs H Q E →
      ∃ t, PSs (cxOf CX P w K mg base N qual scope f cdv A outer s H E) body t ∧ t { nx := fun _ H' => Q .non H', rt := Q } (start N vs) H) :
    FnOk P w K mg base CX (k + 1) f (PySem.W.fnOf name qual params body scope dV kV doc pm an cdv ct) ps sp := by
  refine ⟨len, fun A outer s H args us vs Q E hr e0 hb r hsp => ?_⟩
  have hl := len _ _ _ _ hsp
  have KX : K.In s.heap := e0.mod.kin.keeps fun b o e => (e0.bs b o e).1
  have lim : s.heap.NoLimit := e0.mod.nolimit.keeps fun b o e => (e0.bs b o e).1
  have hkind : ∀ y ∈ ps.zip us, scope.names.lookup y.1 = some .local ∨ (scope.names.lookup y.1 = some .cell ∧ ((cellsFrom (s.heap.objs.size + 1) scope.names []).lookup y.1).isSome = true) := fun ⟨n, v⟩ hy => by
    rcases S.par n (List.of_mem_zip hy).1 with q | q
    · exact .inl q
    · exact .inr ⟨q, PySem.W.cellsFrom_some _ _ _ (.inl q)⟩
  refine codeAny_call_function hr.depth (KX _ _ lk) rfl S.co S.gen rfl (PySem.W.codeRec_of KX hcd) (hb _ _ _ _ ?_)
  refine wpAny_newFunctionEnv_cells S.kind hkind fun env he s1 x => ?_
  subst he
  refine ⟨lim.keeps x.toInCall.keep, codeAny_func ?_⟩
  obtain ⟨t, ht, hq⟩ := hbody A outer s H vs Q E (hr.deeper _) hsp
  have I : Inv (cxOf CX P w K mg base N qual scope f cdv A outer s H E) [] (start N vs) H s1 := inv_start S hr.hd e0 hl r x
  refine wpAny_mono (ht [] s1 (start N vs) H _ I hq) (fun fl s' hs => ?_) fun e s' hs => hs
  have fin : ∀ {σ' : St} {H' : Hp} {v : V} {u : Value}, Inv (cxOf CX P w K mg base N qual scope f cdv A outer s H E) [] σ' H' s' → RelV v u → Q v H' → CE outer P w H s Q u s' :=
    fun {σ' H' v u} J rv q => ⟨v, H', J.os, J.bare, J.base, J.hok, rv, q⟩
  cases fl with
  | ret u =>
    obtain ⟨v, σ', H', J, rv, q⟩ := hs
    exact fin J rv q
  | next =>
    obtain ⟨σ', H', J, q⟩ := hs
    exact fin (v := V.non) (u := Value.none) J rfl q
  | brk =>
    obtain ⟨_, _, _, q⟩ := hs
    exact False.elim q
  | cont =>
    obtain ⟨_, _, _, q⟩ := hs
    exact False.elim q
end L2
namespace L2
open PySem PySem.Spec PyProof.Rows
section
variable {X : Cx} {x : Str} {p pos : Pos} {e : Expr} {es : List Expr} {t : TA} {id T : String} {r : List V → Hp → VK → Prop}
def tCB (r : List V → Hp → VK → Prop) (t : TA) : TE := fun σ H Q => t σ H fun vs H1 => r vs H1 Q
theorem pe_callB (hc : CallR X (.builtin id) r) (hg : Gl X x) (hm : X.mg x = none) (hv : bootBuiltins x = some (.builtin id)) (ha : PA X (e :: es) t) (hn : x ≠ "__name__" := by decide) (hdb : (x == ("__debug__" : Str)) = false := by decide)
    (he : starEach (e :: es) X.env = (false, eval e X.env) :: starEach es X.env := by rfl) (hpl : (backTo pos (starEach es X.env)).any (·.1) = false := by rfl) : PE X (.Call (.Name x p) (e :: es) [] pos) (tCB r t) := by
  intro pins s σ H Q I h
  refine wpAny_Call_Name_kw (ld_blt I hg hm hv ?_ hn hdb)
  exact PyProof.Rows.callWith_builtin1 (thn (ha pos pins s σ H _ I h) fun us s1 ⟨vs, H1, I1, r1, q1⟩ => hc pins s1 σ H1 vs us Q I1 r1 q1) he hpl
theorem pe_callTy (hc : CallR X (.type T) r) (hg : Gl X x) (hm : X.mg x = none) (hv : bootBuiltins x = some (.type T)) (ha : PA X (e :: es) t) (hn : x ≠ "__name__" := by decide) (hdb : (x == ("__debug__" : Str)) = false := by decide)
    (he : starEach (e :: es) X.env = (false, eval e X.env) :: starEach es X.env := by rfl) (hpl : (backTo pos (starEach es X.env)).any (·.1) = false := by rfl) : PE X (.Call (.Name x p) (e :: es) [] pos) (tCB r t) := by
  intro pins s σ H Q I h
  refine wpAny_Call_Name_kw (ld_blt I hg hm hv ?_ hn hdb)
  exact PyProof.Rows.callWith_type1 (thn (ha pos pins s σ H _ I h) fun us s1 ⟨vs, H1, I1, r1, q1⟩ => hc pins s1 σ H1 vs us Q I1 r1 q1) he hpl
end
end L2
namespace HT
open PySem PyProof.Rows
section
open PySem.SeqAt
open PySem.AutoSeq1 (wpAny_loadPart')
open PySem.MeetsSeq PySem.MeetsSeq2 PySem.MeetsSeq3
end
section
variable {prog : Program} {w : World} {A : Around} {E : Value → Shared → Prop} {s : Shared}
theorem cat_tup {t b : Addr} {vs ws : List Value} {Q : Value → Shared → Prop} (ht : IsTup s.heap t vs.toArray) (hb : IsTup s.heap b ws.toArray) (hv : vs ≠ [])
    (h1 : ws = [] → Q (.ref t) s) (h2 : ws ≠ [] → Q (.ref s.heap.objs.size) { s with heap := s.heap.push { cls := .type "tuple", data := .seq (vs ++ ws).toArray } })
    (hsz : vs.length + ws.length ≤ sizeLine) : wpAny (model prog w) A (binaryOp .Add (.ref t) (.ref b)) Q E s := by
  obtain ⟨⟨cls, dd, data, sl⟩, ho, hc, n, hd⟩ := id ht
  obtain ⟨⟨cls2, dd2, data2, sl2⟩, ho2, hc2, n2, hd2⟩ := id hb
  simp only at hc hd hc2 hd2
  subst hc hd hc2 hd2
  have e : vs.toArray ++ ws.toArray = (vs ++ ws).toArray := by simp
  by_cases hw : ws = []
  · exact concat_meets ⟨_, ho, rfl⟩ ⟨_, ho2, rfl⟩ noFill_tuple_add seq_tuple_add PySem.F.slot_tuple_add PySem.F.entry_tuple_add (PySem.F.args_tuple_add_2 _ _)
      (tuple_addW1 t b vs.toArray ws.toArray n n2 dd dd2 sl sl2 (by simpa using hv) (by simp [hw])) ⟨ho, ho2, h1 hw⟩
  · refine concat_meets ⟨_, ho, rfl⟩ ⟨_, ho2, rfl⟩ noFill_tuple_add seq_tuple_add PySem.F.slot_tuple_add PySem.F.entry_tuple_add (PySem.F.args_tuple_add_2 _ _)
      (tuple_addW2 t b vs.toArray ws.toArray n n2 dd dd2 sl sl2 (by simpa using hv) (by simpa using hw) (by rw [List.size_toArray, List.size_toArray]; exact hsz)) ⟨ho, ho2, ?_⟩
    rw [e]
    exact h2 hw
def sIx (n d : Nat) : Option Int → Nat
  | none => d
  | some v => if v < 0 then (v + (n : Int)).toNat else min v.toNat n
theorem sIx_none (n d : Nat) : sIx n d none = d := rfl
theorem sIx_nat (n d k : Nat) : sIx n d (some (k : Int)) = min k n := by
  show (if (k : Int) < 0 then ((k : Int) + (n : Int)).toNat else min (k : Int).toNat n) = min k n
  rw [if_neg (by omega), Int.toNat_natCast]
theorem sIx_le (n d : Nat) (hd : d ≤ n) (o : Option Int) : sIx n d o ≤ n := by
  cases o with
  | none => exact hd
  | some v =>
    show (if v < 0 then (v + (n : Int)).toNat else min v.toNat n) ≤ n
    by_cases hv : v < 0
    · rw [if_pos hv]; omega
    · rw [if_neg hv]; exact Nat.min_le_right _ _
theorem clip_eq (v : Int) (n d : Nat) : (if v < 0 then max (v + (n : Int)) 0 else min v (n : Int)) = ((sIx n d (some v) : Nat) : Int) := by
  show (if v < 0 then max (v + (n : Int)) 0 else min v (n : Int)) = (((if v < 0 then (v + (n : Int)).toNat else min v.toNat n) : Nat) : Int)
  by_cases hv : v < 0
  · simp only [if_pos hv]; omega
  · simp only [if_neg hv]; omega
theorem adjust_gen (lo hi : Option Int) (n : Nat) : Builtin.Slice.sliceAdjust lo hi 1 (n : Int) = (((sIx n 0 lo : Nat) : Int), ((sIx n n hi : Nat) : Int)) := by
  have h1 : ¬ ((1 : Int) < 0) := by omega
  unfold Builtin.Slice.sliceAdjust
  simp only [h1, if_false]
  refine Prod.ext ?_ ?_
  · cases lo with
    | none => rfl
    | some v => exact clip_eq v n 0
  · cases hi with
    | none => rfl
    | some v => exact clip_eq v n n
theorem places_gen (i j : Nat) : Builtin.Slice.slicePlaces (i : Int) (j : Int) 1 = j - i := by
  unfold Builtin.Slice.slicePlaces
  have h1 : (1 : Int) > 0 := by omega
  simp only [h1, if_true, Int.ediv_one]
  split <;> omega
theorem slicePart_ {v : Value} {o : Option Int} {Q : Option Int → Shared → Prop} (p : IsPart v o) (h : Q o s) : wpAny (model prog w) A (Builtin.Slice.slicePartIndex v) Q E s := by
  cases p with
  | none => exact slicePart_none h
  | int i t => exact slicePart_int h
theorem sliceApplied_gen {sl : Addr} {vl vu : Value} {lo hi : Option Int} {n : Nat} {Q : Int × Int × Nat → Shared → Prop} (hs : s.heap.IsSliceOf sl vl vu .none) (pl : IsPart vl lo) (pu : IsPart vu hi)
    (h : Q (((sIx n 0 lo : Nat) : Int), 1, sIx n n hi - sIx n 0 lo) s) : wpAny (model prog w) A (Builtin.Slice.sliceApplied (.ref sl) (pure (n : Int))) Q E s := by
  obtain ⟨os, hos, hcs, hds⟩ := id hs
  unfold Builtin.Slice.sliceApplied Builtin.Slice.sliceFields
  refine wpAny_bind (wpAny_bind (wpAny_field hos hds (x := vl) rfl (wpAny_bind (wpAny_field hos hds (x := vu) rfl (wpAny_bind (wpAny_field hos hds (x := .none) rfl (wpAny_pure ?_)))))))
  refine wpAny_bind (slicePart_none ?_)
  show wpAny _ _ (if ((1 : Int) == 0) = true then _ else _) _ _ s
  rw [if_neg (by decide)]
  refine wpAny_bind (slicePart_ pl (wpAny_bind (slicePart_ pu (wpAny_bind (wpAny_pure ?_)))))
  show wpAny _ _ (match Builtin.Slice.sliceAdjust lo hi 1 (n : Int) with | (lo, hi) => pure (lo, (1 : Int), Builtin.Slice.slicePlaces lo hi 1)) _ _ s
  rw [adjust_gen lo hi n]
  show wpAny _ _ (pure (((sIx n 0 lo : Nat) : Int), (1 : Int), Builtin.Slice.slicePlaces ((sIx n 0 lo : Nat) : Int) ((sIx n n hi : Nat) : Int) 1)) _ _ s
  rw [places_gen]
  exact wpAny_pure h
theorem pick_gen (xs : Array Value) (i k : Nat) : ((List.range k).filterMap fun (m : Nat) => xs[((i : Int) + (m : Int) * 1).toNat]?).toArray = ((xs.toList.drop i).take k).toArray := by
  have e : (fun (m : Nat) => xs[((i : Int) + (m : Int) * 1).toNat]?) = fun m => xs[i + m]? := by
    funext m
    have : ((i : Int) + (m : Int) * 1).toNat = i + m := by omega
    rw [this]
  rw [e]
  have := pick_run xs i k
  rw [List.filterMap_map] at this
  have e2 : ((fun x => xs[x]?) ∘ fun x => i + x) = fun m => xs[i + m]? := rfl
  rw [e2] at this
  rw [this]
theorem getItem_tuple_cut {t sl : Addr} {items : Array Value} {vl vu : Value} {lo hi : Option Int} {Q : Value → Shared → Prop} (ht : IsTup s.heap t items) (hs : s.heap.IsSliceOf sl vl vu .none) (pl : IsPart vl lo) (pu : IsPart vu hi)
    (hw : ¬ (sIx items.size 0 lo = 0 ∧ sIx items.size items.size hi = items.size))
    (h : Q (.ref s.heap.objs.size) { s with heap := s.heap.push { cls := .type "tuple", data := .seq ((items.toList.drop (sIx items.size 0 lo)).take (sIx items.size items.size hi - sIx items.size 0 lo)).toArray } })
    (hsz : items.size ≤ sizeLine) : wpAny (model prog w) A (getItem (.ref t) (.ref sl)) Q E s := by
  have htake : sizeOk (.seq ((items.toList.drop (sIx items.size 0 lo)).take (sIx items.size items.size hi - sIx items.size 0 lo)).toArray) := by
    show ((items.toList.drop (sIx items.size 0 lo)).take (sIx items.size items.size hi - sIx items.size 0 lo)).toArray.size ≤ sizeLine
    rw [List.size_toArray, List.length_take, List.length_drop, Array.length_toList]
    omega
  have hj : sIx items.size items.size hi ≤ items.size := sIx_le _ _ (Nat.le_refl _) hi
  obtain ⟨os, hos, hcs, hds⟩ := id hs
  have hTs : s.TypeIs (.ref sl) "slice" := ⟨os, hos, hcs⟩
  unfold getItem
  try with_reducible refine wpAny_holding ?_
  first | refine wpAny_bind (wpAny_pure ?_) | skip
  refine wpAny_bind (wpAny_sequenceKey ht.typeIs (by decide) ?_)
  refine wpAny_bind (wpAny_callSpecial?_slot (name := Str.ofString "__getitem__") ht.typeIs PyProof.Rows.slot_tuple_getitem
    (wpAny_call_entry PyProof.Rows.slot_tuple_getitem ht.typeIs entry_tuple_getitem ?_ (args_tuple_getitem _ _)))
  show wpAny _ _ (Builtin.Tuple.tupleItemsOf (.ref t) >>= _) _ _ s
  refine wpAny_bind (tupleItemsOf_ ht ?_)
  refine wpAny_bind (wpAny_typeOf hTs ?_)
  rw [if_pos (by decide)]
  refine wpAny_bind (sliceApplied_gen hs pl pu ?_)
  have hno : ¬ ((((sIx items.size 0 lo : Nat) : Int) == 0 && (1 : Int) == 1 && (sIx items.size items.size hi - sIx items.size 0 lo) == items.size) = true) := by
    intro q
    rw [Bool.and_eq_true, Bool.and_eq_true] at q
    have q1 : ((sIx items.size 0 lo : Nat) : Int) = 0 := eq_of_beq q.1.1
    have q2 : sIx items.size items.size hi - sIx items.size 0 lo = items.size := eq_of_beq q.2
    exact hw ⟨by omega, by omega⟩
  show wpAny _ _ (if (((sIx items.size 0 lo : Nat) : Int) == 0 && (1 : Int) == 1 && (sIx items.size items.size hi - sIx items.size 0 lo) == items.size) = true then _ else _) _ _ s
  rw [if_neg hno, pick_gen]
  first
    | exact wpAny_bind (m := Builtin.Tuple.tupleExact _) (wpAny_newObj_type (wpAny_pure ⟨_, rfl, wpAny_pure h⟩) htake)
    | exact wpAny_bind (m := Builtin.Tuple.tupleExact _) (wpAny_newObj_type (wpAny_bind (wpAny_pure (wpAny_pure ⟨_, rfl, wpAny_pure h⟩))) htake)
    | exact wpAny_bind (wpAny_bind (m := Builtin.Tuple.tupleExact _) (wpAny_newObj_type (wpAny_pure (wpAny_pure ⟨_, rfl, wpAny_pure h⟩)) htake))
    | exact wpAny_bind (wpAny_bind (m := Builtin.Tuple.tupleExact _) (wpAny_newObj_type (wpAny_pure ⟨_, rfl, wpAny_pure h⟩) htake))
end
end HT
namespace L2
open PySem PySem.Spec PyProof.Rows
abbrev TO := St → Hp → (Option Int → Hp → Prop) → Prop
def PO (X : Cx) (e : Option Expr) (t : TO) : Prop :=
  ∀ (pins : List (Addr × Obj)) (s : Shared) (σ : St) (H : Hp) (Q : Option Int → Hp → Prop), Inv X pins σ H s → t σ H Q →
    wpAny (model X.prog X.w) X.A (evalPart e X.env) (fun u s' => ∃ o H', Inv X pins σ H' s' ∧ IsPart u o ∧ Q o H') X.xe s
def tNoPart : TO := fun _ H Q => Q none H
def tPart (t : TE) : TO := fun σ H Q => t σ H fun x H1 => ∃ i, x = .int i ∧ Q (some i) H1
section
variable {X : Cx} {e : Expr} {te : TE} {lo hi : Option Expr} {tl th : TO} {pos p2 : Pos}
theorem po_none : PO X none tNoPart := by
  intro pins s σ H Q I h
  rw [evalPart_none]
  exact wpAny_pure ⟨none, H, I, .none, h⟩
theorem po_some (h : PE X e te) : PO X (some e) (tPart te) := by
  intro pins s σ H Q I hw
  rw [evalPart_some]
  refine thn (h pins s σ H _ I hw) fun u s1 ⟨x, H1, I1, r1, q1⟩ => ?_
  obtain ⟨i, rfl, q⟩ := q1
  obtain ⟨t, rfl⟩ := r1
  exact ⟨some i, H1, I1, .int i t, q⟩
def SlR (X : Cx) (r : V → Option Int → Option Int → Hp → VK → Prop) : Prop :=
  ∀ (pins : List (Addr × Obj)) (s : Shared) (σ : St) (H : Hp) (x : V) (v vl vu : Value) (lo hi : Option Int) (sl : Addr) (Q : VK), Inv X pins σ H s → RelV x v → s.heap.IsSliceOf sl vl vu .none → IsPart vl lo → IsPart vu hi → r x lo hi H Q →
    ∃ T id, typeLookup (.type T) "__getitem__" = pure (some (.builtin id)) ∧ s.TypeIs v T ∧ wpAny (model X.prog X.w) X.A (getItem v (.ref sl)) (EP X pins σ Q) X.xe s
theorem SlR.or {r r' : V → Option Int → Option Int → Hp → VK → Prop} (h : SlR X r) (h' : SlR X r') : SlR X (fun x lo hi H Q => r x lo hi H Q ∨ r' x lo hi H Q) := by
  intro pins s σ H x v vl vu lo hi sl Q I rx hs pl pu q
  rcases q with q | q
  · exact h pins s σ H x v vl vu lo hi sl Q I rx hs pl pu q
  · exact h' pins s σ H x v vl vu lo hi sl Q I rx hs pl pu q
def tSl (r : V → Option Int → Option Int → Hp → VK → Prop) (te : TE) (tl th : TO) : TE := fun σ H Q => te σ H fun x H1 => tl σ H1 fun l H2 => th σ H2 fun u H3 => r x l u H3 Q
theorem pe_slice {r : V → Option Int → Option Int → Hp → VK → Prop} (hr : SlR X r) (he : PE X e te) (hl : PO X lo tl) (hu : PO X hi th) : PE X (.Subscript e (.Slice lo hi none p2) pos) (tSl r te tl th) := by
  intro pins s σ H Q I h
  refine Subscript_ (thn (he pins s σ H _ I h) fun v s1 ⟨x, H1, I1, r1, q1⟩ => ?_)
  refine wpAny_Slice (thn (hl pins s1 σ H1 _ I1 q1) fun vl s2 ⟨l, H2, I2, pl, q2⟩ => thn (hu pins s2 σ H2 _ I2 q2) fun vu s3 ⟨u, H3, I3, pu, q3⟩ => ?_)
  rw [evalPart_none]
  refine wpAny_pure ?_
  have I4 : Inv X pins σ H3 { s3 with heap := s3.heap.push { cls := .type "slice", data := .fields #[vl, vu, .none] } } := I3.kept (t' := s3.toks) fun b ob q => Heap.get?_push_of_some _ q
  obtain ⟨T, id, hT, ht, hg⟩ := hr pins { s3 with heap := s3.heap.push { cls := .type "slice", data := .fields #[vl, vu, .none] } } σ H3 x v vl vu l u s3.heap.objs.size Q I4 r1 (Heap.IsSliceOf.new ..) pl pu q3
  show wpAny (model X.prog X.w) X.A (subscriptTail e (.Slice lo hi none p2) v (.ref s3.heap.objs.size)) (EP X pins σ Q) X.xe { s3 with heap := s3.heap.push { cls := .type "slice", data := .fields #[vl, vu, .none] } }
  exact tail_any (ops := [.ref s3.heap.objs.size, v]) ht hT hg (by with_unfolding_all rfl)
def cutV (xs : List V) (lo hi : Option Int) : List V := (xs.drop (HT.sIx xs.length 0 lo)).take (HT.sIx xs.length xs.length hi - HT.sIx xs.length 0 lo)
theorem cutV_length (xs : List V) (lo hi : Option Int) : (cutV xs lo hi).length ≤ xs.length := by
  unfold cutV
  rw [List.length_take, List.length_drop]
  omega
def rSlT (K : PySem.W.Frag) : V → Option Int → Option Int → Hp → VK → Prop := fun x lo hi H Q => ∃ a xs, x = .ref a ∧ SqT K H a xs ∧
  ¬ (HT.sIx xs.length 0 lo = 0 ∧ HT.sIx xs.length xs.length hi = xs.length) ∧ ∀ p, H p = none → Q (.ref p) (upd H p (.tup (cutV xs lo hi)))
theorem sl_tup : SlR X (rSlT X.K) := by
  intro pins s σ H x v vl vu lo hi sl Q I rx hs pl pu h
  obtain ⟨a, xs, rfl, hx, hw, q⟩ := h
  cases rx
  obtain ⟨its, r, ht, hz⟩ := I.tuple hx
  have hlen : its.toArray.size = xs.length := by rw [List.size_toArray]; exact r.length.symm
  refine ⟨"tuple", _, PyProof.Rows.slot_tuple_getitem.lookup, ht.typeIs, ?_⟩
  refine HT.getItem_tuple_cut ht hs pl pu (by rw [hlen]; exact hw) ?_ (by rw [hlen]; exact hz)
  rw [hlen]
  refine ⟨.ref s.heap.objs.size, _, I.laid (t' := s.toks) (o := .tup (cutV xs lo hi)) (fun b ob q => Heap.get?_push_of_some _ q) (Nat.le_refl _) ?_, rfl, q _ (I.hok.fresh (Nat.le_refl _))⟩
  exact ⟨Nat.le_trans (cutV_length xs lo hi) hz, _, (r.drop (HT.sIx xs.length 0 lo)).take (HT.sIx xs.length xs.length hi - HT.sIx xs.length 0 lo), IsTup.new _ _⟩
def rCatT (K : PySem.W.Frag) : R2 := fun x y H Q => ∃ a b xs ys, x = .ref a ∧ y = .ref b ∧ SqT K H a xs ∧ SqT K H b ys ∧ xs ≠ [] ∧ xs.length + ys.length ≤ sizeLine ∧
  (ys = [] → Q (.ref a) H) ∧ (ys ≠ [] → ∀ p, H p = none → Q (.ref p) (upd H p (.tup (xs ++ ys))))
theorem Vals.nil_iff {xs : List V} {us : List Value} (r : Vals xs us) : us = [] ↔ xs = [] := by
  cases r with
  | nil => simp
  | cons _ _ => simp
theorem op_catT : OpR X (binaryOp .Add) (rCatT X.K) := by
  intro pins s σ H x y v u Q I rx ry h
  obtain ⟨a, b, xs, ys, rfl, rfl, ha, hb, hx, hz, q1, q2⟩ := h
  cases rx
  cases ry
  obtain ⟨its, r1, p1, _⟩ := I.tuple ha
  obtain ⟨its2, r2, p2, _⟩ := I.tuple hb
  refine HT.cat_tup p1 p2 (fun z => hx (r1.nil_iff.mp z)) (fun z => ⟨.ref a, H, I, rfl, q1 (r2.nil_iff.mp z)⟩) (fun z => ?_) (by rw [← r1.length, ← r2.length]; exact hz)
  refine ⟨.ref s.heap.objs.size, _, I.laid (t' := s.toks) (o := .tup (xs ++ ys)) (fun b ob q => Heap.get?_push_of_some _ q) (Nat.le_refl _) ?_, rfl, q2 (fun w => z (r2.nil_iff.mpr w)) _ (I.hok.fresh (Nat.le_refl _))⟩
  exact ⟨by rw [List.length_append]; exact hz, _, r1.append r2, IsTup.new _ _⟩
end
end L2
namespace L2
open PySem PySem.Spec PyProof.Rows
def ixN (n : Nat) (i : Int) : Option Nat := if 0 ≤ i then (if i < n then some i.toNat else none) else if -(n : Int) ≤ i then some (i + n).toNat else none
def atI {α : Type} (xs : List α) (i : Int) : Option α := (ixN xs.length i).bind fun j => xs[j]?
theorem ixN_seq {n : Nat} {i : Int} {j : Nat} (h : ixN n i = some j) : seqIndex? i n = some j ∧ j < n ∧ -(n : Int) ≤ i ∧ i < n := by
  unfold ixN at h
  by_cases h0 : 0 ≤ i
  · rw [if_pos h0] at h
    by_cases h1 : i < n
    · rw [if_pos h1] at h
      have e : i.toNat = j := Option.some.inj h
      exact ⟨by rw [seqIndex_of h0 h1, e], by omega, by omega, h1⟩
    · rw [if_neg h1] at h; cases h
  · rw [if_neg h0] at h
    by_cases h1 : -(n : Int) ≤ i
    · rw [if_pos h1] at h
      have e : (i + n).toNat = j := Option.some.inj h
      exact ⟨by rw [seqIndex_neg (by omega) h1, e], by omega, h1, by omega⟩
    · rw [if_neg h1] at h; cases h
theorem atI_get {α : Type} {xs : List α} {i : Int} {v : α} (h : atI xs i = some v) : ∃ j, seqIndex? i xs.length = some j ∧ xs[j]? = some v ∧ j < xs.length ∧ -(xs.length : Int) ≤ i ∧ i < xs.length := by
  unfold atI at h
  cases e : ixN xs.length i with
  | none => rw [e] at h; cases h
  | some j =>
    rw [e] at h
    obtain ⟨h1, h2, h3, h4⟩ := ixN_seq e
    exact ⟨j, h1, h, h2, h3, h4⟩
theorem atI_nat {α : Type} {xs : List α} {j : Nat} {v : α} (h : xs[j]? = some v) : atI xs (j : Int) = some v := by
  have hj : j < xs.length := (List.getElem?_eq_some_iff.mp h).1
  have e : ixN xs.length (j : Int) = some j := by
    unfold ixN
    rw [if_pos (by omega), if_pos (by omega)]; simp
  unfold atI; rw [e]; exact h
theorem atI_last {α : Type} (xs : List α) (v : α) : atI (xs ++ [v]) (-1) = some v := by
  have hl : (xs ++ [v]).length = xs.length + 1 := by simp
  have e : ixN (xs ++ [v]).length (-1) = some xs.length := by
    unfold ixN
    rw [hl, if_neg (by decide), if_pos (by omega)]
    congr 1
    omega
  unfold atI
  rw [e]
  show (xs ++ [v])[xs.length]? = some v
  simp
def PlainIx (b : Expr) : Prop := ∀ o i, subscripted b false o i = operate [o, i] (getItem o i)
def IxR (X : Cx) (r : R2) : Prop :=
  ∀ (value slice : Expr) (pins : List (Addr × Obj)) (s : Shared) (σ : St) (H : Hp) (x y : V) (v u : Value) (Q : VK), Inv X pins σ H s → RelV x v → RelV y u → r x y H Q →
    subscripted slice false v u = operate [v, u] (getItem v u) → wpAny (model X.prog X.w) X.A (subscriptTail value slice v u) (EP X pins σ Q) X.xe s
def MtR (X : Cx) (id : String) (r : V → List V → Hp → VK → Prop) : Prop :=
  ∀ (pins : List (Addr × Obj)) (s : Shared) (σ : St) (H : Hp) (x : V) (xs : List V) (v : Value) (us : List Value) (Q : VK), Inv X pins σ H s → RelV x v → Vals xs us → r x xs H Q →
    wpAny (model X.prog X.w) X.A (call (.builtin id) (v :: us)) (EP X pins σ Q) X.xe s
section
variable {X : Cx} {a b : Expr} {ta tb : TE} {pos : Pos}
theorem IxR.or {r r' : R2} (h : IxR X r) (h' : IxR X r') : IxR X (fun x y H Q => r x y H Q ∨ r' x y H Q) := by
  intro value slice pins s σ H x y v u Q I rx ry q hs
  rcases q with q | q
  · exact h value slice pins s σ H x y v u Q I rx ry q hs
  · exact h' value slice pins s σ H x y v u Q I rx ry q hs
theorem MtR.or {id : String} {r r' : V → List V → Hp → VK → Prop} (h : MtR X id r) (h' : MtR X id r') : MtR X id (fun x xs H Q => r x xs H Q ∨ r' x xs H Q) := by
  intro pins s σ H x xs v us Q I rx rs q
  rcases q with q | q
  · exact h pins s σ H x xs v us Q I rx rs q
  · exact h' pins s σ H x xs v us Q I rx rs q
theorem pe_ix {r : R2} (hr : IxR X r) (ha : PE X a ta) (hb : PE X b tb) (hs : PlainIx b) : PE X (.Subscript a b pos) (tOp r ta tb) := by
  intro pins s σ H Q I h
  exact Subscript_ (binT ha hb I h fun v u s2 x y H2 I2 rx ry q => hr a b pins s2 σ H2 x y v u Q I2 rx ry q (hs _ _))
def rIxL (K : PySem.W.Frag) : R2 := fun x y H Q => ∃ p xs i v, x = .ref p ∧ y = .int i ∧ SqL K H p xs ∧ atI xs i = some v ∧ Q v H
def rIxT (K : PySem.W.Frag) : R2 := fun x y H Q => ∃ p xs i v, x = .ref p ∧ y = .int i ∧ SqT K H p xs ∧ atI xs i = some v ∧ Q v H
def rIxS : R2 := fun x y H Q => ∃ z i c, x = .str z ∧ y = .int i ∧ z.length ≤ sizeLine ∧ atI z.cps.toList i = some c ∧ Q (.str ⟨#[c]⟩) H
theorem ix_list : IxR X (rIxL X.K) := by
  intro value slice pins s σ H x y v u Q I rx ry h hs
  obtain ⟨p, xs, i, z, rfl, rfl, hq, he, q⟩ := h
  cases rx
  obtain ⟨t, rfl⟩ := ry
  obtain ⟨its, r, pl, hz⟩ := I.list hq
  obtain ⟨j, h1, h2, h3, h4, h5⟩ := atI_get he
  obtain ⟨w, ew, rw'⟩ := r.get h2
  have hl := r.length
  have hn := line63
  have fin : EP X pins σ Q w s := ⟨z, H, I, rw', q⟩
  by_cases h0 : 0 ≤ i
  · have hj : i.toNat = j := by
      rw [seqIndex_of h0 h5] at h1
      exact Option.some.inj h1
    exact item_listR pl.isList h0 (by omega) (by rw [hj]; simpa using ew) fin hs
  · have hj : (i + (its.toArray.size : Int)).toNat = j := by
      rw [seqIndex_neg (by omega) h4] at h1
      rw [List.size_toArray, ← hl]
      exact Option.some.inj h1
    exact subscriptTail_builtinR (x := w) pl.isList.typeIs slot_list_getitem.lookup
      (wpAny_getItem_list_neg (Q := fun r s' => r = w ∧ EP X pins σ Q r s') pl.isList (by omega) (by rw [List.size_toArray] <;> omega) (by omega) (by rw [hj]; simpa using ew) ⟨rfl, fin⟩) hs
theorem ix_tup : IxR X (rIxT X.K) := by
  intro value slice pins s σ H x y v u Q I rx ry h hs
  obtain ⟨p, xs, i, z, rfl, rfl, hq, he, q⟩ := h
  cases rx
  obtain ⟨t, rfl⟩ := ry
  obtain ⟨its, r, pl, hz⟩ := I.tuple hq
  obtain ⟨j, h1, h2, h3, h4, h5⟩ := atI_get he
  obtain ⟨w, ew, rw'⟩ := r.get h2
  have hl := r.length
  have hn := line63
  have fin : EP X pins σ Q w s := ⟨z, H, I, rw', q⟩
  exact subscriptTail_builtinR (x := w) pl.typeIs slot_tuple_getitem.lookup
    (getItem_tuple (j := j) (Q := fun r s' => r = w ∧ EP X pins σ Q r s') pl (by omega) (by omega) (by rw [List.size_toArray, ← hl]; exact h1) (by simpa using ew) ⟨rfl, fin⟩) hs
theorem ix_str : IxR X rIxS := by
  intro value slice pins s σ H x y v u Q I rx ry h hs
  obtain ⟨z, i, c, rfl, rfl, hz, he, q⟩ := h
  obtain ⟨t, rfl⟩ := rx
  obtain ⟨t', rfl⟩ := ry
  obtain ⟨j, h1, h2, h3, h4, h5⟩ := atI_get he
  have hl : z.cps.toList.length = z.length := by simp [Str.length]
  rw [hl] at h1 h4 h5
  have hn := line63
  exact tail_any (typeIs_str s z t) slot_str_getitem.lookup (getItem_str (c := c) (by
    have e1 : decide (i < -(2 ^ 63 : Int)) = false := decide_eq_false (by omega)
    have e2 : decide (i ≥ 2 ^ 63) = false := decide_eq_false (by omega)
    rw [e1, e2, Bool.or_false]) (by rw [h1]; simpa using h2) ⟨.str ⟨#[c]⟩, H, I.tok _, ⟨_, rfl⟩, q⟩) hs
def rIx (K : PySem.W.Frag) : R2 := fun x y H Q => rIxL K x y H Q ∨ rIxT K x y H Q ∨ rIxS x y H Q
theorem ix_seq : IxR X (rIx X.K) := ix_list.or (ix_tup.or ix_str)
theorem mapSeq_set (its : List Value) (n j : Nat) (u : Value) : Obj.mapSeq (·.setIfInBounds j u) { cls := .type "list", data := .seq its.toArray n } = { cls := .type "list", data := .seq (its.set j u).toArray n } := by
  simp [Obj.mapSeq]
theorem Inv.lst {pins : List (Addr × Obj)} {σ : St} {H : Hp} {s : Shared} {p : Addr} {xs : List V} (I : Inv X pins σ H s) (h : H p = some (.lst xs)) :
    ∃ (its : List Value) (n : Nat), Vals xs its ∧ s.heap.get? p = some { cls := .type "list", data := .seq its.toArray n } ∧ xs.length ≤ sizeLine := by
  obtain ⟨z, its, n, r, e⟩ := I.hok p _ h
  exact ⟨its, n, r, e, z⟩
theorem Inv.lstUpd {pins : List (Addr × Obj)} {σ : St} {H : Hp} {s : Shared} {p : Addr} {xs ys : List V} {its its' : List Value} {n n' : Nat} {f : Obj → Obj} (I : Inv X pins σ H s) (h : H p = some (.lst xs))
    (ho : s.heap.get? p = some { cls := .type "list", data := .seq its.toArray n }) (hf : f { cls := .type "list", data := .seq its.toArray n } = { cls := .type "list", data := .seq its'.toArray n' }) (r : Vals ys its') (hz : ys.length ≤ sizeLine) (t : Nat) :
    Inv X pins σ (upd H p (.lst ys)) { s with heap := s.heap.update p f, toks := t } := by
  have e : (s.heap.update p f).get? p = some { cls := .type "list", data := .seq its'.toArray n' } := by
    rw [Heap.get?_update_self f ho (by rw [hf] <;> rfl), hf]
  refine I.write (x := p) (e := p) (by rw [h]; trivial) (.inl rfl) (fun b u hb q => (Heap.get?_update_other _ _ (Ne.symm hb)).trans q) ⟨_, e⟩ ?_
  exact ⟨hz, its', n', r, e⟩
def rSetL : V → V → V → Hp → (Hp → Prop) → Prop := fun o i v H Q => ∃ p xs k j, o = .ref p ∧ i = .int k ∧ H p = some (.lst xs) ∧ ixN xs.length k = some j ∧ Q (upd H p (.lst (xs.set j v)))
theorem set_list : PSet X rSetL := by
  intro pins s σ H o i v ov iv u Q I ro ri rv h
  obtain ⟨p, xs, k, j, rfl, rfl, hp, hj, q⟩ := h
  cases ro
  obtain ⟨t, rfl⟩ := ri
  obtain ⟨its, n, r, ho, hz⟩ := I.lst hp
  obtain ⟨h1, h2, h3, h4⟩ := ixN_seq hj
  have hl := r.length
  have hn := line63
  have I' : Inv X pins σ (upd H p (.lst (xs.set j v))) { s with heap := s.heap.update p (Obj.mapSeq (·.setIfInBounds j u)) } :=
    I.lstUpd hp ho (mapSeq_set its n j u) (r.set rv j) (by rw [List.length_set]; exact hz) s.toks
  by_cases h0 : 0 ≤ k
  · have hk : k.toNat = j := by
      rw [seqIndex_of h0 h4] at h1
      exact Option.some.inj h1
    exact PySem.W.ki_setAt ho h0 (by omega) (by rw [List.size_toArray, ← hl]; exact h4) (by rw [hk]; exact ⟨_, I', q⟩)
  · have hk : (k + (its.toArray.size : Int)).toNat = j := by
      rw [seqIndex_neg (by omega) h3] at h1
      rw [List.size_toArray, ← hl]
      exact Option.some.inj h1
    exact PySem.W.ki_setBack ho (by omega) (by rw [List.size_toArray, ← hl]; exact h3) (by omega) (by rw [hk]; exact ⟨_, I', q⟩)
theorem slice_bounds (lo hi : Option Int) (n : Nat) : (sliceBounds lo hi none n).1 = ((HT.sIx n 0 lo : Nat) : Int) ∧ (sliceBounds lo hi none n).2.1 = ((HT.sIx n n hi : Nat) : Int) ∧ (sliceBounds lo hi none n).2.2 = 1 := by
  refine ⟨?_, ?_, rfl⟩
  · cases lo with
    | none => simp [sliceBounds, HT.sIx]
    | some i =>
      simp only [sliceBounds, HT.sIx, Option.getD_none, show (1 : Int) > 0 by decide, if_true]
      by_cases h : i < 0
      · simp only [h, if_true] <;> omega
      · simp only [h, if_false] <;> omega
  · cases hi with
    | none => simp [sliceBounds, HT.sIx]
    | some i =>
      simp only [sliceBounds, HT.sIx, Option.getD_none, show (1 : Int) > 0 by decide, if_true]
      by_cases h : i < 0
      · simp only [h, if_true] <;> omega
      · simp only [h, if_false] <;> omega
theorem slicePick_cut (its : List Value) (lo hi : Option Int) : slicePick its.toArray lo hi none = ((its.drop (HT.sIx its.length 0 lo)).take (HT.sIx its.length its.length hi - HT.sIx its.length 0 lo)).toArray := by
  obtain ⟨h1, h2, h3⟩ := slice_bounds lo hi its.toArray.size
  unfold slicePick
  rw [h1, h2, h3]
  simp only [sliceRange_one, pick_run, List.size_toArray] <;> rfl
def rSlL (K : PySem.W.Frag) : V → Option Int → Option Int → Hp → VK → Prop := fun x lo hi H Q => ∃ a xs, x = .ref a ∧ SqL K H a xs ∧ ∀ p, H p = none → Q (.ref p) (upd H p (.lst (cutV xs lo hi)))
theorem sl_list : SlR X (rSlL X.K) := by
  intro pins s σ H x v vl vu lo hi sl Q I rx hs pl pu h
  obtain ⟨a, xs, rfl, hx, q⟩ := h
  cases rx
  obtain ⟨its, r, ht, hz⟩ := I.list hx
  have hlen := r.length
  refine ⟨"list", _, slot_list_getitem.lookup, ht.isList.typeIs, ?_⟩
  refine wpAny_getItem_list_slice ht.isList hs pl pu .none (by simp) ?_ (by rw [List.size_toArray] <;> omega)
  rw [slicePick_cut, ← hlen]
  refine ⟨.ref s.heap.objs.size, _, I.laid (t' := s.toks) (o := .lst (cutV xs lo hi)) (fun b ob q => Heap.get?_push_of_some _ q) (Nat.le_refl _) ?_, rfl, q _ (I.hok.fresh (Nat.le_refl _))⟩
  exact ⟨Nat.le_trans (cutV_length xs lo hi) hz, _, 0, (r.drop (HT.sIx xs.length 0 lo)).take (HT.sIx xs.length xs.length hi - HT.sIx xs.length 0 lo), Heap.get?_push_size _ rfl⟩
theorem call_len_seq : CallR X (.builtin "len") (fun xs H Q => ∃ p ys, xs = [.ref p] ∧ (SqL X.K H p ys ∨ SqT X.K H p ys) ∧ Q (.int ys.length) H) := by
  intro pins s σ H xs us Q I r h
  obtain ⟨p, ys, rfl, hq, q⟩ := h
  obtain ⟨u, rfl, rx⟩ := vals1 r
  cases rx
  have hn := line63
  rcases hq with hq | hq
  · obtain ⟨its, r', pl, hz⟩ := I.list hq
    have hlen := r'.length
    exact Calls.call_len_list pl.isList (by simp only [List.size_toArray] <;> omega) ⟨.int ys.length, H, I.tok _, ⟨s.toks + 1, by rw [List.size_toArray, hlen]⟩, q⟩
  · obtain ⟨its, r', pl, hz⟩ := I.tuple hq
    have hlen := r'.length
    exact len_tuple pl (by simp only [List.size_toArray] <;> omega) ⟨.int ys.length, H, I.tok _, ⟨s.toks + 1, by rw [List.size_toArray, hlen]⟩, q⟩
theorem call_len_str : CallR X (.builtin "len") (fun xs H Q => ∃ z, xs = [.str z] ∧ z.length ≤ sizeLine ∧ Q (.int z.length) H) := by
  intro pins s σ H xs us Q I r h
  obtain ⟨z, rfl, hz, q⟩ := h
  obtain ⟨u, rfl, t, rfl⟩ := vals1 r
  have hn := line63
  exact len_str (by omega) ⟨.int z.length, H, I.tok _, ⟨_, rfl⟩, q⟩
theorem CallR.or {f : Value} {r r' : List V → Hp → VK → Prop} (h : CallR X f r) (h' : CallR X f r') : CallR X f (fun xs H Q => r xs H Q ∨ r' xs H Q) := by
  intro pins s σ H xs us Q I rs q
  rcases q with q | q
  · exact h pins s σ H xs us Q I rs q
  · exact h' pins s σ H xs us Q I rs q
theorem call_tuple_of : CallR X (.type "tuple") (fun xs H Q => ∃ p ys, xs = [.ref p] ∧ ((SqL X.K H p ys ∧ ∀ l, H l = none → Q (.ref l) (upd H l (.tup ys))) ∨ (SqT X.K H p ys ∧ Q (.ref p) H))) := by
  intro pins s σ H xs us Q I r h
  obtain ⟨p, ys, rfl, h⟩ := h
  obtain ⟨u, rfl, rx⟩ := vals1 r
  cases rx
  rcases h with ⟨hq, q⟩ | ⟨hq, q⟩
  · obtain ⟨its, r', pl, hz⟩ := I.list hq
    have hlen := r'.length
    refine call_tuple_list pl.isList (fun h' kp => ?_) (by simp only [List.size_toArray] <;> omega)
    have I1 : Inv X pins σ H { s with heap := h' } := I.kept (t' := s.toks) kp
    have I2 : Inv X pins σ (upd H h'.objs.size (.tup ys)) { s with heap := h'.push { cls := .type "tuple", data := .seq its.toArray } } :=
      I1.laid (t' := s.toks) (fun b o e => Heap.get?_push_of_some _ e) (Nat.le_refl _) (show ObjOk X.prog X.w _ _ _ (.tup ys) from ⟨hz, its, r', IsTup.new _ _⟩)
    exact ⟨.ref h'.objs.size, _, I2, rfl, q _ (I1.hok.fresh (Nat.le_refl _))⟩
  · obtain ⟨its, r', pl, hz⟩ := I.tuple hq
    exact call_tuple_same pl ⟨.ref p, H, I, rfl, q⟩
def tyV (K : PySem.W.Frag) (T : String) (x : V) (H : Hp) : Prop := match x with
  | .str _ => T = "str"
  | .int _ => T = "int"
  | .ref p => (T = "list" ∧ ∃ xs, SqL K H p xs) ∨ (T = "tuple" ∧ ∃ o, K.lookup p = some o ∧ o.cls = .type "tuple" ∧ o.dict = none) ∨
      (T = "dict" ∧ ((∃ kvs, H p = some (.dK kvs)) ∨ ∃ kvs, H p = some (.dT kvs))) ∨ (T = "set" ∧ ∃ S n, H p = some (.set S n))
  | _ => False
theorem tyV_is {pins : List (Addr × Obj)} {σ : St} {H : Hp} {s : Shared} {T : String} {x : V} {v : Value} (I : Inv X pins σ H s) (r : RelV x v) (ty : tyV X.K T x H) :
    s.TypeIs v T ∧ ∀ a, v = .ref a → ∃ ob, s.heap.get? a = some ob ∧ ob.dict = none := by
  cases x with
  | str z =>
    obtain ⟨t, rfl⟩ := r
    cases (show T = "str" from ty)
    exact ⟨typeIs_str s z t, fun _ e => nomatch e⟩
  | int i =>
    obtain ⟨t, rfl⟩ := r
    cases (show T = "int" from ty)
    exact ⟨typeIs_int s i t, fun _ e => nomatch e⟩
  | ref p =>
    cases r
    rcases ty with ⟨rfl, xs, hq⟩ | ⟨rfl, o, hk, hc, hd⟩ | ⟨rfl, hk⟩ | ⟨rfl, S, n, hk⟩
    · obtain ⟨its, _, pl, _⟩ := I.list hq
      refine ⟨pl.isList.typeIs, fun a e => ?_⟩
      cases e
      obtain ⟨o, n, e, c, hd, _⟩ := pl
      exact ⟨o, e, hd⟩
    · refine ⟨⟨o, I.kIn p o hk, hc⟩, fun a e => ?_⟩
      cases e
      exact ⟨o, I.kIn _ o hk, hd⟩
    · have z : ∃ o, s.heap.get? p = some o ∧ o.ExactDict := by
        rcases hk with ⟨kvs, hk⟩ | ⟨kvs, hk⟩
        · obtain ⟨_, _, _, _, o, _, _, e, ex, _⟩ := I.hok p _ hk
          exact ⟨o, e, ex⟩
        · obtain ⟨_, _, _, _, o, _, _, e, ex, _⟩ := I.hok p _ hk
          exact ⟨o, e, ex⟩
      obtain ⟨o, e, ex⟩ := z
      refine ⟨⟨o, e, ex.1⟩, fun a e2 => ?_⟩
      cases e2
      exact ⟨o, e, ex.2.1⟩
    · obtain ⟨o, _, _, _, e, ex, _⟩ := I.hok p _ hk
      refine ⟨⟨o, e, ex.1⟩, fun a e2 => ?_⟩
      cases e2
      exact ⟨o, e, ex.2.1⟩
  | _ => exact False.elim ty
def tBM (K : PySem.W.Frag) (T : String) (r : V → List V → Hp → VK → Prop) (to : TE) (t : TA) : TE := fun σ H Q => to σ H fun x H1 => tyV K T x H1 ∧ t σ H1 fun xs H2 => r x xs H2 Q
variable {o e : Expr} {es : List Expr} {to : TE} {t : TA} {name : Str} {apos cpos : Pos} {T id : String} {r : V → List V → Hp → VK → Prop}
theorem pe_bm (pa : PlainAttrs T) (slot : Slot T name id) (hty : typeOf (.builtin id) = pure (.type "method_descriptor")) (hm : MtR X id r) (ho : PE X o to) (ha : PA X (e :: es) t)
    (hbase : attributeBase o name X.env (eval o X.env) = eval o X.env := by rfl)
    (hfew : ((backTo cpos (starEach (e :: es) X.env)).all (fun x => !x.1) && (backToKw cpos (keywordEach [] X.env)).all (fun x => x.1.isSome)
      && decide ((e :: es).length + ([] : List Keyword).length + (if ([] : List Keyword).isEmpty then 0 else 1) < 30)) = true := by rfl)
    (hline : (apos.endLine == cpos.line) = true := by rfl) (hs : starEach (e :: es) X.env = (false, eval e X.env) :: starEach es X.env := by rfl) (hplain : (backTo cpos (starEach es X.env)).any (·.1) = false := by rfl) :
    PE X (.Call (.Attribute o name apos) (e :: es) [] cpos) (tBM X.K T r to t) := by
  intro pins s σ H Q I h
  refine wpAny_Call_method_late hbase hfew hline rfl (thn (ho pins s σ H _ I h) fun v s1 ⟨x, H1, I1, r1, ty, q1⟩ => ?_)
  obtain ⟨h1, h2⟩ := tyV_is I1 r1 ty
  refine ⟨T, id, pa, slot, hty, h1, h2, ?_⟩
  have hA := ha cpos pins s1 σ H1 _ I1 q1
  rw [hs] at hA ⊢
  refine Calls.callWith_builtin (by show (false || (backTo cpos (starEach es X.env)).any (·.1)) = false; rw [hplain] <;> rfl) (Calls.evalArgs_plain ?_)
  exact thn hA fun us s2 ⟨vs, H2, I2, r2, q2⟩ => hm pins s2 σ H2 x vs v us Q I2 r1 r2 q2
/- xs.append(e), list.index on a module's tuple .. are MtR facts of 06m -/
end
end L2
namespace L2
open PySem PySem.Spec PyProof.Rows
def MtM (X : Cx) (id : String) (r : V → List V → Hp → VK → Prop) : Prop :=
  ∀ (pins : List (Addr × Obj)) (s : Shared) (σ : St) (H : Hp) (x : V) (xs : List V) (v : Value) (us : List Value) (Q : VK), Inv X pins σ H s → RelV x v → Vals xs us → r x xs H Q →
    wpAny (model X.prog X.w) X.A (call (.builtin id) (v :: us)) (EP X pins σ Q) X.xe s
theorem Vals.one : ∀ {x : V} {us : List Value}, Vals [x] us → ∃ u, us = [u] ∧ RelV x u
  | _, _, .cons r .nil => ⟨_, rfl, r⟩
theorem Vals.two : ∀ {x y : V} {us : List Value}, Vals [x, y] us → ∃ u v, us = [u, v] ∧ RelV x u ∧ RelV y v
  | _, _, _, .cons r (.cons q .nil) => ⟨_, _, rfl, r, q⟩
theorem Vals.zero : ∀ {us : List Value}, Vals [] us → us = []
  | _, .nil => rfl
theorem Vals.rep {xs : List V} {us : List Value} (h : Vals xs us) : ∀ k : Nat, Vals (List.replicate k xs).flatten (List.replicate k us).flatten
  | 0 => .nil
  | k + 1 => by
    rw [List.replicate_succ, List.replicate_succ, List.flatten_cons, List.flatten_cons]
    exact Vals.append h (Vals.rep h k)
theorem foldl_rep (its : List Value) : ∀ (k : Nat) (acc : List Value),
    List.foldl (fun x1 x2 => x1 ++ x2) acc.toArray (List.replicate k its.toArray) = (acc ++ (List.replicate k its).flatten).toArray
  | 0, acc => by simp
  | k + 1, acc => by
    have e : acc.toArray ++ its.toArray = (acc ++ its).toArray := by simp
    have e2 : (acc ++ its) ++ (List.replicate k its).flatten = acc ++ (List.replicate (k + 1) its).flatten := by
      rw [List.replicate_succ, List.flatten_cons, List.append_assoc]
    rw [← e2, ← foldl_rep its k (acc ++ its), ← e, List.replicate_succ, List.foldl_cons]
section
variable {X : Cx} {pins : List (Addr × Obj)} {σ : St} {H : Hp} {s : Shared} {l b : Addr} {xs ys zs : List V}
theorem Inv.lset {its its' : List Value} {n : Nat} {f : Array Value → Array Value} {t' : Nat} (I : Inv X pins σ H s) (hH : H l = some (.lst xs))
    (e : s.heap.get? l = some { cls := .type "list", data := .seq its.toArray n }) (hf : f its.toArray = its'.toArray) (hv : Vals ys its') (hz : ys.length ≤ sizeLine) :
    Inv X pins σ (upd H l (.lst ys)) { s with heap := s.heap.update l (Obj.mapSeq f), toks := t' } := by
  have q := PySem.IsL.update e f
  rw [hf] at q
  refine I.write (x := l) (e := l) (by rw [hH]; exact trivial) (.inl rfl) (fun b' u hb hu => (Heap.get?_update_other s.heap (Obj.mapSeq f) (Ne.symm hb)).trans hu) ⟨_, q⟩ ?_
  exact ⟨hz, its', _, hv, q⟩
theorem Inv.lnew {its : List Value} {t' : Nat} (I : Inv X pins σ H s) (hv : Vals ys its) (hz : ys.length ≤ sizeLine) :
    Inv X pins σ (upd H s.heap.objs.size (.lst ys)) { s with heap := s.heap.push { cls := .type "list", data := .seq its.toArray }, toks := t' } :=
  I.laid (fun _ _ q => Heap.get?_push_of_some _ q) (Nat.le_refl _) ⟨hz, its, 0, hv, Heap.get?_push_size _ rfl⟩
theorem Inv.fresh (I : Inv X pins σ H s) : H s.heap.objs.size = none := I.hok.fresh (Nat.le_refl _)
theorem Inv.lstM (I : Inv X pins σ H s) (hH : H l = some (.lst xs)) : xs.length ≤ sizeLine ∧ ∃ (its : List Value) (n : Nat), Vals xs its ∧ xs.length = its.length ∧ s.heap.get? l = some { cls := .type "list", data := .seq its.toArray n } := by
  obtain ⟨z, its, n, r, e⟩ := I.hok l _ hH
  exact ⟨z, its, n, r, r.length, e⟩
theorem notLongL {n : Nat} (h : n ≤ sizeLine) : Builtin.List.listTooLong n = false := by
  unfold Builtin.List.listTooLong
  exact decide_eq_false (by omega)
end
section
variable {X : Cx}
def rAppend : V → List V → Hp → VK → Prop := fun x vs H Q => ∃ l xs y, x = .ref l ∧ vs = [y] ∧ H l = some (.lst xs) ∧ xs.length < sizeLine ∧ Q .non (upd H l (.lst (xs ++ [y])))
theorem mt_append : MtM X "list.append" rAppend := by
  intro pins s σ H x vs v us Q I rx rv h
  obtain ⟨l, xs, y, rfl, rfl, hH, hz, q⟩ := h
  cases rx
  obtain ⟨u, rfl, ru⟩ := rv.one
  obtain ⟨z, its, n, r, hl, e⟩ := I.lstM hH
  refine call_meets F.slot_list_append ⟨_, e, rfl⟩ F.entry_list_append (F.args_list_append_2 _ _) (PySem.list_append l its.toArray n u (by rw [List.size_toArray]; omega)) ⟨e, ?_⟩
  refine ⟨.non, _, I.lset (its' := its ++ [u]) hH e (by simp) (r.append (.cons ru .nil)) ?_, rfl, q⟩
  rw [List.length_append, List.length_singleton]
  omega
def rCat : R2 := fun x y H Q => ∃ l b xs zs, x = .ref l ∧ y = .ref b ∧ H l = some (.lst xs) ∧ H b = some (.lst zs) ∧ xs.length + zs.length ≤ sizeLine ∧ ∀ p, H p = none → Q (.ref p) (upd H p (.lst (xs ++ zs)))
theorem op_cat : OpR X (binaryOp .Add) rCat := by
  intro pins s σ H x y v u Q I rx ry h
  obtain ⟨l, b, xs, zs, rfl, rfl, hH, hB, hz, q⟩ := h
  cases rx
  cases ry
  obtain ⟨z, its, n, r, hl, e⟩ := I.lstM hH
  obtain ⟨z2, its2, n2, r2, hl2, e2⟩ := I.lstM hB
  refine PySem.P.add_list e e2 ?_ (by rw [List.size_toArray, List.size_toArray]; omega)
  have ea : its.toArray ++ its2.toArray = (its ++ its2).toArray := by simp
  rw [ea]
  exact ⟨.ref _, _, I.lnew (t' := s.toks) (r.append r2) (by rw [List.length_append]; omega), rfl, q _ I.fresh⟩
def rRep : R2 := fun x y H Q => ∃ l k xs, x = .ref l ∧ y = .int k ∧ H l = some (.lst xs) ∧ -(2 ^ 63) ≤ k ∧ k < 2 ^ 63 ∧ xs.length * k.toNat ≤ sizeLine ∧
  ∀ p, H p = none → Q (.ref p) (upd H p (.lst (List.replicate k.toNat xs).flatten))
theorem len_rep {α : Type} (xs : List α) (k : Nat) : (List.replicate k xs).flatten.length = k * xs.length := by
  induction k with
  | zero => simp
  | succ k ih => rw [List.replicate_succ, List.flatten_cons, List.length_append, ih, Nat.succ_mul, Nat.add_comm]
theorem op_rep : OpR X (binaryOp .Mult) rRep := by
  intro pins s σ H x y v u Q I rx ry h
  obtain ⟨l, k, xs, rfl, rfl, hH, h1, h2, hz, q⟩ := h
  cases rx
  obtain ⟨t, rfl⟩ := ry
  obtain ⟨z, its, n, r, hl, e⟩ := I.lstM hH
  have hlen : its.toArray.size * k.toNat ≤ sizeLine := by rw [List.size_toArray, ← hl]; exact hz
  have hcap : ¬ its.toArray.size * k.toNat > (2 ^ 63 - 1) / 8 := by
    have : (sizeLine : Nat) ≤ (2 ^ 63 - 1) / 8 := by decide
    omega
  have hfit : ¬ (!Builtin.List.listFitsIndex k) = true := by
    rw [fitsIndex_both h1 h2]
    exact Bool.false_ne_true
  have hlong : ¬ Builtin.List.listTooLong (its.toArray.size * k.toNat) = true := by
    rw [notLongL hlen]
    exact Bool.false_ne_true
  have hnew : List.foldl (fun x1 x2 => x1 ++ x2) #[] (List.replicate (if its.toArray.isEmpty = true then 0 else k.toNat) its.toArray) = (List.replicate k.toNat its).flatten.toArray := by
    have f0 : ∀ m : Nat, List.foldl (fun x1 x2 => x1 ++ x2) #[] (List.replicate m its.toArray) = (List.replicate m its).flatten.toArray := fun m => by
      have := foldl_rep its m []
      rw [List.nil_append] at this
      exact this
    rw [f0]
    cases its with
    | nil => simp
    | cons a r' => rw [if_neg (by simp)]
  refine wpAny_binaryOp_repeat_ref (T := "list") (U := "int") (by decide) ⟨_, e, rfl⟩ (fun s' => typeIs_int s' k t) noFill_list_mul F.fills_int_mul F.slot_int_rmul repeat_list F.slot_int_index.lookup
    (call_meets F.slot_int_rmul (typeIs_int s k t) F.entry_int_rmul (F.args_int_rmul_2 _ _) (int___rmul___int_list k t l its.toArray n)
      ⟨e, rfl, ⟨_, e, rfl⟩, call_meets F.slot_list_mul ⟨_, e, rfl⟩ F.entry_list_mul (F.args_list_mul_2 _ _) (AutoListH.list___mul___list_int_3 l its.toArray n k t hfit hcap hlong) ⟨e, ?_⟩⟩)
  rw [hnew]
  exact ⟨.ref _, _, I.lnew (t' := s.toks) (r.rep k.toNat) (by rw [len_rep, Nat.mul_comm]; exact hz), rfl, q _ I.fresh⟩
end
section
variable {prog : Program} {w : World} {A : Around} {E : Value → Shared → Prop} {s : Shared}
set_option maxRecDepth 100000 in
end
section
variable {X : Cx}
end
end L2
namespace L2
open PySem PySem.Spec PyProof.Rows
section
variable {κ : Type} [DecidableEq κ]
def valV (kvs : List (κ × V)) (k : κ) : Option V := (kvs.find? fun kv => decide (kv.1 = k)).map (·.2)
def putK (kvs : List (κ × V)) (k : κ) (v : V) : List (κ × V) :=
  if (kvs.any fun kv => decide (kv.1 = k)) = true then kvs.map (fun kv => if kv.1 = k then (kv.1, v) else kv) else kvs ++ [(k, v)]
def dropK (kvs : List (κ × V)) (k : κ) : List (κ × V) := kvs.filter fun kv => decide (kv.1 ≠ k)
theorem valV_pos {p : κ × V} {r : List (κ × V)} {k : κ} (e : p.1 = k) : valV (p :: r) k = some p.2 := by simp [valV, List.find?_cons, e]
theorem valV_neg {p : κ × V} {r : List (κ × V)} {k : κ} (e : ¬ p.1 = k) : valV (p :: r) k = valV r k := by simp [valV, List.find?_cons, e]
theorem valV_any (k : κ) : ∀ kvs : List (κ × V), (kvs.any fun kv => decide (kv.1 = k)) = (valV kvs k).isSome
  | [] => rfl
  | p :: r => by
    rw [List.any_cons]
    by_cases e : p.1 = k
    · simp only [valV_pos e, decide_eq_true e, Bool.true_or, Option.isSome_some]
    · rw [valV_neg e, decide_eq_false e, Bool.false_or]; exact valV_any k r
theorem length_putK (kvs : List (κ × V)) (k : κ) (v : V) : (putK kvs k v).length ≤ kvs.length + 1 := by
  unfold putK
  split
  · rw [List.length_map]; omega
  · rw [List.length_append, List.length_cons, List.length_nil]; omega
theorem RelO.isSome_eq {o : Option V} {u : Option Value} (r : RelO o u) : o.isSome = u.isSome := by
  cases o with
  | none => cases u with
    | none => rfl
    | some _ => exact (show False from r).elim
  | some _ => cases u with
    | none => exact (show False from r).elim
    | some _ => rfl
theorem RelO.getD {o : Option V} {u : Option Value} {d : V} {d' : Value} (r : RelO o u) (rd : RelV d d') : RelV (o.getD d) (u.getD d') := by
  cases o with
  | none => cases u with
    | none => exact rd
    | some _ => exact (show False from r).elim
  | some _ => cases u with
    | none => exact (show False from r).elim
    | some _ => exact r
theorem KV.val {kvs : List (κ × V)} {vs : List (κ × Value)} (r : KV kvs vs) (k : κ) : RelO (valV kvs k) (valueAt vs k) := by
  unfold KV at r
  induction r with
  | nil => exact True.intro
  | @cons p q ps qs h t ih =>
    obtain ⟨h1, h2⟩ := h
    by_cases e : p.1 = k
    · have e' : q.1 = k := h1.symm.trans e
      have b : valueAt (q :: qs) k = some q.2 := by simp [valueAt, List.find?_cons, e']
      rw [valV_pos e, b]; exact h2
    · have e' : ¬ q.1 = k := fun z => e (h1.trans z)
      have b : valueAt (q :: qs) k = valueAt qs k := by simp [valueAt, List.find?_cons, e']
      rw [valV_neg e, b]; exact ih
theorem KV.any {kvs : List (κ × V)} {vs : List (κ × Value)} (r : KV kvs vs) (k : κ) : (kvs.any fun kv => decide (kv.1 = k)) = vs.any fun kv => decide (kv.1 = k) := by
  unfold KV at r
  induction r with
  | nil => rfl
  | cons h t ih => rw [List.any_cons, List.any_cons, ih, h.1]
theorem KV.repl {kvs : List (κ × V)} {vs : List (κ × Value)} (r : KV kvs vs) (k : κ) {y : V} {u : Value} (ry : RelV y u) :
    KV (kvs.map fun kv => if kv.1 = k then (kv.1, y) else kv) (vs.map fun kv => if kv.1 = k then (kv.1, u) else kv) := by
  unfold KV at r ⊢
  induction r with
  | nil => exact .nil
  | @cons p q ps qs h t ih =>
    rw [List.map_cons, List.map_cons]
    refine .cons ?_ ih
    obtain ⟨h1, h2⟩ := h
    by_cases e : p.1 = k
    · rw [if_pos e, if_pos (h1.symm.trans e)]; exact ⟨h1, ry⟩
    · rw [if_neg e, if_neg (fun z => e (h1.trans z))]; exact ⟨h1, h2⟩
theorem KV.put {kvs : List (κ × V)} {vs : List (κ × Value)} (r : KV kvs vs) (k : κ) {y : V} {u : Value} (ry : RelV y u) : KV (putK kvs k y) (stored vs k u) := by
  unfold putK stored
  rw [r.any k]
  by_cases e : (vs.any fun kv => decide (kv.1 = k)) = true
  · rw [if_pos e, if_pos e]; exact r.repl k ry
  · rw [if_neg e, if_neg e]; exact Paired.snoc r ⟨rfl, ry⟩
theorem KV.drop {kvs : List (κ × V)} {vs : List (κ × Value)} (r : KV kvs vs) (k : κ) : KV (dropK kvs k) (without vs k) := by
  unfold KV at r ⊢
  unfold dropK without
  induction r with
  | nil => exact .nil
  | @cons p q ps qs h t ih =>
    obtain ⟨h1, h2⟩ := h
    rw [List.filter_cons, List.filter_cons]
    by_cases e : p.1 = k
    · have a : ¬ decide (p.1 ≠ k) = true := by simp [e]
      have b : ¬ decide (q.1 ≠ k) = true := by simp [h1.symm.trans e]
      rw [if_neg a, if_neg b]; exact ih
    · have e' : ¬ q.1 = k := fun z => e (h1.trans z)
      have a : decide (p.1 ≠ k) = true := by simp [e]
      have b : decide (q.1 ≠ k) = true := by simp [e']
      rw [if_pos a, if_pos b]; exact .cons ⟨h1, h2⟩ ih
theorem KV.keys {kvs : List (κ × V)} {vs : List (κ × Value)} (r : KV kvs vs) : kvs.map (·.1) = vs.map (·.1) := by
  unfold KV at r
  induction r with
  | nil => rfl
  | cons h t ih => rw [List.map_cons, List.map_cons, ih, h.1]
theorem KV.length {kvs : List (κ × V)} {vs : List (κ × Value)} (r : KV kvs vs) : kvs.length = vs.length := Paired.length r
end
theorem kV_is {P : Program} {w : World} {k : Key} {u : Value} (r : RelV (kV k) u) : (mixKind P w).is k u = true := by
  cases k with
  | inl i => obtain ⟨t, e⟩ := (show ∃ t, u = Value.int i t from r); subst e; exact mixKind_int P w i t
  | inr x => obtain ⟨t, e⟩ := (show ∃ t, u = Value.str x t from r); subst e; exact mixKind_str P w x t
theorem items_are {P : Program} {w : World} : ∀ {ks : List Key} {us : List Value}, Vals (ks.map kV) us → ItemsAre (mixKind P w) ks us
  | [], _, r => by rw [List.map_nil] at r; cases r; exact .nil
  | k :: ks, _, r => by
    rw [List.map_cons] at r
    cases r with
    | cons h t => exact .cons (kV_is h) (items_are t)
abbrev KT (H : Hp) : List (List Key × V) → List (List Key × Addr × Value) → Prop := Paired fun p q => p.1 = q.1 ∧ H q.2.1 = some (.tup (p.1.map kV)) ∧ RelV p.2 q.2.2
theorem KT.val {H : Hp} {kvs : List (List Key × V)} {xs : List (List Key × Addr × Value)} (r : KT H kvs xs) (k : List Key) : RelO (valV kvs k) ((atKey xs k).map (·.2)) := by
  induction r with
  | nil => exact True.intro
  | @cons p q ps qs h t ih =>
    obtain ⟨h1, _, h2⟩ := h
    by_cases e : p.1 = k
    · have e' : q.1 = k := h1.symm.trans e
      have b : atKey (q :: qs) k = some q.2 := by simp [atKey, List.find?_cons, e']
      rw [valV_pos e, b]; exact h2
    · have e' : ¬ q.1 = k := fun z => e (h1.trans z)
      have b : atKey (q :: qs) k = atKey qs k := by simp [atKey, List.find?_cons, e']
      rw [valV_neg e, b]; exact ih
theorem KT.repl {H : Hp} {kvs : List (List Key × V)} {xs : List (List Key × Addr × Value)} (r : KT H kvs xs) (k : List Key) {y : V} {u : Value} (ry : RelV y u) :
    KT H (kvs.map fun kv => if kv.1 = k then (kv.1, y) else kv) (xs.map (putAt k u)) := by
  induction r with
  | nil => exact .nil
  | @cons p q ps qs h t ih =>
    rw [List.map_cons, List.map_cons]
    refine .cons ?_ ih
    obtain ⟨h1, h2, h3⟩ := h
    unfold putAt
    by_cases e : p.1 = k
    · rw [if_pos e, if_pos (h1.symm.trans e)]; exact ⟨h1, h2, ry⟩
    · rw [if_neg e, if_neg (fun z => e (h1.trans z))]; exact ⟨h1, h2, h3⟩
theorem KT.put {H : Hp} {kvs : List (List Key × V)} {xs : List (List Key × Addr × Value)} (r : KT H kvs xs) (k : List Key) {b : Addr} {y : V} {u : Value} (hb : H b = some (.tup (k.map kV))) (ry : RelV y u) :
    KT H (putK kvs k y) (storedH xs k b u) := by
  have e : (kvs.any fun kv => decide (kv.1 = k)) = (atKey xs k).isSome := by
    rw [valV_any, (r.val k).isSome_eq, Option.isSome_map]
  unfold putK storedH
  rw [e]
  by_cases q : (atKey xs k).isSome = true
  · rw [if_pos q, if_pos q]; exact r.repl k ry
  · rw [if_neg q, if_neg q]; exact Paired.snoc r ⟨rfl, hb, ry⟩
theorem KT.keeps {H H' : Hp} {kvs : List (List Key × V)} {xs : List (List Key × Addr × Value)} (r : KT H kvs xs) (ht : ∀ b ys, H b = some (.tup ys) → H' b = some (.tup ys)) : KT H' kvs xs :=
  Paired.mapP r fun _ _ z => ⟨z.1, ht _ _ z.2.1, z.2.2⟩
section
variable {P : Program} {w : World} {H : Hp} {h : Heap} {a : Addr}
theorem rd_of {u : HO} (ok : HOk P w H h) (e : Rd H a u) : ObjOk P w H h a u := e.ok ok
theorem dk_rd {kvs : List (Key × V)} (ok : HOk P w H h) (e : Rd H a (.dK kvs)) : kvs.length ≤ sizeLine ∧ (a == sysModules) = false ∧ ∃ vs, KV kvs vs ∧ h.DictOf (mixKind P w) a vs :=
  show ObjOk P w H h a (.dK kvs) from rd_of ok e
theorem dk_of {kvs : List (Key × V)} (ok : HOk P w H h) (e : H a = some (.dK kvs)) : kvs.length ≤ sizeLine ∧ (a == sysModules) = false ∧ ∃ vs, KV kvs vs ∧ h.DictOf (mixKind P w) a vs := dk_rd ok (.inl e)
theorem key_of {ks : List Key} (ok : HOk P w H h) (e : H a = some (.tup (ks.map kV))) : (tupleKind (mixKind P w)).is h ks a := by
  obtain ⟨_, its, r, o, h1, h2, n, h3⟩ := (show ObjOk P w H h a (.tup (ks.map kV)) from ok a _ e)
  exact ⟨o, its.toArray, n, h1, h2, h3, by simpa using items_are r⟩
theorem dt_rd {kvs : List (List Key × V)} (ok : HOk P w H h) (e : Rd H a (.dT kvs)) : kvs.length ≤ sizeLine ∧ (a == sysModules) = false ∧
    ∃ xs, KT H kvs xs ∧ h.DictOfH (tupleKind (mixKind P w)) a xs := by
  obtain ⟨z, y, xs, r, o, es, ep, h1, h2, h3, h4, h5⟩ := (show ObjOk P w H h a (.dT kvs) from rd_of ok e)
  refine ⟨z, y, xs, r, o, es, ep, h1, h2, h3, h4, fun x hx => ?_, h5⟩
  have all : ∀ {l : List (List Key × V)} {m : List (List Key × Addr × Value)}, KT H l m → ∀ x ∈ m, (tupleKind (mixKind P w)).is h x.1 x.2.1 := by
    intro l m q
    induction q with
    | nil => intro x hx; exact nomatch hx
    | @cons p q ps qs hq t ih =>
      intro x hx
      rcases List.mem_cons.mp hx with e | hx
      · subst e
        exact key_of ok (by rw [← hq.1]; exact hq.2.1)
      · exact ih x hx
  exact all r x hx
end
def DGet (H : Hp) (a : Addr) (y : V) (r : Option V) : Prop :=
  (∃ kvs k, Rd H a (.dK kvs) ∧ y = kV k ∧ r = valV kvs k) ∨ ∃ kvs k b, Rd H a (.dT kvs) ∧ y = .ref b ∧ H b = some (.tup (k.map kV)) ∧ r = valV kvs k
def DPut (H : Hp) (a : Addr) (y v : V) (H' : Hp) : Prop :=
  (∃ kvs k, H a = some (.dK kvs) ∧ y = kV k ∧ kvs.length < sizeLine ∧ H' = upd H a (.dK (putK kvs k v))) ∨
  ∃ kvs k b, H a = some (.dT kvs) ∧ y = .ref b ∧ H b = some (.tup (k.map kV)) ∧ kvs.length < sizeLine ∧ H' = upd H a (.dT (putK kvs k v))
theorem DGet.k {H : Hp} {a : Addr} {kvs : List (Key × V)} {k : Key} (e : H a = some (.dK kvs)) : DGet H a (kV k) (valV kvs k) := .inl ⟨kvs, k, .inl e, rfl, rfl⟩
theorem DGet.t {H : Hp} {a b : Addr} {kvs : List (List Key × V)} {k : List Key} (e : H a = some (.dT kvs)) (eb : H b = some (.tup (k.map kV))) : DGet H a (.ref b) (valV kvs k) := .inr ⟨kvs, k, b, .inl e, rfl, eb, rfl⟩
theorem DPut.k {H : Hp} {a : Addr} {kvs : List (Key × V)} {k : Key} {v : V} (e : H a = some (.dK kvs)) (hl : kvs.length < sizeLine) : DPut H a (kV k) v (upd H a (.dK (putK kvs k v))) := .inl ⟨kvs, k, e, rfl, hl, rfl⟩
theorem DPut.t {H : Hp} {a b : Addr} {kvs : List (List Key × V)} {k : List Key} {v : V} (e : H a = some (.dT kvs)) (eb : H b = some (.tup (k.map kV))) (hl : kvs.length < sizeLine) :
    DPut H a (.ref b) v (upd H a (.dT (putK kvs k v))) := .inr ⟨kvs, k, b, e, rfl, eb, hl, rfl⟩
section
variable {X : Cx} {pins : List (Addr × Obj)} {σ : St} {H : Hp} {s : Shared} {a : Addr} {y v : V} {u r : Value} {o : Option V} {A : Around} {E : Value → Shared → Prop}
theorem Inv.big (I : Inv X pins σ H s) : sysModules < s.heap.objs.size := by
  have h : mainGlobals < s.heap.objs.size := (I.mod.glob.keeps I.bk).lt
  exact Nat.lt_trans (by decide) h
theorem d_getItem {Q : Value → Shared → Prop} (hu : A.units + 1 < cLine) (I : Inv X pins σ H s) (g : DGet H a y (some v)) (ry : RelV y u) (h : ∀ w' s', Inv X pins σ H s' → RelV v w' → Q w' s') :
    wpAny (model X.prog X.w) A (getItem (.ref a) u) Q E s := by
  rcases g with ⟨kvs, k, e, ey, l⟩ | ⟨kvs, k, b, e, ey, eb, l⟩
  · subst ey
    obtain ⟨z, hd, vs, rel, dd⟩ := dk_rd I.hok e
    obtain ⟨w', hw, rw'⟩ := RelO.some_of (v := v) (o := valueAt vs k) (by rw [l]; exact rel.val k)
    exact wpAny_getItem_of (kV_is ry) dd.mapOf hw (h w' _ (I.tok _) rw')
  · subst ey
    cases (show u = Value.ref b from ry)
    obtain ⟨z, hd, xs, rel, dd⟩ := dt_rd I.hok e
    obtain ⟨w', hw, rw'⟩ := RelO.some_of (v := v) (o := (atKey xs k).map (·.2)) (by rw [l]; exact rel.val k)
    obtain ⟨p, hp, hp2⟩ := Option.map_eq_some_iff.mp hw
    refine wpAny_getItem_heap (tupleKind_room_in1 hu) (key_of I.hok eb) dd hp ?_
    rw [hp2]
    exact h w' _ (I.tok _) rw'
theorem d_in {Q : Value → Shared → Prop} (hu : A.units + 1 < cLine) (I : Inv X pins σ H s) (g : DGet H a y o) (ry : RelV y u) (h : ∀ s', Inv X pins σ H s' → Q (.bool o.isSome) s') :
    wpAny (model X.prog X.w) A (compareOp .In u (.ref a)) Q E s := by
  rcases g with ⟨kvs, k, e, ey, l⟩ | ⟨kvs, k, b, e, ey, eb, l⟩
  · subst ey
    obtain ⟨z, hd, vs, rel, dd⟩ := dk_rd I.hok e
    refine wpAny_in_of (kV_is ry) hd dd.mapOf ?_
    rw [← (rel.val k).isSome_eq, ← l]
    exact h _ (I.tok _)
  · subst ey
    cases (show u = Value.ref b from ry)
    obtain ⟨z, hd, xs, rel, dd⟩ := dt_rd I.hok e
    refine wpAny_in_heap (tupleKind_room_in1 hu) (key_of I.hok eb) hd dd ?_
    have q := (rel.val k).isSome_eq
    rw [Option.isSome_map] at q
    rw [← q, ← l]
    exact h _ (I.tok _)
theorem d_notIn {Q : Value → Shared → Prop} (hu : A.units + 1 < cLine) (I : Inv X pins σ H s) (g : DGet H a y o) (ry : RelV y u) (h : ∀ s', Inv X pins σ H s' → Q (.bool (!o.isSome)) s') :
    wpAny (model X.prog X.w) A (compareOp .NotIn u (.ref a)) Q E s := by
  rcases g with ⟨kvs, k, e, ey, l⟩ | ⟨kvs, k, b, e, ey, eb, l⟩
  · subst ey
    obtain ⟨z, hd, vs, rel, dd⟩ := dk_rd I.hok e
    refine wpAny_notIn_of (kV_is ry) hd dd.mapOf ?_
    rw [← (rel.val k).isSome_eq, ← l]
    exact h _ (I.tok _)
  · subst ey
    cases (show u = Value.ref b from ry)
    obtain ⟨z, hd, xs, rel, dd⟩ := dt_rd I.hok e
    refine wpAny_notIn_heap (tupleKind_room_in1 hu) (key_of I.hok eb) hd dd ?_
    have q := (rel.val k).isSome_eq
    rw [Option.isSome_map] at q
    rw [← q, ← l]
    exact h _ (I.tok _)
theorem d_write {h' : Heap} {t' : Nat} {ob : HO} (I : Inv X pins σ H s) (mu : Mut (H a)) (hs : Heap.SameBut a s.heap h') (he : ∃ q, h'.get? a = some q) (new : ObjOk X.prog X.w (upd H a ob) h' a ob) :
    Inv X pins σ (upd H a ob) { s with heap := h', toks := t' } :=
  I.write (x := a) (e := a) mu (.inl rfl) (fun b q hb z => (hs.2 b hb).trans z) he new
theorem dk_new {P : Program} {w : World} {H' : Hp} {h' : Heap} {kvs : List (Key × V)} {vs : List (Key × Value)} (z : kvs.length ≤ sizeLine) (hd : (a == sysModules) = false) (rel : KV kvs vs) (dd : h'.DictOf (mixKind P w) a vs) :
    ObjOk P w H' h' a (.dK kvs) := ⟨z, hd, vs, rel, dd⟩
end
section
variable {X : Cx} {pins : List (Addr × Obj)} {σ : St} {H : Hp} {s : Shared} {a : Addr} {kvs : List (Key × V)} {k : Key} {u : Value} {A : Around} {E : Value → Shared → Prop}
theorem d_len {Q : Value → Shared → Prop} (I : Inv X pins σ H s) (e : Rd H a (.dK kvs)) (h : ∀ t s', Inv X pins σ H s' → Q (.int kvs.length t) s') : wpAny (model X.prog X.w) A (call (.builtin "len") [.ref a]) Q E s := by
  obtain ⟨z, hd, vs, rel, dd⟩ := dk_rd I.hok e
  refine call_len_dict hd dd (by rw [← rel.length]; rw [sizeLine_eq] at z; omega) ?_
  rw [← rel.length]
  exact h _ _ (I.tok _)
end
theorem dict_typeIs {X : Cx} {pins : List (Addr × Obj)} {σ : St} {H : Hp} {s : Shared} {a : Addr} {y : V} {o : Option V} (I : Inv X pins σ H s) (g : DGet H a y o) : s.TypeIs (.ref a) "dict" := by
  rcases g with ⟨kvs, k, e, _, _⟩ | ⟨kvs, k, b, e, _, _, _⟩
  · obtain ⟨_, _, vs, _, dd⟩ := dk_rd I.hok e
    exact dd.typeIs
  · obtain ⟨_, _, xs, _, dd⟩ := dt_rd I.hok e
    exact dd.typeIs
section
variable {X : Cx} {o i e value : Expr} {pos pos' tpos : Pos} {td ty tv : TE}
end
theorem dk_empty {P : Program} {w : World} {H : Hp} (h : Heap) (hb : sysModules < h.objs.size) : ObjOk P w H (h.push { cls := .type "dict", data := .dict #[] }) h.objs.size (.dK []) :=
  ⟨Nat.zero_le _, beq_eq_false_iff_ne.mpr (Ne.symm (Nat.ne_of_lt hb)), [], .nil, Heap.DictOf.new h⟩
section
variable {X : Cx} {pos : Pos}
end
def tPairs : List (TE × TE) → St → Hp → (List (V × V) → Hp → Prop) → Prop
  | [], _, H, Q => Q [] H
  | (tk, tv) :: r, σ, H, Q => tk σ H fun x H1 => tv σ H1 fun y H2 => tPairs r σ H2 fun ps H3 => Q ((x, y) :: ps) H3
abbrev VV : List (V × V) → List (Value × Value) → Prop := Paired fun p q => RelV p.1 q.1 ∧ RelV p.2 q.2
def PPs (X : Cx) (pos : Pos) (keys : List (Option Expr)) (values : List Expr) (trs : List (TE × TE)) : Prop :=
  ∀ (pins : List (Addr × Obj)) (s : Shared) (σ : St) (H : Hp) (Q : List (V × V) → Hp → Prop), Inv X pins σ H s → tPairs trs σ H Q →
    wpAny (model X.prog X.w) X.A (evalPairs (pairTrees keys values X.env pos)) (fun vs s' => ∃ ps H', Inv X pins σ H' s' ∧ VV ps vs ∧ Q ps H') X.xe s
theorem pps_nil {X : Cx} {pos : Pos} : PPs X pos [] [] [] := fun pins s σ H Q I h => pairTrees_nil_walk ⟨[], H, I, .nil, h⟩
theorem pps_cons {X : Cx} {pos : Pos} {k v : Expr} {ks : List (Option Expr)} {vs : List Expr} {tk tv : TE} {trs : List (TE × TE)} (hk : PE X k tk) (hv : PE X v tv) (hr : PPs X pos ks vs trs) :
    PPs X pos (some k :: ks) (v :: vs) ((tk, tv) :: trs) := fun pins s σ H Q I h =>
  pairTrees_cons_walk (thn (hk pins s σ H _ I h) fun u s1 ⟨x, H1, I1, rx, q1⟩ => thn (hv pins s1 σ H1 _ I1 q1) fun w2 s2 ⟨y, H2, I2, ry, q2⟩ =>
    thn (hr pins s2 σ H2 _ I2 q2) fun ws s3 ⟨ps, H3, I3, rel, q3⟩ => ⟨(x, y) :: ps, H3, I3, .cons ⟨rx, ry⟩ rel, q3⟩)
def mergeK (kvs more : List (Key × V)) : List (Key × V) := more.foldl (fun acc kv => putK acc kv.1 kv.2) kvs
theorem KV.merge : ∀ {more : List (Key × V)} {rs : List (Key × Value)} {kvs : List (Key × V)} {vs : List (Key × Value)}, KV more rs → KV kvs vs → KV (mergeK kvs more) (merged vs rs) := by
  intro more rs kvs vs r
  unfold KV at r
  induction r generalizing kvs vs with
  | nil => intro q; exact q
  | @cons p q ps qs h t ih =>
    intro r0
    have e : KV (putK kvs p.1 p.2) (stored vs q.1 q.2) := by
      have := r0.put p.1 h.2
      rw [← h.1]; exact this
    exact ih e
theorem length_mergeK : ∀ (more kvs : List (Key × V)), (mergeK kvs more).length ≤ kvs.length + more.length
  | [], kvs => by show kvs.length ≤ kvs.length + 0; omega
  | p :: r, kvs => by
    have h1 := length_mergeK r (putK kvs p.1 p.2)
    have h2 := length_putK kvs p.1 p.2
    show (mergeK (putK kvs p.1 p.2) r).length ≤ _
    rw [List.length_cons]; omega
theorem carries_of {P : Program} {w : World} : ∀ {kvs : List (Key × V)} {ws : List (Value × Value)}, VV (kvs.map fun kv => (kV kv.1, kv.2)) ws → ∃ rs, Carries (mixKind P w) ws rs ∧ KV kvs rs
  | [], _, r => by rw [List.map_nil] at r; cases r; exact ⟨[], True.intro, .nil⟩
  | p :: kvs, _, r => by
    rw [List.map_cons] at r
    cases r with
    | @cons a b as bs h t =>
      obtain ⟨rs, c, q⟩ := carries_of (P := P) (w := w) t
      obtain ⟨b1, b2⟩ := b
      exact ⟨(p.1, b2) :: rs, ⟨kV_is h.1, rfl, c⟩, .cons ⟨rfl, h.2⟩ q⟩
def tDisp (trs : List (TE × TE)) : TE := fun σ H Q => ∀ p, H p = none → tPairs trs σ (upd H p (.dK [])) fun ps H2 => H2 p = some (.dK []) ∧ ∃ kvs : List (Key × V), ps = kvs.map (fun kv => (kV kv.1, kv.2)) ∧ kvs.length ≤ 15 ∧ Q (.ref p) (upd H2 p (.dK (mergeK [] kvs)))
theorem pe_disp {X : Cx} {pos : Pos} {keys : List (Option Expr)} {values : List Expr} {trs : List (TE × TE)} (h : PPs X pos keys values trs) (hall : keys.all (·.isSome) = true) (hl : keys.length = values.length) (h0 : keys ≠ [])
    (h15 : keys.length ≤ 15) : PE X (.Dict keys values pos) (tDisp trs) := by
  intro pins s σ H Q I q
  have hn := I.hok.fresh (Nat.le_refl s.heap.objs.size)
  have I1 := I.laid (a := s.heap.objs.size) (o := .dK []) (h' := s.heap.push { cls := .type "dict", data := .dict #[] }) (t' := s.toks) (fun _ _ q => Heap.get?_push_of_some _ q) (Nat.le_refl _) (dk_empty s.heap I.big)
  refine wpAny_Dict_walk (knd := mixKind X.prog X.w) hall hl h0 h15 (thn (h pins _ σ _ _ I1 (q _ hn)) fun ws s2 ⟨ps, H2, I2, rel, e, kvs, ep, lk, q2⟩ => ?_)
  subst ep
  obtain ⟨rs, c, rk⟩ := carries_of (P := X.prog) (w := X.w) rel
  obtain ⟨z, hd, vs0, r0, dd⟩ := dk_of I2.hok e
  cases r0
  refine ⟨rs, c, dd, fun h' dd' hs => ⟨.ref s.heap.objs.size, _, ?_, rfl, q2⟩⟩
  have hz : (mergeK [] kvs).length ≤ sizeLine := by
    have h1 := length_mergeK kvs []
    rw [List.length_nil] at h1
    rw [sizeLine_eq]; omega
  have he : ∃ q, h'.get? s.heap.objs.size = some q := let ⟨q, _, _, hq, _⟩ := dd'; ⟨q, hq⟩
  exact d_write I2 (by rw [e]; exact True.intro) hs he (dk_new hz hd (rk.merge .nil) dd')
structure M1 (X : Cx) (o : Expr) (m : Str) (apos : Pos) (e : Expr) (cpos : Pos) : Prop where
  base : attributeBase o m X.env (eval o X.env) = eval o X.env
  few : ((backTo cpos (starEach [e] X.env)).all (fun x => !x.1) && (backToKw cpos (keywordEach [] X.env)).all (fun x => x.1.isSome)
    && decide (([e] : List Expr).length + ([] : List Keyword).length + (if ([] : List Keyword).isEmpty then 0 else 1) < 30)) = true
  line : (apos.endLine == cpos.line) = true
  trees : backTo cpos (starEach [e] X.env) = [(false, eval e X.env)]
structure M2 (X : Cx) (o : Expr) (m : Str) (apos : Pos) (e f : Expr) (cpos : Pos) : Prop where
  base : attributeBase o m X.env (eval o X.env) = eval o X.env
  few : ((backTo cpos (starEach [e, f] X.env)).all (fun x => !x.1) && (backToKw cpos (keywordEach [] X.env)).all (fun x => x.1.isSome)
    && decide (([e, f] : List Expr).length + ([] : List Keyword).length + (if ([] : List Keyword).isEmpty then 0 else 1) < 30)) = true
  line : (apos.endLine == cpos.line) = true
  trees : backTo cpos (starEach [e, f] X.env) = [(false, eval e X.env), (false, eval f X.env)]
def IsD (H : Hp) (a : Addr) : Prop := (∃ kvs, Rd H a (.dK kvs)) ∨ ∃ kvs, Rd H a (.dT kvs)
theorem isD_at {X : Cx} {pins : List (Addr × Obj)} {σ : St} {H : Hp} {s : Shared} {a : Addr} (I : Inv X pins σ H s) (d : IsD H a) :
    s.TypeIs (.ref a) "dict" ∧ (∀ b, Value.ref a = .ref b → ∃ ob, s.heap.get? b = some ob ∧ ob.dict = none) ∧ (a == sysModules) = false := by
  rcases d with ⟨kvs, e⟩ | ⟨kvs, e⟩
  · obtain ⟨_, hd, vs, _, dd⟩ := dk_rd I.hok e
    refine ⟨dd.typeIs, fun b q => ?_, hd⟩
    cases q
    obtain ⟨ob, _, _, h1, h2, _⟩ := dd
    exact ⟨ob, h1, h2.2.1⟩
  · obtain ⟨_, hd, xs, _, dd⟩ := dt_rd I.hok e
    refine ⟨dd.typeIs, fun b q => ?_, hd⟩
    cases q
    obtain ⟨ob, _, _, h1, h2, _⟩ := dd
    exact ⟨ob, h1, h2.2.1⟩
section
variable {X : Cx} {pins : List (Addr × Obj)} {σ : St} {H : Hp} {s : Shared} {a : Addr} {y d : V} {u r : Value} {o : Option V} {A : Around} {E : Value → Shared → Prop}
theorem d_get2 {Q : Value → Shared → Prop} (hu : A.units + 1 < cLine) (I : Inv X pins σ H s) (g : DGet H a y o) (ry : RelV y u) (rd : RelV d r) (h : ∀ w' s', Inv X pins σ H s' → RelV (o.getD d) w' → Q w' s') :
    wpAny (model X.prog X.w) A (call (.builtin "dict.get") [.ref a, u, r]) Q E s := by
  rcases g with ⟨kvs, k, e, ey, l⟩ | ⟨kvs, k, b, e, ey, eb, l⟩
  · subst ey
    obtain ⟨z, hd, vs, rel, dd⟩ := dk_rd I.hok e
    refine call_meetsIn PySem.F.slot_dict_get dd.typeIs PySem.F.entry_dict_get (PySem.F.args_dict_get_3 _ _ _) (meets_dict_get_default (mixKind X.prog X.w) a (kV_is ry) hd r) ⟨_, dd.mapOf, h _ _ (I.tok _) ?_⟩
    rw [l]
    exact (rel.val k).getD rd
  · subst ey
    cases (show u = Value.ref b from ry)
    obtain ⟨z, hd, xs, rel, dd⟩ := dt_rd I.hok e
    refine call_meetsIn PySem.F.slot_dict_get dd.typeIs PySem.F.entry_dict_get (PySem.F.args_dict_get_3 _ _ _) (meetsH_dict_get_default (tupleKind (mixKind X.prog X.w)) a b hd r) ⟨tupleKind_room_in1 hu, k, xs, key_of I.hok eb, dd, h _ _ (I.tok _) ?_⟩
    rw [l]
    exact (rel.val k).getD rd
end
def tDGet2 (td ty tx : TE) : TE := fun σ H Q => td σ H fun x H1 => ∃ a, x = .ref a ∧ IsD H1 a ∧ ty σ H1 fun y H2 => tx σ H2 fun z H3 => ∃ o, DGet H3 a y o ∧ Q (o.getD z) H3
section
variable {X : Cx} {o e f : Expr} {apos cpos : Pos} {td ty tx : TE}
theorem pe_dget2 (hu : X.A.units + 1 < cLine) (ho : PE X o td) (he : PE X e ty) (hf : PE X f tx) (m : M2 X o "get" apos e f cpos) : PE X (.Call (.Attribute o "get" apos) [e, f] [] cpos) (tDGet2 td ty tx) := by
  intro pins s σ H Q I h
  refine wpAny_Call_method m.base m.few m.line PySem.F.plainAttrs_dict PySem.F.slot_dict_get PySem.F.type_dict_get (thn (ho pins s σ H _ I h) fun u s1 ⟨x, H1, I1, rx, a, ex, d, q1⟩ => ?_)
  subst ex
  obtain rfl : u = Value.ref a := rx
  obtain ⟨t1, t2, _⟩ := isD_at I1 d
  refine ⟨t1, t2, ?_⟩
  rw [m.trees]
  refine Calls.callWith_builtin rfl (Calls.evalArgs_plain (Calls.spliced_cons (thn (he pins s1 σ H1 _ I1 q1) fun iv s2 ⟨y, H2, I2, ry, q2⟩ =>
    Calls.spliced_cons (thn (hf pins s2 σ H2 _ I2 q2) fun fv s3 ⟨z, H3, I3, rz, ov, g, q3⟩ => Calls.spliced_nil ?_))))
  exact d_get2 hu I3 g ry rz fun w' s4 I4 rw' => ⟨_, H3, I4, rw', q3⟩
end
section
variable {X : Cx} {pins : List (Addr × Obj)} {σ : St} {H : Hp} {s : Shared} {a : Addr} {kvs : List (Key × V)} {A : Around} {E : Value → Shared → Prop}
end
section
variable {X : Cx} {pins : List (Addr × Obj)} {σ : St} {H : Hp} {s : Shared} {a : Addr} {y : V} {u : Value} {A : Around} {E : Value → Shared → Prop}
end
end L2
namespace Att
open PySem PySem.W PySem.Calls PyProof.Rows
theorem ints_of_wellAll {P : Params} {h : Heap} : ∀ (ns : List Int) (vs : List Value), WellAll P h vs (ns.map WData.int) → IntsAre vs ns := by
  intro ns
  induction ns with
  | nil =>
    intro vs w
    rw [List.map_nil] at w
    cases w
    exact .nil
  | cons n ns ih =>
    intro vs w
    rw [List.map_cons] at w
    cases w with
    | cons a b =>
      cases a
      exact .cons _ _ (ih _ b)
theorem script_of {l : OpenLaw} {n : Nat} (hn : l.most = some n) {P : Params} {h : Heap} {args : List WData} {vals : List Value}
    (hpre : l.row.toRowW.claim.pre args = true) (hwl : WellAll P h vals args) :
    ∃ a vs ns, vals = [Value.ref a] ∧ args = [WData.list (ns.map WData.int)] ∧ h.get? a = some { cls := .type "list", data := .seq vs.toArray } ∧ IntsAre vs ns ∧ ns.length ≤ n := by
  have hsh : WShape.hasAll [] args [.list .int] = true := (pre_splitW hpre).1
  have hc : l.pre.holds [] { args := args } = true := (pre_splitW hpre).2
  obtain ⟨d, r, rfl, h1, h2⟩ := hasAllW_cons hsh
  obtain rfl := hasAllW_nil h2
  obtain ⟨xs, rfl, h3⟩ := hasW_list h1
  obtain ⟨ns, rfl⟩ := items_int h3
  have hlen : ns.length ≤ n := by
    unfold OpenLaw.pre at hc
    have h4 : (WTm.not (.lt (.lit (.int (n : Int))) (.len (.arg 0)))).holds [] { args := [.list (ns.map .int)] } = true := by
      have h4 := (holds_andW hc).1
      rw [hn] at h4
      exact h4
    have h5 := condW_of h4 (w_not (w_lt w_lit (w_len_list (w_arg rfl))))
    rw [List.length_map] at h5
    refine Nat.le_of_not_lt fun q => ?_
    have q' : (n : Int) < ((ns.length : Nat) : Int) := by omega
    first
      | (rw [decide_eq_true q'] at h5; exact absurd h5 (by decide))
      | (simp at h5; omega)
  cases hwl with
  | cons w1 w2 =>
    cases w2
    cases w1 with
    | list ho hall => exact ⟨_, _, ns, rfl, rfl, ho, ints_of_wellAll ns _ hall, hlen⟩
theorem post_true (l : OpenLaw) (args : List WData) : l.row.toRowW.claim.post args (.bool true) args = true :=
  postW_of (r := l.row.toRowW) (X := (true == true))
    (show WShape.has [] (.bool true) .bool = true by first | rfl | decide | simp [WShape.has, WShape.arms, WShape.armsAll])
    (show (WTm.eq .res (.lit (.bool true))).value [] { args := args, res := some (.bool true), after := args } = some (.bool (true == true)) from w_eq_bool (w_res rfl) w_lit) rfl
theorem attach_call {l : OpenLaw} {n : Nat} {q : Program} {loose : List Str} {XP : (Str → Option Value) → Heap → Prop} {YP : World → Heap → Prop} {d : DefRec}
    (hn : l.most = some n) (hdf : d.params.defaults = [])
    (call : ∀ (w : World) (s₀ s₁ : Shared) (mg mb : Str → Option Value) (fa : Addr) (o : Obj) (pm cd doc : Value) (a : Addr) (vs : List Value) (ns : List Int),
      Ground q loose [] XP w s₀ mg mb s₁.heap → YP w s₁.heap →
      s₁.heap.get? fa = some o → o.data = .func (docDef d.name d.params d.body d.scope pm cd doc) → s₁.heap.CodeRec cd d.name → mg d.name = some (.ref fa) →
      s₁.heap.get? a = some { cls := .type "list", data := .seq vs.toArray } → IntsAre vs ns → ns.length ≤ n → s₁.gens = #[] →
      codeAny (model l.prog w) callerA (.call (.ref fa) ⟨[.ref a], []⟩) (fun r s' => r = .ok (.ret (.bool true)) ∧ OldK s₁.heap s'.heap ∧ s'.os = s₁.os ∧ AllBare s'.gens) s₁) :
    WalkO q loose XP YP l.row.toRowW d [] (fun f vs => PySem.call f vs) := by
  intro w s₀ s₁ mg mb G Y fa o pm cd doc dV kV ho hd hcd hD hmg hg args vals as hpre hlay hrd hwl hlo
  obtain rfl : dV = .none := Dflts.none hD hdf
  obtain rfl : kV = .none := Dflts.noKw hD
  obtain ⟨a, vs, ns, rfl, rfl, hobj, hints, hlen⟩ := script_of hn hpre hwl
  refine enter_call (codeAny_mono (call w s₀ s₁ mg mb fa o pm cd doc a vs ns G Y ho (fd_plain hd) hcd hmg hobj hints hlen hg) fun r s' hq => ?_)
  obtain ⟨rfl, h2, h3, h4⟩ := hq
  exact ⟨.inl ⟨.bool true, .bool true, [], rfl, fun _ => rfl, .bool true, post_true l _, fun _ => ⟨List.Pairwise.nil, fun _ hm => (nomatch hm)⟩⟩, h2, h3, h4⟩
section
variable {prog : Program} {w : World} {A : Around} {E : Value → Shared → Prop} {s : Shared} {K : Frag}
end
end Att
namespace L2
open PySem PySem.Spec PyProof.Rows
theorem vals_ints : ∀ {vs : List Value} {ns : List Int}, IntsAre vs ns → Vals (ns.map V.int) vs
  | _, _, .nil => .nil
  | _, _, .cons n t h => .cons ⟨t, rfl⟩ (vals_ints h)
def Only (H : Hp) : Prop := ∀ b, H b = none ∨ ∃ o xs, H b = some (.frz o (.lst xs))
theorem law_call {P : Program} {w : World} {K : PySem.W.Frag} {mg mb : Str → Option Value} {CX : CXT} {k : Nat} {fa a : Addr} {fd : FuncData} {x : Str} {sp : Sp} {s₁ : Shared} {vs : List Value} {ns : List Int}
    (KX : K.In s₁.heap) (hns : s₁.heap.Ns mainGlobals mg) (hb : s₁.heap.Ns builtinsNs mb) (hbb : ∀ x : Str, x ≠ "__name__" → mb x = bootBuiltins x) (hlim : s₁.heap.NoLimit) (hg : s₁.gens = #[])
    (ha : s₁.heap.get? a = some { cls := .type "list", data := .seq vs.toArray }) (hi : IntsAre vs ns) (hl : ns.length ≤ sizeLine) (hr : Room k callerA)
    (F : ∀ base : Heap, K.In base → base.Ns mainGlobals mg → FnOk P w K mg base CX k fa fd [x] sp) (hbind : ∀ (s : Shared) (u : Value), BindsTo s fd ⟨[u], []⟩ [(x, u)])
    (hsp : ∀ H : Hp, Only H → SqL K H a (ns.map V.int) → sp [.ref a] H (fun v _ => v = .bl true) fun _ _ _ => False)
    (hCX : ∀ H e s', CX [] H s₁ (fun _ _ _ => False) e s' → False) :
    codeAny (model P w) callerA (.call (.ref fa) ⟨[.ref a], []⟩) (fun r s' => r = .ok (.ret (.bool true)) ∧ OldK s₁.heap s'.heap ∧ s'.os = s₁.os ∧ AllBare s'.gens) s₁ := by
  have rv := vals_ints hi
  have lenV := hi.length
  -- from an abstract heap in which nothing but the script may be tracked
  have core : ∀ H : Hp, Only H → SqL K H a (ns.map V.int) → HOk P w H s₁.heap → (∀ b, H b ≠ none → b = a) → (H a ≠ none → K.lookup a = none) →
      codeAny (model P w) callerA (.call (.ref fa) ⟨[.ref a], []⟩) (fun r s' => r = .ok (.ret (.bool true)) ∧ OldK s₁.heap s'.heap ∧ s'.os = s₁.os ∧ AllBare s'.gens) s₁ := by
    intro H hO hS hok hA hK
    have base_of : ∀ {b : Addr} {o : Obj}, s₁.heap.get? b = some o → H b = none → (hidT s₁.heap H).get? b = some o := fun e n => hidT_get e n
    have noA : ∀ {b : Addr} {o : Obj} {es : Array DictEntry} {ep : Nat}, s₁.heap.get? b = some o → o.data = .dict es ep → H b = none := fun {b o es ep} e d => by
      cases q : H b with
      | none => rfl
      | some u =>
        have e' : b = a := hA b (by rw [q]; simp)
        subst e'
        rw [ha] at e; cases e
        have d' : Data.seq vs.toArray _ = Data.dict es ep := d
        cases d'
    have nsK : ∀ {b : Addr} {m : Str → Option Value}, s₁.heap.Ns b m → (hidT s₁.heap H).Ns b m := fun {b m} ⟨o, es, ep, e, d, r⟩ => ⟨o, es, ep, base_of e (noA e d), d, r⟩
    have hKb : K.In (hidT s₁.heap H) := fun b o e => base_of (KX b o e) (by
      cases q : H b with
      | none => rfl
      | some u =>
        have e' : b = a := hA b (by rw [q]; simp)
        subst e'
        rw [hK (by rw [q]; simp)] at e; cases e)
    have hM : Mod K mg (hidT s₁.heap H) := ⟨hKb, nsK hns, ⟨mb, nsK hb, hbb⟩, let ⟨mc, h1, h2⟩ := hlim; ⟨mc, nsK h1, h2⟩⟩
    have e0 : Env0 P w K mg (hidT s₁.heap H) callerA [] s₁ H := ⟨rfl, hM, fun b o e => of_hidT e, Nat.le_of_eq (hidT_size _ _), trivial, fun b hb => absurd (show b ∈ ([] : List Addr) from hb) (by simp), hok, .of_eq hg⟩
    refine codeAny_mono ((F _ hKb (nsK hns)).run callerA [] s₁ H ⟨[.ref a], []⟩ [.ref a] [.ref a] _ _ hr e0 (hbind s₁ (.ref a)) (.cons rfl .nil) (hsp H hO hS)) fun r s' h => ?_
    cases r with
    | error e => exact (hCX H e s' h).elim
    | ok fl =>
      cases fl with
      | next => exact False.elim h
      | brk => exact False.elim h
      | cont => exact False.elim h
      | ret u =>
        obtain ⟨v, H', os, bare, un, hok', r', q⟩ := h
        have q' : v = .bl true := q
        subst q'
        obtain rfl : u = Value.bool true := r'
        refine ⟨rfl, OldK.of_keep fun b o e => ?_, os, bare⟩
        cases q : H b with
        | none => exact un.keep b o e q (by intro z; exact absurd (show b ∈ ([] : List Addr) from z) (by simp)) (by simp)
        | some u =>
          rcases hO b with z | ⟨ob, xs, z⟩
          · rw [q] at z; cases z
          · have z2 := un.frzs b ob _ z
            obtain ⟨e1, _⟩ := hok b _ z
            obtain ⟨e2, _⟩ := hok' b _ z2
            rw [e] at e1; cases e1
            exact e2
  cases hk : K.lookup a with
  | some o =>
    -- the script is one of the module's own objects
    have e := KX a o hk
    rw [ha] at e
    cases e
    refine core (fun _ => none) (fun _ => .inl rfl) (.inr ⟨_, vs.toArray, _, hk, rfl, rfl, rfl, by rw [List.size_toArray, lenV]; exact hl, by simpa using rv⟩) (fun b u z => by have z' : (none : Option HO) = some u := z; cases z') (fun b z => absurd rfl z) fun z => absurd rfl z
  | none =>
    refine core (fun b => if b = a then some (.frz { cls := .type "list", data := .seq vs.toArray } (.lst (ns.map V.int))) else none) (fun b => ?_) (.inl (.inr ⟨{ cls := .type "list", data := .seq vs.toArray }, if_pos rfl⟩)) (fun b u z => ?_) (fun b z => ?_) fun _ => hk
    · by_cases hb : b = a
      · exact .inr ⟨_, _, if_pos hb⟩
      · exact .inl (if_neg hb)
    · by_cases hb : b = a
      · have z' := (if_pos hb).symm.trans z
        cases z'
        subst hb
        exact ⟨ha, by rw [List.length_map]; exact hl, vs, _, rv, ha⟩
      · have z' := (if_neg hb).symm.trans z
        cases z'
    · by_cases hb : b = a
      · exact hb
      · exact absurd (if_neg hb) z
end L2
namespace L2
open PySem PySem.Spec PyProof.Rows
abbrev KOf {K : PySem.W.Frag} {h : Heap} (_ : K.In h) : PySem.W.Frag := K
theorem walk_of {l : PySem.W.OpenLaw} {n k : Nat} {q : Program} {loose : List Str} {XP : (Str → Option Value) → Heap → Prop} {YP : World → Heap → Prop} {d : DefRec} {K : Params → PySem.W.Frag} {CX : World → CXT} {sp : World → Sp} {x : Str}
    (hn : l.most = some n) (hn2 : n ≤ sizeLine) (hdf : d.params.defaults = []) (hr : Room k callerA)
    (hY : ∀ (w : World) (h : Heap), YP w h → (K w.params).In h)
    (F : ∀ (w : World) (mg : Str → Option Value) (fa : Addr) (h : Heap), (K w.params).In h → h.Ns mainGlobals mg → mg d.name = some (.ref fa) →
      ∃ fd : FuncData, (∀ (s : Shared) (u : Value), BindsTo s fd ⟨[u], []⟩ [(x, u)]) ∧
        ∀ base : Heap, (K w.params).In base → base.Ns mainGlobals mg → FnOk l.prog w (K w.params) mg base (CX w) k fa fd [x] (sp w))
    (hsp : ∀ (w : World) (H : Hp) (a : Addr) (ns : List Int), ns.length ≤ n → Only H → SqL (K w.params) H a (ns.map V.int) → sp w [.ref a] H (fun v _ => v = .bl true) fun _ _ _ => False)
    (hCX : ∀ (w : World) (H : Hp) (s : Shared) (e : Value) (s' : Shared), CX w [] H s (fun _ _ _ => False) e s' → False) :
    PySem.W.WalkO q loose XP YP l.row.toRowW d [] (fun f vs => PySem.call f vs) := by
  refine Att.attach_call hn hdf fun w s₀ s₁ mg mb fa o pm cd doc a vs ns G Y ho hd hcd hmg hobj hints hlen hg => ?_
  have KX := hY w _ Y
  obtain ⟨fd, hb, hF⟩ := F w mg fa _ KX G.T.g hmg
  exact law_call KX G.T.g G.T.b G.T.builtins G.T.nolimit hg hobj hints (Nat.le_trans hlen hn2) hr hF hb (fun H hO hS => hsp w H a ns hlen hO hS) fun H e s' => hCX w H s₁ e s'
end L2
/- THE LAST THEOREM (shape; LID, My.* are yours):
   My.Adr: a structure of the addresses that your layer names (classes, functions); My.Txt K t: a structure (Prop) of the equations over K;
   My.txt_mk : {K} {implicit addresses ..} (e1 : nsIn K mainGlobals "law" = some (some (.ref f))) (e2 : K.lookup f = some ⟨oc, od, .func (fnOf "law" "law" params body scope dV kV doc pm an cdv ct), sl⟩) (e3 : codeIn K cdv "law" = true) .. : ∃ t, My.Txt K t
set_option maxRecDepth 100000 in
set_option maxHeartbeats 0 in
theorem PySem.Challenge.cw_LID_holds : PySem.Challenge.rw_LID.Holds := by
  w_on; o_law; k_head; (case hw => w_witness2)
  k_fill
  refine L2.walk_of (l := PySem.Challenge.rw_LID) (n := 63) (k := 40) (x := "script") (CX := fun w => ..) (sp := fun _ => My.sp_law) rfl (by decide) rfl ⟨rfl, by decide, by decide⟩ (fun w h Y => PySem.W.kIn_of Y) ?F ?S ?C
  case F =>
    intro w mg fa h KX G hmg
    have T : ∃ t, My.Txt (L2.KOf KX) t := by
      dsimp only [L2.KOf]                          -- K must stand as «<heap const> w.params» for k_is
      refine' My.txt_mk ?e1 ?e2 ?e3 ..
      (case e1 => PySem.W.k_is)                    -- in the order: a name -> its address -> its object -> its parts
      (case e2 => PySem.W.k_is)
      ..
    obtain ⟨t, T⟩ := T
    have e0 := hmg.symm.trans (PySem.W.mg_of KX G T.law)
    cases e0                                       -- fa is the law's own address
    exact ⟨_, fun s u => .of_eq rfl, fun base kb nb => My.law_fn T kb nb⟩     -- if «.of_eq rfl» comes too early: refine' ⟨_, ?b, fun base kb nb => My.law_fn T kb nb⟩; exact fun s u => .of_eq rfl
  case S => exact fun w H a ns hl hO hS => ..
  case C => exact ..
(the tactic k_is has no namespace: write k_is) -/
namespace L2
open PySem PySem.Spec PyProof.Rows
def defArgs (s : Stmt) : Arguments := match s with
  | .FunctionDef _ a _ _ _ _ _ _ _ _ => a
  | _ => { posonlyargs := [], args := [], vararg := none, kwonlyargs := [], kw_defaults := [], kwarg := none, defaults := [] }
def defBody (s : Stmt) : List Stmt := match s with
  | .FunctionDef _ _ b _ _ _ _ _ _ _ => b
  | _ => []
def defScope (s : Stmt) : Scope := match s with
  | .FunctionDef _ _ _ _ _ _ sc _ _ _ => sc
  | _ => { kind := .function, names := [], isGenerator := false, isCoroutine := false }
abbrev CX0 : CXT := fun _ _ _ _ _ _ => False
abbrev E0 : XK := fun _ _ _ => False
theorem pass0 {X : Cx} : Passes CX0 X E0 := fun _ _ _ _ _ _ _ h => h.elim
structure Fun (K : PySem.W.Frag) (x qual : Str) (st : Stmt) (f : Addr) (fd : FuncData) : Prop where
  ex : ∃ (oc : Value) (od : Option Addr) (kV doc pm : Value) (an : Option Addr) (cdv ct : Value) (osl : Array (Option Value)),
    fd = PySem.W.fnOf x qual (defArgs st) (defBody st) (defScope st) .none kV doc pm an cdv ct ∧ K.lookup f = some ⟨oc, od, .func fd, osl⟩ ∧ PySem.W.codeIn K cdv qual = true
  kp : PySem.W.keepIn K (.ref f) = true
section
variable {P : Program} {w : World} {K : PySem.W.Frag} {mg : Str → Option Value} {base : Heap}
theorem Fun.ok {x qual : Str} {st : Stmt} {f : Addr} {fd : FuncData} {N ps : List Str} {k : Nat} {sp : Sp} (F : Fun K x qual st f fd) (S : FnScope N ps (defScope st)) (len : ∀ vs H Q E, sp vs H Q E → vs.length = ps.length)
    (hbody : ∀ (cdv : Value) (A : Around) (outer : List Env) (s : Shared) (H : Hp) (vs : List V) (Q : VK) (E : XK), Room k (A.deeper (envOfC qual (defScope st) s.heap.objs.size f cdv)) → sp vs H Q E →
      ∃ t, PSs (cxOf CX0 P w K mg base N qual (defScope st) f cdv A outer s H E).nox (defBody st) t ∧ t { nx := fun _ H' => Q .non H', rt := Q } (start N vs) H) : FnOk P w K mg base CX0 (k + 1) f fd ps sp := by
  obtain ⟨oc, od, kV, doc, pm, an, cdv, ct, osl, rfl, lk, hcd⟩ := F.ex
  refine fn_of lk hcd S len fun A outer s H vs Q E hr hsp => ?_
  obtain ⟨t, h, q⟩ := hbody cdv A outer s H vs Q E hr hsp
  exact ⟨t, h.nox, q⟩
theorem Fun.binds {x qual : Str} {st : Stmt} {f : Addr} {fd : FuncData} {ps : List Str} (F : Fun K x qual st f fd)
    (h : ∀ (kV doc pm : Value) (an : Option Addr) (cdv ct : Value) (us : List Value), us.length = ps.length → bindArgs (PySem.W.fnOf x qual (defArgs st) (defBody st) (defScope st) .none kV doc pm an cdv ct) ⟨us, []⟩ = pure (ps.zip us)) : Binds K fd ps [] := by
  obtain ⟨oc, od, kV, doc, pm, an, cdv, ct, osl, rfl, lk, hcd⟩ := F.ex
  exact .all (h kV doc pm an cdv ct)
theorem fun_mk {x qual : Str} {st : Stmt} {f : Addr} {oc : Value} {od an : Option Addr} {osl : Array (Option Value)} {kV doc pm cdv ct : Value} (l : K.lookup f = some ⟨oc, od, .func (PySem.W.fnOf x qual (defArgs st) (defBody st) (defScope st) .none kV doc pm an cdv ct), osl⟩)
    (c : PySem.W.codeIn K cdv qual = true) (k : PySem.W.keepIn K (.ref f) = true) : Fun K x qual st f (PySem.W.fnOf x qual (defArgs st) (defBody st) (defScope st) .none kV doc pm an cdv ct) := ⟨⟨oc, od, kV, doc, pm, an, cdv, ct, osl, rfl, l, c⟩, k⟩
end
section
variable {X : Cx}
theorem pv (i : Nat) {x : Str} {pos : Pos} (hN : X.N[i]? = some x := by rfl) (hv : Vis X.env.scope x := by first | exact Or.inl rfl | exact Or.inr (Or.inl rfl) | exact Or.inr (Or.inr rfl)) (hd : (x == ("__debug__" : Str)) = false := by decide)
    (hcd : (x == ("__classdict__" : Str)) = false := by decide) : PE X (.Name x pos) (tVar i) := pe_var hN hv hd hcd
end
theorem iteF {A B : Prop} (h : B) : if false = true then A else B := by
  rw [if_neg Bool.false_ne_true]
  exact h
theorem iteT {A B : Prop} (h : A) : if true = true then A else B := by
  rw [if_pos rfl]
  exact h
def Same (H H' : Hp) : Prop := ∀ b o, H b = some o → H' b = some o
theorem Same.refl (H : Hp) : Same H H := fun _ _ h => h
theorem Same.trans {H H1 H2 : Hp} (a : Same H H1) (b : Same H1 H2) : Same H H2 := fun c o h => b c o (a c o h)
theorem Same.free {H H' : Hp} (e : Same H H') {l : Addr} (h : H' l = Option.none) : H l = Option.none := by
  cases q : H l with
  | none => rfl
  | some o =>
    rw [e l o q] at h
    cases h
theorem Same.seq {K : PySem.W.Frag} {H H' : Hp} {a : Addr} {xs : List V} (e : Same H H') (h : SqL K H a xs) : SqL K H' a xs := by
  rcases h with (h | ⟨o, h⟩) | h
  · exact .inl (.inl (e _ _ h))
  · exact .inl (.inr ⟨o, e _ _ h⟩)
  · exact .inr h
section
variable {κ : Type} [DecidableEq κ]
end
end L2
set_option Elab.async false
set_option linter.all false
set_option maxRecDepth 100000
set_option maxHeartbeats 4000000
namespace L2
open PySem PySem.Spec PyProof.Rows
def Its (x : Str) : It := ⟨fun i _ => i < x.cps.size, fun i H v H' => H' = H ∧ ∃ c, x.cps[i]? = some c ∧ v = .str ⟨#[c]⟩, fun i _ => i = x.cps.size⟩
theorem turn_str {P : Program} {w : World} {K : PySem.W.Frag} {tg : Expr} {ty : String} (it : Addr) (x : Str) (t : Tok)
    (W : ∀ A : Around, A.handled = none → Walks P w A it [it] [it] x.cps.size (SignAt x) (fun i h => h.IsStrIter it ty x t i))
    (hself : ∀ (A : Around) (i : Nat) (s : Shared) (Q : Value → Shared → Prop) (E : Value → Shared → Prop), s.heap.IsStrIter it ty x t i → Q (.ref it) s → wpAny (model P w) A (pyIter (.ref it)) Q E s)
    (hty : ["enumerate", "zip", "dict_itemiterator", "dict_reverseitemiterator", "odict_iterator", "itertools.zip_longest", "itertools.pairwise"].contains ty = false) :
    Turn P w K tg (Its x) [it] it (fun i h => h.IsStrIter it ty x t i) where
  mem := by simp
  obj := fun i h st b hb => by
    have e : b = it := by simpa using hb
    subst e
    obtain ⟨o, e, c, d⟩ := st
    exact ⟨o, e, fun v z => by rw [d] at z; cases z⟩
  keep := fun i h h' st k => by
    obtain ⟨o, e, r⟩ := st
    exact ⟨o, k it (by simp) o e, r⟩
  item := by
    intro X hP hw hK hc i pins s σ H E I hf st hg
    subst hP hw hK
    obtain ⟨f0, f1, f2, f3, f4, f5⟩ := hf it (by simp)
    refine (W X.A (I.ok.hd hc)).item i s _ _ hg st fun v h' tk hv st' kk => ?_
    obtain ⟨c, u, hcx, rfl⟩ := hv
    have I1 : Inv X pins σ H { s with heap := h', toks := tk } := I.turned (fun b o hb e => kk b o (by simpa using hb) e) f0 f1 f3 f4 f5
    obtain ⟨o, e, cc, d⟩ := id st'
    exact ⟨_, rfl, go_of (s := { s with heap := h', toks := tk }) e cc d hty ⟨.str ⟨#[c]⟩, H, I1, ⟨u, rfl⟩, ⟨rfl, c, hcx, rfl⟩, st', fun b hb => (hf b hb).1⟩⟩
  done := by
    intro X hP hw hK hc i pins s σ H E I hf st hg
    subst hP hw hK
    obtain ⟨f0, f1, f2, f3, f4, f5⟩ := hf it (by simp)
    have hg' : i = x.cps.size := hg
    subst hg'
    exact (W X.A (I.ok.hd hc)).done s _ _ st fun h' tk kk => ⟨rfl, I.turned (fun b o hb e => kk b o (by simpa using hb) e) f0 f1 f3 f4 f5⟩
  self := hself
section
variable {X : Cx} {tg : Expr}
def iStr (ts : TE) : TI := fun σ H R => ts σ H fun v H1 => ∃ x, v = .str x ∧ R (Its x) H1
theorem pi_str {l : Expr} {tl : TE} (hl : PE X l tl) : PI X tg l (iStr tl) := by
  intro pins s σ H R I h
  refine thn (hl pins s σ H _ I h) fun v s1 ⟨x, H1, I1, r1, q1⟩ => ?_
  obtain ⟨z, e, q⟩ := q1
  subst e
  obtain ⟨t, rfl⟩ := r1
  cases ha : z.cps.all (· < 128)
  · refine wpAny_pyIter_wide ha ?_
    refine ⟨s1.heap.objs.size, [s1.heap.objs.size], _, _, H1, rfl, I1.kept (t' := s1.toks) fun b o e => Heap.get?_push_of_some _ e, turn_str _ z t (fun A hA => Walks.strWide hA _ z t) (fun _ _ _ _ _ st h => wpAny_pyIter_striter_wide st h) (by decide), ⟨_, Heap.get?_push_size _ rfl, rfl, rfl⟩, fun b hb => ?_, q⟩
    have e : b = s1.heap.objs.size := by simpa using hb
    subst e
    exact I1.fpOk (Nat.le_refl _) (I1.hok.fresh (Nat.le_refl _))
  · refine wpAny_pyIter_ascii ha ?_
    refine ⟨s1.heap.objs.size, [s1.heap.objs.size], _, _, H1, rfl, I1.kept (t' := s1.toks) fun b o e => Heap.get?_push_of_some _ e, turn_str _ z t (fun A hA => Walks.strAscii hA _ z t) (fun _ _ _ _ _ st h => wpAny_pyIter_striter_ascii st h) (by decide), ⟨_, Heap.get?_push_size _ rfl, rfl, rfl⟩, fun b hb => ?_, q⟩
    have e : b = s1.heap.objs.size := by simpa using hb
    subst e
    exact I1.fpOk (Nat.le_refl _) (I1.hok.fresh (Nat.le_refl _))
end
def closL (cells : List (Str × Addr)) : List (Str × NameKind) → List (Str × Addr) → List (Str × Addr)
  | [], cs => cs
  | (n, k) :: r, cs => closL cells r (if k == .free then (match cells.lookup n with | some a => (n, a) :: cs | none => cs) else cs)
theorem closureFor_eq {scope : Scope} {env : Env} (h : ∀ n, (n, NameKind.free) ∈ scope.names → ∃ c, env.cells.lookup n = some c) : closureFor scope env = pure (closL env.cells scope.names []) := by
  unfold closureFor
  have go : ∀ (l : List (Str × NameKind)) (cs : List (Str × Addr)), (∀ n, (n, NameKind.free) ∈ l → ∃ c, env.cells.lookup n = some c) →
      (forIn l cs fun x r => if (x.2 == NameKind.free) = true then do let a ← cellOf env x.1; pure (ForInStep.yield ((x.1, a) :: r)) else pure (ForInStep.yield r) : Sem (List (Str × Addr))) = pure (closL env.cells l cs) := by
    intro l
    induction l with
    | nil => intro cs _; rfl
    | cons x r ih =>
      intro cs hl
      obtain ⟨n, k⟩ := x
      rw [List.forIn_cons]
      have hr : ∀ n, (n, NameKind.free) ∈ r → ∃ c, env.cells.lookup n = some c := fun y hy => hl y (List.mem_cons_of_mem _ hy)
      by_cases hk : k = .free
      · subst hk
        obtain ⟨c, hc⟩ := hl n List.mem_cons_self
        have e : cellOf env n = pure c := by unfold cellOf; rw [hc]
        simp only [beq_self_eq_true, if_true, e, pure_bind, closL, hc]
        exact ih _ hr
      · have hb : (k == NameKind.free) = false := by simpa using hk
        simp only [hb, Bool.false_eq_true, if_false, pure_bind, closL]
        exact ih _ hr
  have q := go scope.names [] h
  simp only [bind_pure]
  exact q
theorem closL_mem (cells : List (Str × Addr)) : ∀ (l : List (Str × NameKind)) (cs : List (Str × Addr)) (p : Str × Addr), p ∈ closL cells l cs → p ∈ cs ∨ (cells.lookup p.1 = some p.2 ∧ (p.1, NameKind.free) ∈ l)
  | [], cs, p, h => .inl h
  | (n, k) :: r, cs, p, h => by
    unfold closL at h
    rcases closL_mem cells r _ p h with q | ⟨q1, q2⟩
    · by_cases hk : k = .free
      · subst hk
        simp only [beq_self_eq_true, if_true] at q
        cases e : cells.lookup n with
        | none => rw [e] at q; exact .inl q
        | some a =>
          rw [e] at q
          rcases List.mem_cons.mp q with rfl | q
          · exact .inr ⟨e, List.mem_cons_self⟩
          · exact .inl q
      · have hb : (k == NameKind.free) = false := by simpa using hk
        simp only [hb, Bool.false_eq_true, if_false] at q
        exact .inl q
    · exact .inr ⟨q1, List.mem_cons_of_mem _ q2⟩
theorem closL_sub (cells : List (Str × Addr)) : ∀ (l : List (Str × NameKind)) (cs : List (Str × Addr)) (p : Str × Addr), p ∈ cs → p ∈ closL cells l cs
  | [], _, _, h => h
  | (n, k) :: r, cs, p, h => by
    unfold closL
    refine closL_sub cells r _ p ?_
    split
    · split
      · exact List.mem_cons_of_mem _ h
      · exact h
    · exact h
theorem closL_has (cells : List (Str × Addr)) {x : Str} {c : Addr} (hc : cells.lookup x = some c) : ∀ (l : List (Str × NameKind)) (cs : List (Str × Addr)), (x, NameKind.free) ∈ l → (x, c) ∈ closL cells l cs
  | (n, k) :: r, cs, h => by
    unfold closL
    rcases List.mem_cons.mp h with e | h
    · cases e
      refine closL_sub cells r _ _ ?_
      simp only [beq_self_eq_true, if_true, hc]
      exact List.mem_cons_self
    · exact closL_has cells hc r _ h
theorem lookup_of_mem {x : Str} {c : Addr} : ∀ {l : List (Str × Addr)}, (x, c) ∈ l → ∃ c', l.lookup x = some c'
  | (y, d) :: r, h => by
    by_cases e : x = y
    · subst e; exact ⟨d, by simp [List.lookup_cons]⟩
    · have hb : (x == y) = false := by simpa using e
      rw [List.lookup_cons, hb]
      rcases List.mem_cons.mp h with q | q
      · cases q; exact absurd rfl e
      · exact lookup_of_mem q
theorem closL_look {cells : List (Str × Addr)} {l : List (Str × NameKind)} {x : Str} {c : Addr} (h : (closL cells l []).lookup x = some c) : cells.lookup x = some c ∧ (x, NameKind.free) ∈ l := by
  rcases closL_mem cells l [] (x, c) (PySem.mem_of_lookup h) with q | q
  · cases q
  · exact q
theorem closL_of {cells : List (Str × Addr)} {l : List (Str × NameKind)} {x : Str} {c : Addr} (hc : cells.lookup x = some c) (h : (x, NameKind.free) ∈ l) : (closL cells l []).lookup x = some c := by
  obtain ⟨c', e⟩ := lookup_of_mem (closL_has cells hc l [] h)
  rw [e, ← hc, (closL_look e).1]
end L2
set_option Elab.async false
set_option linter.all false
set_option maxRecDepth 100000
set_option maxHeartbeats 4000000
namespace L2
open PySem PySem.Spec PyProof.Rows
def PFs (X : Cx) (ifs : List Expr) (t : TT) : Prop :=
  ∀ (pins : List (Addr × Obj)) (s : Shared) (σ : St) (H : Hp) (Q : Bool → Hp → Prop), Inv X pins σ H s → t σ H Q →
    wpAny (model X.prog X.w) X.A (forIn ifs true fun c r => if r = true then do let ok ← isTrue c X.env (eval c X.env); pure (ForInStep.yield ok) else pure (ForInStep.yield r)) (TP X pins σ Q) X.xe s
def tYes : TT := fun _ H Q => Q true H
theorem pf_nil {X : Cx} : PFs X [] tYes := fun _ _ _ H _ I h => wpAny_tests_nil ⟨H, I, h⟩
theorem pf_one {X : Cx} {c : Expr} {t : TT} (h : PT X c t) : PFs X [c] t := fun pins s σ H Q I hw => wpAny_tests_one (h pins s σ H Q I hw)
def cxComp (X : Cx) (N : List Str) (scope : Scope) (cl : List (Str × Addr)) (C : Addr) (ex : List Addr) (s : Shared) (H : Hp) : Cx where
  prog := X.prog
  w := X.w
  K := X.K
  mg := X.mg
  base := X.base
  A := X.A
  N := N
  s₀ := s
  H₀ := H
  env := compEnvC scope cl C X.env
  outer := X.stack
  stack := X.stack
  ex := ex
  fn := fun _ => false
  calm := true
  pn := []
  xe := fun _ _ => False
structure CompOk (N : List Str) (psc scope : Scope) (caps : List Nat) (x : Str) (M : List Str) : Prop where
  kind : scope.kind = .function
  nocell : ∀ y ∈ scope.names, y.2 ≠ .cell
  names : ∀ y ∈ scope.names, y.2 = .local → scope.names.lookup y.1 = some .local
  var : scope.names.lookup x = some .local
  free : ∀ y ∈ scope.names, y.2 = .free → psc.names.lookup y.1 = some .cell ∨ psc.names.lookup y.1 = some .free
  inN : M = x :: caps.map fun i => N.getD i ""
  cap : ∀ i ∈ caps, i < N.length ∧ scope.names.lookup (N.getD i "") = some .free
  nd : M.Nodup
def compChk (N : List Str) (psc scope : Scope) (caps : List Nat) (x : Str) (M : List Str) : Bool :=
  decide (scope.kind = .function) && decide (∀ y ∈ scope.names, y.2 ≠ .cell) && decide (∀ y ∈ scope.names, y.2 = .local → scope.names.lookup y.1 = some .local) && decide (scope.names.lookup x = some .local)
    && decide (∀ y ∈ scope.names, y.2 = .free → psc.names.lookup y.1 = some .cell ∨ psc.names.lookup y.1 = some .free) && decide (M = x :: caps.map fun i => N.getD i "")
    && decide (∀ i ∈ caps, i < N.length ∧ scope.names.lookup (N.getD i "") = some .free) && decide M.Nodup
theorem CompOk.of {N : List Str} {psc scope : Scope} {caps : List Nat} {x : Str} {M : List Str} (h : compChk N psc scope caps x M = true) : CompOk N psc scope caps x M := by
  unfold compChk at h
  simp only [Bool.and_eq_true] at h
  obtain ⟨⟨⟨⟨⟨⟨⟨a, b⟩, c⟩, d⟩, e⟩, f⟩, g⟩, i⟩ := h
  exact ⟨of_decide_eq_true a, of_decide_eq_true b, of_decide_eq_true c, of_decide_eq_true d, of_decide_eq_true e, of_decide_eq_true f, of_decide_eq_true g, of_decide_eq_true i⟩
def capS (caps : List Nat) (σ : St) : St := caps.map fun i => (σ[i]?).getD none
def tComp (caps : List Nat) (wi : TI) (tt : TT) (te : TE) : TE := fun σ H Q => wi σ H fun J H1 => ∃ W : Nat → Nat → List V → Hp → Prop, (∃ m, W 0 m [] H1) ∧
  ∀ i m acc H, W i m acc H → (J.stop i H ∧ ∀ D, H D = none → Q (.ref D) (upd H D (.lst acc))) ∨
    (J.go i H ∧ acc.length < sizeLine ∧ ∀ v H', J.yld i H v H' → tt (some v :: capS caps σ) H' fun b H2 => if b = true then te (some v :: capS caps σ) H2 fun y H3 => ∃ m', m' < m ∧ W (i + 1) m' (acc ++ [y]) H3 else ∃ m', m' < m ∧ W (i + 1) m' acc H2)
theorem HOk.adopt {P : Program} {w : World} {H : Hp} {h : Heap} {a : Addr} {o : HO} (x : HOk P w H h) (hn : H a = none) (new : ObjOk P w (upd H a o) h a o) : HOk P w (upd H a o) h := fun b u e => by
  by_cases hb : b = a
  · subst hb; rw [upd_same] at e; cases e; exact new
  · rw [upd_ne hb] at e
    exact (x b u e).stay (fun c v _ q => q) (fun c q => by rw [upd_ne (ne_of_none q hn)]; exact q) fun c xs q => by rw [upd_ne (ne_of_none q hn)]; exact q
theorem relabel_free {env : Env} {x : Str} : ∀ {names : List (Str × NameKind)}, (∀ y ∈ names, y.2 ≠ .cell) → ∀ {k : NameKind},
    (names.map fun (n, k) => if (k == NameKind.free && env.scope.kind == .function && env.kindOf n == some .cell) then (n, NameKind.cell) else (n, k)).lookup x = some k → k = .cell ∨ k = .free → (x, NameKind.free) ∈ names
  | [], _, _, h, _ => by simp at h
  | (n, k0) :: r, hn, k, h, hk => by
    have ih := @relabel_free env x r (fun y hy => hn y (List.mem_cons_of_mem _ hy)) k
    rw [List.map_cons] at h
    by_cases hc : (k0 == NameKind.free && env.scope.kind == .function && env.kindOf n == some .cell) = true
    · have h2 : List.lookup x ((n, NameKind.cell) :: r.map fun (n, k) => if (k == NameKind.free && env.scope.kind == .function && env.kindOf n == some .cell) then (n, NameKind.cell) else (n, k)) = some k := by
        have q := h
        simp only [hc, if_true] at q
        exact q
      have hf : k0 = .free := by
        have z : (k0 == NameKind.free) = true := by
          cases e : (k0 == NameKind.free) with
          | true => rfl
          | false => rw [e] at hc; simp at hc
        simpa using z
      by_cases e : x = n
      · subst e; subst hf; exact List.mem_cons_self
      · have hb : (x == n) = false := by simpa using e
        rw [List.lookup_cons, hb] at h2
        exact List.mem_cons_of_mem _ (ih h2 hk)
    · have h2 : List.lookup x ((n, k0) :: r.map fun (n, k) => if (k == NameKind.free && env.scope.kind == .function && env.kindOf n == some .cell) then (n, NameKind.cell) else (n, k)) = some k := by
        have q := h
        simp only [hc, if_false] at q
        exact q
      by_cases e : x = n
      · subst e
        rw [List.lookup_cons, beq_self_eq_true] at h2
        have e2 : k0 = k := Option.some.inj h2
        subst e2
        rcases hk with z | z
        · exact absurd z (hn (x, k0) List.mem_cons_self)
        · subst z; exact List.mem_cons_self
      · have hb : (x == n) = false := by simpa using e
        rw [List.lookup_cons, hb] at h2
        exact List.mem_cons_of_mem _ (ih h2 hk)
theorem relabel_look {env : Env} {x : Str} : ∀ {names : List (Str × NameKind)}, names.lookup x = some .free →
    (names.map fun (n, k) => if (k == NameKind.free && env.scope.kind == .function && env.kindOf n == some .cell) then (n, NameKind.cell) else (n, k)).lookup x = some .cell ∨
    (names.map fun (n, k) => if (k == NameKind.free && env.scope.kind == .function && env.kindOf n == some .cell) then (n, NameKind.cell) else (n, k)).lookup x = some .free
  | [], h => by simp at h
  | (n, k) :: r, h => by
    have ih := @relabel_look env x r
    show List.lookup x ((if (k == NameKind.free && env.scope.kind == .function && env.kindOf n == some .cell) = true then (n, NameKind.cell) else (n, k)) :: _) = _ ∨ List.lookup x ((if (k == NameKind.free && env.scope.kind == .function && env.kindOf n == some .cell) = true then (n, NameKind.cell) else (n, k)) :: _) = _
    by_cases hc : (k == NameKind.free && env.scope.kind == .function && env.kindOf n == some .cell) = true
    · rw [if_pos hc]
      cases hx : x == n with
      | true => left; simp [List.lookup_cons, hx]
      | false =>
        simp only [List.lookup_cons, hx] at h ⊢
        exact ih h
    · rw [if_neg hc]
      cases hx : x == n with
      | true =>
        simp only [List.lookup_cons, hx] at h
        right; simp [List.lookup_cons, hx, h]
      | false =>
        simp only [List.lookup_cons, hx] at h ⊢
        exact ih h
theorem compLoop_own {prog : Program} {w : World} {A : Around} {R : Result → Shared → Prop} {s : Shared} {elt target iter : Expr} {ifs : List Expr} {scope : Scope} {pos : Pos} {it acc : Value} {env : Env} (I : Nat → Shared → Prop)
    (turn : ∀ n s, I n s → wpAny (model prog w) A (pyNext it) (fun r s₁ => match r with
      | none => R (.ok .next) s₁
      | some v => wpAny (model prog w) A (letOwnedTupleGo target it v) (fun _ s₂ => wpAny (model prog w) A (assign target env v) (fun _ s₃ =>
          wpAny (model prog w) A (forIn ifs true fun c r => if r = true then do let ok ← isTrue c env (eval c env); pure (ForInStep.yield ok) else pure (ForInStep.yield r)) (fun ok s₄ =>
            if ok = true then wpAny (model prog w) A (eval elt env) (fun x s₅ =>
              wpAny (model prog w) A (call (.builtin "list.append") [acc, x]) (fun _ s₆ => ∃ m, m < n ∧ I m s₆) (fun _ _ => False) s₅) (fun _ _ => False) s₄
            else ∃ m, m < n ∧ I m s₄) (fun _ _ => False) s₃) (fun _ _ => False) s₂) (fun _ _ => False) s₁) (fun _ _ => False) s)
    (n : Nat) (h : I n s) :
    codeAny (model prog w) A (.compLoop (.ListComp elt [⟨target, iter, ifs, 0⟩] scope pos) 0 it acc env) R s := by
  refine codeAny_loop rfl I (fun n s hI => ?_) n h
  show wpAny _ A ((compTurn (.ListComp elt [⟨target, iter, ifs, 0⟩] scope pos) 0 it acc env).onRaise (fun x => do noteFrame x env; theTreesLotGoes x)) _ _ s
  refine wpAny_noted ?_
  rw [compTurn_list]
  refine wpAny_bind (wpAny_standAt (wpAny_bind (wpAny_mono (turn n s hI) (fun r s₁ h₁ => ?_) fun _ _ h' => h'.elim)))
  cases r with
  | none => exact wpAny_pure h₁
  | some v =>
    refine wpAny_bind (wpAny_mono h₁ (fun _ s₂ h₂ => wpAny_bind (wpAny_mono h₂ (fun _ s₃ h₃ => wpAny_bind (wpAny_mono h₃ (fun ok s₄ h₄ => ?_) fun _ _ h' => h'.elim)) fun _ _ h' => h'.elim)) fun _ _ h' => h'.elim)
    cases ok with
    | false => exact wpAny_pure ⟨rfl, h₄⟩
    | true =>
      exact wpAny_bind (wpAny_bind (wpAny_mono h₄ (fun x s₅ h₅ => wpAny_bind (wpAny_mono h₅ (fun _ s₆ h₆ => wpAny_pure (wpAny_pure ⟨rfl, h₆⟩)) fun _ _ h' => h'.elim)) fun _ _ h' => h'.elim))
section
variable {X : Cx}
theorem Inv.cap {pins : List (Addr × Obj)} {σ : St} {H : Hp} {s : Shared} {i : Nat} {y : Str} {v : V} (I : Inv X pins σ H s) (hy : X.N[i]? = some y) (hv : σ[i]? = some (some v)) (hk : X.env.kindOf y = some .cell ∨ X.env.kindOf y = some .free) :
    ∃ u c, RelV v u ∧ X.env.cells.lookup y = some c ∧ s.heap.IsCell c (some u) := by
  obtain ⟨m, hn, hl⟩ := I.loc
  obtain ⟨u, r, l⟩ := hl i y v hy hv (by rcases hk with h | h; exact .inr (.inl h); exact .inr (.inr h))
  rcases l with ⟨h1, _⟩ | ⟨_, c, hc, z⟩
  · rcases hk with h | h <;> (rw [h1] at h; cases h)
  · exact ⟨u, c, r, hc, z⟩
theorem comp_start {M : List Str} {scope : Scope} {caps : List Nat} {x : Str} {pins : List (Addr × Obj)} {σ : St} {H : Hp} {s s4 : Shared} {fp : List Addr} {C : Addr} {m : Str → Option Value}
    (S : CompOk X.N X.env.scope scope caps x M) (hcalm : X.calm = true) (I : Inv X pins σ H s) (hf : ∀ b ∈ fp, FpOk X pins H b) (hfo : ∀ b ∈ fp, ∃ o, s.heap.get? b = some o)
    (hC : s.heap.objs.size ≤ C) (hos : s4.os = s.os) (hg : AllBare s4.gens) (keep : ∀ b o, s.heap.get? b = some o → s4.heap.get? b = some o) (hn : s4.heap.Ns C m) :
    Inv (cxComp X M scope (closL X.env.cells scope.names []) C fp s H) [] (none :: capS caps σ) H s4 := by
  have cell0 : ∀ y c, (closL X.env.cells scope.names []).lookup y = some c → X.env.cells.lookup y = some c := fun y c h => (closL_look h).1
  have fresh : ∀ b o, s.heap.get? b = some o → b ≠ C := fun b o e z => by
    subst z
    exact absurd (Nat.lt_of_lt_of_le (Heap.lt_size e) hC) (Nat.lt_irrefl _)
  have ok : (cxComp X M scope (closL X.env.cells scope.names []) C fp s H).Ok := by
    refine ⟨I.ok.mod, ?_, I.ok.glob, I.ok.blt, hC, fun y z c h1 h2 => I.ok.inj y z c (cell0 _ _ h1) (cell0 _ _ h2), fun y hy => ?_, fun y c h _ => Bool.noConfusion h, fun _ => I.ok.hd hcalm, I.ok.frames, .inl rfl, fun b hb => ⟨?_, fun y c h z => ?_⟩,
      I.bs, Nat.le_trans I.ok.bsz I.sz, fun b o e hb => ?_, fun b hb hs => ?_, I.stack, I.stkFree⟩
    · exact S.kind
    · have hm : (y, NameKind.free) ∈ scope.names := by
        rcases hy with h | h
        · exact relabel_free S.nocell h (.inl rfl)
        · exact relabel_free S.nocell h (.inr rfl)
      obtain ⟨c, hc⟩ := I.ok.has y (S.free _ hm rfl)
      exact ⟨c, closL_of hc hm⟩
    · obtain ⟨o, e⟩ := hfo b hb
      exact fresh b o e
    · exact (hf b hb).2.2.2.2.1 y c (cell0 y c h) z
    · rcases (hf b hb).2.2.2.1 with z | z
      · exact I.ok.noex b o e z
      · exact absurd (Nat.lt_of_lt_of_le (Heap.lt_size e) (Nat.le_trans I.ok.bsz z)) (Nat.lt_irrefl _)
    · rcases List.mem_cons.mp (I.stkSub b hs) with z | z
      · exact (hf b hb).2.1 z
      · exact (hf b hb).2.2.1 z
  refine ⟨ok, hos, hg, Un.kept keep, ⟨m, hn, fun i y v h1 h2 h3 => ?_⟩, fun y c h => ?_, I.hok.fresh hC, fun y c h => I.freeC y c (cell0 y c h), fun p hp => absurd (show p ∈ ([] : List (Addr × Obj)) from hp) (by simp), I.hok.kept keep, ?_⟩
  · have h1' : M[i]? = some y := h1
    cases i with
    | zero => simp at h2
    | succ j =>
      rw [S.inN] at h1'
      simp only [List.getElem?_cons_succ, capS, List.getElem?_map] at h1' h2
      cases e : caps[j]? with
      | none => rw [e] at h1'; simp at h1'
      | some k =>
        rw [e] at h1' h2
        simp only [Option.map_some, Option.some.injEq] at h1' h2
        obtain ⟨c1, c2⟩ := S.cap k (List.mem_of_getElem? e)
        rw [h1'] at c2
        have hN : X.N[k]? = some y := by
          rw [← h1', List.getD_eq_getElem?_getD, List.getElem?_eq_getElem c1]; rfl
        have hσ : σ[k]? = some (some v) := by
          cases q : σ[k]? with
          | none => rw [q] at h2; cases h2
          | some z => rw [q] at h2; simpa using h2
        obtain ⟨u, c, r, hc, z⟩ := I.cap hN hσ (S.free (y, .free) (PySem.mem_of_lookup c2) rfl)
        obtain ⟨oc, ho, hd⟩ := z
        exact ⟨u, r, .inr ⟨relabel_look c2, c, closL_of hc (PySem.mem_of_lookup c2), oc, keep _ _ ho, hd⟩⟩
  · obtain ⟨v, oc, ho, hd⟩ := I.cell y c (cell0 y c h)
    exact ⟨v, oc, keep _ _ ho, hd⟩
  · show _ = M.length
    rw [S.inN]
    simp [capS]
theorem comp_done {M : List Str} {scope : Scope} {cl : List (Str × Addr)} {pins pins' : List (Addr × Obj)} {σ σ' : St} {H H' : Hp} {s s' : Shared} {fp : List Addr} {C D : Addr} {h'' : Heap} {acc : List V} {its : List Value}
    (I : Inv X pins σ H s) (hf : ∀ b ∈ fp, FpOk X pins H b) (I' : Inv (cxComp X M scope cl C fp s H) pins' σ' H' s') (hC : s.heap.objs.size ≤ C) (hD : s.heap.objs.size ≤ D) (hDC : D ≠ C) (hDn : H' D = none)
    (hl : s'.heap.PlainList D its.toArray) (rv : Vals acc its) (hz : acc.length ≤ sizeLine) (sb : Heap.SameBut C s'.heap h'') :
    Inv X pins σ (upd H' D (.lst acc)) { s' with heap := h'' } := by
  have below : ∀ b o, s.heap.get? b = some o → b ≠ C ∧ b ≠ D := fun b o e => ⟨fun z => absurd (Nat.lt_of_lt_of_le (Heap.lt_size e) (by rw [z]; exact hC)) (Nat.lt_irrefl _), fun z => absurd (Nat.lt_of_lt_of_le (Heap.lt_size e) (by rw [z]; exact hD)) (Nat.lt_irrefl _)⟩
  have hHD : H D = none := I.hok.fresh hD
  have B : Un (frs X.stack) fp H H' s.heap s'.heap := I'.base
  have hHC : H' C = none := I'.free
  obtain ⟨n, el⟩ := hl
  have ok1 : HOk X.prog X.w H' h'' := fun b u e => by
    refine (show ObjOk X.prog X.w H' s'.heap b u from I'.hok b u e).stay (fun c v hc q => (sb.2 c ?_).trans q) (fun _ q => q) fun _ _ q => q
    rcases hc with z | z
    · rw [z]; intro z2; rw [z2, hHC] at e; cases e
    · intro z2; rw [z2, hHC] at z; cases z
  have ok2 : HOk X.prog X.w (upd H' D (.lst acc)) h'' := ok1.adopt hDn ⟨hz, its, n, rv, (sb.2 D hDC).trans el⟩
  have U : Un (frs X.stack) fp H (upd H' D (.lst acc)) s.heap h'' := by
    refine ⟨fun b o q n hb hx => (sb.2 b (below b o q).1).trans (B.keep b o q n hb hx), fun b o q n hb hx => ?_, fun b o q n hx => ?_, fun b o q hx => ?_, fun b xs q => ?_, fun b o u q => ?_, fun b ps q => ?_⟩
    · obtain ⟨sl, e⟩ := B.slot b o q n hb hx
      exact ⟨sl, (sb.2 b (below b o q).1).trans e⟩
    · rw [upd_ne (below b o q).2]; exact B.free b o q n hx
    · obtain ⟨o', e⟩ := B.there b o q hx
      exact ⟨o', (sb.2 b (below b o q).1).trans e⟩
    · rw [upd_ne (ne_of_none q hHD)]; exact B.tups b xs q
    · rw [upd_ne (ne_of_none q hHD)]; exact B.frzs b o u q
    · rw [upd_ne (ne_of_none q hHD)]; exact B.tbls b ps q
  have os : s'.os = s.os := I'.os
  exact I.call' (s' := { s' with heap := h'' }) (ch := fp) os U ok2 I'.bare fun b hb => ⟨(hf b hb).2.2.2.1, (hf b hb).2.1, (hf b hb).2.2.2.2.1, (hf b hb).2.2.2.2.2⟩
theorem pe_comp {elt iter : Expr} {x : Str} {px : Pos} {ifs : List Expr} {scope : Scope} {pos : Pos} {wi : TI} {tt : TT} {te : TE} {M : List Str} (caps : List Nat) (hcalm : X.calm = true) (S : CompOk X.N X.env.scope scope caps x M)
    (hi : PI X (.Name x px) iter wi) (ht : ∀ cl C ex s H, PFs (cxComp X M scope cl C ex s H) ifs tt) (he : ∀ cl C ex s H, PE (cxComp X M scope cl C ex s H) elt te)
    (hs : ∀ y, foldedSetIterable iter X.env y = pure y := by intro _; rfl) : PE X (.ListComp elt [⟨.Name x px, iter, ifs, 0⟩] scope pos) (tComp caps wi tt te) := by
  intro pins s σ H Q I h
  rw [eval_ListComp]
  refine wpAny_comprehension_free (use := none) rfl hs (closureFor_eq fun n hn => I.ok.has n (S.free _ hn rfl)) S.kind S.names ?_
  refine thn (hi pins s σ H _ I h) fun v s1 h1 => thn h1 fun itv s2 h2 => ?_
  obtain ⟨it, fp, tn, J, H2, e, I2, T, st2, f2, W, ⟨m0, w0⟩, turn⟩ := h2
  subst e
  refine wpAny_newObj_type (wpAny_newFunctionEnv S.nocell (by intro y hy; simp at hy) (fun h₁ hns₁ hsb₁ => ?_) S.kind)
  dsimp only at hns₁ hsb₁ ⊢
  generalize hH2 : s2.heap.push { cls := .type "list", dict := none, data := .seq ([] : List Value).toArray } = P2 at hns₁ hsb₁ ⊢
  have hCs : P2.objs.size = s2.heap.objs.size + 1 := by rw [← hH2, Heap.size_push]
  have hDC : s2.heap.objs.size ≠ P2.objs.size := by rw [hCs]; exact Nat.ne_of_lt (Nat.lt_succ_self _)
  have hCle : s2.heap.objs.size ≤ P2.objs.size := by rw [hCs]; exact Nat.le_succ _
  have below : ∀ b, b < s2.heap.objs.size → b ≠ P2.objs.size := fun b hb => by rw [hCs]; exact Nat.ne_of_lt (Nat.lt_succ_of_lt hb)
  have old : ∀ b o, s2.heap.get? b = some o → h₁.get? b = some o := fun b o e => hsb₁.extBut b o (below b (Heap.lt_size e)) (Heap.get?_push_of_some _ (hH2 ▸ Heap.get?_push_of_some _ e))
  have hacc : h₁.PlainList s2.heap.objs.size #[] := ⟨_, hsb₁.extBut _ _ hDC (Heap.get?_push_of_some _ (hH2 ▸ Heap.get?_push_size _ rfl))⟩
  have fob : ∀ b ∈ fp, ∃ o, s2.heap.get? b = some o ∧ ∀ v, o.data ≠ .cell v := T.obj 0 _ st2
  have dnf : s2.heap.objs.size ∉ fp := fun hb => by
    obtain ⟨o, e, _⟩ := fob _ hb
    exact absurd (Heap.lt_size e) (Nat.lt_irrefl _)
  have hDs : ∀ {c : Addr} {o : Obj}, s2.heap.get? c = some o → c ≠ s2.heap.objs.size := fun e => Nat.ne_of_lt (Heap.lt_size e)
  let Y : Cx := cxComp X M scope (closL X.env.cells scope.names []) P2.objs.size fp s2 H2
  have I4 : Inv Y [] (none :: capS caps σ) H2 { s2 with heap := h₁, toks := s2.toks + ([] : List (Str × Value)).length } :=
    comp_start S hcalm I2 f2 (fun b hb => let ⟨o, e, _⟩ := fob b hb; ⟨o, e⟩) hCle rfl I2.bare old hns₁
  -- the iterator's own objects, the list at D: they stay what they are while an element is reckoned
  have fpY : ∀ {pins' : List (Addr × Obj)} {H' : Hp}, (∀ b ∈ fp, H' b = none) → (∀ p ∈ pins', p.1 ∉ fp) → ∀ b ∈ fp, FpOk Y pins' H' b := fun {pins' H'} hn hp b hb => by
    obtain ⟨o, e, _⟩ := fob b hb
    refine ⟨hn b hb, below b (Heap.lt_size e), fun hs => ?_, .inl hb, fun y c h => (f2 b hb).2.2.2.2.1 y c (closL_look h).1, fun p hp' z => hp p (show p ∈ pins' from by have q : p ∈ [] ++ pins' := hp'; simpa using q) (by rw [z]; exact hb)⟩
    rcases List.mem_cons.mp (I2.stkSub b hs) with z | z
    · exact (f2 b hb).2.1 z
    · exact (f2 b hb).2.2.1 z
  have Dfs : s2.heap.objs.size ∉ Y.fs := fun hs => by
    obtain ⟨_, o, ho, _⟩ := I2.stack.mem hs
    exact absurd (Heap.lt_size ho) (Nat.lt_irrefl _)
  have Dcell : ∀ y c, Y.env.cells.lookup y = some c → c ≠ s2.heap.objs.size := fun y c h z => by
    obtain ⟨v, q⟩ := I2.cell y c (closL_look h).1
    rw [z] at q
    exact absurd q.lt (Nat.lt_irrefl _)
  have loop : ∀ s₃ : Shared, s₃ = { s2 with heap := h₁, toks := s2.toks + ([] : List (Str × Value)).length } →
      codeAny (model X.prog X.w) X.A (.compLoop (.ListComp elt [⟨.Name x px, iter, ifs, 0⟩] scope pos) 0 (.ref it) (.ref s2.heap.objs.size) (compEnvC scope (closL X.env.cells scope.names []) P2.objs.size X.env))
        (compPost (model X.prog X.w) X.A X.xe none (EP X pins σ Q) (.ref s2.heap.objs.size) P2.objs.size) s₃ := by
    rintro s₃ rfl
    refine compLoop_own (fun n s' => ∃ i acc H' its, Inv Y [] (none :: capS caps σ) H' s' ∧ tn i s'.heap ∧ (∀ b ∈ fp, H' b = none) ∧ H' s2.heap.objs.size = none ∧ s'.heap.PlainList s2.heap.objs.size its ∧ Vals acc its.toList ∧ acc.length ≤ sizeLine ∧ W i n acc H') ?_ m0
      ⟨0, [], H2, #[], I4, T.keep 0 _ _ st2 (fun b hb o e => old b o e), fun b hb => (f2 b hb).1, I2.hok.fresh (Nat.le_refl _), hacc, .nil, Nat.zero_le _, w0⟩
    rintro n s5 ⟨i, acc, H5, its, I5, st5, fr5, hD5, hl5, rv5, hz5, w5⟩
    have hdY : Y.calm = true := rfl
    obtain ⟨nn, el5⟩ := hl5
    have I5' : Inv Y [(s2.heap.objs.size, { cls := .type "list", data := .seq its nn })] (none :: capS caps σ) H5 s5 := I5.pins_of fun p hp => by
      have e : p = (s2.heap.objs.size, { cls := .type "list", data := .seq its nn }) := by simpa using hp
      subst e
      exact ⟨el5, hD5, hDC, Dfs, fun v z => by cases z⟩
    have fp5 : ∀ {H' : Hp}, (∀ b ∈ fp, H' b = none) → ∀ b ∈ fp, FpOk Y [(s2.heap.objs.size, { cls := .type "list", data := .seq its nn })] H' b := fun hn => fpY hn fun p hp => by
      have e : p = (s2.heap.objs.size, { cls := .type "list", data := .seq its nn }) := by simpa using hp
      subst e
      exact dnf
    have rv5' : Vals acc its.toList := rv5
    rcases turn i n acc H5 w5 with ⟨stop, qn⟩ | ⟨go, hlt, step⟩
    · refine thn (T.done Y rfl rfl rfl hdY i _ s5 _ H5 (fun _ _ => False) I5' (fp5 fr5) st5 stop) fun r s6 ⟨hr, I6⟩ => ?_
      subst hr
      obtain ⟨m6, hn6, _⟩ := id I6.loc
      obtain ⟨p1, p2, _⟩ := I6.pin (s2.heap.objs.size, { cls := .type "list", data := .seq its nn }) (by simp)
      refine ⟨m6, hn6, fun h' sb => ⟨.ref s2.heap.objs.size, upd H5 s2.heap.objs.size (.lst acc), ?_, rfl, qn _ hD5⟩⟩
      exact comp_done (its := its.toList) I2 f2 I6 hCle (Nat.le_refl _) hDC hD5 (show s6.heap.PlainList s2.heap.objs.size its.toList.toArray from ⟨nn, by rw [Array.toArray_toList]; exact p1⟩) rv5' hz5 sb
    · refine thn (T.item Y rfl rfl rfl hdY i _ s5 _ H5 (fun _ _ => False) I5' (fp5 fr5) st5 go) fun r s6 ⟨u, hr, h6⟩ => ?_
      subst hr
      refine thn h6 fun _ s7 ⟨v7, H7, I7, r7, y7, st7, fr7⟩ => ?_
      have I7' := I7.pinned (fp5 fr7) (T.obj _ _ st7)
      have hg : PG Y (.Name x px) (gName 0) := pg_name (X := Y) (i := 0) S.nd (by show M[0]? = some x; rw [S.inN]; rfl) (Or.inl (lookup_relabel_local S.var)) (.inr (lookup_relabel_local S.var))
      refine thn (hg _ s7 _ H7 v7 u (fun σ8 H8 => σ8 = some v7 :: capS caps σ ∧ H8 = H7) I7' r7 ⟨rfl, rfl⟩) fun _ s8 ⟨σ8, H8, I8, e8, e8'⟩ => ?_
      subst e8 e8'
      refine thn (ht _ _ _ _ _ _ s8 _ _ _ I8 (step v7 _ y7)) fun b s9 ⟨H9, I9, q9⟩ => ?_
      have tail : ∀ {σ' : St} {H' : Hp} {s' : Shared}, Inv Y ([(s2.heap.objs.size, { cls := .type "list", data := .seq its nn })] ++ pinsAt fp s7.heap) σ' H' s' →
          tn (i + 1) s'.heap ∧ (∀ b ∈ fp, H' b = none) ∧ s'.heap.get? s2.heap.objs.size = some { cls := .type "list", data := .seq its nn } ∧ H' s2.heap.objs.size = none := fun {σ' H' s'} J => by
        refine ⟨T.keep _ _ _ st7 fun b hb o e => (J.pin (b, o) (List.mem_append_right _ (List.mem_append_right _ (mem_pinsAt hb e)))).1, fun b hb => ?_, ?_⟩
        · obtain ⟨o, e, d⟩ := T.obj _ _ st7 b hb
          exact (J.pin (b, o) (List.mem_append_right _ (List.mem_append_right _ (mem_pinsAt hb e)))).2.1
        · have p := J.pin (s2.heap.objs.size, { cls := .type "list", data := .seq its nn }) (by simp)
          exact ⟨p.1, p.2.1⟩
      cases b with
      | false =>
        obtain ⟨m', hm, w9⟩ := (show ∃ m', m' < n ∧ W (i + 1) m' acc H9 from by simpa using q9)
        obtain ⟨t1, t2, t3, t4⟩ := tail I9
        refine ⟨m', hm, i + 1, acc, H9, its, ?_, t1, t2, t4, ⟨nn, t3⟩, rv5, hz5, w9⟩
        exact (I9.pins_of (pins' := []) fun p hp => absurd hp (by simp)).weak (by simp) fun j w z => by
          cases j with
          | zero => simp at z
          | succ j => simpa using z
      | true =>
        have q9' : te (some v7 :: capS caps σ) H9 fun y H3 => ∃ m', m' < n ∧ W (i + 1) m' (acc ++ [y]) H3 := by simpa using q9
        refine thn (he _ _ _ _ _ _ s9 _ _ _ I9 q9') fun u10 s10 ⟨y, H10, I10, r10, m', hm, w10⟩ => ?_
        obtain ⟨t1, t2, t3, t4⟩ := tail I10
        have lz : its.size = acc.length := by rw [rv5.length]; simp
        refine wpAny_list_append_plain ⟨nn, t3⟩ (fun h' hl' sb' => ?_) (by omega)
        have I11 : Inv Y [] (some v7 :: capS caps σ) H10 { s10 with heap := h', toks := s10.toks } :=
          (I10.pins_of (pins' := []) fun p hp => absurd hp (by simp)).turned (it := s2.heap.objs.size) (fun b o hb e => (sb'.2 b hb).trans e) t4 hDC (.inr (Nat.le_refl _)) Dcell (fun p hp => absurd (show p ∈ ([] : List (Addr × Obj)) from hp) (by simp))
        refine ⟨m', hm, i + 1, acc ++ [y], H10, its.push u10, ?_, T.keep _ _ _ t1 (fun b hb o e => (sb'.2 b (fun z => dnf (z ▸ hb))).trans e), t2, t4, hl', ?_, ?_, w10⟩
        · exact I11.weak (by simp) fun j w z => by
            cases j with
            | zero => simp at z
            | succ j => simpa using z
        · rw [Array.toList_push]
          exact rv5.append (.cons r10 .nil)
        · rw [List.length_append, List.length_singleton]; omega
  exact codeAny_compStart_list (loop _ rfl) (T.self X.A 0 _ _ _ (T.keep 0 _ _ st2 (fun b hb o e => old b o e)) (loop _ rfl))
end
end L2
set_option Elab.async false
set_option linter.all false
set_option maxRecDepth 100000
set_option maxHeartbeats 4000000
namespace L2
open PySem PySem.Spec PyProof.Rows
section
variable {X : Cx}
def rSlS : V → Option Int → Option Int → Hp → VK → Prop := fun x lo hi H Q => ∃ z, x = .str z ∧ z.length ≤ sizeLine ∧ Q (.str (Txt.slice z lo hi)) H
theorem sl_str : SlR X rSlS := by
  intro pins s σ H x v vl vu lo hi sl Q I rx hs pl pu h
  obtain ⟨z, rfl, hz, q⟩ := h
  obtain ⟨t, rfl⟩ := rx
  refine ⟨"str", _, PySem.F.slot_str_getitem.lookup, typeIs_str _ _ _, ?_⟩
  have fin : ∀ t' k, EP X pins σ Q (.str (Txt.slice z lo hi) t') { s with toks := k } := fun t' k => ⟨.str _, H, I.tok k, ⟨t', rfl⟩, q⟩
  obtain ⟨o, e, c, d⟩ := hs
  cases pl with
  | none => cases pu with
    | none => exact wpAny_getItem_str_slice (l := none) (u := none) (st := none) ⟨o, e, c, d⟩ rfl (post_val_or_str ⟨Nat.le_trans (Txt.slice_le z _ _) hz, fin⟩)
    | int j u => exact wpAny_getItem_str_slice (l := none) (u := some (j, u)) (st := none) ⟨o, e, c, d⟩ rfl (post_val_or_str ⟨Nat.le_trans (Txt.slice_le z _ _) hz, fin⟩)
  | int i u1 => cases pu with
    | none => exact wpAny_getItem_str_slice (l := some (i, u1)) (u := none) (st := none) ⟨o, e, c, d⟩ rfl (post_val_or_str ⟨Nat.le_trans (Txt.slice_le z _ _) hz, fin⟩)
    | int j u => exact wpAny_getItem_str_slice (l := some (i, u1)) (u := some (j, u)) (st := none) ⟨o, e, c, d⟩ rfl (post_val_or_str ⟨Nat.le_trans (Txt.slice_le z _ _) hz, fin⟩)
theorem strsAre_of : ∀ {ys : List Str} {us : List Value}, Vals (ys.map V.str) us → StrsAre us ys
  | [], _, .nil => .nil
  | y :: r, _, .cons h t => by
    obtain ⟨tk, e⟩ := h
    subst e
    exact .cons y tk (strsAre_of t)
def rJoin (K : PySem.W.Frag) : V → List V → Hp → VK → Prop := fun x xs H Q => ∃ sep p ys, x = .str sep ∧ xs = [.ref p] ∧ SqL K H p (ys.map V.str) ∧ (ys.map (·.length)).sum + ys.length * sep.length ≤ 16777216 ∧ Q (.str (Txt.join sep ys)) H
theorem mt_join : MtR X "str.join" (rJoin X.K) := by
  intro pins s σ H x xs v us Q I rx rv h
  obtain ⟨sep, p, ys, rfl, rfl, hp, hz, q⟩ := h
  obtain ⟨t, rfl⟩ := rx
  obtain ⟨u, rfl, ru⟩ := rv.one
  cases ru
  obtain ⟨its, r, pl, _⟩ := I.list hp
  exact join_list pl.isList (by simpa using strsAre_of r) hz fun t' k => ⟨.str _, H, I.tok k, ⟨t', rfl⟩, q⟩
def rMulS : R2 := fun x y H Q => ∃ z k, x = .str z ∧ y = .int k ∧ MulOk z k ∧ Q (.str (Txt.mul z k)) H
theorem op_mul_str : OpR X (binaryOp .Mult) rMulS := by
  intro pins s σ H x y v u Q I rx ry h
  obtain ⟨z, k, rfl, rfl, hk, q⟩ := h
  obtain ⟨t, rfl⟩ := rx
  obtain ⟨t2, rfl⟩ := ry
  exact SB.mul hk fun t' c => ⟨.str _, H, I.tok c, ⟨t', rfl⟩, q⟩
theorem mt_startswith : MtR X "str.startswith" (fun x xs H Q => ∃ z y, x = .str z ∧ xs = [.str y] ∧ Q (.bl (Txt.startswith z y)) H) := by
  intro pins s σ H x xs v us Q I rx rv h
  obtain ⟨z, y, rfl, rfl, q⟩ := h
  obtain ⟨t, rfl⟩ := rx
  obtain ⟨u, rfl, ru⟩ := rv.one
  obtain ⟨t2, rfl⟩ := ru
  exact SC.startswith ⟨.bl _, H, I, rfl, q⟩
theorem mt_find : MtR X "str.find" (fun x xs H Q => ∃ z y, x = .str z ∧ xs = [.str y] ∧ Q (.int (Txt.find z y)) H) := by
  intro pins s σ H x xs v us Q I rx rv h
  obtain ⟨z, y, rfl, rfl, q⟩ := h
  obtain ⟨t, rfl⟩ := rx
  obtain ⟨u, rfl, ru⟩ := rv.one
  obtain ⟨t2, rfl⟩ := ru
  exact SC.find ⟨.int _, H, I.tok _, ⟨_, rfl⟩, q⟩
end
end L2
set_option Elab.async false
set_option linter.all false
set_option maxRecDepth 100000
set_option maxHeartbeats 4000000
namespace L2
open PySem PySem.Spec PyProof.Rows
structure Fd (K : PySem.W.Frag) (mg : Str → Option Value) (x : Str) (st : Stmt) (ps : List Str) where
  f : Addr
  fd : FuncData
  F : Fun K x x st f fd
  m : mg x = some (.ref f)
  b : Binds K fd ps []
theorem same_new {H : Hp} {p : Addr} (h : H p = none) (o : HO) : Same H (upd H p o) := fun b u q => by rw [upd_ne (ne_of_none q h)]; exact q
theorem Same.upd {H H' : Hp} {p : Addr} {o : HO} (e : Same H H') (h : H p = none) : Same H (upd H' p o) := fun b u q => by rw [upd_ne (ne_of_none q h)]; exact e b u q
theorem Same.seqT {K : PySem.W.Frag} {H H' : Hp} {a : Addr} {xs : List V} (e : Same H H') (h : SqT K H a xs) : SqT K H' a xs := by
  rcases h with (h | ⟨o, h⟩) | h
  · exact .inl (.inl (e _ _ h))
  · exact .inl (.inr ⟨o, e _ _ h⟩)
  · exact .inr h
theorem atI_at {α : Type} {xs : List α} {j : Int} {v : α} (h0 : 0 ≤ j) (h : xs[j.toNat]? = some v) : atI xs j = some v := by
  obtain ⟨k, rfl⟩ := Int.eq_ofNat_of_zero_le h0
  exact atI_nat (by simpa using h)
theorem b2 (k : Bool) : (if k = true then (1 : Int) else 0) = 0 ∨ (if k = true then (1 : Int) else 0) = 1 := by cases k <;> simp
structure Gives (J : It) (vs : List V) : Prop where
  go : ∀ i H, i < vs.length → J.go i H
  yld : ∀ i H v H', J.yld i H v H' → i < vs.length → H' = H ∧ vs[i]? = some v
  stop : ∀ H, J.stop vs.length H
end L2
set_option Elab.async false
set_option linter.all false
set_option maxRecDepth 100000
set_option maxHeartbeats 4000000
namespace L2
open PySem PySem.Spec PyProof.Rows PySem.W
section
variable {X : Cx}
theorem ps_setComp {elt iter : Expr} {x : Str} {px : Pos} {ifs : List Expr} {scope : Scope} {pos : Pos} {wi : TI} {y : Str} {py spos : Pos} {iy : Nat} {tt : TT} {te : TE} {M : List Str} (caps : List Nat) (hcalm : X.calm = true) (S : CompOk X.N X.env.scope scope caps x M)
    (hi : PI X (.Name x px) iter wi) (ht : ∀ cl C ex s H, PFs (cxComp X M scope cl C ex s H) ifs tt) (he : ∀ cl C ex s H, PE (cxComp X M scope cl C ex s H) elt te)
    (hNd : X.N.Nodup) (hy : X.N[iy]? = some y) (hLy : X.env.scope.names.lookup y = some .local) (hsw : swapsWith (.ListComp elt [⟨.Name x px, iter, ifs, 0⟩] scope pos) (some (.Name y py)) spos.line X.env = pure true)
    (hs : ∀ y, foldedSetIterable iter X.env y = pure y := by intro _; rfl) : PS X (.Assign [.Name y py] (.ListComp elt [⟨.Name x px, iter, ifs, 0⟩] scope pos) spos) (fun D σ H => tComp caps wi tt te σ H fun v H1 => D.nx (σ.set iy (some v)) H1) := by
  intro pins s σ H D I h
  rw [exec_Assign_Name_used _ _ _ _ hsw]
  refine wpAny_bind <| wpAny_standAt <| wpAny_bind ?_
  show wpAny _ X.A (comprehension (.ListComp elt [⟨.Name x px, iter, ifs, 0⟩] scope pos) scope X.env _ (newList []) false (eval iter X.env) (some (assign (.Name y py) X.env)) >>= fun _ => pure ()) _ _ s
  refine wpAny_bind <| wpAny_mono (wpAny_comprehension_free (use := some (assign (.Name y py) X.env)) (Q := fun _ s' => SP X pins D .next s') rfl hs (closureFor_eq fun n hn => I.ok.has n (S.free _ hn rfl)) S.kind S.names ?_) (fun _ _ z => wpAny_pure (wpAny_pure z)) fun _ _ z => z
  refine thn (hi pins s σ H _ I h) fun v s1 h1 => thn h1 fun itv s2 h2 => ?_
  obtain ⟨it, fp, tn, J, H2, e, I2, T, st2, f2, W, ⟨m0, w0⟩, turn⟩ := h2
  subst e
  refine wpAny_newObj_type (wpAny_newFunctionEnv S.nocell (by intro y hy; simp at hy) (fun h₁ hns₁ hsb₁ => ?_) S.kind)
  dsimp only at hns₁ hsb₁ ⊢
  generalize hH2 : s2.heap.push { cls := .type "list", dict := none, data := .seq ([] : List Value).toArray } = P2 at hns₁ hsb₁ ⊢
  have hCs : P2.objs.size = s2.heap.objs.size + 1 := by rw [← hH2, Heap.size_push]
  have hDC : s2.heap.objs.size ≠ P2.objs.size := by rw [hCs]; exact Nat.ne_of_lt (Nat.lt_succ_self _)
  have hCle : s2.heap.objs.size ≤ P2.objs.size := by rw [hCs]; exact Nat.le_succ _
  have below : ∀ b, b < s2.heap.objs.size → b ≠ P2.objs.size := fun b hb => by rw [hCs]; exact Nat.ne_of_lt (Nat.lt_succ_of_lt hb)
  have old : ∀ b o, s2.heap.get? b = some o → h₁.get? b = some o := fun b o e => hsb₁.extBut b o (below b (Heap.lt_size e)) (Heap.get?_push_of_some _ (hH2 ▸ Heap.get?_push_of_some _ e))
  have hacc : h₁.PlainList s2.heap.objs.size #[] := ⟨_, hsb₁.extBut _ _ hDC (Heap.get?_push_of_some _ (hH2 ▸ Heap.get?_push_size _ rfl))⟩
  have fob : ∀ b ∈ fp, ∃ o, s2.heap.get? b = some o ∧ ∀ v, o.data ≠ .cell v := T.obj 0 _ st2
  have dnf : s2.heap.objs.size ∉ fp := fun hb => by
    obtain ⟨o, e, _⟩ := fob _ hb
    exact absurd (Heap.lt_size e) (Nat.lt_irrefl _)
  have hDs : ∀ {c : Addr} {o : Obj}, s2.heap.get? c = some o → c ≠ s2.heap.objs.size := fun e => Nat.ne_of_lt (Heap.lt_size e)
  let Y : Cx := cxComp X M scope (closL X.env.cells scope.names []) P2.objs.size fp s2 H2
  have I4 : Inv Y [] (none :: capS caps σ) H2 { s2 with heap := h₁, toks := s2.toks + ([] : List (Str × Value)).length } :=
    comp_start S hcalm I2 f2 (fun b hb => let ⟨o, e, _⟩ := fob b hb; ⟨o, e⟩) hCle rfl I2.bare old hns₁
  -- the iterator's own objects, the list at D: they stay what they are while an element is reckoned
  have fpY : ∀ {pins' : List (Addr × Obj)} {H' : Hp}, (∀ b ∈ fp, H' b = none) → (∀ p ∈ pins', p.1 ∉ fp) → ∀ b ∈ fp, FpOk Y pins' H' b := fun {pins' H'} hn hp b hb => by
    obtain ⟨o, e, _⟩ := fob b hb
    refine ⟨hn b hb, below b (Heap.lt_size e), fun hs => ?_, .inl hb, fun y c h => (f2 b hb).2.2.2.2.1 y c (closL_look h).1, fun p hp' z => hp p (show p ∈ pins' from by have q : p ∈ [] ++ pins' := hp'; simpa using q) (by rw [z]; exact hb)⟩
    rcases List.mem_cons.mp (I2.stkSub b hs) with z | z
    · exact (f2 b hb).2.1 z
    · exact (f2 b hb).2.2.1 z
  have Dfs : s2.heap.objs.size ∉ Y.fs := fun hs => by
    obtain ⟨_, o, ho, _⟩ := I2.stack.mem hs
    exact absurd (Heap.lt_size ho) (Nat.lt_irrefl _)
  have Dcell : ∀ y c, Y.env.cells.lookup y = some c → c ≠ s2.heap.objs.size := fun y c h z => by
    obtain ⟨v, q⟩ := I2.cell y c (closL_look h).1
    rw [z] at q
    exact absurd q.lt (Nat.lt_irrefl _)
  have loop : ∀ s₃ : Shared, s₃ = { s2 with heap := h₁, toks := s2.toks + ([] : List (Str × Value)).length } →
      codeAny (model X.prog X.w) X.A (.compLoop (.ListComp elt [⟨.Name x px, iter, ifs, 0⟩] scope pos) 0 (.ref it) (.ref s2.heap.objs.size) (compEnvC scope (closL X.env.cells scope.names []) P2.objs.size X.env))
        (compPost (model X.prog X.w) X.A X.xe (some (assign (.Name y py) X.env)) (fun _ s' => SP X pins D .next s') (.ref s2.heap.objs.size) P2.objs.size) s₃ := by
    rintro s₃ rfl
    refine compLoop_own (fun n s' => ∃ i acc H' its, Inv Y [] (none :: capS caps σ) H' s' ∧ tn i s'.heap ∧ (∀ b ∈ fp, H' b = none) ∧ H' s2.heap.objs.size = none ∧ s'.heap.PlainList s2.heap.objs.size its ∧ Vals acc its.toList ∧ acc.length ≤ sizeLine ∧ W i n acc H') ?_ m0
      ⟨0, [], H2, #[], I4, T.keep 0 _ _ st2 (fun b hb o e => old b o e), fun b hb => (f2 b hb).1, I2.hok.fresh (Nat.le_refl _), hacc, .nil, Nat.zero_le _, w0⟩
    rintro n s5 ⟨i, acc, H5, its, I5, st5, fr5, hD5, hl5, rv5, hz5, w5⟩
    have hdY : Y.calm = true := rfl
    obtain ⟨nn, el5⟩ := hl5
    have I5' : Inv Y [(s2.heap.objs.size, { cls := .type "list", data := .seq its nn })] (none :: capS caps σ) H5 s5 := I5.pins_of fun p hp => by
      have e : p = (s2.heap.objs.size, { cls := .type "list", data := .seq its nn }) := by simpa using hp
      subst e
      exact ⟨el5, hD5, hDC, Dfs, fun v z => by cases z⟩
    have fp5 : ∀ {H' : Hp}, (∀ b ∈ fp, H' b = none) → ∀ b ∈ fp, FpOk Y [(s2.heap.objs.size, { cls := .type "list", data := .seq its nn })] H' b := fun hn => fpY hn fun p hp => by
      have e : p = (s2.heap.objs.size, { cls := .type "list", data := .seq its nn }) := by simpa using hp
      subst e
      exact dnf
    have rv5' : Vals acc its.toList := rv5
    rcases turn i n acc H5 w5 with ⟨stop, qn⟩ | ⟨go, hlt, step⟩
    · refine thn (T.done Y rfl rfl rfl hdY i _ s5 _ H5 (fun _ _ => False) I5' (fp5 fr5) st5 stop) fun r s6 ⟨hr, I6⟩ => ?_
      subst hr
      obtain ⟨m6, hn6, _⟩ := id I6.loc
      obtain ⟨p1, p2, _⟩ := I6.pin (s2.heap.objs.size, { cls := .type "list", data := .seq its nn }) (by simp)
      have J0 : Inv X pins σ (upd H5 s2.heap.objs.size (.lst acc)) s6 := comp_done (its := its.toList) (h'' := s6.heap) I2 f2 I6 hCle (Nat.le_refl _) hDC hD5 (show s6.heap.PlainList s2.heap.objs.size its.toList.toArray from ⟨nn, by rw [Array.toArray_toList]; exact p1⟩) rv5' hz5 ⟨rfl, fun _ _ => rfl⟩
      obtain ⟨oC, esC, epC, gC, dC, restC⟩ := hn6
      have c1 : P2.objs.size ≠ X.env.locals := fun z => absurd (Nat.lt_of_lt_of_le I2.lt hCle) (by rw [z]; exact Nat.lt_irrefl _)
      have c2 : upd H5 s2.heap.objs.size (.lst acc) P2.objs.size = none := by rw [upd_ne (Ne.symm hDC)]; exact I6.free
      have c3 : P2.objs.size ∉ X.fs := I2.nofs hCle
      have J1 : Inv X ((P2.objs.size, oC) :: pins) σ (upd H5 s2.heap.objs.size (.lst acc)) s6 := J0.pins_of fun p hp => by
        rcases List.mem_cons.mp hp with z | z
        · subst z
          exact ⟨gC, c2, c1, c3, fun v z => by rw [dC] at z; cases z⟩
        · exact J0.pin p (List.mem_append_right _ z)
      have hg := pg_name (X := X) (i := iy) (pos := py) hNd hy (Or.inl hLy) (.inr hLy)
      refine thn (hg _ s6 σ _ (.ref s2.heap.objs.size) (.ref s2.heap.objs.size) (fun σ' H' => σ' = σ.set iy (some (.ref s2.heap.objs.size)) ∧ H' = upd H5 s2.heap.objs.size (.lst acc)) J1 rfl ⟨rfl, rfl⟩) fun _ s7 ⟨σ7, H7, I7, e7, e8⟩ => ?_
      subst e7 e8
      refine ⟨m6, ⟨oC, esC, epC, (I7.pin (P2.objs.size, oC) (by simp)).1, dC, restC⟩, fun h' sb => ?_⟩
      have same : ∀ b, b ≠ P2.objs.size → h'.get? b = s7.heap.get? b := fun b hb => sb.2 b hb
      have I8 : Inv X pins (σ.set iy (some (.ref s2.heap.objs.size))) (upd H5 s2.heap.objs.size (.lst acc)) s7 := I7.pins_of fun p hp => I7.pin p (List.mem_append_right _ (List.mem_cons_of_mem _ hp))
      refine ⟨_, _, I8.call' (s' := { s7 with heap := h' }) (ch := [P2.objs.size]) rfl ⟨fun b o q n hb hx => ?_, fun b o q n hb hx => ?_, fun b o q n hx => n, fun b o q hx => ?_, fun b xs q => q, fun b o u q => q, fun b ps q => ⟨#[], by simpa using q⟩⟩ (fun b u e => ?_) I8.bare fun b hb => ?_, qn _ hD5⟩
      · exact (same b (fun z => hx (by rw [z]; exact List.mem_singleton_self _))).trans q
      · exact ⟨o.slots, (same b (fun z => hx (by rw [z]; exact List.mem_singleton_self _))).trans q⟩
      · exact ⟨o, (same b (fun z => hx (by rw [z]; exact List.mem_singleton_self _))).trans q⟩
      · refine (show ObjOk X.prog X.w _ s7.heap b u from I8.hok b u e).stay (fun c v hc q => (same c ?_).trans q) (fun _ q => q) fun _ _ q => q
        rcases hc with z | z
        · rw [z]; intro z2; rw [z2, c2] at e; cases e
        · intro z2; rw [z2, c2] at z; cases z
      · rw [List.mem_singleton.mp hb]
        refine ⟨.inr (Nat.le_trans I2.sz hCle), c1, fun x c h z => ?_, fun p hp z => ?_⟩
        · obtain ⟨v, q⟩ := I2.cell x c h
          exact absurd (Nat.lt_of_lt_of_le q.lt hCle) (by rw [z]; exact Nat.lt_irrefl _)
        · have q := (I2.pin p hp).1
          exact absurd (Nat.lt_of_lt_of_le (Heap.lt_size q) hCle) (by rw [z]; exact Nat.lt_irrefl _)
    · refine thn (T.item Y rfl rfl rfl hdY i _ s5 _ H5 (fun _ _ => False) I5' (fp5 fr5) st5 go) fun r s6 ⟨u, hr, h6⟩ => ?_
      subst hr
      refine thn h6 fun _ s7 ⟨v7, H7, I7, r7, y7, st7, fr7⟩ => ?_
      have I7' := I7.pinned (fp5 fr7) (T.obj _ _ st7)
      have hg : PG Y (.Name x px) (gName 0) := pg_name (X := Y) (i := 0) S.nd (by show M[0]? = some x; rw [S.inN]; rfl) (Or.inl (lookup_relabel_local S.var)) (.inr (lookup_relabel_local S.var))
      refine thn (hg _ s7 _ H7 v7 u (fun σ8 H8 => σ8 = some v7 :: capS caps σ ∧ H8 = H7) I7' r7 ⟨rfl, rfl⟩) fun _ s8 ⟨σ8, H8, I8, e8, e8'⟩ => ?_
      subst e8 e8'
      refine thn (ht _ _ _ _ _ _ s8 _ _ _ I8 (step v7 _ y7)) fun b s9 ⟨H9, I9, q9⟩ => ?_
      have tail : ∀ {σ' : St} {H' : Hp} {s' : Shared}, Inv Y ([(s2.heap.objs.size, { cls := .type "list", data := .seq its nn })] ++ pinsAt fp s7.heap) σ' H' s' →
          tn (i + 1) s'.heap ∧ (∀ b ∈ fp, H' b = none) ∧ s'.heap.get? s2.heap.objs.size = some { cls := .type "list", data := .seq its nn } ∧ H' s2.heap.objs.size = none := fun {σ' H' s'} J => by
        refine ⟨T.keep _ _ _ st7 fun b hb o e => (J.pin (b, o) (List.mem_append_right _ (List.mem_append_right _ (mem_pinsAt hb e)))).1, fun b hb => ?_, ?_⟩
        · obtain ⟨o, e, d⟩ := T.obj _ _ st7 b hb
          exact (J.pin (b, o) (List.mem_append_right _ (List.mem_append_right _ (mem_pinsAt hb e)))).2.1
        · have p := J.pin (s2.heap.objs.size, { cls := .type "list", data := .seq its nn }) (by simp)
          exact ⟨p.1, p.2.1⟩
      cases b with
      | false =>
        obtain ⟨m', hm, w9⟩ := (show ∃ m', m' < n ∧ W (i + 1) m' acc H9 from by simpa using q9)
        obtain ⟨t1, t2, t3, t4⟩ := tail I9
        refine ⟨m', hm, i + 1, acc, H9, its, ?_, t1, t2, t4, ⟨nn, t3⟩, rv5, hz5, w9⟩
        exact (I9.pins_of (pins' := []) fun p hp => absurd hp (by simp)).weak (by simp) fun j w z => by
          cases j with
          | zero => simp at z
          | succ j => simpa using z
      | true =>
        have q9' : te (some v7 :: capS caps σ) H9 fun y H3 => ∃ m', m' < n ∧ W (i + 1) m' (acc ++ [y]) H3 := by simpa using q9
        refine thn (he _ _ _ _ _ _ s9 _ _ _ I9 q9') fun u10 s10 ⟨y, H10, I10, r10, m', hm, w10⟩ => ?_
        obtain ⟨t1, t2, t3, t4⟩ := tail I10
        have lz : its.size = acc.length := by rw [rv5.length]; simp
        refine wpAny_list_append_plain ⟨nn, t3⟩ (fun h' hl' sb' => ?_) (by omega)
        have I11 : Inv Y [] (some v7 :: capS caps σ) H10 { s10 with heap := h', toks := s10.toks } :=
          (I10.pins_of (pins' := []) fun p hp => absurd hp (by simp)).turned (it := s2.heap.objs.size) (fun b o hb e => (sb'.2 b hb).trans e) t4 hDC (.inr (Nat.le_refl _)) Dcell (fun p hp => absurd (show p ∈ ([] : List (Addr × Obj)) from hp) (by simp))
        refine ⟨m', hm, i + 1, acc ++ [y], H10, its.push u10, ?_, T.keep _ _ _ t1 (fun b hb o e => (sb'.2 b (fun z => dnf (z ▸ hb))).trans e), t2, t4, hl', ?_, ?_, w10⟩
        · exact I11.weak (by simp) fun j w z => by
            cases j with
            | zero => simp at z
            | succ j => simpa using z
        · rw [Array.toList_push]
          exact rv5.append (.cons r10 .nil)
        · rw [List.length_append, List.length_singleton]; omega
  exact codeAny_compStart_list (loop _ rfl) (T.self X.A 0 _ _ _ (T.keep 0 _ _ st2 (fun b hb o e => old b o e)) (loop _ rfl))
end
end L2
set_option Elab.async false
set_option linter.all false
set_option maxRecDepth 100000
set_option maxHeartbeats 4000000
set_option autoImplicit false
namespace L3
open PySem PySem.Spec PyProof.Rows L2
abbrev St := L2.St
abbrev PK := Sum Int (List Nat)
def S (l : List Nat) : Str := ⟨l.toArray⟩
theorem S_cps (l : List Nat) : (S l).cps.toList = l := by simp [S]
theorem S_of (x : Str) : S x.cps.toList = x := by cases x; simp [S]
theorem S_inj {a b : List Nat} (h : S a = S b) : a = b := by have := congrArg (fun x => x.cps.toList) h; simpa [S] using this
theorem S_len (l : List Nat) : (S l).length = l.length := by show (S l).cps.size = _; simp [S]
def tk : PK → Key
  | .inl i => .inl i
  | .inr l => .inr (S l)
theorem tk_inj {a b : PK} (h : tk a = tk b) : a = b := by
  cases a <;> cases b <;> simp [tk] at h
  · rw [h]
  · rw [S_inj h]
inductive PV where
  | non | bl (b : Bool) | int (i : Int) | str (x : List Nat) | ty (n : String) | cls (C : Nat)
  | tup (xs : List PV) | lst (xs : List PV) | giv (xs : List PV) | dct (kvs : List (PK × PV)) | ins (C : Nat) (fs : List (Str × PV))
  | ref (i : Nat)
instance : Inhabited PV := ⟨.non⟩
mutual
def PV.pure : PV → Bool
  | .ref _ => false
  | .tup xs => pures xs
  | .lst xs => pures xs
  | .giv xs => pures xs
  | .dct kvs => pureks kvs
  | .ins _ fs => purefs fs
  | _ => true
def pures : List PV → Bool
  | [] => true
  | x :: r => x.pure && pures r
def pureks : List (PK × PV) → Bool
  | [] => true
  | (_, x) :: r => x.pure && pureks r
def purefs : List (Str × PV) → Bool
  | [] => true
  | (_, x) :: r => x.pure && purefs r
end
theorem pureks_map : ∀ (l : List (PK × PV)), pureks l = pures (l.map (·.2))
  | [] => by simp [pures, pureks]
  | (k, x) :: r => by simp [pures, pureks, pureks_map r]
theorem purefs_map : ∀ (l : List (Str × PV)), purefs l = pures (l.map (·.2))
  | [] => by simp [pures, purefs]
  | (k, x) :: r => by simp [pures, purefs, purefs_map r]
abbrev Tab := Nat → Option Addr
mutual
inductive RepV (K : PySem.W.Frag) (T : Tab) (F : Hp) (m : List Addr) : PV → V → Prop where
  | non : RepV K T F m .non .non
  | bl (b : Bool) : RepV K T F m (.bl b) (.bl b)
  | int (i : Int) : RepV K T F m (.int i) (.int i)
  | str (x : List Nat) : RepV K T F m (.str x) (.str (S x))
  | ty (n : String) : RepV K T F m (.ty n) (.ty n)
  | cls {C : Nat} {a : Addr} (c : T C = some a) : RepV K T F m (.cls C) (.ref a)
  | tup {ps : List PV} {a : Addr} {vs : List V} (e : SqT K F a vs) (r : RepVs K T F m ps vs) : RepV K T F m (.tup ps) (.ref a)
  | lst {ps : List PV} {a : Addr} {vs : List V} (e : F a = some (.lst vs)) (r : RepVs K T F m ps vs) : RepV K T F m (.lst ps) (.ref a)
  | giv {ps : List PV} {a : Addr} {vs : List V} (e : SqL K F a vs) (r : RepVs K T F m ps vs) : RepV K T F m (.giv ps) (.ref a)
  | dct {kps : List (PK × PV)} {a : Addr} {kvs : List (Key × V)} (e : Rd F a (.dK kvs)) (k : kvs.map (·.1) = kps.map (fun p => tk p.1)) (r : RepVs K T F m (kps.map (·.2)) (kvs.map (·.2))) : RepV K T F m (.dct kps) (.ref a)
  | ins {C : Nat} {fs : List (Str × PV)} {a Ca dx : Addr} {fvs : List (Str × V)} (c : T C = some Ca) (e : F a = some (.ins Ca dx fvs)) (d : F dx = some (.own a)) (k : fvs.map (·.1) = fs.map (·.1)) (r : RepVs K T F m (fs.map (·.2)) (fvs.map (·.2))) : RepV K T F m (.ins C fs) (.ref a)
  | ref {i : Nat} {a : Addr} (e : m[i]? = some a) : RepV K T F m (.ref i) (.ref a)
inductive RepVs (K : PySem.W.Frag) (T : Tab) (F : Hp) (m : List Addr) : List PV → List V → Prop where
  | nil : RepVs K T F m [] []
  | cons {p : PV} {v : V} {ps : List PV} {vs : List V} (r : RepV K T F m p v) (t : RepVs K T F m ps vs) : RepVs K T F m (p :: ps) (v :: vs)
end
section
variable {K : PySem.W.Frag} {T : Tab} {F F' : Hp} {m m' : List Addr}
theorem Rd.same {H H' : Hp} {a : Addr} {u : HO} (e : Same H H') (h : Rd H a u) : Rd H' a u := by
  rcases h with h | ⟨o, h⟩
  · exact .inl (e _ _ h)
  · exact .inr ⟨o, e _ _ h⟩
mutual
theorem RepV.mono (hF : Same F F') (hm : ∀ (i : Nat) (a : Addr), m[i]? = some a → m'[i]? = some a) : ∀ {p : PV} {v : V}, RepV K T F m p v → RepV K T F' m' p v
  | _, _, .non => .non
  | _, _, .bl b => .bl b
  | _, _, .int i => .int i
  | _, _, .str x => .str x
  | _, _, .ty n => .ty n
  | _, _, .cls c => .cls c
  | _, _, .tup e r => .tup (hF.seqT e) (RepVs.mono hF hm r)
  | _, _, .lst e r => .lst (hF _ _ e) (RepVs.mono hF hm r)
  | _, _, .giv e r => .giv (hF.seq e) (RepVs.mono hF hm r)
  | _, _, .dct e k r => .dct (Rd.same hF e) k (RepVs.mono hF hm r)
  | _, _, .ins c e d k r => .ins c (hF _ _ e) (hF _ _ d) k (RepVs.mono hF hm r)
  | _, _, .ref e => .ref (hm _ _ e)
theorem RepVs.mono (hF : Same F F') (hm : ∀ (i : Nat) (a : Addr), m[i]? = some a → m'[i]? = some a) : ∀ {p : List PV} {v : List V}, RepVs K T F m p v → RepVs K T F' m' p v
  | _, _, .nil => .nil
  | _, _, .cons r t => .cons (RepV.mono hF hm r) (RepVs.mono hF hm t)
end
mutual
theorem RepV.unref : ∀ {p : PV} {v : V}, RepV K T F m p v → p.pure = true → RepV K T F m' p v
  | _, _, .non, _ => .non
  | _, _, .bl b, _ => .bl b
  | _, _, .int i, _ => .int i
  | _, _, .str x, _ => .str x
  | _, _, .ty n, _ => .ty n
  | _, _, .cls c, _ => .cls c
  | _, _, .tup e r, h => .tup e (RepVs.unref r (by simpa [PV.pure] using h))
  | _, _, .lst e r, h => .lst e (RepVs.unref r (by simpa [PV.pure] using h))
  | _, _, .giv e r, h => .giv e (RepVs.unref r (by simpa [PV.pure] using h))
  | _, _, .dct e k r, h => .dct e k (RepVs.unref r (by simpa [PV.pure, pureks_map] using h))
  | _, _, .ins c e d k r, h => .ins c e d k (RepVs.unref r (by simpa [PV.pure, purefs_map] using h))
  | _, _, .ref e, h => by simp [PV.pure] at h
theorem RepVs.unref : ∀ {p : List PV} {v : List V}, RepVs K T F m p v → pures p = true → RepVs K T F m' p v
  | _, _, .nil, _ => .nil
  | _, _, .cons r t, h => by
    simp only [pures, Bool.and_eq_true] at h
    exact .cons (RepV.unref r h.1) (RepVs.unref t h.2)
end
theorem RepVs.length : ∀ {p : List PV} {v : List V}, RepVs K T F m p v → p.length = v.length
  | _, _, .nil => rfl
  | _, _, .cons _ t => by simp [RepVs.length t]
theorem RepVs.get : ∀ {ps : List PV} {vs : List V} {i : Nat} {p : PV}, RepVs K T F m ps vs → ps[i]? = some p → ∃ v, vs[i]? = some v ∧ RepV K T F m p v
  | _, _, _, _, .nil, e => by simp at e
  | _, _, 0, _, .cons r _, e => by simp at e; subst e; exact ⟨_, rfl, r⟩
  | _, _, i + 1, p, .cons _ t, e => by
    obtain ⟨u, h1, h2⟩ := RepVs.get (i := i) (p := p) t (by simpa using e)
    exact ⟨u, by simpa using h1, h2⟩
theorem RepVs.append : ∀ {ps qs : List PV} {vs ws : List V}, RepVs K T F m ps vs → RepVs K T F m qs ws → RepVs K T F m (ps ++ qs) (vs ++ ws)
  | _, _, _, _, .nil, s => s
  | _, _, _, _, .cons r t, s => .cons r (RepVs.append t s)
theorem RepVs.take : ∀ {ps : List PV} {vs : List V} (n : Nat), RepVs K T F m ps vs → RepVs K T F m (ps.take n) (vs.take n)
  | _, _, 0, _ => .nil
  | _, _, _ + 1, .nil => .nil
  | _, _, n + 1, .cons r t => .cons r (RepVs.take n t)
theorem RepVs.drop : ∀ {ps : List PV} {vs : List V} (n : Nat), RepVs K T F m ps vs → RepVs K T F m (ps.drop n) (vs.drop n)
  | _, _, 0, r => r
  | _, _, _ + 1, .nil => .nil
  | _, _, n + 1, .cons _ t => RepVs.drop n t
theorem RepVs.set {x : PV} {u : V} (r : RepV K T F m x u) : ∀ {xs : List PV} {us : List V} (i : Nat), RepVs K T F m xs us → RepVs K T F m (xs.set i x) (us.set i u)
  | _, _, _, .nil => .nil
  | _, _, 0, .cons _ t => .cons r t
  | _, _, i + 1, .cons q t => .cons q (RepVs.set r i t)
end
inductive PO where
  | lst (xs : List PV) | dct (kvs : List (PK × PV)) | froz (v : PV)
section
variable (K : PySem.W.Frag) (T : Tab) (F : Hp) (m : List Addr)
def ObjR (H : Hp) (a : Addr) : PO → Prop
  | .lst ps => F a = none ∧ ∃ vs, H a = some (.lst vs) ∧ RepVs K T F m ps vs
  | .dct kps => F a = none ∧ ∃ kvs, H a = some (.dK kvs) ∧ kvs.map (·.1) = kps.map (fun p => tk p.1) ∧ RepVs K T F m (kps.map (·.2)) (kvs.map (·.2))
  | .froz p => RepV K T F m p (.ref a) ∧ p.pure = true ∧ ∃ o, F a = some o
structure RelH (h : List PO) (H : Hp) : Prop where
  same : Same F H
  len : h.length = m.length
  obj : ∀ (i : Nat) (o : PO) (a : Addr), h[i]? = some o → m[i]? = some a → ObjR K T F m H a o
  nd : m.Nodup
def RelE (ρ : List (Option PV)) (σ : St) : Prop := ρ.length = σ.length ∧ ∀ (i : Nat) (p : PV), ρ[i]? = some (some p) → ∃ v, σ[i]? = some (some v) ∧ RepV K T F m p v
structure RelS (ρ : List (Option PV)) (h : List PO) (σ : St) (H : Hp) : Prop extends RelH K T F m h H where
  env : RelE K T F m ρ σ
end
structure Step (F : Hp) (m : List Addr) (H F' : Hp) (m' : List Addr) (H' : Hp) : Prop where
  fz : Same F F'
  pre : ∃ t, m' = m ++ t
  fr : ∀ b o, H b = some o → b ∉ m → H' b = some o
  dom : ∀ b o, H b = some o → ∃ o', H' b = some o'
  new : ∀ (i : Nat) (a : Addr), m.length ≤ i → m'[i]? = some a → H a = none
  fnew : ∀ a o, F' a = some o → F a = some o ∨ H a = none ∨ a ∈ m
section
variable {K : PySem.W.Frag} {T : Tab} {F F1 F2 H H1 H2 : Hp} {m m1 m2 : List Addr}
theorem Step.refl : Step F m H F m H := ⟨Same.refl _, ⟨[], by simp⟩, fun _ _ h _ => h, fun _ o h => ⟨o, h⟩, fun i a h e => (by rw [List.getElem?_eq_none h] at e; cases e), fun _ _ h => .inl h⟩
theorem Step.idx (s : Step F m H F1 m1 H1) : ∀ (i : Nat) (a : Addr), m[i]? = some a → m1[i]? = some a := fun i a e => by
  obtain ⟨t, rfl⟩ := s.pre
  have hi : i < m.length := by
    rcases Nat.lt_or_ge i m.length with h | h
    · exact h
    · rw [List.getElem?_eq_none h] at e; cases e
  rw [List.getElem?_append_left hi]; exact e
theorem Step.mem (s : Step F m H F1 m1 H1) {a : Addr} (h : a ∈ m1) : a ∈ m ∨ H a = none := by
  obtain ⟨i, e⟩ := List.mem_iff_getElem?.mp h
  obtain ⟨t, rfl⟩ := s.pre
  rcases Nat.lt_or_ge i m.length with hi | hi
  · rw [List.getElem?_append_left hi] at e
    exact .inl (List.mem_of_getElem? e)
  · exact .inr (s.new i a hi e)
theorem Step.back (s : Step F m H F1 m1 H1) {a : Addr} (h : H1 a = none) : H a = none := by
  cases q : H a with
  | none => rfl
  | some o => obtain ⟨o', e⟩ := s.dom a o q; rw [h] at e; cases e
theorem Step.trans (s : Step F m H F1 m1 H1) (t : Step F1 m1 H1 F2 m2 H2) : Step F m H F2 m2 H2 where
  fz := s.fz.trans t.fz
  pre := by
    obtain ⟨x, rfl⟩ := s.pre
    obtain ⟨y, rfl⟩ := t.pre
    exact ⟨x ++ y, by simp⟩
  fr := fun b o h n => t.fr b o (s.fr b o h n) fun z => by
    rcases s.mem z with q | q
    · exact n q
    · rw [h] at q; cases q
  dom := fun b o h => by
    obtain ⟨o', e⟩ := s.dom b o h
    exact t.dom b o' e
  new := fun i a hi e => by
    obtain ⟨x, rfl⟩ := s.pre
    rcases Nat.lt_or_ge i (m ++ x).length with h | h
    · obtain ⟨y, rfl⟩ := t.pre
      rw [List.getElem?_append_left h] at e
      exact s.new i a hi e
    · exact s.back (t.new i a h e)
  fnew := fun a o h => by
    rcases t.fnew a o h with q | q | q
    · exact s.fnew a o q
    · exact .inr (.inl (s.back q))
    · rcases s.mem q with z | z
      · exact .inr (.inr z)
      · exact .inr (.inl z)
theorem Step.rep (s : Step F m H F1 m1 H1) {p : PV} {v : V} (r : RepV K T F m p v) : RepV K T F1 m1 p v := r.mono s.fz s.idx
theorem Step.reps (s : Step F m H F1 m1 H1) {p : List PV} {v : List V} (r : RepVs K T F m p v) : RepVs K T F1 m1 p v := r.mono s.fz s.idx
theorem Step.env (s : Step F m H F1 m1 H1) {ρ : List (Option PV)} {σ : St} (r : RelE K T F m ρ σ) : RelE K T F1 m1 ρ σ := ⟨r.1, fun i p e => by
  obtain ⟨v, h1, h2⟩ := r.2 i p e
  exact ⟨v, h1, s.rep h2⟩⟩
theorem Step.lay {h : List PO} {p : Addr} {o : HO} (R : RelH K T F m h H) (hp : H p = none) : Step F m H (upd F p o) m (upd H p o) ∧ RelH K T (upd F p o) m h (upd H p o) := by
  have hF : F p = none := R.same.free hp
  have sF : Same F (upd F p o) := same_new hF o
  refine ⟨⟨sF, ⟨[], by simp⟩, fun b u e _ => by rw [upd_ne (ne_of_none e hp)]; exact e, fun b u e => ⟨u, by rw [upd_ne (ne_of_none e hp)]; exact e⟩, fun i a hi e => (by rw [List.getElem?_eq_none hi] at e; cases e), fun a u e => ?_⟩, ?_⟩
  · by_cases ha : a = p
    · subst ha; exact .inr (.inl hp)
    · rw [upd_ne ha] at e; exact .inl e
  · refine ⟨fun b u e => ?_, R.len, fun i ob a h1 h2 => ?_, R.nd⟩
    · by_cases ha : b = p
      · subst ha; rw [upd_same] at e ⊢; exact e
      · rw [upd_ne ha] at e ⊢; exact R.same b u e
    · have q := R.obj i ob a h1 h2
      have mono : ∀ {ps vs}, RepVs K T F m ps vs → RepVs K T (upd F p o) m ps vs := fun r => r.mono sF fun _ _ h => h
      cases ob with
      | lst ps =>
        obtain ⟨f, vs, e, r⟩ := q
        have ne : a ≠ p := ne_of_none e hp
        exact ⟨by rw [upd_ne ne]; exact f, vs, by rw [upd_ne ne]; exact e, mono r⟩
      | dct kps =>
        obtain ⟨f, kvs, e, k, r⟩ := q
        have ne : a ≠ p := ne_of_none e hp
        exact ⟨by rw [upd_ne ne]; exact f, kvs, by rw [upd_ne ne]; exact e, k, mono r⟩
      | froz pv =>
        obtain ⟨r, pu, u, e⟩ := q
        exact ⟨r.mono sF fun _ _ h => h, pu, u, sF _ _ e⟩
end
inductive Res (α : Type) where
  | ok (a : α) (h : List PO) | exc (e : PV) (h : List PO) | bad
def Res.bind {α β : Type} (r : Res α) (k : α → List PO → Res β) : Res β := match r with
  | .ok a h => k a h
  | .exc e h => .exc e h
  | .bad => .bad
@[simp] theorem Res.bind_ok {α β : Type} (a : α) (h : List PO) (k : α → List PO → Res β) : (Res.ok a h).bind k = k a h := rfl
@[simp] theorem Res.bind_exc {α β : Type} (a : PV) (h : List PO) (k : α → List PO → Res β) : (Res.exc a h).bind k = .exc a h := rfl
@[simp] theorem Res.bind_bad {α β : Type} (k : α → List PO → Res β) : (Res.bad).bind k = .bad := rfl
def Post {α β : Type} (K : PySem.W.Frag) (T : Tab) (R : Hp → List Addr → α → β → Prop) (F : Hp) (m : List Addr) (H : Hp) (Q : β → Hp → Prop) (Ew : VK) : Res α → Prop
  | .ok a h' => ∀ F' m' H' x, Step F m H F' m' H' → RelH K T F' m' h' H' → R F' m' a x → Q x H'
  | .exc e h' => ∀ F' m' H' v, Step F m H F' m' H' → RelH K T F' m' h' H' → RepV K T F' m' e v → Ew v H'
  | .bad => False
section
variable {K : PySem.W.Frag} {T : Tab} {F F1 H H1 : Hp} {m m1 : List Addr} {α β γ δ : Type} {R : Hp → List Addr → α → β → Prop} {R' : Hp → List Addr → γ → δ → Prop} {Ew : VK}
theorem Post.step {Q : β → Hp → Prop} {res : Res α} (s : Step F m H F1 m1 H1) (p : Post K T R F m H Q Ew res) : Post K T R F1 m1 H1 Q Ew res := by
  cases res with
  | ok a h => exact fun F' m' H' x t => p F' m' H' x (s.trans t)
  | exc e h => exact fun F' m' H' x t => p F' m' H' x (s.trans t)
  | bad => exact p
theorem Post.bind {Q : δ → Hp → Prop} {res : Res α} {k : α → List PO → Res γ} (p : Post K T R' F m H Q Ew (res.bind k)) :
    Post K T R F m H (fun x H1 => ∃ F1 m1 h1 a, Step F m H F1 m1 H1 ∧ RelH K T F1 m1 h1 H1 ∧ R F1 m1 a x ∧ Post K T R' F1 m1 H1 Q Ew (k a h1)) Ew res := by
  cases res with
  | ok a h => exact fun F' m' H' x s r q => ⟨F', m', h, a, s, r, q, Post.step s p⟩
  | exc e h => exact p
  | bad => exact p
theorem Post.mono {Q Q' : β → Hp → Prop} {res : Res α} (p : Post K T R F m H Q Ew res) (hq : ∀ x H', Q x H' → Q' x H') : Post K T R F m H Q' Ew res := by
  cases res with
  | ok a h => exact fun F' m' H' x s r q => hq _ _ (p F' m' H' x s r q)
  | exc e h => exact p
  | bad => exact p
theorem Post.here {Q : β → Hp → Prop} {a : α} {h : List PO} {x : β} (p : Post K T R F m H Q Ew (.ok a h)) (R0 : RelH K T F m h H) (r : R F m a x) : Q x H := p F m H x .refl R0 r
end
abbrev Ev := List (Option PV)
abbrev Ex := Ev → List PO → Res PV
abbrev Tx := Ev → List PO → Res Bool
abbrev Ax := Ev → List PO → Res (List PV)
def RB : Hp → List Addr → Bool → Bool → Prop := fun _ _ a b => a = b
section
variable (X : Cx) (T : Tab) (Ew : VK)
def wE (f : Ex) : TE := fun σ H Q => ∃ F m ρ h, RelS X.K T F m ρ h σ H ∧ Post X.K T (RepV X.K T) F m H Q Ew (f ρ h)
def wT (f : Tx) : TT := fun σ H Q => ∃ F m ρ h, RelS X.K T F m ρ h σ H ∧ Post X.K T RB F m H Q Ew (f ρ h)
def wA (f : Ax) : TA := fun σ H Q => ∃ F m ρ h, RelS X.K T F m ρ h σ H ∧ Post X.K T (RepVs X.K T) F m H Q Ew (f ρ h)
@[irreducible] def RE (e : Expr) (f : Ex) : Prop := PE X e (wE X T Ew f)
@[irreducible] def RT (e : Expr) (f : Tx) : Prop := PT X e (wT X T Ew f)
@[irreducible] def RA (es : List Expr) (f : Ax) : Prop := PA X es (wA X T Ew f)
end
theorem PE.imp {X : Cx} {e : Expr} {t t' : TE} (h : PE X e t) (i : ∀ σ H Q, t' σ H Q → t σ H Q) : PE X e t' := fun pins s σ H Q I q => h pins s σ H Q I (i _ _ _ q)
theorem PT.imp {X : Cx} {e : Expr} {t t' : TT} (h : PT X e t) (i : ∀ σ H Q, t' σ H Q → t σ H Q) : PT X e t' := fun pins s σ H Q I q => h pins s σ H Q I (i _ _ _ q)
theorem PW.imp {X : Cx} {e : Expr} {t t' : TT} (h : PW X e t) (i : ∀ σ H Q, t' σ H Q → t σ H Q) : PW X e t' := fun w pins s σ H Q I q => h w pins s σ H Q I (i _ _ _ q)
theorem PA.imp {X : Cx} {es : List Expr} {t t' : TA} (h : PA X es t) (i : ∀ σ H Q, t' σ H Q → t σ H Q) : PA X es t' := fun pos pins s σ H Q I q => h pos pins s σ H Q I (i _ _ _ q)
theorem PS.imp {X : Cx} {e : Stmt} {t t' : TS} (h : PS X e t) (i : ∀ D σ H, t' D σ H → t D σ H) : PS X e t' := fun pins s σ H D I q => h pins s σ H D I (i _ _ _ q)
theorem PSs.imp {X : Cx} {e : List Stmt} {t t' : TS} (h : PSs X e t) (i : ∀ D σ H, t' D σ H → t D σ H) : PSs X e t' := fun pins s σ H D I q => h pins s σ H D I (i _ _ _ q)
def derefP (h : List PO) : PV → PV
  | .ref i => match h[i]? with
    | some (.froz q) => q
    | _ => .ref i
  | p => p
theorem RelH.deref {K : PySem.W.Frag} {T : Tab} {F H : Hp} {m : List Addr} {h : List PO} (R : RelH K T F m h H) {p : PV} {v : V} (r : RepV K T F m p v) : RepV K T F m (derefP h p) v := by
  cases r with
  | @ref i a e =>
    show RepV K T F m (match h[i]? with | some (.froz q) => q | _ => .ref i) (.ref a)
    cases q : h[i]? with
    | none => exact .ref e
    | some o =>
      cases o with
      | froz p => exact (R.obj i _ a q e).1
      | lst _ => exact .ref e
      | dct _ => exact .ref e
  | non => exact .non
  | bl b => exact .bl b
  | int b => exact .int b
  | str b => exact .str b
  | ty b => exact .ty b
  | cls c => exact .cls c
  | tup e r => exact .tup e r
  | lst e r => exact .lst e r
  | giv e r => exact .giv e r
  | dct e k r => exact .dct e k r
  | ins c e d k r => exact .ins c e d k r
def cVar (i : Nat) : Ex := fun ρ h => match ρ[i]? with
  | some (some p) => .ok (derefP h p) h
  | _ => .bad
def cK (v : PV) : Ex := fun _ h => .ok v h
def c1 (g : PV → List PO → Res PV) (a : Ex) : Ex := fun ρ h => (a ρ h).bind g
def c2 (g : PV → PV → List PO → Res PV) (a b : Ex) : Ex := fun ρ h => (a ρ h).bind fun x h1 => (b ρ h1).bind fun y h2 => g x y h2
def cN (g : List PV → List PO → Res PV) (a : Ax) : Ex := fun ρ h => (a ρ h).bind g
def aNil : Ax := fun _ h => .ok [] h
def aCons (a : Ex) (r : Ax) : Ax := fun ρ h => (a ρ h).bind fun x h1 => (r ρ h1).bind fun xs h2 => .ok (x :: xs) h2
section
variable {X : Cx} {T : Tab} {Ew : VK}
theorem re_pe {e : Expr} {t : TE} {f : Ex} (h : PE X e t) (i : ∀ σ H Q F m ρ h, RelS X.K T F m ρ h σ H → Post X.K T (RepV X.K T) F m H Q Ew (f ρ h) → t σ H Q) : RE X T Ew e f := by with_unfolding_all exact (
  PE.imp h fun σ H Q ⟨F, m, ρ, h, R, p⟩ => i σ H Q F m ρ h R p)
theorem rv (i : Nat) {x : Str} {pos : Pos} (hN : X.N[i]? = some x := by rfl) (hv : Vis X.env.scope x := by first | exact Or.inl rfl | exact Or.inr (Or.inl rfl) | exact Or.inr (Or.inr rfl)) (hd : (x == ("__debug__" : Str)) = false := by decide)
    (hcd : (x == ("__classdict__" : Str)) = false := by decide) : RE X T Ew (.Name x pos) (cVar i) := by with_unfolding_all
  refine re_pe (pe_var hN hv hd hcd) fun σ H Q F m ρ h R p => ?_
  unfold cVar at p
  cases q : ρ[i]? with
  | none => rw [q] at p; exact p.elim
  | some o =>
    cases o with
    | none => rw [q] at p; exact p.elim
    | some pv =>
      rw [q] at p
      obtain ⟨v, h1, h2⟩ := R.env.2 i pv q
      exact ⟨v, h1, Post.here p R.toRelH (R.deref h2)⟩
theorem re_const {e : Expr} {v : V} {p : PV} (h : PE X e (tC v)) (r : ∀ F m, RepV X.K T F m p v) : RE X T Ew e (cK p) := by with_unfolding_all exact (
  re_pe h fun σ H Q F m ρ h R q => Post.here q R.toRelH (r F m))
theorem re_int {i : Int} {j pos} : RE X T Ew (.Constant (.int i) j pos) (cK (.int i)) := by with_unfolding_all exact (
    re_const pe_int fun _ _ => .int i)
theorem re_bl {b : Bool} {j pos} : RE X T Ew (.Constant (.bool b) j pos) (cK (.bl b)) := by with_unfolding_all exact (
    re_const pe_bl fun _ _ => .bl b)
theorem re_non {j pos} : RE X T Ew (.Constant .none j pos) (cK .non) := by with_unfolding_all exact (
    re_const pe_non fun _ _ => .non)
theorem re_str {x : Str} (l : List Nat) {j pos} (e : x = S l := by rfl) : RE X T Ew (.Constant (.str x) j pos) (cK (.str l)) := by with_unfolding_all exact (
    re_const pe_str fun _ _ => by rw [e]; exact .str l)
def Prim1 (K : PySem.W.Frag) (T : Tab) (r : V → Hp → VK → Prop) (g : PV → List PO → Res PV) : Prop :=
  ∀ F m h H x p Q Ew, RelH K T F m h H → RepV K T F m p x → Post K T (RepV K T) F m H Q Ew (g p h) → r x H Q
def Prim2 (K : PySem.W.Frag) (T : Tab) (r : R2) (g : PV → PV → List PO → Res PV) : Prop :=
  ∀ F m h H x y p q Q Ew, RelH K T F m h H → RepV K T F m p x → RepV K T F m q y → Post K T (RepV K T) F m H Q Ew (g p q h) → r x y H Q
def PrimN (K : PySem.W.Frag) (T : Tab) (r : List V → Hp → VK → Prop) (g : List PV → List PO → Res PV) : Prop :=
  ∀ F m h H xs ps Q Ew, RelH K T F m h H → RepVs K T F m ps xs → Post K T (RepV K T) F m H Q Ew (g ps h) → r xs H Q
theorem RelS.of {K : PySem.W.Frag} {F F1 H H1 : Hp} {m m1 : List Addr} {ρ : Ev} {h h1 : List PO} {σ : St} (R : RelS K T F m ρ h σ H) (s : Step F m H F1 m1 H1) (R1 : RelH K T F1 m1 h1 H1) : RelS K T F1 m1 ρ h1 σ H1 := ⟨R1, s.env R.env⟩
theorem w1 {r : V → Hp → VK → Prop} {g : PV → List PO → Res PV} {fa : Ex} (P : Prim1 X.K T r g) {σ : St} {H : Hp} {Q : VK} (w : wE X T Ew (c1 g fa) σ H Q) : tUn r (wE X T Ew fa) σ H Q := by
  obtain ⟨F, m, ρ, h, R, p⟩ := w
  exact ⟨F, m, ρ, h, R, (Post.bind p).mono fun x H1 ⟨F1, m1, h1, a, s, R1, ra, p1⟩ => P F1 m1 h1 H1 x a Q Ew R1 ra p1⟩
theorem w2 {r : R2} {g : PV → PV → List PO → Res PV} {fa fb : Ex} (P : Prim2 X.K T r g) {σ : St} {H : Hp} {Q : VK} (w : wE X T Ew (c2 g fa fb) σ H Q) : tOp r (wE X T Ew fa) (wE X T Ew fb) σ H Q := by
  obtain ⟨F, m, ρ, h, R, p⟩ := w
  refine ⟨F, m, ρ, h, R, (Post.bind p).mono fun x H1 ⟨F1, m1, h1, a, s, R1, ra, p1⟩ => ?_⟩
  refine ⟨F1, m1, ρ, h1, R.of s R1, (Post.bind p1).mono fun y H2 ⟨F2, m2, h2, b, s2, R2, rb, p2⟩ => ?_⟩
  exact P F2 m2 h2 H2 x y a b Q Ew R2 (s2.rep ra) rb p2
theorem wN {r : List V → Hp → VK → Prop} {g : List PV → List PO → Res PV} {fa : Ax} (P : PrimN X.K T r g) {σ : St} {H : Hp} {Q : VK} (w : wE X T Ew (cN g fa) σ H Q) : tCB r (wA X T Ew fa) σ H Q := by
  obtain ⟨F, m, ρ, h, R, p⟩ := w
  exact ⟨F, m, ρ, h, R, (Post.bind p).mono fun x H1 ⟨F1, m1, h1, a, s, R1, ra, p1⟩ => P F1 m1 h1 H1 x a Q Ew R1 ra p1⟩
theorem ra_nil : RA X T Ew [] aNil := by with_unfolding_all exact (
    PA.imp pa_nil fun σ H Q ⟨F, m, ρ, h, R, p⟩ => Post.here p R.toRelH .nil)
theorem ra_cons {e : Expr} {es : List Expr} {f : Ex} {fs : Ax} (ha : RE X T Ew e f) (hr : RA X T Ew es fs) (hs : starEach (e :: es) X.env = (false, eval e X.env) :: starEach es X.env := by rfl) : RA X T Ew (e :: es) (aCons f fs) := by with_unfolding_all
  refine PA.imp (pa_cons ha hr hs) fun σ H Q ⟨F, m, ρ, h, R, p⟩ => ?_
  refine ⟨F, m, ρ, h, R, (Post.bind p).mono fun x H1 ⟨F1, m1, h1, a, s, R1, ra, p1⟩ => ?_⟩
  refine ⟨F1, m1, ρ, h1, R.of s R1, (Post.bind p1).mono fun y H2 ⟨F2, m2, h2, b, s2, R2, rb, p2⟩ => ?_⟩
  exact Post.here p2 R2 (.cons (s2.rep ra) rb)
theorem re_op {op : Operator} {r : R2} {g : PV → PV → List PO → Res PV} {a b : Expr} {fa fb : Ex} {pos : Pos} (ho : OpR X (binaryOp op) r) (P : Prim2 X.K T r g) (ha : RE X T Ew a fa) (hb : RE X T Ew b fb) : RE X T Ew (.BinOp a op b pos) (c2 g fa fb) := by with_unfolding_all exact (
  PE.imp (pe_op ho ha hb) fun σ H Q w => w2 P w)
theorem re_un {op : UnaryOp} {r : V → Hp → VK → Prop} {g : PV → List PO → Res PV} {a : Expr} {fa : Ex} {pos : Pos} (ho : UnR X (unaryOp op) r) (P : Prim1 X.K T r g) (ha : RE X T Ew a fa) : RE X T Ew (.UnaryOp op a pos) (c1 g fa) := by with_unfolding_all exact (
  PE.imp (pe_un ho ha) fun σ H Q w => w1 P w)
theorem re_cmp {op : CmpOp} {r : R2} {g : PV → PV → List PO → Res PV} {a b : Expr} {fa fb : Ex} {pos : Pos} (ho : OpR X (compareOp op) r) (P : Prim2 X.K T r g) (ha : RE X T Ew a fa) (hb : RE X T Ew b fb) (hm : behindInMarks op b = false) : RE X T Ew (.Compare a [op] [b] pos) (c2 g fa fb) := by with_unfolding_all exact (
  PE.imp (pe_cmpR ho ha hb hm) fun σ H Q w => w2 P w)
end
end L3
set_option Elab.async false
set_option linter.all false
set_option maxRecDepth 100000
set_option maxHeartbeats 4000000
set_option autoImplicit false
namespace L3
open PySem PySem.Spec PyProof.Rows L2
def lsM (h : List PO) : PV → Option (List PV)
  | .lst xs => some xs
  | .ref i => match h[i]? with
    | some (.lst xs) => some xs
    | _ => none
  | _ => none
def lsR (h : List PO) : PV → Option (List PV)
  | .giv xs => some xs
  | p => lsM h p
def dcR (h : List PO) : PV → Option (List (PK × PV))
  | .dct kvs => some kvs
  | .ref i => match h[i]? with
    | some (.dct kvs) => some kvs
    | _ => none
  | _ => none
def sqR (h : List PO) : PV → Option (List PV)
  | .tup xs => some xs
  | p => lsR h p
section
variable {K : PySem.W.Frag} {T : Tab} {F H : Hp} {m : List Addr} {h : List PO} {p : PV} {x : V} {ps : List PV}
theorem lsM_rep (R : RelH K T F m h H) (r : RepV K T F m p x) (e : lsM h p = some ps) : ∃ a vs, x = .ref a ∧ H a = some (.lst vs) ∧ RepVs K T F m ps vs := by
  cases r with
  | lst ef rr => simp only [lsM, Option.some.injEq] at e; subst e; exact ⟨_, _, rfl, R.same _ _ ef, rr⟩
  | @ref i a em =>
    have e : (match h[i]? with | some (.lst xs) => some xs | _ => none) = some ps := e
    cases q : h[i]? with
    | none => rw [q] at e; cases e
    | some o =>
      rw [q] at e
      cases o with
      | lst xs =>
        simp only [Option.some.injEq] at e; subst e
        obtain ⟨_, vs, e1, rr⟩ := R.obj i _ a q em
        exact ⟨a, vs, rfl, e1, rr⟩
      | dct _ => cases e
      | froz _ => cases e
  | _ => simp [lsM] at e
theorem lsR_rep (R : RelH K T F m h H) (r : RepV K T F m p x) (e : lsR h p = some ps) : ∃ a vs, x = .ref a ∧ SqL K H a vs ∧ RepVs K T F m ps vs := by
  by_cases hg : ∃ xs, p = .giv xs
  · obtain ⟨xs, rfl⟩ := hg
    simp only [lsR, Option.some.injEq] at e; subst e
    cases r with
    | giv ef rr => exact ⟨_, _, rfl, R.same.seq ef, rr⟩
  · have e' : lsM h p = some ps := by
      unfold lsR at e
      split at e
      · exact absurd ⟨_, rfl⟩ hg
      · exact e
    obtain ⟨a, vs, e1, e2, rr⟩ := lsM_rep R r e'
    exact ⟨a, vs, e1, SqL.of e2, rr⟩
theorem tup_rep (R : RelH K T F m h H) (r : RepV K T F m (.tup ps) x) : ∃ a vs, x = .ref a ∧ SqT K H a vs ∧ RepVs K T F m ps vs := by
  cases r with
  | tup ef rr => exact ⟨_, _, rfl, R.same.seqT ef, rr⟩
theorem sqR_rep (R : RelH K T F m h H) (r : RepV K T F m p x) (e : sqR h p = some ps) : ∃ a vs, x = .ref a ∧ (SqL K H a vs ∨ SqT K H a vs) ∧ RepVs K T F m ps vs := by
  by_cases hg : ∃ xs, p = .tup xs
  · obtain ⟨xs, rfl⟩ := hg
    simp only [sqR, Option.some.injEq] at e; subst e
    obtain ⟨a, vs, e1, e2, rr⟩ := tup_rep R r
    exact ⟨a, vs, e1, .inr e2, rr⟩
  · have e' : lsR h p = some ps := by
      unfold sqR at e
      split at e
      · exact absurd ⟨_, rfl⟩ hg
      · exact e
    obtain ⟨a, vs, e1, e2, rr⟩ := lsR_rep R r e'
    exact ⟨a, vs, e1, .inl e2, rr⟩
theorem dcR_rep {kps : List (PK × PV)} (R : RelH K T F m h H) (r : RepV K T F m p x) (e : dcR h p = some kps) : ∃ a kvs, x = .ref a ∧ Rd H a (.dK kvs) ∧ kvs.map (·.1) = kps.map (fun p => tk p.1) ∧ RepVs K T F m (kps.map (·.2)) (kvs.map (·.2)) := by
  cases r with
  | dct ef k rr => simp only [dcR, Option.some.injEq] at e; subst e; exact ⟨_, _, rfl, Rd.same R.same ef, k, rr⟩
  | @ref i a em =>
    have e : (match h[i]? with | some (.dct xs) => some xs | _ => none) = some kps := e
    cases q : h[i]? with
    | none => rw [q] at e; cases e
    | some o =>
      rw [q] at e
      cases o with
      | dct xs =>
        simp only [Option.some.injEq] at e; subst e
        obtain ⟨_, vs, e1, k, rr⟩ := R.obj i _ a q em
        exact ⟨a, vs, rfl, .inl e1, k, rr⟩
      | lst _ => cases e
      | froz _ => cases e
  | _ => simp [dcR] at e
theorem RepVs.at {ps : List PV} {vs : List V} {i : Int} {p : PV} (r : RepVs K T F m ps vs) (e : atI ps i = some p) : ∃ v, atI vs i = some v ∧ RepV K T F m p v := by
  unfold atI at e ⊢
  rw [← r.length]
  cases q : ixN ps.length i with
  | none => rw [q] at e; cases e
  | some j =>
    rw [q] at e
    simp only [Option.bind_some] at e ⊢
    exact r.get e
end
theorem OpR.or {X : Cx} {f : Value → Value → Sem Value} {r r' : R2} (h : OpR X f r) (h' : OpR X f r') : OpR X f (fun x y H Q => r x y H Q ∨ r' x y H Q) := by
  intro pins s σ H x y v u Q I rx ry q
  rcases q with q | q
  · exact h pins s σ H x y v u Q I rx ry q
  · exact h' pins s σ H x y v u Q I rx ry q
theorem CallR.or {X : Cx} {f : Value} {r r' : List V → Hp → VK → Prop} (h : CallR X f r) (h' : CallR X f r') : CallR X f (fun x H Q => r x H Q ∨ r' x H Q) := by
  intro pins s σ H x v Q I rx q
  rcases q with q | q
  · exact h pins s σ H x v Q I rx q
  · exact h' pins s σ H x v Q I rx q
theorem SlR.or {X : Cx} {r r' : V → Option Int → Option Int → Hp → VK → Prop} (h : SlR X r) (h' : SlR X r') : SlR X (fun x l u H Q => r x l u H Q ∨ r' x l u H Q) := by
  intro pins s σ H x v vl vu lo hi sl Q I rx hs pl pu q
  rcases q with q | q
  · exact h pins s σ H x v vl vu lo hi sl Q I rx hs pl pu q
  · exact h' pins s σ H x v vl vu lo hi sl Q I rx hs pl pu q
section
variable {K : PySem.W.Frag} {T : Tab} {F H : Hp} {m : List Addr} {h : List PO} {Q : VK} {Ew : VK}
theorem post_ok {p : PV} {x : V} (w : Post K T (RepV K T) F m H Q Ew (.ok p h)) (R : RelH K T F m h H) (r : RepV K T F m p x) : Q x H := w F m H x .refl R r
theorem post_lst {ps : List PV} {vs : List V} (w : Post K T (RepV K T) F m H Q Ew (.ok (.lst ps) h)) (R : RelH K T F m h H) (r : RepVs K T F m ps vs) : ∀ p, H p = none → Q (.ref p) (upd H p (.lst vs)) := fun p hp => by
  obtain ⟨s, R'⟩ := Step.lay (o := .lst vs) R hp
  exact w _ m _ _ s R' (.lst upd_same (s.reps r))
theorem post_tup {ps : List PV} {vs : List V} (w : Post K T (RepV K T) F m H Q Ew (.ok (.tup ps) h)) (R : RelH K T F m h H) (r : RepVs K T F m ps vs) : ∀ p, H p = none → Q (.ref p) (upd H p (.tup vs)) := fun p hp => by
  obtain ⟨s, R'⟩ := Step.lay (o := .tup vs) R hp
  exact w _ m _ _ s R' (.tup (SqT.of upd_same) (s.reps r))
theorem post_new {ps : List PV} {vs : List V} (w : Post K T (RepV K T) F m H Q Ew (.ok (.ref h.length) (h ++ [.lst ps]))) (R : RelH K T F m h H) (r : RepVs K T F m ps vs) : ∀ p, H p = none → Q (.ref p) (upd H p (.lst vs)) := fun p hp => by
  have hF : F p = none := R.same.free hp
  have hm : p ∉ m := fun z => by
    obtain ⟨i, e⟩ := List.mem_iff_getElem?.mp z
    have hi : i < h.length := by
      rw [R.len]
      rcases Nat.lt_or_ge i m.length with q | q
      · exact q
      · rw [List.getElem?_eq_none q] at e; cases e
    have e2 : h[i]? = some h[i] := List.getElem?_eq_getElem hi
    have q := R.obj i _ p e2 e
    cases ho : h[i] with
    | lst xs => rw [ho] at q; obtain ⟨_, vs, z, _⟩ := q; rw [hp] at z; cases z
    | dct xs => rw [ho] at q; obtain ⟨_, vs, z, _⟩ := q; rw [hp] at z; cases z
    | froz xs => rw [ho] at q; obtain ⟨_, _, o, z⟩ := q; rw [hF] at z; cases z
  have st : Step F m H F (m ++ [p]) (upd H p (.lst vs)) := by
    refine ⟨Same.refl _, ⟨[p], rfl⟩, fun b o e _ => by rw [upd_ne (ne_of_none e hp)]; exact e, fun b o e => ⟨o, by rw [upd_ne (ne_of_none e hp)]; exact e⟩, fun i a hi e => ?_, fun a o e => .inl e⟩
    rw [List.getElem?_append_right hi] at e
    have : a = p := by
      cases q : i - m.length with
      | zero => rw [q] at e; simpa using e.symm
      | succ k => rw [q] at e; simp at e
    rw [this]; exact hp
  refine w F (m ++ [p]) _ _ st ⟨fun b o e => by rw [upd_ne (ne_of_none (R.same b o e) hp)]; exact R.same b o e, by simp [R.len], fun i o a e1 e2 => ?_, ?_⟩ (.ref (by rw [R.len]; simp))
  · rcases Nat.lt_or_ge i h.length with hi | hi
    · rw [List.getElem?_append_left hi] at e1
      rw [List.getElem?_append_left (by rw [← R.len]; exact hi)] at e2
      have q := R.obj i o a e1 e2
      cases o with
      | lst xs =>
        obtain ⟨f, ws, z, rr⟩ := q
        exact ⟨f, ws, by rw [upd_ne (ne_of_none z hp)]; exact z, st.reps rr⟩
      | dct xs =>
        obtain ⟨f, ws, z, k, rr⟩ := q
        exact ⟨f, ws, by rw [upd_ne (ne_of_none z hp)]; exact z, k, st.reps rr⟩
      | froz q' =>
        obtain ⟨r1, r2, r3⟩ := q
        exact ⟨st.rep r1, r2, r3⟩
    · have hi' : i = h.length := by
        rcases Nat.lt_or_ge i (h.length + 1) with z | z
        · omega
        · rw [List.getElem?_eq_none (by simp; omega)] at e1; cases e1
      subst hi'
      have e1' : o = .lst ps := by simpa using e1.symm
      subst e1'
      have e2' : a = p := by rw [R.len] at e2; simpa using e2.symm
      subst e2'
      exact ⟨hF, vs, upd_same, st.reps r⟩
  · refine List.nodup_append.mpr ⟨R.nd, by simp, fun a ha b hb => ?_⟩
    have : b = p := by simpa using hb
    subst this
    rintro rfl
    exact hm ha
end
def pAdd (p q : PV) (h : List PO) : Res PV := match p, q with
  | .int i, .int j => .ok (.int (i + j)) h
  | .int i, .bl b => .ok (.int (i + b2i b)) h
  | .str a, .str b => if a.length + b.length ≤ sizeLine then .ok (.str (a ++ b)) h else .bad
  | .tup a, .tup b => if a.isEmpty = false ∧ a.length + b.length ≤ sizeLine then .ok (.tup (a ++ b)) h else .bad
  | p, q => match lsM h p, lsM h q with
    | some a, some b => if a.length + b.length ≤ sizeLine then .ok (.lst (a ++ b)) h else .bad
    | _, _ => .bad
def rAddA (K : PySem.W.Frag) : R2 := fun x y H Q => (rI0 fun i j => V.int (i + j)) x y H Q ∨ (∃ i k, x = .int i ∧ y = .bl k ∧ Q (.int (i + b2i k)) H) ∨
  (∃ i j, x = .str i ∧ y = .str j ∧ i.length + j.length ≤ sizeLine ∧ Q (.str (i ++ j)) H) ∨ rCatT K x y H Q ∨ rCat x y H Q
theorem op_addA {X : Cx} : OpR X (binaryOp .Add) (rAddA X.K) := OpR.or op_add (OpR.or op_add_ib (OpR.or op_add_str (OpR.or op_catT op_cat)))
theorem S_append (a b : List Nat) : S a ++ S b = S (a ++ b) := by
  show (⟨(S a).cps ++ (S b).cps⟩ : Str) = _
  simp [S]
theorem prim_add {K : PySem.W.Frag} {T : Tab} : Prim2 K T (rAddA K) pAdd := by
  intro F m h H x y p q Q Ew R rp rq w
  unfold pAdd at w
  split at w
  · cases rp; cases rq; exact .inl ⟨_, _, rfl, rfl, post_ok w R (.int _)⟩
  · cases rp; cases rq; exact .inr (.inl ⟨_, _, rfl, rfl, post_ok w R (.int _)⟩)
  · rename_i a b
    cases rp; cases rq
    split at w
    · rename_i hz
      exact .inr (.inr (.inl ⟨_, _, rfl, rfl, by rw [S_len, S_len]; exact hz, by rw [S_append]; exact post_ok w R (.str _)⟩))
    · exact w.elim
  · rename_i a b
    split at w
    · rename_i hz
      obtain ⟨pa, va, rfl, ea, ra⟩ := tup_rep R rp
      obtain ⟨pb, vb, rfl, eb, rb⟩ := tup_rep R rq
      refine .inr (.inr (.inr (.inl ⟨pa, pb, va, vb, rfl, rfl, ea, eb, fun z => ?_, by rw [← ra.length, ← rb.length]; exact hz.2, fun z => ?_, fun _ => post_tup w R (ra.append rb)⟩)))
      · subst z
        have := ra.length
        cases a with
        | nil => simp at hz
        | cons _ _ => simp at this
      · subst z
        have := rb.length
        cases b with
        | nil =>
          rw [List.append_nil] at w
          exact post_ok w R rp
        | cons _ _ => simp at this
    · exact w.elim
  · split at w
    · rename_i a b e1 e2
      split at w
      · rename_i hz
        obtain ⟨pa, va, rfl, ea, ra⟩ := lsM_rep R rp e1
        obtain ⟨pb, vb, rfl, eb, rb⟩ := lsM_rep R rq e2
        exact .inr (.inr (.inr (.inr ⟨pa, pb, va, vb, rfl, rfl, ea, eb, by rw [← ra.length, ← rb.length]; exact hz, post_lst w R (ra.append rb)⟩)))
      · exact w.elim
    · exact w.elim
theorem re_add {X : Cx} {T : Tab} {Ew : VK} {a b : Expr} {fa fb : Ex} {pos : Pos} (ha : RE X T Ew a fa) (hb : RE X T Ew b fb) : RE X T Ew (.BinOp a .Add b pos) (c2 pAdd fa fb) := by with_unfolding_all exact (
    re_op op_addA prim_add ha hb)
def pI (C : Int → Int → Bool) (g : Int → Int → Int) (p q : PV) (h : List PO) : Res PV := match p, q with
  | .int i, .int j => if C i j = true then .ok (.int (g i j)) h else .bad
  | _, _ => .bad
theorem prim_I {K : PySem.W.Frag} {T : Tab} {C : Int → Int → Bool} {C' : Int → Int → Prop} {g : Int → Int → Int} (hC : ∀ i j, C i j = true → C' i j) : Prim2 K T (rI C' fun i j => .int (g i j)) (pI C g) := by
  intro F m h H x y p q Q Ew R rp rq w
  unfold pI at w
  split at w
  · cases rp; cases rq
    split at w
    · rename_i hc
      exact ⟨_, _, rfl, rfl, hC _ _ hc, post_ok w R (.int _)⟩
    · exact w.elim
  · exact w.elim
def pSub (p q : PV) (h : List PO) : Res PV := match p, q with
  | .int i, .int j => .ok (.int (i - j)) h
  | _, _ => .bad
theorem prim_sub {K : PySem.W.Frag} {T : Tab} : Prim2 K T (rI0 fun i j => .int (i - j)) pSub := by
  intro F m h H x y p q Q Ew R rp rq w
  unfold pSub at w
  split at w
  · cases rp; cases rq; exact ⟨_, _, rfl, rfl, post_ok w R (.int _)⟩
  · exact w.elim
abbrev pMod := pI (fun _ j => decide (0 < j)) (fun i j => i % j)
abbrev pDiv := pI (fun _ j => decide (0 < j ∧ j < 1073741824)) (fun i j => i / j)
def bel (n : Nat) (i : Int) : Bool := Nat.blt i.natAbs n
theorem bel_iff {n : Nat} {i : Int} : bel n i = true ↔ -(n : Int) < i ∧ i < (n : Int) := by
  unfold bel
  rw [Nat.blt_eq]
  omega
def mulC (i j : Int) : Bool := bel 18446744073709551616 i || bel 18446744073709551616 j
def repL {α : Type} (xs : List α) (k : Int) : List α := (List.replicate k.toNat xs).flatten
def pMul (p q : PV) (h : List PO) : Res PV := match p, q with
  | .int i, .int j => if mulC i j = true then .ok (.int (i * j)) h else .bad
  | .str a, .int k => if bel 1048576 k = true ∧ a.length * k.toNat ≤ 1048576 then .ok (.str (repL a k)) h else .bad
  | p, .int k => match lsM h p with
    | some xs => if bel 9223372036854775808 k = true ∧ xs.length * k.toNat ≤ sizeLine then .ok (.lst (repL xs k)) h else .bad
    | _ => .bad
  | _, _ => .bad
def rMulA : R2 := fun x y H Q => rI CMul (fun i j => .int (i * j)) x y H Q ∨ rMulS x y H Q ∨ rRep x y H Q
theorem op_mulA {X : Cx} : OpR X (binaryOp .Mult) rMulA := OpR.or op_mul (OpR.or op_mul_str op_rep)
theorem foldl_app (l : List Nat) : ∀ (k : Nat) (acc : List Nat), (List.replicate k l.toArray).foldl (· ++ ·) acc.toArray = (acc ++ (List.replicate k l).flatten).toArray
  | 0, acc => by simp
  | k + 1, acc => by
    rw [List.replicate_succ, List.foldl_cons, List.replicate_succ, List.flatten_cons, ← List.append_assoc, ← foldl_app l k (acc ++ l)]
    congr 1
    simp
theorem S_mul (a : List Nat) (k : Int) : Txt.mul (S a) k = S (repL a k) := by
  unfold Txt.mul repL
  by_cases h1 : k < 1
  · rw [if_pos h1]
    have : k.toNat = 0 := by omega
    rw [this]; rfl
  · rw [if_neg h1]
    by_cases h2 : k = 1
    · subst h2; simp
    · by_cases h3 : (S a).length = 0
      · rw [if_pos (by simp [h3])]
        have : a = [] := by rw [S_len] at h3; exact List.length_eq_zero_iff.mp h3
        subst this
        have e : ∀ n : Nat, (List.replicate n ([] : List Nat)).flatten = [] := fun n => by induction n with
          | zero => rfl
          | succ n ih => rw [List.replicate_succ, List.flatten_cons, ih]; rfl
        rw [e]
      · rw [if_neg (by simp [h2, h3])]
        have := foldl_app a k.toNat []
        rw [List.nil_append] at this
        show (⟨_⟩ : Str) = ⟨_⟩
        congr 1
theorem prim_mul {K : PySem.W.Frag} {T : Tab} : Prim2 K T rMulA pMul := by
  intro F m h H x y p q Q Ew R rp rq w
  unfold pMul at w
  split at w
  · cases rp; cases rq
    split at w
    · rename_i hc
      exact .inl ⟨_, _, rfl, rfl, (by
        unfold mulC at hc
        rw [Bool.or_eq_true, bel_iff, bel_iff] at hc
        exact hc), post_ok w R (.int _)⟩
    · exact w.elim
  · rename_i a k
    cases rp; cases rq
    split at w
    · rename_i hc
      obtain ⟨h12, h3⟩ := hc
      obtain ⟨h1, h2⟩ := bel_iff.mp h12
      refine .inr (.inl ⟨_, _, rfl, rfl, ⟨?_, fun g1 g2 => ?_, fun g1 g2 => ?_⟩, by rw [S_mul]; exact post_ok w R (.str _)⟩)
      · simp; omega
      · have hl : ((S a).length : Int) ≤ 2 ^ 20 := by
          rw [S_len]
          have : a.length * 1 ≤ a.length * k.toNat := Nat.mul_le_mul_left _ (by omega)
          omega
        have : (2 : Int) ^ 20 ≤ (2 ^ 63 - 1) / k := by
          rw [Int.le_ediv_iff_mul_le (by omega)]
          have : (2:Int) ^ 20 * k ≤ 2 ^ 20 * 2 ^ 20 := Int.mul_le_mul_of_nonneg_left (by omega) (by decide)
          omega
        omega
      · rw [S_len]
        unfold Builtin.Str.tooLong
        simp
        have : (2:Nat) ^ 20 ≤ sizeLine := by decide
        omega
    · exact w.elim
  · rename_i k hs hi
    cases rq
    split at w
    · rename_i xs e
      split at w
      · rename_i hc
        obtain ⟨h12, h3⟩ := hc
        obtain ⟨h1', h2'⟩ := bel_iff.mp h12
        have h1 : -(2 ^ 63) ≤ k := by omega
        have h2 : k < 2 ^ 63 := by omega
        obtain ⟨a, vs, rfl, ea, ra⟩ := lsM_rep R rp e
        have rr : ∀ n : Nat, RepVs K T F m (List.replicate n xs).flatten (List.replicate n vs).flatten := fun n => by
          induction n with
          | zero => exact .nil
          | succ n ih => rw [List.replicate_succ, List.replicate_succ, List.flatten_cons, List.flatten_cons]; exact ra.append ih
        exact .inr (.inr ⟨a, k, vs, rfl, rfl, ea, h1, h2, by rw [← ra.length]; exact h3, post_lst w R (rr _)⟩)
      · exact w.elim
    · exact w.elim
  · exact w.elim
section
variable {X : Cx} {T : Tab} {Ew : VK} {a b : Expr} {fa fb : Ex} {pos : Pos}
theorem re_sub (ha : RE X T Ew a fa) (hb : RE X T Ew b fb) : RE X T Ew (.BinOp a .Sub b pos) (c2 pSub fa fb) := by with_unfolding_all exact (
    re_op op_sub prim_sub ha hb)
theorem re_mul (ha : RE X T Ew a fa) (hb : RE X T Ew b fb) : RE X T Ew (.BinOp a .Mult b pos) (c2 pMul fa fb) := by with_unfolding_all exact (
    re_op op_mulA prim_mul ha hb)
theorem re_mod (ha : RE X T Ew a fa) (hb : RE X T Ew b fb) : RE X T Ew (.BinOp a .Mod b pos) (c2 pMod fa fb) := by with_unfolding_all exact (
    re_op op_mod (prim_I fun i j h => of_decide_eq_true h) ha hb)
theorem re_fdiv (ha : RE X T Ew a fa) (hb : RE X T Ew b fb) : RE X T Ew (.BinOp a .FloorDiv b pos) (c2 pDiv fa fb) := by with_unfolding_all exact (
    re_op op_fdiv (prim_I fun i j h => (by have z := of_decide_eq_true h; exact z)) ha hb)
def pNeg (p : PV) (h : List PO) : Res PV := match p with
  | .int i => .ok (.int (-i)) h
  | _ => .bad
theorem re_neg (ha : RE X T Ew a fa) : RE X T Ew (.UnaryOp .USub a pos) (c1 pNeg fa) := by with_unfolding_all exact (
    re_un un_neg (by
  intro F m h H x p Q Ew R rp w
  unfold pNeg at w
  split at w
  · cases rp; exact ⟨_, rfl, post_ok w R (.int _)⟩
  · exact w.elim) ha)
end
end L3
set_option Elab.async false
set_option linter.all false
set_option maxRecDepth 100000
set_option maxHeartbeats 4000000
set_option autoImplicit false
namespace L3
open PySem PySem.Spec PyProof.Rows L2
mutual
inductive RdD (K : PySem.W.Frag) (H : Hp) : V → PyData → Prop where
  | non : RdD K H .non .none
  | bl (b : Bool) : RdD K H (.bl b) (.bool b)
  | int (i : Int) : RdD K H (.int i) (.int i)
  | str (x : Str) : RdD K H (.str x) (.str x)
  | lst {a : Addr} {vs : List V} {ds : List PyData} (e : SqL K H a vs) (r : RdDs K H vs ds) : RdD K H (.ref a) (.list ds)
  | tup {a : Addr} {vs : List V} {ds : List PyData} (e : SqT K H a vs) (r : RdDs K H vs ds) : RdD K H (.ref a) (.tuple ds)
inductive RdDs (K : PySem.W.Frag) (H : Hp) : List V → List PyData → Prop where
  | nil : RdDs K H [] []
  | cons {v : V} {d : PyData} {vs : List V} {ds : List PyData} (r : RdD K H v d) (t : RdDs K H vs ds) : RdDs K H (v :: vs) (d :: ds)
end
section
variable {X : Cx} {pins : List (Addr × Obj)} {σ : St} {H : Hp} {s : Shared}
mutual
theorem RdD.reads (I : Inv X pins σ H s) : ∀ {x : V} {d : PyData} {u : Value}, RdD X.K H x d → RelV x u → ∃ as, Reads s.heap u d as
  | _, _, _, .non, r => by cases r; exact ⟨_, .none⟩
  | _, _, _, .bl b, r => by cases r; exact ⟨_, .bool b⟩
  | _, _, _, .int i, r => by obtain ⟨t, rfl⟩ := r; exact ⟨_, .int i t⟩
  | _, _, _, .str x, r => by obtain ⟨t, rfl⟩ := r; exact ⟨_, .str x t⟩
  | _, _, _, .lst e rr, r => by
    cases r
    obtain ⟨its, rv, ⟨o, n, h1, h2, h3, h4⟩, _⟩ := I.list e
    obtain ⟨as, ra⟩ := RdDs.reads I rr rv
    exact ⟨_, .list h1 h2 h4 (by simpa using ra)⟩
  | _, _, _, .tup e rr, r => by
    cases r
    obtain ⟨its, rv, ⟨o, h1, h2, n, h4⟩, _⟩ := I.tuple e
    obtain ⟨as, ra⟩ := RdDs.reads I rr rv
    exact ⟨_, .tuple h1 h2 h4 (by simpa using ra)⟩
theorem RdDs.reads (I : Inv X pins σ H s) : ∀ {xs : List V} {ds : List PyData} {us : List Value}, RdDs X.K H xs ds → Vals xs us → ∃ as, ReadsAll s.heap us ds as
  | _, _, _, .nil, r => by cases r; exact ⟨_, .nil⟩
  | _, _, _, .cons q t, r => by
    cases r with
    | cons r1 r2 =>
      obtain ⟨as, ra⟩ := RdD.reads I q r1
      obtain ⟨bs, rb⟩ := RdDs.reads I t r2
      exact ⟨_, .cons ra rb⟩
end
end
mutual
def toD : PV → PyData
  | .non => .none
  | .bl b => .bool b
  | .int i => .int i
  | .str l => .str (S l)
  | .tup xs => .tuple (toDs xs)
  | .lst xs => .list (toDs xs)
  | .giv xs => .list (toDs xs)
  | _ => .dict []
def toDs : List PV → List PyData
  | [] => []
  | x :: r => toD x :: toDs r
end
theorem toDs_map : ∀ l : List PV, toDs l = l.map toD
  | [] => by simp [toDs]
  | x :: r => by simp [toDs, toDs_map r]
def dOf (h : List PO) : PV → PyData
  | .ref i => match h[i]? with
    | some (.lst xs) => .list (toDs xs)
    | _ => .dict []
  | p => toD p
section
variable {K : PySem.W.Frag} {T : Tab} {F H : Hp} {m : List Addr}
mutual
theorem RepV.rd (sm : Same F H) : ∀ {p : PV} {x : V}, RepV K T F m p x → (toD p).canLay0 = true → RdD K H x (toD p)
  | _, _, .non, _ => by simp only [toD]; exact .non
  | _, _, .bl b, _ => by simp only [toD]; exact .bl b
  | _, _, .int i, _ => by simp only [toD]; exact .int i
  | _, _, .str x, _ => by simp only [toD]; exact .str _
  | _, _, .ty n, h => by simp [toD, PyData.canLay0] at h
  | _, _, .cls c, h => by simp [toD, PyData.canLay0] at h
  | _, _, .tup e r, h => by
    simp only [toD] at h ⊢
    exact .tup (sm.seqT e) (RepVs.rd sm r (by simpa [PyData.canLay0] using h))
  | _, _, .lst e r, h => by
    simp only [toD] at h ⊢
    exact .lst (SqL.of (sm _ _ e)) (RepVs.rd sm r (by simpa [PyData.canLay0] using h))
  | _, _, .giv e r, h => by
    simp only [toD] at h ⊢
    exact .lst (sm.seq e) (RepVs.rd sm r (by simpa [PyData.canLay0] using h))
  | _, _, .dct e k r, h => by simp [toD, PyData.canLay0] at h
  | _, _, .ins c e d k r, h => by simp [toD, PyData.canLay0] at h
  | _, _, .ref e, h => by simp [toD, PyData.canLay0] at h
theorem RepVs.rd (sm : Same F H) : ∀ {p : List PV} {x : List V}, RepVs K T F m p x → PyData.canLayAll0 (toDs p) = true → RdDs K H x (toDs p)
  | _, _, .nil, _ => by simp only [toDs]; exact .nil
  | _, _, .cons r t, h => by
    simp only [toDs, PyData.canLayAll0, Bool.and_eq_true] at h ⊢
    exact .cons (RepV.rd sm r h.1) (RepVs.rd sm t h.2)
end
theorem RepV.rdH {h : List PO} (R : RelH K T F m h H) {p : PV} {x : V} (r : RepV K T F m p x) (c : (dOf h p).canLay0 = true) : RdD K H x (dOf h p) := by
  by_cases hr : ∃ i, p = .ref i
  · obtain ⟨i, rfl⟩ := hr
    cases r with
    | @ref _ a e =>
      have c' : (match h[i]? with | some (.lst xs) => PyData.list (toDs xs) | _ => .dict []).canLay0 = true := c
      show RdD K H (.ref a) (match h[i]? with | some (.lst xs) => PyData.list (toDs xs) | _ => .dict [])
      cases q : h[i]? with
      | none => rw [q] at c'; simp [PyData.canLay0] at c'
      | some o =>
        rw [q] at c'
        cases o with
        | lst xs =>
          obtain ⟨_, vs, e1, rr⟩ := R.obj i _ a q e
          exact .lst (SqL.of e1) (RepVs.rd R.same rr (by simpa [PyData.canLay0] using c'))
        | dct _ => simp [PyData.canLay0] at c'
        | froz _ => simp [PyData.canLay0] at c'
  · have e : dOf h p = toD p := by
      unfold dOf
      split
      · exact absurd ⟨_, rfl⟩ hr
      · rfl
    rw [e] at c ⊢
    exact RepV.rd R.same r c
end
def okD (h : List PO) (p : PV) : Bool := (dOf h p).canLay0 && decide ((dOf h p).depth ≤ 60)
def pEq (p q : PV) (h : List PO) : Res PV := if okD h p = true ∧ okD h q = true then .ok (.bl (PyData.eqv (dOf h p) (dOf h q))) h else .bad
def pNe (p q : PV) (h : List PO) : Res PV := if okD h p = true ∧ okD h q = true then .ok (.bl (!PyData.eqv (dOf h p) (dOf h q))) h else .bad
def rEqD (K : PySem.W.Frag) (neg : Bool) : R2 := fun x y H Q => ∃ d e, RdD K H x d ∧ RdD K H y e ∧ d.canLay0 = true ∧ e.canLay0 = true ∧ d.depth ≤ 60 ∧ Q (.bl (if neg then !PyData.eqv d e else PyData.eqv d e)) H
section
variable {X : Cx} {T : Tab} {Ew : VK} {a b : Expr} {fa fb : Ex} {pos : Pos}
theorem op_eqD (hu : X.A.units + 64 < cLine) : OpR X (compareOp .Eq) (rEqD X.K false) := by
  intro pins s σ H x y v u Q I rx ry h
  obtain ⟨d, e, h1, h2, c1, c2, dp, q⟩ := h
  obtain ⟨as, ra⟩ := h1.reads I rx
  obtain ⟨bs, rb⟩ := h2.reads I ry
  exact SeqAt.compareEq_reads ra rb c1 c2 (by have := Nat.min_le_left d.depth e.depth; omega) ⟨.bl _, H, I, rfl, q⟩
theorem op_neD (hu : X.A.units + 64 < cLine) : OpR X (compareOp .NotEq) (rEqD X.K true) := by
  intro pins s σ H x y v u Q I rx ry h
  obtain ⟨d, e, h1, h2, c1, c2, dp, q⟩ := h
  obtain ⟨as, ra⟩ := h1.reads I rx
  obtain ⟨bs, rb⟩ := h2.reads I ry
  exact SeqAt.compareNe_reads ra rb c1 c2 (by have := Nat.min_le_left d.depth e.depth; omega) ⟨.bl _, H, I, rfl, q⟩
theorem prim_eq {K : PySem.W.Frag} {T : Tab} : Prim2 K T (rEqD K false) pEq := by
  intro F m h H x y p q Q Ew R rp rq w
  unfold pEq at w
  split at w
  · rename_i hc
    unfold okD at hc
    simp only [Bool.and_eq_true, decide_eq_true_eq] at hc
    exact ⟨_, _, rp.rdH R hc.1.1, rq.rdH R hc.2.1, hc.1.1, hc.2.1, hc.1.2, post_ok w R (.bl _)⟩
  · exact w.elim
theorem prim_ne {K : PySem.W.Frag} {T : Tab} : Prim2 K T (rEqD K true) pNe := by
  intro F m h H x y p q Q Ew R rp rq w
  unfold pNe at w
  split at w
  · rename_i hc
    unfold okD at hc
    simp only [Bool.and_eq_true, decide_eq_true_eq] at hc
    exact ⟨_, _, rp.rdH R hc.1.1, rq.rdH R hc.2.1, hc.1.1, hc.2.1, hc.1.2, post_ok w R (.bl _)⟩
  · exact w.elim
def pCmp (g : Int → Int → Bool) (p q : PV) (h : List PO) : Res PV := match p, q with
  | .int i, .int j => .ok (.bl (g i j)) h
  | _, _ => .bad
theorem prim_cmp {K : PySem.W.Frag} {T : Tab} {g : Int → Int → Bool} : Prim2 K T (rI0 fun i j => .bl (g i j)) (pCmp g) := by
  intro F m h H x y p q Q Ew R rp rq w
  unfold pCmp at w
  split at w
  · cases rp; cases rq; exact ⟨_, _, rfl, rfl, post_ok w R (.bl _)⟩
  · exact w.elim
abbrev pLt := pCmp fun i j => decide (i < j)
abbrev pLe := pCmp fun i j => decide (i ≤ j)
abbrev pGt := pCmp fun i j => decide (j < i)
def isNon : PV → Bool
  | .non => true
  | _ => false
theorem isNon_rep {K : PySem.W.Frag} {T : Tab} {F : Hp} {m : List Addr} {p : PV} {x : V} (r : RepV K T F m p x) : decide (x = .non) = isNon p := by
  cases r <;> simp [isNon]
def pIs (p q : PV) (h : List PO) : Res PV := match q with
  | .non => .ok (.bl (isNon p)) h
  | _ => .bad
def pIsNot (p q : PV) (h : List PO) : Res PV := match q with
  | .non => .ok (.bl (!isNon p)) h
  | _ => .bad
end
def firstFrom (y x : List Nat) (lo : Nat) : Option Nat := (List.range (x.length + 1)).find? fun i => decide (lo ≤ i) && y.isPrefixOf (x.drop i)
theorem subAt_iff (x y : List Nat) (i : Nat) (hi : i + y.length ≤ x.length) : Builtin.Str.subAt (S x) (S y) i = y.isPrefixOf (x.drop i) := by
  unfold Builtin.Str.subAt
  rw [S_len]
  rw [Bool.eq_iff_iff, beq_iff_eq, List.isPrefixOf_iff_prefix]
  have e : (S x).cps.extract i (i + y.length) = ((x.drop i).take y.length).toArray := by
    apply Array.toList_inj.mp
    simp [S, List.extract_eq_drop_take]
  rw [e]
  show ((x.drop i).take y.length).toArray = (S y).cps ↔ _
  constructor
  · intro h
    have h' : (x.drop i).take y.length = y := by simpa [S] using congrArg Array.toList h
    refine ⟨(x.drop i).drop y.length, ?_⟩
    have q := List.take_append_drop y.length (x.drop i)
    rw [h'] at q
    exact q
  · rintro ⟨t, ht⟩
    rw [← ht, List.take_left]; rfl
theorem at_iff (x y : List Nat) (i : Nat) : StrLaws.At (S x) (S y) (S x).length i ↔ i ≤ x.length ∧ y.isPrefixOf (x.drop i) = true := by
  unfold StrLaws.At
  rw [S_len, S_len]
  constructor
  · rintro ⟨h1, h2⟩
    rw [subAt_iff x y i h1] at h2
    exact ⟨by omega, h2⟩
  · rintro ⟨h1, h2⟩
    have : i + y.length ≤ x.length := by
      have := (List.isPrefixOf_iff_prefix.mp h2).length_le
      rw [List.length_drop] at this
      omega
    exact ⟨this, by rw [subAt_iff x y i this]; exact h2⟩
theorem occ_first1 (x y : List Nat) (lo : Nat) : Builtin.Str.occurrences (S x) (S y) lo (S x).length 1 = (firstFrom y x lo).toList := by
  have hlen := StrLaws.occ_length_le (S x) (S y) lo (S x).length 1
  rcases StrLaws.occ_head_from (S x) (S y) lo 1 (Nat.le_refl _) with ⟨h0, hn⟩ | ⟨i, r, h0, hl, ha, hn⟩
  · rw [h0]
    have : firstFrom y x lo = none := by
      unfold firstFrom
      rw [List.find?_eq_none]
      intro i hi hc
      simp only [Bool.and_eq_true, decide_eq_true_eq] at hc
      exact hn i hc.1 ((at_iff x y i).mpr ⟨by have := List.mem_range.mp hi; omega, hc.2⟩)
    rw [this]; rfl
  · rw [h0] at hlen ⊢
    have hr : r = [] := by cases r with
      | nil => rfl
      | cons _ _ => simp at hlen
    subst hr
    obtain ⟨a1, a2⟩ := (at_iff x y i).mp ha
    have : firstFrom y x lo = some i := by
      unfold firstFrom
      rw [List.find?_range_eq_some]
      refine ⟨by simp [hl, a2], by simp; omega, fun j hj => ?_⟩
      simp only [Bool.not_eq_true', Bool.and_eq_false_iff, decide_eq_false_iff_not]
      rcases Nat.lt_or_ge j lo with q | q
      · exact .inl (by omega)
      · right
        cases z : y.isPrefixOf (x.drop j) with
        | false => rfl
        | true => exact absurd ((at_iff x y j).mpr ⟨by omega, z⟩) (hn j q hj)
    rw [this]; rfl
def inStr (y x : List Nat) : Bool := (firstFrom y x 0).isSome
def findI (o : Option Nat) : Int := match o with
  | some i => (i : Int)
  | none => -1
theorem S_find (x y : List Nat) : Txt.find (S x) (S y) = findI (firstFrom y x 0) := by
  unfold Txt.find
  rw [occ_first1]
  cases firstFrom y x 0 <;> rfl
theorem S_in (x y : List Nat) : (!(Builtin.Str.occurrences (S x) (S y) 0 (S x).length 1).isEmpty) = inStr y x := by
  rw [occ_first1]
  unfold inStr
  cases firstFrom y x 0 <;> rfl
theorem inStr_one (c : Nat) (x : List Nat) : inStr [c] x = x.contains c := by
  unfold inStr firstFrom
  rw [Bool.eq_iff_iff, List.find?_isSome]
  simp only [List.mem_range, Bool.and_eq_true, decide_eq_true_eq, Nat.zero_le, true_and, List.contains_iff_mem]
  constructor
  · rintro ⟨i, hi, hp⟩
    obtain ⟨t, ht⟩ := List.isPrefixOf_iff_prefix.mp hp
    have : c ∈ x.drop i := by rw [← ht]; simp
    exact List.mem_of_mem_drop this
  · intro h
    obtain ⟨i, hi⟩ := List.mem_iff_getElem?.mp h
    have hlt : i < x.length := by
      rcases Nat.lt_or_ge i x.length with q | q
      · exact q
      · rw [List.getElem?_eq_none q] at hi; cases hi
    refine ⟨i, by omega, List.isPrefixOf_iff_prefix.mpr ⟨x.drop (i + 1), ?_⟩⟩
    rw [List.getElem?_eq_getElem hlt, Option.some.injEq] at hi
    rw [← hi, List.singleton_append, ← List.drop_eq_getElem_cons hlt]
def keyOf : PV → Option PK
  | .int i => some (.inl i)
  | .str l => some (.inr l)
  | _ => none
def valP (kvs : List (PK × PV)) (k : PK) : Option PV := (kvs.find? fun kv => decide (kv.1 = k)).map (·.2)
theorem keyOf_rep {K : PySem.W.Frag} {T : Tab} {F : Hp} {m : List Addr} {p : PV} {x : V} {k : PK} (r : RepV K T F m p x) (e : keyOf p = some k) : x = kV (tk k) := by
  cases r <;> simp [keyOf] at e <;> subst e <;> rfl
theorem valP_rep {K : PySem.W.Frag} {T : Tab} {F : Hp} {m : List Addr} : ∀ {kps : List (PK × PV)} {kvs : List (Key × V)}, kvs.map (·.1) = kps.map (fun p => tk p.1) → RepVs K T F m (kps.map (·.2)) (kvs.map (·.2)) → ∀ k : PK,
    (∃ p v, valP kps k = some p ∧ valV kvs (tk k) = some v ∧ RepV K T F m p v) ∨ (valP kps k = none ∧ valV kvs (tk k) = none)
  | [], [], _, _, k => .inr ⟨rfl, rfl⟩
  | [], _ :: _, h, _, _ => by simp at h
  | _ :: _, [], h, _, _ => by simp at h
  | (k1, p1) :: kps, (k2, v2) :: kvs, h, r, k => by
    simp only [List.map_cons, List.cons.injEq] at h
    cases r with
    | cons r1 r2 =>
      by_cases e : k1 = k
      · subst e
        exact .inl ⟨p1, v2, by simp [valP], by rw [valV_pos (p := (k2, v2)) h.1], r1⟩
      · have e2 : ¬ k2 = tk k := fun z => e (tk_inj (h.1.symm.trans z))
        rw [valV_neg (p := (k2, v2)) e2]
        have : valP ((k1, p1) :: kps) k = valP kps k := by simp [valP, e]
        rw [this]
        exact valP_rep h.2 r2 k
def pInB (p q : PV) (h : List PO) : Option Bool := match q with
  | .str b => match p with
    | .str a => some (inStr a b)
    | _ => none
  | q => match dcR h q with
    | some kvs => match keyOf p with
      | some k => some (valP kvs k).isSome
      | none => none
    | none => match sqR h q with
      | some xs => if okD [] p = true ∧ xs.all (okD []) = true then some (xs.any fun y => PyData.eqv (toD y) (toD p)) else none
      | none => none
def pIn (p q : PV) (h : List PO) : Res PV := match pInB p q h with
  | some b => .ok (.bl b) h
  | none => .bad
def pNotIn (p q : PV) (h : List PO) : Res PV := match pInB p q h with
  | some b => .ok (.bl (!b)) h
  | none => .bad
def rInA (K : PySem.W.Frag) (neg : Bool) : R2 := fun x y H Q => ∃ b : Bool, Q (.bl (if neg then !b else b)) H ∧
  ((∃ i j, x = .str i ∧ y = .str j ∧ b = !(Builtin.Str.occurrences j i 0 j.length 1).isEmpty) ∨ (∃ a o, y = .ref a ∧ DGet H a x o ∧ b = o.isSome) ∨
   (∃ p xs d ds, y = .ref p ∧ (SqL K H p xs ∨ SqT K H p xs) ∧ RdD K H x d ∧ RdDs K H xs ds ∧ d.canLay0 = true ∧ ds.all PyData.canLay0 = true ∧ d.depth ≤ 60 ∧ b = ds.any fun e => PyData.eqv e d))
section
variable {X : Cx} {T : Tab} {Ew : VK} {a b : Expr} {fa fb : Ex} {pos : Pos}
noncomputable def eqTo (h : Heap) (d : PyData) (y : Value) : Bool := open Classical in if q : ∃ e as, Reads h y e as ∧ e.canLay0 = true then PyData.eqv q.choose d else false
theorem eqTo_of {h : Heap} {d e : PyData} {y : Value} {as : List Addr} (r : Reads h y e as) (c : e.canLay0 = true) : eqTo h d y = PyData.eqv e d := by
  have q : ∃ e as, Reads h y e as ∧ e.canLay0 = true := ⟨e, as, r, c⟩
  unfold eqTo
  rw [dif_pos q]
  obtain ⟨as', r', c'⟩ := q.choose_spec
  rw [SeqAt.Reads.unique _ _ _ _ _ c r r']
theorem any_eqTo {h : Heap} {d : PyData} : ∀ {us : List Value} {ds : List PyData} {as : List Addr}, ReadsAll h us ds as → ds.all PyData.canLay0 = true → us.any (eqTo h d) = ds.any fun e => PyData.eqv e d
  | _, _, _, .nil, _ => rfl
  | _, _, _, .cons r t, c => by
    simp only [List.all_cons, Bool.and_eq_true] at c
    rw [List.any_cons, List.any_cons, eqTo_of r c.1, any_eqTo t c.2]
theorem mem_eqTo {A : Around} {s : Shared} {d : PyData} {v : Value} {bs : List Addr} (rv : Reads s.heap v d bs) (cd : d.canLay0 = true) (hu : A.units + d.depth < cLine) :
    ∀ {us : List Value} {ds : List PyData} {as : List Addr}, ReadsAll s.heap us ds as → ds.all PyData.canLay0 = true → ∀ u ∈ us, SeqAt.EqAt A s u v (eqTo s.heap d u)
  | _, _, _, .nil, _ => fun u hu => by cases hu
  | _, _, _, .cons r t, c => fun u hu' => by
    simp only [List.all_cons, Bool.and_eq_true] at c
    rcases List.mem_cons.mp hu' with rfl | hu'
    · rw [eqTo_of r c.1]
      exact SeqAt.eqAt_reads _ _ A s _ _ _ _ r rv c.1 cd (by have := Nat.min_le_right (PyData.depth ‹PyData›) d.depth; omega)
    · exact mem_eqTo rv cd hu t c.2 u hu'
theorem op_inA (hu : X.A.units + 64 < cLine) : OpR X (compareOp .In) (rInA X.K false) := by
  intro pins s σ H x y v u Q I rx ry h
  obtain ⟨b, q, h⟩ := h
  have fin : ∀ s', Inv X pins σ H s' → EP X pins σ Q (.bool b) s' := fun s' I' => ⟨.bl b, H, I', rfl, q⟩
  rcases h with ⟨i, j, rfl, rfl, rfl⟩ | ⟨a, o, rfl, g, rfl⟩ | ⟨p, xs, d, ds, rfl, sq, rd, rds, c1, c2, dp, rfl⟩
  · obtain ⟨t, rfl⟩ := rx
    obtain ⟨t', rfl⟩ := ry
    exact in_str (fin s I)
  · cases ry
    exact d_in (by omega) I g rx fun s' I' => fin s' I'
  · cases ry
    obtain ⟨as, ra⟩ := rd.reads I rx
    rcases sq with hq | hq
    · obtain ⟨its, r, pl, hz⟩ := I.list hq
      obtain ⟨bs, rb⟩ := rds.reads I r
      refine SeqAt.in_listAt (eqTo s.heap d) pl.isList (fun w hw => mem_eqTo ra c1 (by show X.A.units + 1 + _ < _; omega) rb c2 w (by simpa using hw)) ?_
      rw [show its.toArray.any (eqTo s.heap d) = its.any (eqTo s.heap d) by simp, any_eqTo rb c2]
      exact fin s I
    · obtain ⟨its, r, pl, hz⟩ := I.tuple hq
      obtain ⟨bs, rb⟩ := rds.reads I r
      refine SeqAt.in_tupleAt (eqTo s.heap d) pl (fun w hw => mem_eqTo ra c1 (by show X.A.units + 1 + _ < _; omega) rb c2 w (by simpa using hw)) ?_
      rw [show its.toArray.any (eqTo s.heap d) = its.any (eqTo s.heap d) by simp, any_eqTo rb c2]
      exact fin s I
theorem op_notInA (hu : X.A.units + 64 < cLine) : OpR X (compareOp .NotIn) (rInA X.K true) := by
  intro pins s σ H x y v u Q I rx ry h
  obtain ⟨b, q, h⟩ := h
  have fin : ∀ s', Inv X pins σ H s' → EP X pins σ Q (.bool (!b)) s' := fun s' I' => ⟨.bl (!b), H, I', rfl, q⟩
  rcases h with ⟨i, j, rfl, rfl, rfl⟩ | ⟨a, o, rfl, g, rfl⟩ | ⟨p, xs, d, ds, rfl, sq, rd, rds, c1, c2, dp, rfl⟩
  · obtain ⟨t, rfl⟩ := rx
    obtain ⟨t', rfl⟩ := ry
    exact notIn_str (fin s I)
  · cases ry
    exact d_notIn (by omega) I g rx fun s' I' => fin s' I'
  · cases ry
    obtain ⟨as, ra⟩ := rd.reads I rx
    rcases sq with hq | hq
    · obtain ⟨its, r, pl, hz⟩ := I.list hq
      obtain ⟨bs, rb⟩ := rds.reads I r
      refine SeqAt.notIn_listAt (eqTo s.heap d) pl.isList (fun w hw => mem_eqTo ra c1 (by show X.A.units + 1 + _ < _; omega) rb c2 w (by simpa using hw)) ?_
      rw [show its.toArray.any (eqTo s.heap d) = its.any (eqTo s.heap d) by simp, any_eqTo rb c2]
      exact fin s I
    · obtain ⟨its, r, pl, hz⟩ := I.tuple hq
      obtain ⟨bs, rb⟩ := rds.reads I r
      refine SeqAt.notIn_tupleAt (eqTo s.heap d) pl (fun w hw => mem_eqTo ra c1 (by show X.A.units + 1 + _ < _; omega) rb c2 w (by simpa using hw)) ?_
      rw [show its.toArray.any (eqTo s.heap d) = its.any (eqTo s.heap d) by simp, any_eqTo rb c2]
      exact fin s I
theorem dOf_nil (p : PV) : dOf [] p = toD p := by
  unfold dOf
  split
  · simp [toD]
  · rfl
theorem canLayAll0_all : ∀ l : List PyData, PyData.canLayAll0 l = l.all PyData.canLay0
  | [] => by simp [PyData.canLayAll0]
  | x :: r => by simp [PyData.canLayAll0, canLayAll0_all r]
theorem pInB_rep {K : PySem.W.Frag} {T : Tab} {F H : Hp} {m : List Addr} {h : List PO} {p q : PV} {x y : V} {k : Bool} (R : RelH K T F m h H) (rp : RepV K T F m p x) (rq : RepV K T F m q y) (e : pInB p q h = some k) :
    (∃ i j, x = .str i ∧ y = .str j ∧ k = !(Builtin.Str.occurrences j i 0 j.length 1).isEmpty) ∨ (∃ a o, y = .ref a ∧ DGet H a x o ∧ k = o.isSome) ∨
   (∃ p xs d ds, y = .ref p ∧ (SqL K H p xs ∨ SqT K H p xs) ∧ RdD K H x d ∧ RdDs K H xs ds ∧ d.canLay0 = true ∧ ds.all PyData.canLay0 = true ∧ d.depth ≤ 60 ∧ k = ds.any fun e => PyData.eqv e d) := by
  unfold pInB at e
  split at e
  · rename_i b
    split at e
    · rename_i a
      cases rp; cases rq
      simp only [Option.some.injEq] at e; subst e
      exact .inl ⟨_, _, rfl, rfl, (S_in b a).symm⟩
    · cases e
  · split at e
    · rename_i kvs ed
      split at e
      · rename_i kk ek
        simp only [Option.some.injEq] at e; subst e
        obtain ⟨a, ws, rfl, rd, kq, rr⟩ := dcR_rep R rq ed
        have hx := keyOf_rep rp ek
        subst hx
        refine .inr (.inl ⟨a, valV ws (tk kk), rfl, .inl ⟨ws, tk kk, rd, rfl, rfl⟩, ?_⟩)
        rcases valP_rep kq rr kk with ⟨p1, v1, h1, h2, _⟩ | ⟨h1, h2⟩
        · rw [h1, h2]; rfl
        · rw [h1, h2]; rfl
      · cases e
    · split at e
      · rename_i xs es
        split at e
        · rename_i hc
          simp only [Option.some.injEq] at e; subst e
          obtain ⟨a, ws, rfl, sq, rr⟩ := sqR_rep R rq es
          have h1 : (toD p).canLay0 = true ∧ (toD p).depth ≤ 60 := by
            have := hc.1
            unfold okD at this
            simpa [dOf_nil] using this
          have h2 : PyData.canLayAll0 (toDs xs) = true := by
            rw [canLayAll0_all, toDs_map, List.all_map]
            rw [List.all_eq_true] at hc ⊢
            intro z hz
            have := hc.2 z hz
            unfold okD at this
            rw [dOf_nil, Bool.and_eq_true] at this
            exact this.1
          refine .inr (.inr ⟨a, ws, toD p, toDs xs, rfl, sq, rp.rd R.same h1.1, rr.rd R.same h2, h1.1, by rw [← canLayAll0_all]; exact h2, h1.2, ?_⟩)
          rw [toDs_map, List.any_map]; rfl
        · cases e
      · cases e
theorem prim_in {K : PySem.W.Frag} {T : Tab} : Prim2 K T (rInA K false) pIn := by
  intro F m h H x y p q Q Ew R rp rq w
  unfold pIn at w
  split at w
  · rename_i b e
    exact ⟨b, post_ok w R (.bl b), pInB_rep R rp rq e⟩
  · exact w.elim
theorem prim_notIn {K : PySem.W.Frag} {T : Tab} : Prim2 K T (rInA K true) pNotIn := by
  intro F m h H x y p q Q Ew R rp rq w
  unfold pNotIn at w
  split at w
  · rename_i b e
    exact ⟨b, post_ok w R (.bl (!b)), pInB_rep R rp rq e⟩
  · exact w.elim
end
end L3
set_option Elab.async false
set_option linter.all false
set_option maxRecDepth 100000
set_option maxHeartbeats 4000000
set_option autoImplicit false
namespace L3
open PySem PySem.Spec PyProof.Rows L2
def cut {α : Type} (xs : List α) (lo hi : Option Int) : List α := (xs.drop (HT.sIx xs.length 0 lo)).take (HT.sIx xs.length xs.length hi - HT.sIx xs.length 0 lo)
theorem strIx (lo hi : Option Int) (n : Nat) : Builtin.Str.strSliceIndices lo hi 1 n = (List.range (HT.sIx n n hi - HT.sIx n 0 lo)).map (HT.sIx n 0 lo + ·) := by
  rw [← sliceRange_one]
  unfold Builtin.Str.strSliceIndices
  have e1 : ∀ d : Nat, d ≤ n → ∀ o : Option Int, (match o with | none => (d : Int) | some i => (if (1 : Int) > 0 then max 0 (min (if i < 0 then i + (n : Int) else i) n) else max (-1) (min (if i < 0 then i + (n : Int) else i) ((n : Int) - 1)))) = ((HT.sIx n d o : Nat) : Int) := by
    intro d hd o
    cases o with
    | none => rfl
    | some i =>
      simp only [show (1 : Int) > 0 by decide, if_true, HT.sIx]
      by_cases h : i < 0
      · simp only [h, if_true]; omega
      · simp only [h, if_false]; omega
  have e2 := e1 0 (Nat.zero_le _) lo
  have e3 := e1 n (Nat.le_refl _) hi
  simp only [show (1 : Int) > 0 by decide, if_true] at e2 e3 ⊢
  rw [← e2, ← e3]
  rfl
theorem S_slice (l : List Nat) (lo hi : Option Int) : Txt.slice (S l) lo hi = S (cut l lo hi) := by
  unfold Txt.slice
  have hn : (S l).length = l.length := S_len l
  rw [hn, strIx]
  have hlo := HT.sIx_le l.length 0 (Nat.zero_le _) lo
  have hhi := HT.sIx_le l.length l.length (Nat.le_refl _) hi
  split
  · rename_i h
    have h' : HT.sIx l.length l.length hi - HT.sIx l.length 0 lo = l.length := by
      simpa using h
    have e0 : HT.sIx l.length 0 lo = 0 := by omega
    unfold cut
    rw [h', e0]
    simp
  · rw [pick_run]
    show (⟨_⟩ : Str) = ⟨_⟩
    unfold cut
    simp [S]
section
variable {K : PySem.W.Frag} {T : Tab} {F H : Hp} {m : List Addr} {h : List PO}
theorem RepVs.cut {ps : List PV} {vs : List V} (r : RepVs K T F m ps vs) (lo hi : Option Int) : RepVs K T F m (cut ps lo hi) (cutV vs lo hi) := by
  unfold L3.cut L2.cutV
  rw [← r.length]
  exact (r.drop _).take _
end
def pIx (p q : PV) (h : List PO) : Res PV := match p, q with
  | .str l, .int i => match atI l i with
    | some c => if l.length ≤ sizeLine then .ok (.str [c]) h else .bad
    | none => .bad
  | .tup xs, .int i => match atI xs i with
    | some v => .ok (derefP h v) h
    | none => .bad
  | p, q => match dcR h p with
    | some kvs => match keyOf q with
      | some k => match valP kvs k with
        | some v => .ok (derefP h v) h
        | none => .bad
      | none => .bad
    | none => match lsR h p with
      | some xs => match q with
        | .int i => match atI xs i with
          | some v => .ok (derefP h v) h
          | none => .bad
        | _ => .bad
      | none => .bad
def rIxA (K : PySem.W.Frag) : R2 := fun x y H Q => rIx K x y H Q ∨ ∃ a v, x = .ref a ∧ DGet H a y (some v) ∧ Q v H
theorem prim_ix {K : PySem.W.Frag} {T : Tab} : Prim2 K T (rIxA K) pIx := by
  intro F m h H x y p q Q Ew R rp rq w
  unfold pIx at w
  split at w
  · rename_i l i
    cases rp; cases rq
    split at w
    · rename_i c e
      split at w
      · rename_i hz
        exact .inl (.inr (.inr ⟨_, _, c, rfl, rfl, by rw [S_len]; exact hz, by rw [S_cps]; exact e, post_ok w R (.str [c])⟩))
      · exact w.elim
    · exact w.elim
  · rename_i xs i
    cases rq
    split at w
    · rename_i v e
      obtain ⟨a, vs, rfl, ea, ra⟩ := tup_rep R rp
      obtain ⟨u, eu, ru⟩ := ra.at e
      exact .inl (.inr (.inl ⟨a, vs, i, u, rfl, rfl, ea, eu, post_ok w R (R.deref ru)⟩))
    · exact w.elim
  · split at w
    · rename_i kvs ed
      split at w
      · rename_i k ek
        split at w
        · rename_i v ev
          obtain ⟨a, ws, rfl, rd, kq, rr⟩ := dcR_rep R rp ed
          have hy := keyOf_rep rq ek
          subst hy
          rcases valP_rep kq rr k with ⟨p1, v1, h1, h2, r1⟩ | ⟨h1, h2⟩
          · rw [ev] at h1; cases h1
            exact .inr ⟨a, v1, rfl, .inl ⟨ws, tk k, rd, rfl, h2.symm⟩, post_ok w R (R.deref r1)⟩
          · rw [ev] at h1; cases h1
        · exact w.elim
      · exact w.elim
    · split at w
      · rename_i xs el
        split at w
        · cases rq
          split at w
          · rename_i v e
            obtain ⟨a, vs, rfl, ea, ra⟩ := lsR_rep R rp el
            obtain ⟨u, eu, ru⟩ := ra.at e
            exact .inl (.inl ⟨a, vs, _, u, rfl, rfl, ea, eu, post_ok w R (R.deref ru)⟩)
          · exact w.elim
        · exact w.elim
      · exact w.elim
section
variable {X : Cx} {T : Tab} {Ew : VK} {a b : Expr} {fa fb : Ex} {pos : Pos}
theorem ix_dict (hu : X.A.units + 1 < cLine) : IxR X (fun x y H Q => ∃ a v, x = .ref a ∧ DGet H a y (some v) ∧ Q v H) := by
  intro value slice pins s σ H x y v u Q I rx ry q hs
  obtain ⟨a, v1, rfl, g, q⟩ := q
  cases rx
  have hT := dict_typeIs I g
  unfold subscriptTail
  refine wpAny_bind ?_
  rw [getitemInPython_of_ne hT.not_modules]
  refine wpAny_bind (wpAny_specialOf hT PySem.F.slot_dict_getitem.lookup ?_)
  have fin : wpAny (model X.prog X.w) X.A (subscripted slice false (.ref a) u) (fun r s₃ => wpAny (model X.prog X.w) X.A (letTemporaryGo value (.ref a) r >>= fun _ => pure r) (EP X pins σ Q) X.xe s₃) X.xe s := by
    rw [hs]
    exact wpAny_operating (wpAny_mono (d_getItem (E := X.xe) hu I g ry fun w' s3 I3 rw' => show EP X pins σ Q w' s3 from ⟨v1, H, I3, rw', q⟩) (fun r s₃ h₃ => wpAny_bind (wpAny_letTemporaryGo (wpAny_pure h₃))) fun _ _ x => x)
  first
    | exact wpAny_pure (wpAny_bind fin)
    | exact wpAny_bind (wpAny_pure (wpAny_bind fin))
    | exact wpAny_bind fin
theorem re_ix (hu : X.A.units + 64 < cLine) (ha : RE X T Ew a fa) (hb : RE X T Ew b fb) (hs : ∀ o i, subscripted b false o i = operate [o, i] (getItem o i) := by intro _ _; rfl) : RE X T Ew (.Subscript a b pos) (c2 pIx fa fb) := by with_unfolding_all exact (
  PE.imp (pe_ix (IxR.or ix_seq (ix_dict (by omega))) ha hb hs) fun σ H Q w => w2 prim_ix w)
abbrev Ox := Ev → List PO → Res (Option Int)
@[irreducible] def RO (X : Cx) (T : Tab) (Ew : VK) (e : Option Expr) (f : Ox) : Prop := L2.PO X e (fun σ H Q => ∃ F m ρ h, RelS X.K T F m ρ h σ H ∧ Post X.K T (fun _ _ (a b : Option Int) => a = b) F m H Q Ew (f ρ h))
def oNone : Ox := fun _ h => .ok none h
def oSome (f : Ex) : Ox := fun ρ h => (f ρ h).bind fun p h1 => match p with
  | .int i => .ok (some i) h1
  | _ => .bad
theorem ro_none : RO X T Ew none oNone := by with_unfolding_all exact (
    fun pins s σ H Q I ⟨F, m, ρ, h, R, p⟩ => po_none pins s σ H Q I (Post.here p R.toRelH rfl))
theorem ro_some {e : Expr} {f : Ex} (he : RE X T Ew e f) : RO X T Ew (some e) (oSome f) := by with_unfolding_all exact (
    fun pins s σ H Q I ⟨F, m, ρ, h, R, p⟩ => by
  refine po_some he pins s σ H Q I ⟨F, m, ρ, h, R, (Post.bind p).mono fun x H1 ⟨F1, m1, h1, a, s1, R1, ra, p1⟩ => ?_⟩
  cases ra with
  | int i => exact ⟨i, rfl, Post.here p1 R1 rfl⟩
  | _ => exact p1.elim)
def pSl (p : PV) (lo hi : Option Int) (h : List PO) : Res PV := match p with
  | .str l => if l.length ≤ sizeLine then .ok (.str (cut l lo hi)) h else .bad
  | .tup xs => if HT.sIx xs.length 0 lo = 0 ∧ HT.sIx xs.length xs.length hi = xs.length then .bad else .ok (.tup (cut xs lo hi)) h
  | p => match lsR h p with
    | some xs => .ok (.lst (cut xs lo hi)) h
    | none => .bad
def rSlA (K : PySem.W.Frag) : V → Option Int → Option Int → Hp → VK → Prop := fun x l u H Q => rSlS x l u H Q ∨ rSlT K x l u H Q ∨ rSlL K x l u H Q
theorem prim_sl {K : PySem.W.Frag} {F H : Hp} {m : List Addr} {h : List PO} {Q : VK} {p : PV} {x : V} {lo hi : Option Int} (R : RelH K T F m h H) (rp : RepV K T F m p x) (w : Post K T (RepV K T) F m H Q Ew (pSl p lo hi h)) : rSlA K x lo hi H Q := by
  unfold pSl at w
  split at w
  · cases rp
    split at w
    · rename_i hz
      exact .inl ⟨_, rfl, by rw [S_len]; exact hz, by rw [S_slice]; exact post_ok w R (.str _)⟩
    · exact w.elim
  · rename_i xs
    split at w
    · exact w.elim
    · rename_i hz
      obtain ⟨a, vs, rfl, ea, ra⟩ := tup_rep R rp
      exact .inr (.inl ⟨a, vs, rfl, ea, by rw [← ra.length]; exact hz, post_tup w R (ra.cut lo hi)⟩)
  · split at w
    · rename_i xs el
      obtain ⟨a, vs, rfl, ea, ra⟩ := lsR_rep R rp el
      exact .inr (.inr ⟨a, vs, rfl, ea, post_lst w R (ra.cut lo hi)⟩)
    · exact w.elim
def cSl (a : Ex) (lo hi : Ox) : Ex := fun ρ h => (a ρ h).bind fun p h1 => (lo ρ h1).bind fun l h2 => (hi ρ h2).bind fun u h3 => pSl p l u h3
theorem re_slice {lo hi : Option Expr} {fl fu : Ox} {p2 : Pos} (ha : RE X T Ew a fa) (hl : RO X T Ew lo fl) (hh : RO X T Ew hi fu) : RE X T Ew (.Subscript a (.Slice lo hi none p2) pos) (cSl fa fl fu) := by with_unfolding_all
  refine PE.imp (pe_slice (L2.SlR.or sl_str (L2.SlR.or sl_tup sl_list)) ha hl hh) fun σ H Q ⟨F, m, ρ, h, R, p⟩ => ?_
  refine ⟨F, m, ρ, h, R, (Post.bind p).mono fun x H1 ⟨F1, m1, h1, p1, s1, R1, r1, w1⟩ => ?_⟩
  refine ⟨F1, m1, ρ, h1, R.of s1 R1, (Post.bind w1).mono fun l H2 ⟨F2, m2, h2, l2, s2, R2, e2, w2⟩ => ?_⟩
  subst e2
  refine ⟨F2, m2, ρ, h2, (R.of s1 R1).of s2 R2, (Post.bind w2).mono fun u H3 ⟨F3, m3, h3, u3, s3, R3, e3, w3⟩ => ?_⟩
  subst e3
  exact prim_sl R3 (s3.rep (s2.rep r1)) w3
theorem re_callB {x : Str} {id : String} {r : List V → Hp → VK → Prop} {g : List PV → List PO → Res PV} {e : Expr} {es : List Expr} {f : Ax} {p : Pos} (hc : CallR X (.builtin id) r) (P : PrimN X.K T r g) (hg : Gl X x) (hm : X.mg x = none) (hv : bootBuiltins x = some (.builtin id))
    (ha : RA X T Ew (e :: es) f) (hn : x ≠ "__name__" := by decide) (hdb : (x == ("__debug__" : Str)) = false := by decide) (he : starEach (e :: es) X.env = (false, eval e X.env) :: starEach es X.env := by rfl) (hpl : (backTo pos (starEach es X.env)).any (·.1) = false := by rfl) :
    RE X T Ew (.Call (.Name x p) (e :: es) [] pos) (cN g f) := by with_unfolding_all exact (
    PE.imp (pe_callB hc hg hm hv ha hn hdb he hpl) fun σ H Q w => wN P w)
theorem re_callTy {x : Str} {id : String} {r : List V → Hp → VK → Prop} {g : List PV → List PO → Res PV} {e : Expr} {es : List Expr} {f : Ax} {p : Pos} (hc : CallR X (.type id) r) (P : PrimN X.K T r g) (hg : Gl X x) (hm : X.mg x = none) (hv : bootBuiltins x = some (.type id))
    (ha : RA X T Ew (e :: es) f) (hn : x ≠ "__name__" := by decide) (hdb : (x == ("__debug__" : Str)) = false := by decide) (he : starEach (e :: es) X.env = (false, eval e X.env) :: starEach es X.env := by rfl) (hpl : (backTo pos (starEach es X.env)).any (·.1) = false := by rfl) :
    RE X T Ew (.Call (.Name x p) (e :: es) [] pos) (cN g f) := by with_unfolding_all exact (
    PE.imp (pe_callTy hc hg hm hv ha hn hdb he hpl) fun σ H Q w => wN P w)
def lenP (h : List PO) (p : PV) : Option Nat := match p with
  | .str l => if l.length ≤ sizeLine then some l.length else none
  | p => match dcR h p with
    | some kvs => some kvs.length
    | none => match sqR h p with
      | some xs => some xs.length
      | none => none
def pLen (ps : List PV) (h : List PO) : Res PV := match ps with
  | [p] => match lenP h p with
    | some n => .ok (.int n) h
    | none => .bad
  | _ => .bad
theorem call_lenR {X : Cx} : CallR X (.builtin "len") (fun xs H Q => ∃ a kvs, xs = [V.ref a] ∧ Rd H a (.dK kvs) ∧ Q (.int kvs.length) H) := by
  intro pins s σ H xs us Q I r h
  obtain ⟨a, kvs, rfl, ha, q⟩ := h
  obtain ⟨u, rfl, ru⟩ := vals1 r
  cases ru
  exact d_len I ha fun t s' I' => ⟨.int kvs.length, H, I', ⟨t, rfl⟩, q⟩
theorem call_lenA {X : Cx} : CallR X (.builtin "len") (fun xs H Q => (∃ p ys, xs = [.ref p] ∧ (SqL X.K H p ys ∨ SqT X.K H p ys) ∧ Q (.int ys.length) H) ∨ (∃ z, xs = [.str z] ∧ z.length ≤ sizeLine ∧ Q (.int z.length) H) ∨ ∃ a kvs, xs = [V.ref a] ∧ Rd H a (.dK kvs) ∧ Q (.int kvs.length) H) :=
  CallR.or call_len_seq (CallR.or call_len_str call_lenR)
theorem RepVs.one {K : PySem.W.Frag} {F : Hp} {m : List Addr} {p : PV} {xs : List V} (r : RepVs K T F m [p] xs) : ∃ x, xs = [x] ∧ RepV K T F m p x := by
  cases r with
  | cons r t => cases t; exact ⟨_, rfl, r⟩
theorem RepVs.two {K : PySem.W.Frag} {F : Hp} {m : List Addr} {p q : PV} {xs : List V} (r : RepVs K T F m [p, q] xs) : ∃ x y, xs = [x, y] ∧ RepV K T F m p x ∧ RepV K T F m q y := by
  cases r with
  | cons r t => cases t with
    | cons r2 t2 => cases t2; exact ⟨_, _, rfl, r, r2⟩
theorem prim_len {K : PySem.W.Frag} {T : Tab} : PrimN K T (fun xs H Q => (∃ p ys, xs = [.ref p] ∧ (SqL K H p ys ∨ SqT K H p ys) ∧ Q (.int ys.length) H) ∨ (∃ z, xs = [.str z] ∧ z.length ≤ sizeLine ∧ Q (.int z.length) H) ∨ ∃ a kvs, xs = [V.ref a] ∧ Rd H a (.dK kvs) ∧ Q (.int kvs.length) H) pLen := by
  intro F m h H xs ps Q Ew R rp w
  unfold pLen at w
  split at w
  · rename_i p
    obtain ⟨x, rfl, rx⟩ := rp.one
    split at w
    · rename_i n e
      unfold lenP at e
      split at e
      · cases rx
        split at e
        · rename_i hz
          simp only [Option.some.injEq] at e; subst e
          exact .inr (.inl ⟨_, rfl, by rw [S_len]; exact hz, by rw [S_len]; exact post_ok w R (.int _)⟩)
        · cases e
      · split at e
        · rename_i kvs ed
          simp only [Option.some.injEq] at e; subst e
          obtain ⟨a, ws, rfl, rd, kq, rr⟩ := dcR_rep R rx ed
          have hl : ws.length = kvs.length := by have := congrArg List.length kq; simpa using this
          exact .inr (.inr ⟨a, ws, rfl, rd, by rw [hl]; exact post_ok w R (.int _)⟩)
        · split at e
          · rename_i ys es
            simp only [Option.some.injEq] at e; subst e
            obtain ⟨a, ws, rfl, sq, rr⟩ := sqR_rep R rx es
            exact .inl ⟨a, ws, rfl, sq, by rw [← rr.length]; exact post_ok w R (.int _)⟩
          · cases e
    · exact w.elim
  · exact w.elim
def tyName (h : List PO) : PV → Option String
  | .non => some "NoneType"
  | .bl _ => some "bool"
  | .int _ => some "int"
  | .str _ => some "str"
  | .tup _ => some "tuple"
  | p => match dcR h p with
    | some _ => some "dict"
    | none => match lsR h p with
      | some _ => some "list"
      | none => none
def subTy (t c : String) : Bool := (t == c) || (t == "bool" && c == "int")
def isTys : List String := ["str", "int", "bool", "list", "tuple", "dict"]
def pIsinst (ps : List PV) (h : List PO) : Res PV := match ps with
  | [p, .ty c] => if isTys.contains c = true then match tyName h p with
      | some t => .ok (.bl (subTy t c)) h
      | none => .bad
    else .bad
  | _ => .bad
end
end L3
set_option Elab.async false
set_option linter.all false
set_option maxRecDepth 100000
set_option maxHeartbeats 4000000
set_option autoImplicit false
namespace L3
open PySem PySem.Spec PyProof.Rows L2
inductive TyN (K : PySem.W.Frag) (H : Hp) : V → String → Prop where
  | non : TyN K H .non "NoneType"
  | bl (x : Bool) : TyN K H (.bl x) "bool"
  | int (i : Int) : TyN K H (.int i) "int"
  | str (x : Str) : TyN K H (.str x) "str"
  | lst {a : Addr} {xs : List V} (e : SqL K H a xs) : TyN K H (.ref a) "list"
  | tup {a : Addr} {xs : List V} (e : SqT K H a xs) : TyN K H (.ref a) "tuple"
  | dct {a : Addr} {kvs : List (Key × V)} (e : Rd H a (.dK kvs)) : TyN K H (.ref a) "dict"
theorem call_isinstN {X : Cx} : CallR X (.builtin "isinstance") (fun xs H Q => ∃ x c t b, xs = [x, .ty c] ∧ TyN X.K H x t ∧ PySem.W.kitOne X.K (.type t) (.type c) = some b ∧ Q (.bl b) H) := by
  intro pins s σ H xs us Q I r h
  obtain ⟨x, c, t, b, rfl, ty, e, q⟩ := h
  obtain ⟨u, w', rfl, ru, rw'⟩ := vals2 r
  cases (show w' = Value.type c from rw')
  have fin : ∀ tk, EP X pins σ Q (.bool b) { s with toks := tk } := fun tk => ⟨.bl b, H, I.tok tk, rfl, q⟩
  cases ty with
  | non => cases (show u = Value.none from ru); exact PySem.W.kia_one PySem.W.kitx_none I.kIn True.intro e (fun z => nomatch z) fin
  | bl y => cases (show u = Value.bool y from ru); exact PySem.W.kia_one PySem.W.kitx_bool I.kIn True.intro e (fun z => nomatch z) fin
  | int i => obtain ⟨t, q⟩ := (show ∃ t, u = Value.int i t from ru); cases q; exact PySem.W.kia_one PySem.W.kitx_int I.kIn True.intro e (fun z => nomatch z) fin
  | str y => obtain ⟨t, q⟩ := (show ∃ t, u = Value.str y t from ru); cases q; exact PySem.W.kia_one PySem.W.kitx_str I.kIn True.intro e (fun z => nomatch z) fin
  | lst ea =>
    cases ru
    obtain ⟨its, _, ⟨o, n, h1, h2, _, _⟩, _⟩ := I.list ea
    exact PySem.W.kia_one PySem.W.kitx_list I.kIn ⟨_, h1, h2⟩ e (fun z => nomatch z) fin
  | tup ea =>
    cases ru
    obtain ⟨its, _, ⟨o, h1, h2, _⟩, _⟩ := I.tuple ea
    exact PySem.W.kia_one PySem.W.kitx_tuple I.kIn ⟨o, h1, h2⟩ e (fun z => nomatch z) fin
  | dct ea =>
    cases ru
    obtain ⟨_, _, vs, _, p⟩ := dk_rd I.hok ea
    obtain ⟨o, es, ep, h1, h2, _⟩ := p
    exact PySem.W.kia_one PySem.W.kitx_dict I.kIn ⟨o, h1, h2.1⟩ e (fun z => nomatch z) fin
theorem tyName_rep {K : PySem.W.Frag} {T : Tab} {F H : Hp} {m : List Addr} {h : List PO} {p : PV} {x : V} {t : String} (R : RelH K T F m h H) (r : RepV K T F m p x) (e : tyName h p = some t) : TyN K H x t := by
  unfold tyName at e
  split at e
  · cases e; cases r; exact .non
  · cases e; cases r; exact .bl _
  · cases e; cases r; exact .int _
  · cases e; cases r; exact .str _
  · cases e
    obtain ⟨a, vs, rfl, ea, _⟩ := tup_rep R r
    exact .tup ea
  · split at e
    · rename_i kvs ed
      cases e
      obtain ⟨a, ws, rfl, rd, _⟩ := dcR_rep R r ed
      exact .dct rd
    · split at e
      · rename_i xs es
        cases e
        obtain ⟨a, ws, rfl, sq, _⟩ := lsR_rep R r es
        exact .lst sq
      · cases e
theorem kitOne_of (K : PySem.W.Frag) {t c : String} (ht : t ∈ ["NoneType", "bool", "int", "str", "tuple", "dict", "list"]) (hc : isTys.contains c = true) : PySem.W.kitOne K (.type t) (.type c) = some (subTy t c) := by
  have hc' : c ∈ isTys := by simpa using hc
  simp only [isTys, List.mem_cons, List.not_mem_nil, or_false] at hc' ht
  rcases ht with rfl | rfl | rfl | rfl | rfl | rfl | rfl <;> rcases hc' with rfl | rfl | rfl | rfl | rfl | rfl <;> rfl
theorem tyName_mem {h : List PO} {p : PV} {t : String} (e : tyName h p = some t) : t ∈ ["NoneType", "bool", "int", "str", "tuple", "dict", "list"] := by
  unfold tyName at e
  split at e
  · cases e; simp
  · cases e; simp
  · cases e; simp
  · cases e; simp
  · cases e; simp
  · split at e
    · cases e; simp
    · split at e
      · cases e; simp
      · cases e
section
variable {X : Cx} {T : Tab} {Ew : VK} {a b : Expr} {fa fb : Ex} {pos p0 : Pos}
theorem prim_isinst {K : PySem.W.Frag} {T : Tab} : PrimN K T (fun xs H Q => ∃ x c t b, xs = [x, .ty c] ∧ TyN K H x t ∧ PySem.W.kitOne K (.type t) (.type c) = some b ∧ Q (.bl b) H) pIsinst := by
  intro F m h H xs ps Q Ew R rp w
  unfold pIsinst at w
  split at w
  · rename_i p c
    obtain ⟨x, y, rfl, rx, ry⟩ := rp.two
    cases ry
    split at w
    · rename_i hc
      split at w
      · rename_i t e
        exact ⟨x, c, t, _, rfl, tyName_rep R rx e, kitOne_of K (tyName_mem e) hc, post_ok w R (.bl _)⟩
      · exact w.elim
    · exact w.elim
  · exact w.elim
theorem re_tyN {x : Str} {n : String} {pos : Pos} (hg : Gl X x) (hm : X.mg x = none) (hv : bootBuiltins x = some (.type n)) (hn : x ≠ "__name__" := by decide) (hd : (x == ("__debug__" : Str)) = false := by decide) : RE X T Ew (.Name x pos) (cK (.ty n)) := by with_unfolding_all exact (
  re_const (pe_bltn (v := .ty n) hg hm hv rfl hn hd) fun _ _ => .ty n)
theorem re_isinst {e : Expr} {es : List Expr} {f : Ax} (hg : Gl X "isinstance") (hm : X.mg "isinstance" = none) (ha : RA X T Ew (e :: es) f)
    (he : starEach (e :: es) X.env = (false, eval e X.env) :: starEach es X.env := by rfl) (hpl : (backTo pos (starEach es X.env)).any (·.1) = false := by rfl) :
    RE X T Ew (.Call (.Name "isinstance" p0) (e :: es) [] pos) (cN pIsinst f) := by with_unfolding_all exact (
    re_callB call_isinstN prim_isinst hg hm (by decide +kernel) ha (by decide) (by decide) he hpl)
theorem re_len {e : Expr} {es : List Expr} {f : Ax} (hg : Gl X "len") (hm : X.mg "len" = none) (ha : RA X T Ew (e :: es) f)
    (he : starEach (e :: es) X.env = (false, eval e X.env) :: starEach es X.env := by rfl) (hpl : (backTo pos (starEach es X.env)).any (·.1) = false := by rfl) :
    RE X T Ew (.Call (.Name "len" p0) (e :: es) [] pos) (cN pLen f) := by with_unfolding_all exact (
    re_callB call_lenA prim_len hg hm (by decide +kernel) ha (by decide) (by decide) he hpl)
def pAbs (ps : List PV) (h : List PO) : Res PV := match ps with
  | [.int i] => .ok (.int (if i < 0 then -i else i)) h
  | _ => .bad
def strI (i : Int) : List Nat := (Str.ofString (toString i)).cps.toList
def pStr (ps : List PV) (h : List PO) : Res PV := match ps with
  | [.int i] => if i.natAbs.log2 < 1920 then .ok (.str (strI i)) h else .bad
  | _ => .bad
def pInt (ps : List PV) (h : List PO) : Res PV := match ps with
  | [.int i] => .ok (.int i) h
  | [.bl b] => .ok (.int (if b then 1 else 0)) h
  | _ => .bad
theorem re_intB {e : Expr} {es : List Expr} {f : Ax} (hg : Gl X "int") (hm : X.mg "int" = none) (ha : RA X T Ew (e :: es) f)
    (he : starEach (e :: es) X.env = (false, eval e X.env) :: starEach es X.env := by rfl) (hpl : (backTo pos (starEach es X.env)).any (·.1) = false := by rfl) :
    RE X T Ew (.Call (.Name "int" p0) (e :: es) [] pos) (cN pInt f) := by with_unfolding_all exact (
    re_callTy call_int1 (by
  intro F m h H xs ps Q Ew R rp w
  unfold pInt at w
  split at w
  · obtain ⟨x, rfl, rx⟩ := rp.one
    cases rx
    exact .inl ⟨_, rfl, post_ok w R (.int _)⟩
  · obtain ⟨x, rfl, rx⟩ := rp.one
    cases rx
    exact .inr ⟨_, rfl, post_ok w R (.int _)⟩
  · exact w.elim) hg hm (by decide +kernel) ha (by decide) (by decide) he hpl)
def pTuple (ps : List PV) (h : List PO) : Res PV := match ps with
  | [p] => match sqR h p with
    | some xs => .ok (.tup xs) h
    | none => .bad
  | _ => .bad
theorem re_tuple {e : Expr} {es : List Expr} {f : Ax} (hg : Gl X "tuple") (hm : X.mg "tuple" = none) (ha : RA X T Ew (e :: es) f)
    (he : starEach (e :: es) X.env = (false, eval e X.env) :: starEach es X.env := by rfl) (hpl : (backTo pos (starEach es X.env)).any (·.1) = false := by rfl) :
    RE X T Ew (.Call (.Name "tuple" p0) (e :: es) [] pos) (cN pTuple f) := by with_unfolding_all exact (
    re_callTy call_tuple_of (by
  intro F m h H xs ps Q Ew R rp w
  unfold pTuple at w
  split at w
  · rename_i p
    obtain ⟨x, rfl, rx⟩ := rp.one
    split at w
    · rename_i ys es
      by_cases ht : ∃ zs, p = .tup zs
      · obtain ⟨zs, rfl⟩ := ht
        simp only [sqR, Option.some.injEq] at es; subst es
        obtain ⟨a, vs, rfl, ea, ra⟩ := tup_rep R rx
        exact ⟨a, vs, rfl, .inr ⟨ea, post_ok w R rx⟩⟩
      · have e' : lsR h p = some ys := by
          unfold sqR at es
          split at es
          · exact absurd ⟨_, rfl⟩ ht
          · exact es
        obtain ⟨a, vs, rfl, ea, ra⟩ := lsR_rep R rx e'
        exact ⟨a, vs, rfl, .inl ⟨ea, post_tup w R ra⟩⟩
    · exact w.elim
  · exact w.elim) hg hm (by decide +kernel) ha (by decide) (by decide) he hpl)
def pLst (ps : List PV) (h : List PO) : Res PV := if ps.length ≤ sizeLine then .ok (.lst ps) h else .bad
def pLstM (ps : List PV) (h : List PO) : Res PV := if ps.length ≤ sizeLine then .ok (.ref h.length) (h ++ [.lst ps]) else .bad
def pTup (ps : List PV) (h : List PO) : Res PV := if ps.length ≤ sizeLine then .ok (.tup ps) h else .bad
theorem re_lst {es : List Expr} {f : Ax} (ha : RA X T Ew es f) : RE X T Ew (.List es pos) (cN pLst f) := by with_unfolding_all
  refine PE.imp (pe_lst ha) fun σ H Q ⟨F, m, ρ, h, R, p⟩ => ⟨F, m, ρ, h, R, (Post.bind p).mono fun xs H1 ⟨F1, m1, h1, ps, s1, R1, r1, w1⟩ => ?_⟩
  unfold pLst at w1
  split at w1
  · rename_i hz
    exact ⟨by rw [← r1.length]; exact hz, post_lst w1 R1 r1⟩
  · exact w1.elim
theorem re_lstM {es : List Expr} {f : Ax} (ha : RA X T Ew es f) : RE X T Ew (.List es pos) (cN pLstM f) := by with_unfolding_all
  refine PE.imp (pe_lst ha) fun σ H Q ⟨F, m, ρ, h, R, p⟩ => ⟨F, m, ρ, h, R, (Post.bind p).mono fun xs H1 ⟨F1, m1, h1, ps, s1, R1, r1, w1⟩ => ?_⟩
  unfold pLstM at w1
  split at w1
  · rename_i hz
    exact ⟨by rw [← r1.length]; exact hz, post_new w1 R1 r1⟩
  · exact w1.elim
theorem re_tup {es : List Expr} {f : Ax} {x1} (ha : RA X T Ew es f) : RE X T Ew (.Tuple es x1 pos) (cN pTup f) := by with_unfolding_all
  refine PE.imp (pe_tup ha) fun σ H Q ⟨F, m, ρ, h, R, p⟩ => ⟨F, m, ρ, h, R, (Post.bind p).mono fun xs H1 ⟨F1, m1, h1, ps, s1, R1, r1, w1⟩ => ?_⟩
  unfold pTup at w1
  split at w1
  · rename_i hz
    exact ⟨by rw [← r1.length]; exact hz, post_tup w1 R1 r1⟩
  · exact w1.elim
def dcM (h : List PO) : PV → Option (List (PK × PV))
  | .ref i => match h[i]? with
    | some (.dct kvs) => some kvs
    | _ => none
  | _ => none
theorem dcM_rep {K : PySem.W.Frag} {F H : Hp} {m : List Addr} {h : List PO} {p : PV} {x : V} {kps : List (PK × PV)} (R : RelH K T F m h H) (r : RepV K T F m p x) (e : dcM h p = some kps) : ∃ a kvs, x = .ref a ∧ H a = some (.dK kvs) ∧ kvs.map (·.1) = kps.map (fun p => tk p.1) ∧ RepVs K T F m (kps.map (·.2)) (kvs.map (·.2)) := by
  cases r with
  | @ref i a em =>
    have e : (match h[i]? with | some (.dct xs) => some xs | _ => none) = some kps := e
    cases q : h[i]? with
    | none => rw [q] at e; cases e
    | some o =>
      rw [q] at e
      cases o with
      | dct xs =>
        simp only [Option.some.injEq] at e; subst e
        obtain ⟨_, vs, e1, k, rr⟩ := R.obj i _ a q em
        exact ⟨a, vs, rfl, e1, k, rr⟩
      | lst _ => cases e
      | froz _ => cases e
  | _ => simp [dcM] at e
def truP (h : List PO) : PV → Option Bool
  | .non => some false
  | .bl b => some b
  | .int i => some (i != 0)
  | .str l => if l.length ≤ sizeLine then some (!l.isEmpty) else none
  | p => match sqR h p with
    | some xs => some (!xs.isEmpty)
    | none => match dcM h p with
      | some kvs => some (!kvs.isEmpty)
      | none => none
def tTruE (f : Ex) : Tx := fun ρ h => (f ρ h).bind fun p h1 => match truP h1 p with
  | some b => .ok b h1
  | none => .bad
theorem isEmpty_len {α β : Type} {xs : List α} {ys : List β} (h : xs.length = ys.length) : xs.isEmpty = ys.isEmpty := by
  cases xs <;> cases ys <;> simp at h ⊢
theorem truP_rep {K : PySem.W.Frag} {F H : Hp} {m : List Addr} {h : List PO} {p : PV} {x : V} {k : Bool} (R : RelH K T F m h H) (r : RepV K T F m p x) (e : truP h p = some k) : TruV K x H k := by
  unfold truP at e
  split at e
  · cases e; cases r; exact rfl
  · cases e; cases r; exact rfl
  · cases e; cases r; exact rfl
  · rename_i l
    cases r
    split at e
    · rename_i hz
      cases e
      refine ⟨by rw [S_len]; exact hz, ?_⟩
      rw [S_len]
      cases l <;> simp
      omega
    · cases e
  · split at e
    · rename_i xs es
      cases e
      obtain ⟨a, vs, rfl, ea, ra⟩ := sqR_rep R r es
      rcases ea with ea | ea
      · exact .inl ⟨vs, ea, by rw [isEmpty_len ra.length]⟩
      · exact .inr (.inl ⟨vs, ea, by rw [isEmpty_len ra.length]⟩)
    · split at e
      · rename_i kvs ed
        cases e
        obtain ⟨a, ws, rfl, e1, kq, _⟩ := dcM_rep R r ed
        have hl : ws.length = kvs.length := by have := congrArg List.length kq; simpa using this
        exact .inr (.inr ⟨ws, e1, by rw [isEmpty_len hl]⟩)
      · cases e
theorem rt_tru (ha : RE X T Ew a fa) (he : ∀ whole, isTrue a X.env whole = (do let v ← whole; standAt a.pos; holding [v] (truthy v)) := by intro _; rfl) : RT X T Ew a (tTruE fa) := by with_unfolding_all
  refine PT.imp (pt_truth ha he) fun σ H Q ⟨F, m, ρ, h, R, p⟩ => ⟨F, m, ρ, h, R, (Post.bind p).mono fun x H1 ⟨F1, m1, h1, p1, s1, R1, r1, w1⟩ => ?_⟩
  cases e : truP h1 p1 with
  | none => rw [e] at w1; exact w1.elim
  | some k => rw [e] at w1; exact ⟨k, truP_rep R1 r1 e, Post.here w1 R1 rfl⟩
def tCmpE (f : Ex) : Tx := fun ρ h => (f ρ h).bind fun p h1 => match p with
  | .bl b => .ok b h1
  | _ => .bad
theorem rt_cmp {op : CmpOp} {r : R2} {g : PV → PV → List PO → Res PV} (ho : OpR X (compareOp op) r) (P : Prim2 X.K T r g) (ha : RE X T Ew a fa) (hb : RE X T Ew b fb) (hm : behindInMarks op b = false) : RT X T Ew (.Compare a [op] [b] pos) (tCmpE (c2 g fa fb)) := by with_unfolding_all
  refine PT.imp (pt_cmpR ho ha hb hm) fun σ H Q ⟨F, m, ρ, h, R, p⟩ => ?_
  have p' := (Post.bind (R := RepV X.K T) p).mono (Q' := fun x H1 => ∃ k, x = .bl k ∧ Q k H1) fun x H1 ⟨F1, m1, h1, p1, s1, R1, r1, w1⟩ => by
    cases r1 with
    | bl k => exact ⟨k, rfl, Post.here w1 R1 rfl⟩
    | _ => exact w1.elim
  exact w2 P ⟨F, m, ρ, h, R, p'⟩
def tNotE (f : Tx) : Tx := fun ρ h => (f ρ h).bind fun b h1 => .ok (!b) h1
def tAndE (f g : Tx) : Tx := fun ρ h => (f ρ h).bind fun b h1 => if b = true then g ρ h1 else .ok false h1
def tOrE (f g : Tx) : Tx := fun ρ h => (f ρ h).bind fun b h1 => if b = true then .ok true h1 else g ρ h1
theorem rt_not {f : Tx} (ha : RT X T Ew a f) : RT X T Ew (.UnaryOp .Not a pos) (tNotE f) := by with_unfolding_all exact (
  PT.imp (pt_not ha) fun σ H Q ⟨F, m, ρ, h, R, p⟩ => ⟨F, m, ρ, h, R, (Post.bind p).mono fun x H1 ⟨F1, m1, h1, p1, s1, R1, r1, w1⟩ => by cases r1; exact Post.here w1 R1 rfl⟩)
@[irreducible] def RW (X : Cx) (T : Tab) (Ew : VK) (e : Expr) (f : Tx) : Prop := PW X e (wT X T Ew f)
theorem RW.rt {e : Expr} {f : Tx} (h : RW X T Ew e f) : RT X T Ew e f := by with_unfolding_all exact (
    PW.pt h)
theorem rw_and1 {f : Tx} (ha : RT X T Ew a f) : RW X T Ew (.BoolOp .And [a] pos) f := by with_unfolding_all exact (
    pw_and1 ha)
theorem rw_or1 {f : Tx} (ha : RT X T Ew a f) : RW X T Ew (.BoolOp .Or [a] pos) f := by with_unfolding_all exact (
    pw_or1 ha)
theorem rw_and {f g : Tx} {rest : List Expr} (ha : RT X T Ew a f) (hb : RW X T Ew (.BoolOp .And (b :: rest) pos) g) : RW X T Ew (.BoolOp .And (a :: b :: rest) pos) (tAndE f g) := by with_unfolding_all
  refine PW.imp (pw_and ha hb) fun σ H Q ⟨F, m, ρ, h, R, p⟩ => ⟨F, m, ρ, h, R, (Post.bind p).mono fun x H1 ⟨F1, m1, h1, p1, s1, R1, r1, w1⟩ => ?_⟩
  cases r1
  cases x with
  | true => exact iteT ⟨F1, m1, ρ, h1, R.of s1 R1, w1⟩
  | false => exact iteF (Post.here w1 R1 rfl)
theorem rw_or {f g : Tx} {rest : List Expr} (ha : RT X T Ew a f) (hb : RW X T Ew (.BoolOp .Or (b :: rest) pos) g) : RW X T Ew (.BoolOp .Or (a :: b :: rest) pos) (tOrE f g) := by with_unfolding_all
  refine PW.imp (pw_or ha hb) fun σ H Q ⟨F, m, ρ, h, R, p⟩ => ⟨F, m, ρ, h, R, (Post.bind p).mono fun x H1 ⟨F1, m1, h1, p1, s1, R1, r1, w1⟩ => ?_⟩
  cases r1
  cases x with
  | true => exact iteT (Post.here w1 R1 rfl)
  | false => exact iteF ⟨F1, m1, ρ, h1, R.of s1 R1, w1⟩
def cAnd (f g : Ex) : Ex := fun ρ h => (f ρ h).bind fun p h1 => match p with
  | .bl b => if b = true then g ρ h1 else .ok (.bl false) h1
  | _ => .bad
def cOr (f g : Ex) : Ex := fun ρ h => (f ρ h).bind fun p h1 => match p with
  | .bl b => if b = true then .ok (.bl true) h1 else g ρ h1
  | _ => .bad
def cNot (f : Ex) : Ex := fun ρ h => (f ρ h).bind fun p h1 => match p with
  | .bl b => .ok (.bl (!b)) h1
  | _ => .bad
theorem re_one {op} (ha : RE X T Ew a fa) : RE X T Ew (.BoolOp op [a] pos) fa := by with_unfolding_all exact (
    pe_one ha)
theorem re_and {rest : List Expr} (ha : RE X T Ew a fa) (hb : RE X T Ew (.BoolOp .And (b :: rest) pos) fb) : RE X T Ew (.BoolOp .And (a :: b :: rest) pos) (cAnd fa fb) := by with_unfolding_all
  refine PE.imp (pe_and ha hb) fun σ H Q ⟨F, m, ρ, h, R, p⟩ => ⟨F, m, ρ, h, R, (Post.bind p).mono fun x H1 ⟨F1, m1, h1, p1, s1, R1, r1, w1⟩ => ?_⟩
  cases r1 with
  | bl k =>
    refine ⟨k, rfl, ?_⟩
    cases k with
    | true => exact iteT ⟨F1, m1, ρ, h1, R.of s1 R1, w1⟩
    | false => exact iteF (Post.here w1 R1 (.bl _))
  | _ => exact w1.elim
def cIfE (t : Tx) (f g : Ex) : Ex := fun ρ h => (t ρ h).bind fun b h1 => if b = true then f ρ h1 else g ρ h1
theorem re_ifExp {c : Expr} {t : Tx} (hc : RT X T Ew c t) (ha : RE X T Ew a fa) (hb : RE X T Ew b fb) : RE X T Ew (.IfExp c a b pos) (cIfE t fa fb) := by with_unfolding_all
  refine PE.imp (pe_ifExp hc ha hb) fun σ H Q ⟨F, m, ρ, h, R, p⟩ => ⟨F, m, ρ, h, R, (Post.bind p).mono fun x H1 ⟨F1, m1, h1, p1, s1, R1, r1, w1⟩ => ?_⟩
  cases r1
  cases x with
  | true => exact iteT ⟨F1, m1, ρ, h1, R.of s1 R1, w1⟩
  | false => exact iteF ⟨F1, m1, ρ, h1, R.of s1 R1, w1⟩
end
end L3
set_option Elab.async false
set_option linter.all false
set_option maxRecDepth 100000
set_option maxHeartbeats 4000000
set_option autoImplicit false
namespace L3
open PySem PySem.Spec PyProof.Rows L2
section
variable {K : PySem.W.Frag} {T : Tab} {F H : Hp} {m : List Addr} {h : List PO}
theorem RelH.upd {i : Nat} {a : Addr} {o' : PO} {ho : HO} (R : RelH K T F m h H) (em : m[i]? = some a) (hF : F a = none) (hH : ∃ u, H a = some u) (new : ObjR K T F m (upd H a ho) a o') :
    Step F m H F m (upd H a ho) ∧ RelH K T F m (h.set i o') (upd H a ho) := by
  have hi : i < h.length := by
    rw [R.len]
    rcases Nat.lt_or_ge i m.length with q | q
    · exact q
    · rw [List.getElem?_eq_none q] at em; cases em
  have am : a ∈ m := List.mem_of_getElem? em
  refine ⟨⟨Same.refl _, ⟨[], by simp⟩, fun b u e n => (upd_ne (fun z => n (by rw [z]; exact am))).trans e, fun b u e => ?_, fun j c hj e => (by rw [List.getElem?_eq_none hj] at e; cases e), fun c u e => .inl e⟩, ?_⟩
  · by_cases hb : b = a
    · subst hb; exact ⟨_, upd_same⟩
    · exact ⟨u, by rw [upd_ne hb]; exact e⟩
  · refine ⟨fun b u e => ?_, by rw [List.length_set]; exact R.len, fun j ob c e1 e2 => ?_, R.nd⟩
    · have hb : b ≠ a := fun z => by rw [z, hF] at e; cases e
      rw [upd_ne hb]; exact R.same b u e
    · by_cases hj : i = j
      · subst hj
        rw [List.getElem?_set_self hi] at e1
        cases e1
        rw [em] at e2; cases e2
        exact new
      · rw [List.getElem?_set_ne hj] at e1
        have hc : c ≠ a := fun z => by
          subst z
          exact hj (by
            have hi' : i < m.length := by rw [← R.len]; exact hi
            have hj' : j < m.length := by
              rcases Nat.lt_or_ge j m.length with q | q
              · exact q
              · rw [List.getElem?_eq_none q] at e2; cases e2
            rw [List.getElem?_eq_getElem hi', Option.some.injEq] at em
            rw [List.getElem?_eq_getElem hj', Option.some.injEq] at e2
            exact (List.getElem_inj R.nd).mp (em.trans e2.symm))
        have q := R.obj j ob c e1 e2
        cases ob with
        | lst xs => obtain ⟨f, vs, z, rr⟩ := q; exact ⟨f, vs, by rw [upd_ne hc]; exact z, rr⟩
        | dct xs => obtain ⟨f, vs, z, k, rr⟩ := q; exact ⟨f, vs, by rw [upd_ne hc]; exact z, k, rr⟩
        | froz q' => exact q
def liveL (h : List PO) : PV → Option (Nat × List PV)
  | .ref i => match h[i]? with
    | some (.lst xs) => some (i, xs)
    | _ => none
  | _ => none
theorem liveL_rep {p : PV} {x : V} {i : Nat} {ps : List PV} (R : RelH K T F m h H) (r : RepV K T F m p x) (e : liveL h p = some (i, ps)) : ∃ a vs, x = .ref a ∧ m[i]? = some a ∧ F a = none ∧ H a = some (.lst vs) ∧ RepVs K T F m ps vs := by
  cases r with
  | @ref j a em =>
    have e : (match h[j]? with | some (.lst xs) => some (j, xs) | _ => none) = some (i, ps) := e
    cases q : h[j]? with
    | none => rw [q] at e; cases e
    | some o =>
      rw [q] at e
      cases o with
      | lst xs =>
        simp only [Option.some.injEq, Prod.mk.injEq] at e
        obtain ⟨rfl, rfl⟩ := e
        obtain ⟨f, vs, e1, rr⟩ := R.obj j _ a q em
        exact ⟨a, vs, rfl, em, f, e1, rr⟩
      | dct _ => cases e
      | froz _ => cases e
  | _ => simp [liveL] at e
theorem post_set {Q : VK} {Ew : VK} {i : Nat} {a : Addr} {ps : List PV} {vs vs0 : List V} {p : PV} {x : V} (w : Post K T (RepV K T) F m H Q Ew (.ok p (h.set i (.lst ps)))) (R : RelH K T F m h H) (em : m[i]? = some a) (hF : F a = none) (hH : H a = some (.lst vs0)) (r : RepVs K T F m ps vs)
    (rp : RepV K T F m p x) : Q x (upd H a (.lst vs)) := by
  obtain ⟨s, R'⟩ := R.upd (o' := .lst ps) (ho := .lst vs) em hF ⟨_, hH⟩ ⟨hF, vs, upd_same, r⟩
  exact w F m _ _ s R' rp
def frzV (h : List PO) : PV → Option (PV × List PO)
  | .ref i => match h[i]? with
    | some (.lst xs) => if pures xs = true then some (.lst xs, h.set i (.froz (.lst xs))) else none
    | some (.dct kvs) => if pureks kvs = true then some (.dct kvs, h.set i (.froz (.dct kvs))) else none
    | some (.froz p) => some (p, h)
    | none => none
  | p => if p.pure = true then some (p, h) else none
theorem frz_obj {i : Nat} {a : Addr} {u : HO} {p : PV} (R : RelH K T F m h H) (em : m[i]? = some a) (hF : F a = none) (hH : H a = some u) (hp : p.pure = true) (r : RepV K T (upd F a u) m p (.ref a)) :
    Step F m H (upd F a u) m H ∧ RelH K T (upd F a u) m (h.set i (.froz p)) H := by
  have hi : i < h.length := by
    rw [R.len]
    rcases Nat.lt_or_ge i m.length with q | q
    · exact q
    · rw [List.getElem?_eq_none q] at em; cases em
  have am : a ∈ m := List.mem_of_getElem? em
  have sF : Same F (upd F a u) := same_new hF u
  refine ⟨⟨sF, ⟨[], by simp⟩, fun b o e _ => e, fun b o e => ⟨o, e⟩, fun j c hj e => (by rw [List.getElem?_eq_none hj] at e; cases e), fun c o e => ?_⟩, ?_⟩
  · by_cases hc : c = a
    · subst hc; exact .inr (.inr am)
    · rw [upd_ne hc] at e; exact .inl e
  · refine ⟨fun b o e => ?_, by rw [List.length_set]; exact R.len, fun j ob c e1 e2 => ?_, R.nd⟩
    · by_cases hb : b = a
      · subst hb; rw [upd_same] at e; cases e; exact hH
      · rw [upd_ne hb] at e; exact R.same b o e
    · by_cases hj : i = j
      · subst hj
        rw [List.getElem?_set_self hi] at e1
        cases e1
        rw [em] at e2; cases e2
        exact ⟨r, hp, u, upd_same⟩
      · rw [List.getElem?_set_ne hj] at e1
        have hc : c ≠ a := fun z => by
          subst z
          exact hj (by
            have hi' : i < m.length := by rw [← R.len]; exact hi
            have hj' : j < m.length := by
              rcases Nat.lt_or_ge j m.length with q | q
              · exact q
              · rw [List.getElem?_eq_none q] at e2; cases e2
            rw [List.getElem?_eq_getElem hi', Option.some.injEq] at em
            rw [List.getElem?_eq_getElem hj', Option.some.injEq] at e2
            exact (List.getElem_inj R.nd).mp (em.trans e2.symm))
        have q := R.obj j ob c e1 e2
        cases ob with
        | lst xs => obtain ⟨f, vs, z, rr⟩ := q; exact ⟨by rw [upd_ne hc]; exact f, vs, z, rr.mono sF fun _ _ h => h⟩
        | dct xs => obtain ⟨f, vs, z, k, rr⟩ := q; exact ⟨by rw [upd_ne hc]; exact f, vs, z, k, rr.mono sF fun _ _ h => h⟩
        | froz q' => obtain ⟨r1, r2, o, r3⟩ := q; exact ⟨r1.mono sF fun _ _ h => h, r2, o, sF _ _ r3⟩
theorem frzV_rep {p q : PV} {x : V} {h' : List PO} (R : RelH K T F m h H) (r : RepV K T F m p x) (e : frzV h p = some (q, h')) : ∃ F', Step F m H F' m H ∧ RelH K T F' m h' H ∧ RepV K T F' m q x ∧ q.pure = true := by
  by_cases hr : ∃ i, p = .ref i
  · obtain ⟨i, rfl⟩ := hr
    have e : (match h[i]? with
      | some (.lst xs) => if pures xs = true then some (PV.lst xs, h.set i (.froz (.lst xs))) else none
      | some (.dct kvs) => if pureks kvs = true then some (.dct kvs, h.set i (.froz (.dct kvs))) else none
      | some (.froz p) => some (p, h)
      | none => none) = some (q, h') := e
    cases r with
    | @ref _ a em =>
      cases z : h[i]? with
      | none => rw [z] at e; cases e
      | some o =>
        rw [z] at e
        have ob := R.obj i o a z em
        cases o with
        | lst xs =>
          by_cases hp : pures xs = true
          · simp only [hp, if_true, Option.some.injEq, Prod.mk.injEq] at e
            obtain ⟨rfl, rfl⟩ := e
            obtain ⟨f, vs, e1, rr⟩ := ob
            have rl : RepV K T (L2.upd F a (.lst vs)) m (.lst xs) (.ref a) := .lst upd_same (rr.mono (same_new f _) fun _ _ h => h)
            have pp : (PV.lst xs).pure = true := by simpa [PV.pure] using hp
            obtain ⟨s, R'⟩ := frz_obj R em f e1 pp rl
            exact ⟨_, s, R', rl, pp⟩
          · simp [hp] at e
        | dct kvs =>
          by_cases hp : pureks kvs = true
          · simp only [hp, if_true, Option.some.injEq, Prod.mk.injEq] at e
            obtain ⟨rfl, rfl⟩ := e
            obtain ⟨f, vs, e1, k, rr⟩ := ob
            have rl : RepV K T (L2.upd F a (.dK vs)) m (.dct kvs) (.ref a) := .dct (.inl upd_same) k (rr.mono (same_new f _) fun _ _ h => h)
            have pp : (PV.dct kvs).pure = true := by simpa [PV.pure] using hp
            obtain ⟨s, R'⟩ := frz_obj R em f e1 pp rl
            exact ⟨_, s, R', rl, pp⟩
          · simp [hp] at e
        | froz p =>
          simp only [Option.some.injEq, Prod.mk.injEq] at e
          obtain ⟨rfl, rfl⟩ := e
          exact ⟨F, .refl, R, ob.1, ob.2.1⟩
  · have e' : (if p.pure = true then some (p, h) else none) = some (q, h') := by
      unfold frzV at e
      split at e
      · exact absurd ⟨_, rfl⟩ hr
      · exact e
    by_cases hp : p.pure = true
    · simp only [hp, if_true, Option.some.injEq, Prod.mk.injEq] at e'
      obtain ⟨rfl, rfl⟩ := e'
      exact ⟨F, .refl, R, r, hp⟩
    · simp [hp] at e'
def frzs : List PV → List PO → Option (List PV × List PO)
  | [], h => some ([], h)
  | p :: r, h => match frzV h p with
    | some (q, h1) => match frzs r h1 with
      | some (qs, h2) => some (q :: qs, h2)
      | none => none
    | none => none
end
theorem frzs_rep {K : PySem.W.Frag} {T : Tab} {m : List Addr} {H : Hp} : ∀ {ps qs : List PV} {xs : List V} {h h' : List PO} {F : Hp}, RelH K T F m h H → RepVs K T F m ps xs → frzs ps h = some (qs, h') →
    ∃ F', Step F m H F' m H ∧ RelH K T F' m h' H ∧ RepVs K T F' m qs xs ∧ pures qs = true
  | [], qs, xs, h, h', F, R, r, e => by
    simp only [frzs, Option.some.injEq, Prod.mk.injEq] at e
    obtain ⟨rfl, rfl⟩ := e
    exact ⟨F, .refl, R, r, by simp [pures]⟩
  | p :: ps, qs, xs, h, h', F, R, r, e => by
    cases r with
    | cons r1 r2 =>
      unfold frzs at e
      cases z : frzV h p with
      | none => rw [z] at e; cases e
      | some a =>
        obtain ⟨q, h1⟩ := a
        rw [z] at e
        dsimp only at e
        cases z2 : frzs ps h1 with
        | none => rw [z2] at e; cases e
        | some b =>
          obtain ⟨qs2, h2⟩ := b
          rw [z2] at e
          simp only [Option.some.injEq, Prod.mk.injEq] at e
          obtain ⟨rfl, rfl⟩ := e
          obtain ⟨F1, s1, R1, ra, p1⟩ := frzV_rep R r1 z
          obtain ⟨F2, s2, R2, rb, p2⟩ := frzs_rep R1 (s1.reps r2) z2
          exact ⟨F2, s1.trans s2, R2, .cons (s2.rep ra) rb, by simp [pures, p1, p2]⟩
def PrimM (K : PySem.W.Frag) (T : Tab) (r : V → List V → Hp → VK → Prop) (g : PV → List PV → List PO → Res PV) : Prop :=
  ∀ F m h H x xs p ps Q Ew, RelH K T F m h H → RepV K T F m p x → RepVs K T F m ps xs → Post K T (RepV K T) F m H Q Ew (g p ps h) → r x xs H Q
def cM (recv : List PO → PV → Bool) (g : PV → List PV → List PO → Res PV) (o : Ex) (as : Ax) : Ex := fun ρ h => (o ρ h).bind fun p h1 => if recv h1 p = true then (as ρ h1).bind fun ps h2 => g p ps h2 else .bad
def isStr (_ : List PO) : PV → Bool
  | .str _ => true
  | _ => false
def isLst (h : List PO) (p : PV) : Bool := (lsR h p).isSome
section
variable {X : Cx} {T : Tab} {Ew : VK} {o e : Expr} {es : List Expr} {fo : Ex} {fs : Ax} {name : Str} {apos cpos : Pos} {id : String} {r : V → List V → Hp → VK → Prop} {g : PV → List PV → List PO → Res PV}
theorem re_bm {Ty : String} {recv : List PO → PV → Bool} (ty : ∀ F m h H p x, RelH X.K T F m h H → RepV X.K T F m p x → recv h p = true → tyV X.K Ty x H) (pa : PlainAttrs Ty) (slot : Slot Ty name id) (hty : typeOf (.builtin id) = pure (.type "method_descriptor")) (hm : MtR X id r) (P : PrimM X.K T r g)
    (ho : RE X T Ew o fo) (ha : RA X T Ew (e :: es) fs)
    (hbase : attributeBase o name X.env (eval o X.env) = eval o X.env := by rfl)
    (hfew : ((backTo cpos (starEach (e :: es) X.env)).all (fun x => !x.1) && (backToKw cpos (keywordEach [] X.env)).all (fun x => x.1.isSome)
      && decide ((e :: es).length + ([] : List Keyword).length + (if ([] : List Keyword).isEmpty then 0 else 1) < 30)) = true := by rfl)
    (hline : (apos.endLine == cpos.line) = true := by rfl) (hs : starEach (e :: es) X.env = (false, eval e X.env) :: starEach es X.env := by rfl) (hplain : (backTo cpos (starEach es X.env)).any (·.1) = false := by rfl) :
    RE X T Ew (.Call (.Attribute o name apos) (e :: es) [] cpos) (cM recv g fo fs) := by with_unfolding_all
  refine PE.imp (pe_bm pa slot hty hm ho ha hbase hfew hline hs hplain) fun σ H Q ⟨F, m, ρ, h, R, p⟩ => ⟨F, m, ρ, h, R, (Post.bind p).mono fun x H1 ⟨F1, m1, h1, p1, s1, R1, r1, w1⟩ => ?_⟩
  by_cases hr : recv h1 p1 = true
  · simp only [hr, if_true] at w1
    refine ⟨ty _ _ _ _ _ _ R1 r1 hr, F1, m1, ρ, h1, R.of s1 R1, (Post.bind w1).mono fun xs H2 ⟨F2, m2, h2, p2, s2, R2, r2, w2⟩ => ?_⟩
    exact P F2 m2 h2 H2 x xs p1 p2 Q Ew R2 (s2.rep r1) r2 w2
  · simp only [hr, if_false] at w1
    exact w1.elim
theorem ty_str (F : Hp) (m : List Addr) (h : List PO) (H : Hp) (p : PV) (x : V) (R : RelH X.K T F m h H) (r : RepV X.K T F m p x) (e : isStr h p = true) : tyV X.K "str" x H := by
  cases r with
  | str y => rfl
  | _ => simp [isStr] at e
theorem ty_lst (F : Hp) (m : List Addr) (h : List PO) (H : Hp) (p : PV) (x : V) (R : RelH X.K T F m h H) (r : RepV X.K T F m p x) (e : isLst h p = true) : tyV X.K "list" x H := by
  unfold isLst at e
  obtain ⟨xs, ex⟩ := Option.isSome_iff_exists.mp e
  obtain ⟨a, vs, rfl, sq, _⟩ := lsR_rep R r ex
  exact .inl ⟨rfl, vs, sq⟩
def joinL (sep : List Nat) : List (List Nat) → List Nat
  | [] => []
  | [x] => x
  | x :: rest => x ++ sep ++ joinL sep rest
theorem S_join (sep : List Nat) : ∀ xs : List (List Nat), Txt.join (S sep) (xs.map S) = S (joinL sep xs) := by
  have go : ∀ xs : List (List Nat), Str.join (S sep) (xs.map S) = S (joinL sep xs) := by
    intro xs
    induction xs with
    | nil => rfl
    | cons x r ih =>
      cases r with
      | nil => rfl
      | cons y r =>
        have e : joinL sep (x :: y :: r) = x ++ sep ++ joinL sep (y :: r) := rfl
        rw [e, ← S_append, ← S_append, ← ih]
        rfl
  intro xs
  show Builtin.Str.glued _ _ = _
  rw [StrLaws.glued_eq_join]
  exact go xs
def strsOf : List PV → Option (List (List Nat))
  | [] => some []
  | .str l :: r => (strsOf r).map (l :: ·)
  | _ :: _ => none
theorem strsOf_map : ∀ {ps : List PV} {ls : List (List Nat)}, strsOf ps = some ls → ps = ls.map PV.str
  | [], ls, e => by simp [strsOf] at e; subst e; rfl
  | p :: r, ls, e => by
    cases p with
    | str l =>
      simp only [strsOf, Option.map_eq_some_iff] at e
      obtain ⟨ls', e1, rfl⟩ := e
      rw [strsOf_map e1]; rfl
    | _ => simp [strsOf] at e
theorem strsOf_of (ls : List (List Nat)) : strsOf (ls.map PV.str) = some ls := by
  induction ls with
  | nil => rfl
  | cons l r ih => simp [strsOf, ih]
theorem reps_strs {K : PySem.W.Frag} {F : Hp} {m : List Addr} : ∀ {ls : List (List Nat)} {vs : List V}, RepVs K T F m (ls.map PV.str) vs → vs = (ls.map S).map V.str
  | [], _, .nil => rfl
  | l :: r, _, .cons h t => by cases h; rw [reps_strs t]; rfl
def pJoin (p : PV) (ps : List PV) (h : List PO) : Res PV := match p, ps with
  | .str sep, [q] => match lsR h q with
    | some xs => match strsOf xs with
      | some ls => if (ls.map (·.length)).sum + ls.length * sep.length ≤ 16777216 then .ok (.str (joinL sep ls)) h else .bad
      | none => .bad
    | none => .bad
  | _, _ => .bad
theorem prim_join {K : PySem.W.Frag} : PrimM K T (rJoin K) pJoin := by
  intro F m h H x xs p ps Q Ew R rp rs w
  unfold pJoin at w
  split at w
  · rename_i sep q
    cases rp
    obtain ⟨y, rfl, ry⟩ := rs.one
    split at w
    · rename_i zs ez
      split at w
      · rename_i ls el
        split at w
        · rename_i hz
          obtain ⟨a, vs, rfl, sq, rr⟩ := lsR_rep R ry ez
          have e1 := strsOf_map el
          subst e1
          rw [reps_strs rr] at sq
          refine ⟨_, a, ls.map S, rfl, rfl, sq, ?_, by rw [S_join]; exact post_ok w R (.str _)⟩
          have e2 : (ls.map S).map (·.length) = ls.map (·.length) := by
            rw [List.map_map]; apply List.map_congr_left; intro l _; exact S_len l
          rw [e2, List.length_map, S_len]; exact hz
        · exact w.elim
      · exact w.elim
    · exact w.elim
  · exact w.elim
def pFind (p : PV) (ps : List PV) (h : List PO) : Res PV := match p, ps with
  | .str x, [.str y] => .ok (.int (findI (firstFrom y x 0))) h
  | _, _ => .bad
theorem prim_find {K : PySem.W.Frag} : PrimM K T (fun x xs H Q => ∃ z y, x = .str z ∧ xs = [.str y] ∧ Q (.int (Txt.find z y)) H) pFind := by
  intro F m h H x xs p ps Q Ew R rp rs w
  unfold pFind at w
  split at w
  · cases rp
    obtain ⟨y, rfl, ry⟩ := rs.one
    cases ry
    exact ⟨_, _, rfl, rfl, by rw [S_find]; exact post_ok w R (.int _)⟩
  · exact w.elim
def pAppend (p : PV) (ps : List PV) (h : List PO) : Res PV := match ps with
  | [q] => match liveL h p with
    | some (i, xs) => if xs.length < sizeLine then .ok .non (h.set i (.lst (xs ++ [q]))) else .bad
    | none => .bad
  | _ => .bad
theorem prim_append {K : PySem.W.Frag} : PrimM K T rAppend pAppend := by
  intro F m h H x xs p ps Q Ew R rp rs w
  unfold pAppend at w
  split at w
  · obtain ⟨y, rfl, ry⟩ := rs.one
    split at w
    · rename_i i zs el
      split at w
      · rename_i hz
        obtain ⟨a, vs, rfl, em, hF, hH, rr⟩ := liveL_rep R rp el
        exact ⟨a, vs, y, rfl, rfl, hH, by rw [← rr.length]; exact hz, post_set w R em hF hH (rr.append (.cons ry .nil)) .non⟩
      · exact w.elim
    · exact w.elim
  · exact w.elim
end
end L3
set_option Elab.async false
set_option linter.all false
set_option maxRecDepth 100000
set_option maxHeartbeats 4000000
set_option autoImplicit false
namespace L3
open PySem PySem.Spec PyProof.Rows L2
structure GivP (K : PySem.W.Frag) (T : Tab) (J : It) (xs : List PV) (F : Hp) (m : List Addr) (H : Hp) : Prop where
  go : ∀ (i : Nat) F1 m1 h1 H1, Step F m H F1 m1 H1 → RelH K T F1 m1 h1 H1 → i < xs.length → J.go i H1
  yld : ∀ (i : Nat) F1 m1 h1 H1 v H2, Step F m H F1 m1 H1 → RelH K T F1 m1 h1 H1 → i < xs.length → J.yld i H1 v H2 → ∃ F2 m2 p, Step F1 m1 H1 F2 m2 H2 ∧ RelH K T F2 m2 h1 H2 ∧ xs[i]? = some p ∧ RepV K T F2 m2 p v
  stop : ∀ F1 m1 h1 H1, Step F m H F1 m1 H1 → RelH K T F1 m1 h1 H1 → J.stop xs.length H1
theorem GivP.step {K : PySem.W.Frag} {T : Tab} {J : It} {xs : List PV} {F F1 H H1 : Hp} {m m1 : List Addr} (G : GivP K T J xs F m H) (s : Step F m H F1 m1 H1) : GivP K T J xs F1 m1 H1 :=
  ⟨fun i F2 m2 h2 H2 t => G.go i F2 m2 h2 H2 (s.trans t), fun i F2 m2 h2 H2 v H3 t => G.yld i F2 m2 h2 H2 v H3 (s.trans t), fun F2 m2 h2 H2 t => G.stop F2 m2 h2 H2 (s.trans t)⟩
@[irreducible] def RI (X : Cx) (T : Tab) (Ew : VK) (tg e : Expr) (f : Ax) : Prop := PI X tg e (fun σ H R => ∃ F m ρ h, RelS X.K T F m ρ h σ H ∧ Post X.K T (fun F m xs J => ∀ H, GivP X.K T J xs F m H) F m H R Ew (f ρ h))
section
variable {K : PySem.W.Frag} {T : Tab} {F H : Hp} {m : List Addr}
theorem giv_rng (lo : Int) (n : Nat) : GivP K T (Itr lo n) ((List.range n).map fun i => PV.int (lo + (i : Nat))) F m H := by
  refine ⟨fun i F1 m1 h1 H1 s R hi => by show i < n; simpa using hi, fun i F1 m1 h1 H1 v H2 s R hi y => ?_, fun F1 m1 h1 H1 s R => by show n ≤ _; simp⟩
  obtain ⟨rfl, rfl⟩ := y
  have hi' : i < n := by simpa using hi
  exact ⟨F1, m1, _, .refl, R, by simp [hi'], .int _⟩
theorem giv_str (l : List Nat) : GivP K T (Its (S l)) (l.map fun c => PV.str [c]) F m H := by
  refine ⟨fun i F1 m1 h1 H1 s R hi => by show i < (S l).cps.size; simpa [S] using hi, fun i F1 m1 h1 H1 v H2 s R hi y => ?_, fun F1 m1 h1 H1 s R => by show _ = (S l).cps.size; simp [S]⟩
  obtain ⟨rfl, c, hc, rfl⟩ := y
  have hc' : l[i]? = some c := by simpa [S] using hc
  exact ⟨F1, m1, _, .refl, R, by simp [hc'], .str [c]⟩
theorem giv_lst {a : Addr} {xs : List PV} {vs : List V} (e : SqL K F a vs) (r : RepVs K T F m xs vs) : GivP K T (Itl K a) xs F m H := by
  have at' : ∀ {F1 : Hp} {m1 : List Addr} {h1 : List PO} {H1 : Hp}, Step F m H F1 m1 H1 → RelH K T F1 m1 h1 H1 → SqL K H1 a vs := fun s R => R.same.seq (s.fz.seq e)
  refine ⟨fun i F1 m1 h1 H1 s R hi => ?_, fun i F1 m1 h1 H1 v H2 s R hi y => ?_, fun F1 m1 h1 H1 s R => ⟨vs, at' s R, by rw [r.length]; exact Nat.le_refl _⟩⟩
  · rw [r.length] at hi
    exact ⟨vs, vs[i], at' s R, List.getElem?_eq_getElem hi⟩
  · obtain ⟨rfl, y⟩ := y
    obtain ⟨v', h1, h2⟩ := r.get (List.getElem?_eq_getElem hi)
    have := y vs (at' s R)
    rw [h1] at this; cases this
    exact ⟨F1, m1, _, .refl, R, List.getElem?_eq_getElem hi, s.rep h2⟩
theorem giv_tup {a : Addr} {xs : List PV} {vs : List V} (e : SqT K F a vs) (r : RepVs K T F m xs vs) : GivP K T (Itt K a) xs F m H := by
  have at' : ∀ {F1 : Hp} {m1 : List Addr} {h1 : List PO} {H1 : Hp}, Step F m H F1 m1 H1 → RelH K T F1 m1 h1 H1 → SqT K H1 a vs := fun s R => R.same.seqT (s.fz.seqT e)
  refine ⟨fun i F1 m1 h1 H1 s R hi => ?_, fun i F1 m1 h1 H1 v H2 s R hi y => ?_, fun F1 m1 h1 H1 s R => ⟨vs, at' s R, by rw [r.length]; exact Nat.le_refl _⟩⟩
  · rw [r.length] at hi
    exact ⟨vs, vs[i], at' s R, List.getElem?_eq_getElem hi⟩
  · obtain ⟨rfl, y⟩ := y
    obtain ⟨v', h1, h2⟩ := r.get (List.getElem?_eq_getElem hi)
    have := y vs (at' s R)
    rw [h1] at this; cases this
    exact ⟨F1, m1, _, .refl, R, List.getElem?_eq_getElem hi, s.rep h2⟩
end
section
variable {X : Cx} {T : Tab} {Ew : VK} {tg a b : Expr} {fa fb : Ex} {pos p0 : Pos}
theorem PI.or {X : Cx} {tg e : Expr} {w1 w2 : TI} (h1 : PI X tg e w1) (h2 : PI X tg e w2) : PI X tg e (fun σ H R => w1 σ H R ∨ w2 σ H R) := fun pins s σ H R I h => h.elim (h1 pins s σ H R I) (h2 pins s σ H R I)
def aRange1 (f : Ax) : Ax := fun ρ h => (f ρ h).bind fun ps h1 => match ps with
  | [.int j] => if bel 4611686018427387904 j = true then .ok ((List.range j.toNat).map fun i => PV.int (0 + (i : Nat))) h1 else .bad
  | _ => .bad
def aRange2 (f : Ax) : Ax := fun ρ h => (f ρ h).bind fun ps h1 => match ps with
  | [.int i, .int j] => if bel 4611686018427387904 i = true ∧ bel 4611686018427387904 j = true then .ok ((List.range (j - i).toNat).map fun k => PV.int (i + (k : Nat))) h1 else .bad
  | _ => .bad
theorem ri_range1 {f : Ax} (hg : Gl X "range") (hm : X.mg "range" = none) (ha : RA X T Ew [a] f) (hs : starEach [a] X.env = [(false, eval a X.env)] := by rfl) : RI X T Ew tg (.Call (.Name "range" p0) [a] [] pos) (aRange1 f) := by with_unfolding_all
  intro pins s σ H R I ⟨F, m, ρ, h, RR, p⟩
  refine pi_range1 hg hm ha hs pins s σ H R I ⟨F, m, ρ, h, RR, (Post.bind p).mono fun xs H1 ⟨F1, m1, h1, ps, s1, R1, r1, w1⟩ => ?_⟩
  split at w1
  · rename_i j
    obtain ⟨x, rfl, rx⟩ := r1.one
    cases rx
    split at w1
    · rename_i hz
      have hz' := bel_iff.mp hz
      exact ⟨j, rfl, by omega, by omega, Post.here w1 R1 fun H => giv_rng 0 _⟩
    · exact w1.elim
  · exact w1.elim
def seqIt (p : PV) (h : List PO) : Res (List PV) := match p with
  | .str l => .ok (l.map fun c => PV.str [c]) h
  | .tup xs => .ok xs h
  | .lst xs => .ok xs h
  | .giv xs => .ok xs h
  | p => match frzV h p with
    | some (.lst xs, h2) => .ok xs h2
    | _ => .bad
def aSeq (f : Ex) : Ax := fun ρ h => (f ρ h).bind seqIt
theorem ri_seq (ha : RE X T Ew a fa) : RI X T Ew tg a (aSeq fa) := by with_unfolding_all
  intro pins s σ H R I ⟨F, m, ρ, h, RR, p⟩
  unfold aSeq at p
  have lst : (∀ p1 h1, fa ρ h = .ok p1 h1 → (∀ l, p1 ≠ .str l) ∧ (∀ l, p1 ≠ .tup l)) → wpAny (model X.prog X.w) X.A (eval a X.env) (fun v s1 => wpAny (model X.prog X.w) X.A (pyIter v) (PIE X pins σ tg R) X.xe s1) X.xe s := fun hsh => by
    refine pi_list ha pins s σ H R I ⟨F, m, ρ, h, RR, ?_⟩
    cases q : fa ρ h with
    | bad => rw [q] at p; exact p
    | exc e h' => rw [q] at p; exact p
    | ok p1 h1 =>
      obtain ⟨n1, n2⟩ := hsh p1 h1 q
      rw [q] at p
      intro F1 m1 H1 x s1 R1 r1
      have w1 := Post.step s1 (show Post X.K T _ F m H R Ew (seqIt p1 h1) from p)
      unfold seqIt at w1
      split at w1
      · exact absurd rfl (n1 _)
      · exact absurd rfl (n2 _)
      · cases r1 with
        | lst ef rr => exact ⟨_, rfl, ⟨_, SqL.of (R1.same _ _ ef)⟩, Post.here w1 R1 fun H => giv_lst (SqL.of ef) rr⟩
      · cases r1 with
        | giv ef rr => exact ⟨_, rfl, ⟨_, R1.same.seq ef⟩, Post.here w1 R1 fun H => giv_lst ef rr⟩
      · split at w1
        · rename_i xs h2 ef
          obtain ⟨F2, s2, R2, r2, _⟩ := frzV_rep R1 r1 ef
          cases r2 with
          | lst ef rr => exact ⟨_, rfl, ⟨_, SqL.of (R2.same _ _ ef)⟩, w1 F2 m1 H1 _ s2 R2 fun H => giv_lst (SqL.of ef) rr⟩
        · exact w1.elim
  cases q : fa ρ h with
  | bad => rw [q] at p; exact p.elim
  | exc e h' => exact lst fun p1 h1 z => by rw [q] at z; cases z
  | ok p1 h1 =>
    by_cases h1' : ∃ l, p1 = .str l
    · obtain ⟨l, rfl⟩ := h1'
      refine pi_str ha pins s σ H R I ⟨F, m, ρ, h, RR, ?_⟩
      rw [q] at p ⊢
      intro F1 m1 H1 x s1 R1 r1
      have w1 := Post.step s1 (show Post X.K T _ F m H R Ew (seqIt (.str l) h1) from p)
      cases r1
      exact ⟨_, rfl, Post.here w1 R1 fun H => giv_str l⟩
    · by_cases h2' : ∃ l, p1 = .tup l
      · obtain ⟨l, rfl⟩ := h2'
        refine pi_tup ha pins s σ H R I ⟨F, m, ρ, h, RR, ?_⟩
        rw [q] at p ⊢
        intro F1 m1 H1 x s1 R1 r1
        have w1 := Post.step s1 (show Post X.K T _ F m H R Ew (seqIt (.tup l) h1) from p)
        cases r1 with
        | tup ef rr => exact ⟨_, rfl, ⟨_, R1.same.seqT ef⟩, Post.here w1 R1 fun H => giv_tup ef rr⟩
      · exact lst fun p2 h2 z => by
          rw [q] at z; cases z
          exact ⟨fun l z => h1' ⟨l, z⟩, fun l z => h2' ⟨l, z⟩⟩
def capP (caps : List Nat) (ρ : Ev) : Ev := caps.map fun i => (ρ[i]?).getD none
def compL (tt : Tx) (te : Ex) (cp : Ev) : List PV → List PO → Res (List PV)
  | [], h => .ok [] h
  | p :: r, h => (tt (some p :: cp) h).bind fun b h1 => if b = true then (te (some p :: cp) h1).bind fun v h2 => (compL tt te cp r h2).bind fun vs h3 => .ok (v :: vs) h3 else compL tt te cp r h1
def aComp (caps : List Nat) (it : Ax) (tt : Tx) (te : Ex) : Ax := fun ρ h => (it ρ h).bind fun xs h1 => if xs.length < sizeLine then compL tt te (capP caps ρ) xs h1 else .bad
@[irreducible] def RFs (X : Cx) (T : Tab) (Ew : VK) (ifs : List Expr) (f : Tx) : Prop := PFs X ifs (wT X T Ew f)
def tYesE : Tx := fun _ h => .ok true h
theorem rf_nil : RFs X T Ew [] tYesE := by with_unfolding_all exact (
    fun pins s σ H Q I ⟨F, m, ρ, h, R, p⟩ => pf_nil pins s σ H Q I (Post.here p R.toRelH rfl))
theorem rf_one {c : Expr} {f : Tx} (h : RT X T Ew c f) : RFs X T Ew [c] f := by with_unfolding_all exact (
    pf_one h)
theorem RelE.cap {K : PySem.W.Frag} {F : Hp} {m : List Addr} {ρ : Ev} {σ : St} (r : RelE K T F m ρ σ) (caps : List Nat) {p : PV} {v : V} (rp : RepV K T F m p v) : RelE K T F m (some p :: capP caps ρ) (some v :: capS caps σ) := by
  refine ⟨by simp [capP, capS], fun i q e => ?_⟩
  cases i with
  | zero => simp at e; subst e; exact ⟨v, rfl, rp⟩
  | succ j =>
    simp only [List.getElem?_cons_succ, capP, capS, List.getElem?_map] at e ⊢
    cases z : caps[j]? with
    | none => rw [z] at e; simp at e
    | some k =>
      rw [z] at e
      simp only [Option.map_some, Option.some.injEq] at e ⊢
      have e' : ρ[k]? = some (some q) := by
        cases y : ρ[k]? with
        | none => rw [y] at e; cases e
        | some o => rw [y] at e; simpa using e
      obtain ⟨u, h1, h2⟩ := r.2 k q e'
      exact ⟨u, by rw [h1]; rfl, h2⟩
theorem comp_run {caps : List Nat} {it : Ax} {tt : Tx} {te : Ex} {σ : St} {H : Hp} {Q : VK} {g : List PV → List PO → Res PV} (hg : ∀ F m h H ps vs, RelH X.K T F m h H → RepVs X.K T F m ps vs → Post X.K T (RepV X.K T) F m H Q Ew (g ps h) → ∀ D, H D = none → Q (.ref D) (upd H D (.lst vs)))
    (w : wE X T Ew (cN g (aComp caps it tt te)) σ H Q) : tComp caps (fun σ H R => ∃ F m ρ h, RelS X.K T F m ρ h σ H ∧ Post X.K T (fun F m xs J => ∀ H, GivP X.K T J xs F m H) F m H R Ew (it ρ h)) (wT X T Ew tt) (wE X T Ew te) σ H Q := by
  obtain ⟨F, m, ρ, h, R, p⟩ := w
  have p0 : Post X.K T (RepV X.K T) F m H Q Ew ((it ρ h).bind fun xs h1 => (if xs.length < sizeLine then compL tt te (capP caps ρ) xs h1 else .bad).bind g) := by
    have : (aComp caps it tt te ρ h).bind g = (it ρ h).bind fun xs h1 => (if xs.length < sizeLine then compL tt te (capP caps ρ) xs h1 else .bad).bind g := by
      unfold aComp
      cases it ρ h <;> rfl
    rw [← this]; exact p
  refine ⟨F, m, ρ, h, R, (Post.bind p0).mono fun J H1 ⟨F1, m1, h1, xs, s1, R1, G, w1⟩ => ?_⟩
  by_cases hz : xs.length < sizeLine
  · rw [if_pos hz] at w1
    refine ⟨fun i n acc H2 => n = xs.length - i ∧ i ≤ xs.length ∧ acc.length ≤ i ∧ ∃ F2 m2 h2 as, Step F1 m1 H1 F2 m2 H2 ∧ RelH X.K T F2 m2 h2 H2 ∧ RepVs X.K T F2 m2 as acc ∧
      Post X.K T (RepV X.K T) F2 m2 H2 Q Ew (((compL tt te (capP caps ρ) (xs.drop i) h2).bind fun vs h3 => g (as ++ vs) h3)), ⟨_, rfl, Nat.zero_le _, Nat.le_refl _, F1, m1, h1, [], .refl, R1, .nil, by simpa using w1⟩, ?_⟩
    rintro i n acc H2 ⟨rfl, hi, hac, F2, m2, h2, as, s2, R2, ra, w2⟩
    rcases Nat.lt_or_ge i xs.length with hlt | hge
    · right
      refine ⟨(G H1).go i F2 m2 h2 H2 s2 R2 hlt, by omega, fun v H3 y => ?_⟩
      obtain ⟨F3, m3, p, s3, R3, ep, rp⟩ := (G H1).yld i F2 m2 h2 H2 v H3 s2 R2 hlt y
      have ed : xs.drop i = p :: xs.drop (i + 1) := by
        rw [List.drop_eq_getElem_cons hlt]
        rw [List.getElem?_eq_getElem hlt, Option.some.injEq] at ep
        rw [ep]
      rw [ed] at w2
      have w3 := Post.step s3 w2
      have eE : RelE X.K T F3 m3 (some p :: capP caps ρ) (some v :: capS caps σ) := (s3.env (s2.env (s1.env R.env))).cap caps rp
      have e0 : ((compL tt te (capP caps ρ) (p :: xs.drop (i + 1)) h2).bind fun vs h3 => g (as ++ vs) h3) = (tt (some p :: capP caps ρ) h2).bind fun b h1 =>
          if b = true then (te (some p :: capP caps ρ) h1).bind fun v h2 => (compL tt te (capP caps ρ) (xs.drop (i + 1)) h2).bind fun vs h3 => g (as ++ v :: vs) h3 else (compL tt te (capP caps ρ) (xs.drop (i + 1)) h1).bind fun vs h3 => g (as ++ vs) h3 := by
        rw [compL]
        cases tt (some p :: capP caps ρ) h2 with
        | bad => rfl
        | exc e h => rfl
        | ok b h1 =>
          cases b with
          | false => rfl
          | true =>
            simp only [Res.bind_ok, if_true]
            cases te (some p :: capP caps ρ) h1 with
            | bad => rfl
            | exc e h => rfl
            | ok v h4 =>
              simp only [Res.bind_ok]
              cases compL tt te (capP caps ρ) (xs.drop (i + 1)) h4 <;> rfl
      rw [e0] at w3
      refine ⟨F3, m3, _, h2, ⟨R3, eE⟩, (Post.bind w3).mono fun b H4 ⟨F4, m4, h4, b', s4, R4, eb, w4⟩ => ?_⟩
      cases eb
      have s24 : Step F1 m1 H1 F4 m4 H4 := (s2.trans s3).trans s4
      cases b with
      | false =>
        refine iteF ⟨xs.length - (i + 1), by omega, rfl, by omega, by omega, F4, m4, h4, as, s24, R4, s4.reps (s3.reps ra), ?_⟩
        simpa using w4
      | true =>
        simp only [if_true] at w4
        refine iteT ⟨F4, m4, _, h4, ⟨R4, s4.env eE⟩, (Post.bind w4).mono fun y H5 ⟨F5, m5, h5, q, s5, R5, rq, w5⟩ => ?_⟩
        refine ⟨xs.length - (i + 1), by omega, rfl, by omega, by rw [List.length_append]; simp; omega, F5, m5, h5, as ++ [q], s24.trans s5, R5, (s5.reps (s4.reps (s3.reps ra))).append (.cons rq .nil), ?_⟩
        have : (fun vs h3 => g (as ++ [q] ++ vs) h3) = fun vs h3 => g (as ++ q :: vs) h3 := by funext vs h3; simp
        rw [this]; exact w5
    · left
      have e : i = xs.length := by omega
      subst e
      refine ⟨(G H1).stop F2 m2 h2 H2 s2 R2, fun D hD => ?_⟩
      rw [List.drop_length] at w2
      have w3 : Post X.K T (RepV X.K T) F2 m2 H2 Q Ew (g as h2) := by simpa [compL] using w2
      exact hg F2 m2 h2 H2 as acc R2 ra w3 D hD
  · rw [if_neg hz] at w1
    exact w1.elim
def okL (ps : List PV) (h : List PO) : Res PV := .ok (.lst ps) h
def newL (ps : List PV) (h : List PO) : Res PV := .ok (.ref h.length) (h ++ [.lst ps])
theorem re_comp {elt iter : Expr} {x : Str} {px : Pos} {ifs : List Expr} {scope : Scope} {it : Ax} {tt : Tx} {te : Ex} {M : List Str} (caps : List Nat) (hcalm : X.calm = true) (S : CompOk X.N X.env.scope scope caps x M)
    (hi : RI X T Ew (.Name x px) iter it) (ht : ∀ cl C ex s H, RFs (cxComp X M scope cl C ex s H) T Ew ifs tt) (he : ∀ cl C ex s H, RE (cxComp X M scope cl C ex s H) T Ew elt te)
    (hs : ∀ y, foldedSetIterable iter X.env y = pure y := by intro _; rfl) : RE X T Ew (.ListComp elt [⟨.Name x px, iter, ifs, 0⟩] scope pos) (cN okL (aComp caps it tt te)) := by with_unfolding_all exact (
  PE.imp (pe_comp (tt := wT X T Ew tt) (te := wE X T Ew te) caps hcalm S hi ht he hs) fun σ H Q w => comp_run (fun F m h H ps vs R r w D hD => post_lst w R r D hD) w)
end
end L3
set_option Elab.async false
set_option linter.all false
set_option maxRecDepth 100000
set_option maxHeartbeats 4000000
set_option autoImplicit false
namespace L3
open PySem PySem.Spec PyProof.Rows L2
inductive SR where
  | nx (ρ : Ev) (h : List PO) | rt (v : PV) (h : List PO) | bk (ρ : Ev) (h : List PO) | ct (ρ : Ev) (h : List PO) | exc (e : PV) (h : List PO) | bad
abbrev Sx := Ev → List PO → SR
def PostS (K : PySem.W.Frag) (T : Tab) (F : Hp) (m : List Addr) (H : Hp) (D : Ends) (Ew : VK) : SR → Prop
  | .nx ρ h => ∀ F' m' H' σ', Step F m H F' m' H' → RelS K T F' m' ρ h σ' H' → D.nx σ' H'
  | .bk ρ h => ∀ F' m' H' σ', Step F m H F' m' H' → RelS K T F' m' ρ h σ' H' → D.bk σ' H'
  | .ct ρ h => ∀ F' m' H' σ', Step F m H F' m' H' → RelS K T F' m' ρ h σ' H' → D.ct σ' H'
  | .rt v h => ∀ F' m' H' x, Step F m H F' m' H' → RelH K T F' m' h H' → RepV K T F' m' v x → D.rt x H'
  | .exc v h => ∀ F' m' H' x, Step F m H F' m' H' → RelH K T F' m' h H' → RepV K T F' m' v x → Ew x H'
  | .bad => False
theorem PostS.step {K : PySem.W.Frag} {T : Tab} {F F1 H H1 : Hp} {m m1 : List Addr} {D : Ends} {Ew : VK} {r : SR} (s : Step F m H F1 m1 H1) (p : PostS K T F m H D Ew r) : PostS K T F1 m1 H1 D Ew r := by
  cases r with
  | nx ρ h => exact fun F' m' H' x t => p F' m' H' x (s.trans t)
  | bk ρ h => exact fun F' m' H' x t => p F' m' H' x (s.trans t)
  | ct ρ h => exact fun F' m' H' x t => p F' m' H' x (s.trans t)
  | rt v h => exact fun F' m' H' x t => p F' m' H' x (s.trans t)
  | exc v h => exact fun F' m' H' x t => p F' m' H' x (s.trans t)
  | bad => exact p
section
variable (X : Cx) (T : Tab) (Ew : VK)
def wS (f : Sx) : TS := fun D σ H => ∃ F m ρ h, RelS X.K T F m ρ h σ H ∧ PostS X.K T F m H D Ew (f ρ h)
@[irreducible] def RS (st : Stmt) (f : Sx) : Prop := PS X st (wS X T Ew f)
@[irreducible] def RSs (st : List Stmt) (f : Sx) : Prop := PSs X st (wS X T Ew f)
end
def sNil : Sx := fun ρ h => .nx ρ h
def sSeq (f g : Sx) : Sx := fun ρ h => match f ρ h with
  | .nx ρ1 h1 => g ρ1 h1
  | .rt v h1 => .rt v h1
  | .bk ρ1 h1 => .bk ρ1 h1
  | .ct ρ1 h1 => .ct ρ1 h1
  | .exc v h1 => .exc v h1
  | .bad => .bad
def eThen (f : Res PV) (k : PV → List PO → SR) : SR := match f with
  | .ok v h => k v h
  | .exc e h => .exc e h
  | .bad => .bad
def bThen (f : Res Bool) (k : Bool → List PO → SR) : SR := match f with
  | .ok v h => k v h
  | .exc e h => .exc e h
  | .bad => .bad
def lThen (f : Res (List PV)) (k : List PV → List PO → SR) : SR := match f with
  | .ok v h => k v h
  | .exc e h => .exc e h
  | .bad => .bad
@[simp] theorem eThen_ok (v : PV) (h : List PO) (k : PV → List PO → SR) : eThen (.ok v h) k = k v h := rfl
@[simp] theorem bThen_ok (v : Bool) (h : List PO) (k : Bool → List PO → SR) : bThen (.ok v h) k = k v h := rfl
@[simp] theorem lThen_ok (v : List PV) (h : List PO) (k : List PV → List PO → SR) : lThen (.ok v h) k = k v h := rfl
@[simp] theorem eThen_bad (k : PV → List PO → SR) : eThen .bad k = .bad := rfl
@[simp] theorem bThen_bad (k : Bool → List PO → SR) : bThen .bad k = .bad := rfl
@[simp] theorem lThen_bad (k : List PV → List PO → SR) : lThen .bad k = .bad := rfl
def sRet (f : Ex) : Sx := fun ρ h => eThen (f ρ h) fun v h1 => .rt v h1
def sRetN : Sx := fun _ h => .rt .non h
def sDrop (f : Ex) : Sx := fun ρ h => eThen (f ρ h) fun _ h1 => .nx ρ h1
def sIf (t : Tx) (f g : Sx) : Sx := fun ρ h => bThen (t ρ h) fun b h1 => if b = true then f ρ h1 else g ρ h1
def sSet (i : Nat) (f : Ex) : Sx := fun ρ h => eThen (f ρ h) fun v h1 => .nx (ρ.set i (some v)) h1
def sNever : Sx := fun _ _ => .bad
section
variable {X : Cx} {T : Tab} {Ew : VK} {a b c : Expr} {fa fb : Ex} {pos : Pos} {st : Stmt} {rest : List Stmt} {f g : Sx}
theorem post_e {K : PySem.W.Frag} {F H : Hp} {m : List Addr} {D : Ends} {r : Res PV} {k : PV → List PO → SR} (p : PostS K T F m H D Ew (eThen r k)) : Post K T (RepV K T) F m H (fun x H1 => ∃ F1 m1 h1 a, Step F m H F1 m1 H1 ∧ RelH K T F1 m1 h1 H1 ∧ RepV K T F1 m1 a x ∧ PostS K T F1 m1 H1 D Ew (k a h1)) Ew r := by
  cases r with
  | ok a h => exact fun F' m' H' x s r q => ⟨F', m', h, a, s, r, q, PostS.step s p⟩
  | exc e h => exact p
  | bad => exact p
theorem post_b {K : PySem.W.Frag} {F H : Hp} {m : List Addr} {D : Ends} {r : Res Bool} {k : Bool → List PO → SR} (p : PostS K T F m H D Ew (bThen r k)) : Post K T RB F m H (fun x H1 => ∃ F1 m1 h1, Step F m H F1 m1 H1 ∧ RelH K T F1 m1 h1 H1 ∧ PostS K T F1 m1 H1 D Ew (k x h1)) Ew r := by
  cases r with
  | ok a h => exact fun F' m' H' x s r q => by cases q; exact ⟨F', m', h, s, r, PostS.step s p⟩
  | exc e h => exact p
  | bad => exact p
theorem post_l {K : PySem.W.Frag} {F H : Hp} {m : List Addr} {D : Ends} {β : Type} {RR : Hp → List Addr → List PV → β → Prop} {r : Res (List PV)} {k : List PV → List PO → SR} (p : PostS K T F m H D Ew (lThen r k)) : Post K T RR F m H (fun x H1 => ∃ F1 m1 h1 a, Step F m H F1 m1 H1 ∧ RelH K T F1 m1 h1 H1 ∧ RR F1 m1 a x ∧ PostS K T F1 m1 H1 D Ew (k a h1)) Ew r := by
  cases r with
  | ok a h => exact fun F' m' H' x s r q => ⟨F', m', h, a, s, r, q, PostS.step s p⟩
  | exc e h => exact p
  | bad => exact p
theorem rss_nil : RSs X T Ew [] sNil := by with_unfolding_all exact (
    PSs.imp pss_nil fun D σ H ⟨F, m, ρ, h, R, p⟩ => p F m H σ .refl R)
theorem rss_one (h : RS X T Ew st f) : RSs X T Ew [st] f := by with_unfolding_all exact (
    pss_one h)
theorem rss_cons (h1 : RS X T Ew st f) (h2 : RSs X T Ew rest g) : RSs X T Ew (st :: rest) (sSeq f g) := by with_unfolding_all
  refine PSs.imp (pss_cons h1 h2) fun D σ H ⟨F, m, ρ, h, R, p⟩ => ⟨F, m, ρ, h, R, ?_⟩
  unfold sSeq at p
  cases q : f ρ h with
  | nx ρ1 h1 => rw [q] at p; exact fun F' m' H' σ' s R' => ⟨F', m', ρ1, h1, R', PostS.step s p⟩
  | rt v h1 => rw [q] at p; exact p
  | bk v h1 => rw [q] at p; exact p
  | ct v h1 => rw [q] at p; exact p
  | exc v h1 => rw [q] at p; exact p
  | bad => rw [q] at p; exact p
theorem rs_ret (ha : RE X T Ew a fa) : RS X T Ew (.Return (some a) pos) (sRet fa) := by with_unfolding_all exact (
  PS.imp (ps_ret ha) fun D σ H ⟨F, m, ρ, h, R, p⟩ => ⟨F, m, ρ, h, R, (post_e p).mono fun x H1 ⟨F1, m1, h1, v, s1, R1, r1, w1⟩ => w1 F1 m1 H1 x .refl R1 r1⟩)
theorem rs_expr (ha : RE X T Ew a fa) (hs : swapsWith a none pos.line X.env = pure false := by rfl) : RS X T Ew (.Expr a pos) (sDrop fa) := by with_unfolding_all exact (
  PS.imp (ps_expr ha hs) fun D σ H ⟨F, m, ρ, h, R, p⟩ => ⟨F, m, ρ, h, R, (post_e p).mono fun x H1 ⟨F1, m1, h1, v, s1, R1, r1, w1⟩ => w1 F1 m1 H1 σ .refl (R.of s1 R1)⟩)
theorem rs_if {t : Tx} {sa sb : List Stmt} (hc : RT X T Ew c t) (ha : RSs X T Ew sa f) (hb : RSs X T Ew sb g) : RS X T Ew (.If c sa sb pos) (sIf t f g) := by with_unfolding_all
  refine PS.imp (ps_if hc ha hb) fun D σ H ⟨F, m, ρ, h, R, p⟩ => ⟨F, m, ρ, h, R, (post_b p).mono fun x H1 ⟨F1, m1, h1, s1, R1, w1⟩ => ?_⟩
  cases x with
  | true => exact iteT ⟨F1, m1, ρ, h1, R.of s1 R1, w1⟩
  | false => exact iteF ⟨F1, m1, ρ, h1, R.of s1 R1, w1⟩
theorem RelE.set {K : PySem.W.Frag} {F : Hp} {m : List Addr} {ρ : Ev} {σ : St} (r : RelE K T F m ρ σ) (i : Nat) {p : PV} {v : V} (rp : RepV K T F m p v) : RelE K T F m (ρ.set i (some p)) (σ.set i (some v)) := by
  refine ⟨by simp [r.1], fun j q e => ?_⟩
  by_cases hj : i = j
  · subst hj
    have hi : i < ρ.length := by
      rcases Nat.lt_or_ge i ρ.length with z | z
      · exact z
      · rw [List.getElem?_eq_none (by simpa using z)] at e; cases e
    rw [List.getElem?_set_self hi] at e
    cases e
    exact ⟨v, List.getElem?_set_self (by rw [← r.1]; exact hi), rp⟩
  · rw [List.getElem?_set_ne hj] at e ⊢
    exact r.2 j q e
theorem rs_set {i : Nat} {x : Str} {pos' : Pos} (hN : X.N.Nodup) (hi : X.N[i]? = some x) (hx : Loc X.env.scope x) (ha : RE X T Ew a fa) (hs : swapsWith a (some (.Name x pos')) pos.line X.env = pure false := by rfl) (hf : X.fn x = true ∨ X.env.scope.names.lookup x = some .local := by first | exact .inl rfl | exact .inr rfl | assumption) :
    RS X T Ew (.Assign [.Name x pos'] a pos) (sSet i fa) := by with_unfolding_all exact (
  PS.imp (ps_set hN hi hx ha hs hf) fun D σ H ⟨F, m, ρ, h, R, p⟩ => ⟨F, m, ρ, h, R, (post_e p).mono fun v H1 ⟨F1, m1, h1, q, s1, R1, r1, w1⟩ => w1 F1 m1 H1 _ .refl ⟨R1, (s1.env R.env).set i r1⟩⟩)
abbrev Gx := PV → Ev → Option Ev
@[irreducible] def RG (X : Cx) (T : Tab) (tg : Expr) (g : Gx) : Prop := PG X tg (fun v σ H Q => ∃ F m ρ h p ρ', RelS X.K T F m ρ h σ H ∧ RepV X.K T F m p v ∧ g p ρ = some ρ' ∧ ∀ σ', RelE X.K T F m ρ' σ' → Q σ' H)
def gNm (i : Nat) : Gx := fun p ρ => some (ρ.set i (some p))
theorem rg_name {i : Nat} {x : Str} {pos : Pos} (hN : X.N.Nodup) (hi : X.N[i]? = some x) (hx : Loc X.env.scope x) (hf : X.fn x = true ∨ X.env.scope.names.lookup x = some .local := by first | exact .inl rfl | exact .inr rfl | assumption) : RG X T (.Name x pos) (gNm i) := by with_unfolding_all
  intro pins s σ H v u Q I r ⟨F, m, ρ, h, p, ρ', R, rp, e, q⟩
  cases e
  exact pg_name hN hi hx hf pins s σ H v u Q I r (q _ (R.env.set i rp))
def loopS (g : Gx) (body : Sx) : List PV → Sx
  | [], ρ, h => .nx ρ h
  | p :: r, ρ, h => match g p ρ with
    | some ρ1 => match body ρ1 h with
      | .nx ρ2 h2 => loopS g body r ρ2 h2
      | .ct ρ2 h2 => loopS g body r ρ2 h2
      | .bk ρ2 h2 => .nx ρ2 h2
      | .rt v h2 => .rt v h2
      | .exc v h2 => .exc v h2
      | .bad => .bad
    | none => .bad
def sFor (it : Ax) (g : Gx) (body : Sx) : Sx := fun ρ h => lThen (it ρ h) fun xs h1 => loopS g body xs ρ h1
theorem rs_for {tg iter : Expr} {it : Ax} {g : Gx} {body : List Stmt} (hp : PassesOwn (model X.prog X.w) X.A X.env X.xe) (hc : X.calm = true) (hi : RI X T Ew tg iter it) (hg : RG X T tg g) (hb : RSs X T Ew body f)
    (hs : ∀ x, foldedSetIterable iter X.env x = pure x := by intro _; rfl) : RS X T Ew (.For tg iter body [] pos) (sFor it g f) := by with_unfolding_all
  refine PS.imp (ps_for hp hc hi hg hb hs) fun D σ H ⟨F, m, ρ, h, R, p⟩ => ⟨F, m, ρ, h, R, (post_l p).mono fun J H1 ⟨F1, m1, h1, xs, s1, R1, G, w1⟩ => ?_⟩
  refine ⟨fun i n σ2 H2 => n = xs.length - i ∧ i ≤ xs.length ∧ ∃ F2 m2 ρ2 h2, Step F1 m1 H1 F2 m2 H2 ∧ RelS X.K T F2 m2 ρ2 h2 σ2 H2 ∧ PostS X.K T F2 m2 H2 D Ew (loopS g f (xs.drop i) ρ2 h2), ⟨_, rfl, Nat.zero_le _, F1, m1, ρ, h1, .refl, R.of s1 R1, w1⟩, ?_⟩
  rintro i n σ2 H2 ⟨rfl, hi', F2, m2, ρ2, h2, s2, R2, w2⟩
  rcases Nat.lt_or_ge i xs.length with hlt | hge
  · right
    refine ⟨(G H1).go i F2 m2 h2 H2 s2 R2.toRelH hlt, fun σ' H' => ∃ m', m' < xs.length - i ∧ m' = xs.length - (i + 1) ∧ i + 1 ≤ xs.length ∧ ∃ F2 m2 ρ2 h2, Step F1 m1 H1 F2 m2 H' ∧ RelS X.K T F2 m2 ρ2 h2 σ' H' ∧ PostS X.K T F2 m2 H' D Ew (loopS g f (xs.drop (i + 1)) ρ2 h2), fun σ' H' q => q, fun v H3 y => ?_⟩
    obtain ⟨F3, m3, p, s3, R3, ep, rp⟩ := (G H1).yld i F2 m2 h2 H2 v H3 s2 R2.toRelH hlt y
    have ed : xs.drop i = p :: xs.drop (i + 1) := by
      rw [List.drop_eq_getElem_cons hlt]
      rw [List.getElem?_eq_getElem hlt, Option.some.injEq] at ep
      rw [ep]
    rw [ed] at w2
    have w3 := PostS.step s3 w2
    unfold loopS at w3
    cases q : g p ρ2 with
    | none => rw [q] at w3; exact w3.elim
    | some ρ3 =>
      rw [q] at w3
      dsimp only at w3
      refine ⟨F3, m3, ρ2, h2, p, ρ3, ⟨R3, s3.env R2.env⟩, rp, q, fun σ3 r3 => ⟨F3, m3, ρ3, h2, ⟨R3, r3⟩, ?_⟩⟩
      cases z : f ρ3 h2 with
      | nx ρ4 h4 => rw [z] at w3; exact fun F' m' H' σ' s' R' => ⟨xs.length - (i + 1), by omega, rfl, by omega, F', m', ρ4, h4, (s2.trans s3).trans s', R', PostS.step s' w3⟩
      | ct ρ4 h4 => rw [z] at w3; exact fun F' m' H' σ' s' R' => ⟨xs.length - (i + 1), by omega, rfl, by omega, F', m', ρ4, h4, (s2.trans s3).trans s', R', PostS.step s' w3⟩
      | bk ρ4 h4 => rw [z] at w3; exact w3
      | rt v4 h4 => rw [z] at w3; exact w3
      | exc v4 h4 => rw [z] at w3; exact w3
      | bad => rw [z] at w3; exact w3
  · left
    have e : i = xs.length := by omega
    subst e
    rw [List.drop_length] at w2
    exact ⟨(G H1).stop F2 m2 h2 H2 s2 R2.toRelH, w2 F2 m2 H2 σ2 .refl R2⟩
end
end L3
set_option Elab.async false
set_option linter.all false
set_option maxRecDepth 100000
set_option maxHeartbeats 4000000
set_option autoImplicit false
namespace L3
open PySem PySem.Spec PyProof.Rows L2
inductive Out where
  | ok (v : PV) | bad
def finO (v : PV) (h : List PO) : Out := match frzV h v with
  | some (q, _) => .ok q
  | none => .bad
def runF (f : Sx) (np n : Nat) (ps : List PV) : Out := if ps.length = np then match f (ps.map some ++ List.replicate (n - ps.length) none) [] with
    | .nx _ _ => .ok .non
    | .rt v h => finO v h
    | _ => .bad
  else .bad
def spP (K : PySem.W.Frag) (T : Tab) (np : Nat) (fn : List PV → Out) : Sp := fun vs H Q _ => ∃ F ps v, ps.length = np ∧ Same F H ∧ RepVs K T F [] ps vs ∧ fn ps = .ok v ∧
  ∀ F' H' x, Same F F' → Same H H' → Same F' H' → (∀ a o, F' a = some o → F a = some o ∨ H a = none) → RepV K T F' [] v x → Q x H'
theorem spP_len {K : PySem.W.Frag} {T : Tab} {np : Nat} {fn : List PV → Out} {vs : List V} {H : Hp} {Q : VK} {E : XK} (h : spP K T np fn vs H Q E) : vs.length = np := by
  obtain ⟨F, ps, v, e, _, r, _⟩ := h
  rw [← r.length]; exact e
section
variable {P : Program} {w : World} {K : PySem.W.Frag} {mg : Str → Option Value} {base : Heap} {T : Tab}
theorem rel_start {N : List Str} {F : Hp} {ps : List PV} {vs : List V} (r : RepVs K T F [] ps vs) : RelE K T F [] (ps.map some ++ List.replicate (N.length - ps.length) none) (start N vs) := by
  unfold L2.start
  have hl := r.length
  refine ⟨by simp [hl], fun i p e => ?_⟩
  rcases Nat.lt_or_ge i ps.length with hi | hi
  · rw [List.getElem?_append_left (by simpa using hi), List.getElem?_map] at e
    cases q : ps[i]? with
    | none => rw [q] at e; cases e
    | some p' =>
      rw [q] at e
      cases e
      obtain ⟨v, h1, h2⟩ := r.get q
      exact ⟨v, by rw [List.getElem?_append_left (by simp; omega), List.getElem?_map, h1]; rfl, h2⟩
  · rw [List.getElem?_append_right (by simpa using hi)] at e
    rw [List.getElem?_replicate] at e
    split at e <;> cases e
theorem fn_pure {x qual : Str} {st : Stmt} {f : Addr} {fd : FuncData} {N ps : List Str} {k : Nat} {g : Sx} (Fn : Fun K x qual st f fd) (Sc : FnScope N ps (defScope st))
    (hb : ∀ (cdv : Value) (A : Around) (outer : List Env) (s : Shared) (H : Hp) (E : XK), Room k (A.deeper (envOfC qual (defScope st) s.heap.objs.size f cdv)) →
      RSs (cxOf CX0 P w K mg base N qual (defScope st) f cdv A outer s H E).nox T (fun _ _ => False) (defBody st) g) :
    FnOk P w K mg base CX0 (k + 1) f fd ps (spP K T ps.length (runF g ps.length N.length)) := by with_unfolding_all
  refine Fn.ok Sc (fun vs H Q E h => spP_len h) fun cdv A outer s H vs Q E hr h => ⟨_, hb cdv A outer s H E hr, ?_⟩
  obtain ⟨F, qs, v, hl, sm, r, e, q⟩ := h
  have R0 : RelS K T F [] (qs.map some ++ List.replicate (N.length - qs.length) none) [] (start N vs) H := ⟨⟨sm, rfl, fun i o a h1 h2 => by simp at h1, List.nodup_nil⟩, rel_start r⟩
  refine ⟨F, [], _, [], R0, ?_⟩
  unfold runF at e
  rw [if_pos hl] at e
  have sameH : ∀ {F' m' H'}, Step F [] H F' m' H' → Same H H' := fun s b o hb => s.fr b o hb (by simp)
  have fin : ∀ {F' m' H' h' p x}, Step F [] H F' m' H' → RelH K T F' m' h' H' → RepV K T F' m' p x → finO p h' = .ok v → Q x H' := by
    intro F' m' H' h' p x s R rp ef
    unfold finO at ef
    cases z : frzV h' p with
    | none => rw [z] at ef; cases ef
    | some ab =>
      obtain ⟨p2, h2⟩ := ab
      rw [z] at ef
      cases ef
      obtain ⟨F2, s2, R2, r2, hp⟩ := frzV_rep R rp z
      refine q F2 H' x (s.fz.trans s2.fz) (sameH s) R2.same (fun a o ea => ?_) (r2.unref hp)
      rcases (s.trans s2).fnew a o ea with z | z | z
      · exact .inl z
      · exact .inr z
      · simp at z
  cases z : g (qs.map some ++ List.replicate (N.length - qs.length) none) [] with
  | nx ρ h1 =>
    rw [z] at e
    cases e
    exact fun F' m' H' σ' s R => q F' H' .non s.fz (sameH s) R.same (fun a o ea => by
      rcases s.fnew a o ea with z | z | z
      · exact .inl z
      · exact .inr z
      · simp at z) .non
  | rt p h1 =>
    rw [z] at e
    exact fun F' m' H' x s R rp => fin s R rp e
  | bk _ _ => rw [z] at e; cases e
  | ct _ _ => rw [z] at e; cases e
  | exc _ _ => rw [z] at e; cases e
  | bad => rw [z] at e; cases e
end
def callO (fn : List PV → Out) (ps : List PV) (h : List PO) : Res PV := match frzs ps h with
  | some (qs, h2) => match fn qs with
    | .ok v => .ok v h2
    | .bad => .bad
  | none => .bad
def cCall (fn : List PV → Out) (as : Ax) : Ex := fun ρ h => (as ρ h).bind (callO fn)
section
variable {X : Cx} {T : Tab} {Ew : VK} {a b e : Expr} {es : List Expr} {fa fb : Ex} {fs : Ax} {pos p0 : Pos} {k : Nat} {f : Addr} {fd : FuncData} {ps : List Str} {fn : List PV → Out} {x : Str}
theorem call_post {F H : Hp} {m : List Addr} {h : List PO} {Q : VK} {K : PySem.W.Frag} {np : Nat} {qs : List PV} {vs : List V} {E : XK} (hfn : ∀ qs v, fn qs = .ok v → qs.length = np) (R : RelH K T F m h H) (r : RepVs K T F m qs vs) (w : Post K T (RepV K T) F m H Q Ew (callO fn qs h)) : spP K T np fn vs H Q E := by
  unfold callO at w
  cases z : frzs qs h with
  | none => rw [z] at w; exact w.elim
  | some ab =>
    obtain ⟨q2, h2⟩ := ab
    rw [z] at w
    dsimp only at w
    obtain ⟨F2, s2, R2, r2, hp⟩ := frzs_rep R r z
    cases y : fn q2 with
    | bad => rw [y] at w; exact w.elim
    | ok v =>
      rw [y] at w
      refine ⟨F2, q2, v, hfn _ _ y, R2.same, r2.unref hp, y, fun F' H' x a1 a2 a3 a4 rx => ?_⟩
      have s3 : Step F2 m H F' m H' := ⟨a1, ⟨[], by simp⟩, fun b o hb _ => a2 b o hb, fun b o hb => ⟨o, a2 b o hb⟩, fun i a hi e => (by rw [List.getElem?_eq_none hi] at e; cases e), fun a o ea => (a4 a o ea).elim .inl (fun z => .inr (.inl z))⟩
      refine w F' m H' x (s2.trans s3) ⟨a3, R2.len, fun i o a e1 e2 => ?_, R2.nd⟩ (rx.mono (Same.refl _) fun i a e => by simp at e)
      have q := R2.obj i o a e1 e2
      have live : F2 a = none → (∃ u, H a = some u) → F' a = none := fun n ⟨u, hu⟩ => by
        cases z : F' a with
        | none => rfl
        | some o =>
          rcases a4 a o z with y | y
          · rw [n] at y; cases y
          · rw [hu] at y; cases y
      cases o with
      | lst xs => obtain ⟨f0, ws, z, rr⟩ := q; exact ⟨live f0 ⟨_, z⟩, ws, a2 _ _ z, s3.reps rr⟩
      | dct xs => obtain ⟨f0, ws, z, kk, rr⟩ := q; exact ⟨live f0 ⟨_, z⟩, ws, a2 _ _ z, kk, s3.reps rr⟩
      | froz p' => obtain ⟨r1, r3, o, r4⟩ := q; exact ⟨s3.rep r1, r3, o, a1 _ _ r4⟩
theorem re_call (F : FnOk X.prog X.w X.K X.mg X.base CX0 k f fd ps (spP X.K T ps.length fn)) (hfn : ∀ qs v, fn qs = .ok v → qs.length = ps.length) (hr : Room k X.A) (hg : Gl X x) (hm : X.mg x = some (.ref f)) (hk : PySem.W.keepIn X.K (.ref f) = true) (hb : Binds X.K fd ps [])
    (ha : RA X T Ew (e :: es) fs) (hdb : (x == ("__debug__" : Str)) = false := by decide) (he : starEach (e :: es) X.env = (false, eval e X.env) :: starEach es X.env := by rfl) (hpl : (backTo pos (starEach es X.env)).any (·.1) = false := by rfl) :
    RE X T Ew (.Call (.Name x p0) (e :: es) [] pos) (cCall fn fs) := by with_unfolding_all
  refine PE.imp (pe_call F hr hg hm hk hb .nil pass0 ha hdb he hpl) fun σ H Q ⟨F, m, ρ, h, R, p⟩ => ⟨F, m, ρ, h, R, (Post.bind p).mono fun vs H1 ⟨F1, m1, h1, qs, s1, R1, r1, w1⟩ => ?_⟩
  rw [List.append_nil]
  exact call_post hfn R1 r1 w1
theorem runF_len {f : Sx} {np n : Nat} : ∀ qs v, runF f np n qs = .ok v → qs.length = np := fun qs v h => by
  unfold runF at h
  split at h
  · assumption
  · cases h
structure MethOk (X : Cx) (T : Tab) (k : Nat) (m : Str) (C : Addr) (np : Nat) (fn : List PV → Out) : Prop where
  c : Cls X.K C
  ex : ∃ (f : Addr) (fd : FuncData) (ps : List Str), ps.length = np ∧ Meth X.K C m f ∧ FnOk X.prog X.w X.K X.mg X.base CX0 k f fd ps (spP X.K T np fn) ∧ Binds X.K fd ps []
  len : ∀ qs v, fn qs = .ok v → qs.length = np
def cMeth (res : Nat → Option (List PV → Out)) (o : Ex) (as : Ax) : Ex := fun ρ h => (o ρ h).bind fun p h1 => match p with
  | .ins C [] => match res C with
    | some fn => (as ρ h1).bind fun ps h2 => callO fn (.ins C [] :: ps) h2
    | none => .bad
  | _ => .bad
def cMake (C : Nat) : Ex := fun _ h => .ok (.ins C []) h
theorem re_globS {u : Value} {l : List Nat} (hg : Gl X x) (hm : X.mg x = some u) (r : RelV (.str (S l)) u) (hd : (x == ("__debug__" : Str)) = false := by decide) : RE X T Ew (.Name x pos) (cK (.str l)) := by with_unfolding_all exact (
    re_const (pe_glob hg hm r hd) fun _ _ => .str l)
theorem re_globI {u : Value} {i : Int} (hg : Gl X x) (hm : X.mg x = some u) (r : RelV (.int i) u) (hd : (x == ("__debug__" : Str)) = false := by decide) : RE X T Ew (.Name x pos) (cK (.int i)) := by with_unfolding_all exact (
    re_const (pe_glob hg hm r hd) fun _ _ => .int i)
end
end L3
set_option Elab.async false
set_option linter.all false
set_option maxRecDepth 100000
set_option maxHeartbeats 4000000
set_option autoImplicit false
namespace L3
open PySem PySem.Spec PyProof.Rows L2
def putP (kvs : List (PK × PV)) (k : PK) (v : PV) : List (PK × PV) :=
  if (kvs.any fun kv => decide (kv.1 = k)) = true then kvs.map (fun kv => if kv.1 = k then (kv.1, v) else kv) else kvs ++ [(k, v)]
section
variable {K : PySem.W.Frag} {T : Tab} {F H : Hp} {m : List Addr}
def RepK (K : PySem.W.Frag) (T : Tab) (F : Hp) (m : List Addr) (kps : List (PK × PV)) (kvs : List (Key × V)) : Prop := kvs.map (·.1) = kps.map (fun p => tk p.1) ∧ RepVs K T F m (kps.map (·.2)) (kvs.map (·.2))
theorem RepK.nil : RepK K T F m [] [] := ⟨rfl, .nil⟩
theorem RepK.any (k : PK) : ∀ {kps : List (PK × PV)} {kvs : List (Key × V)}, kvs.map (·.1) = kps.map (fun p => tk p.1) → (kvs.any fun kv => decide (kv.1 = tk k)) = kps.any fun kv => decide (kv.1 = k)
  | [], [], _ => rfl
  | [], _ :: _, h => by simp at h
  | _ :: _, [], h => by simp at h
  | (k1, p1) :: kps, (k2, v2) :: kvs, h => by
    simp only [List.map_cons, List.cons.injEq] at h
    rw [List.any_cons, List.any_cons, RepK.any k h.2]
    congr 1
    rw [h.1]
    by_cases e : k1 = k
    · subst e; simp
    · have : ¬ tk k1 = tk k := fun z => e (tk_inj z)
      simp [e, this]
theorem RepK.repl {k : PK} {p : PV} {v : V} (r : RepV K T F m p v) : ∀ {kps : List (PK × PV)} {kvs : List (Key × V)}, RepK K T F m kps kvs → RepK K T F m (kps.map fun kv => if kv.1 = k then (kv.1, p) else kv) (kvs.map fun kv => if kv.1 = tk k then (kv.1, v) else kv)
  | [], [], _ => .nil
  | [], _ :: _, h => by have := h.1; simp at this
  | _ :: _, [], h => by have := h.1; simp at this
  | (k1, p1) :: kps, (k2, v2) :: kvs, ⟨h1, h2⟩ => by
    simp only [List.map_cons, List.cons.injEq] at h1 h2
    cases h2 with
    | cons a b =>
      obtain ⟨i1, i2⟩ := RepK.repl (k := k) r (kps := kps) (kvs := kvs) ⟨h1.2, b⟩
      simp only [List.map_cons]
      by_cases e : k1 = k
      · subst e
        rw [if_pos h1.1, if_pos rfl]
        exact ⟨by simp only [List.map_cons, h1.1, i1], .cons r i2⟩
      · have e2 : ¬ k2 = tk k := fun z => e (tk_inj (h1.1.symm.trans z))
        rw [if_neg e2, if_neg e]
        exact ⟨by simp only [List.map_cons, h1.1, i1], .cons a i2⟩
theorem RepK.put {k : PK} {p : PV} {v : V} {kps : List (PK × PV)} {kvs : List (Key × V)} (h : RepK K T F m kps kvs) (r : RepV K T F m p v) : RepK K T F m (putP kps k p) (putK kvs (tk k) v) := by
  unfold putP putK
  rw [RepK.any k h.1]
  split
  · exact h.repl r
  · exact ⟨by rw [List.map_append, List.map_append, h.1]; rfl, by rw [List.map_append, List.map_append]; exact h.2.append (.cons r .nil)⟩
theorem RepK.merge : ∀ {more : List (PK × PV)} {mv : List (Key × V)} {kps : List (PK × PV)} {kvs : List (Key × V)}, RepK K T F m more mv → RepK K T F m kps kvs → RepK K T F m (more.foldl (fun acc kv => putP acc kv.1 kv.2) kps) (mergeK kvs mv)
  | [], [], _, _, _, h => h
  | [], _ :: _, _, _, h, _ => by have := h.1; simp at this
  | _ :: _, [], _, _, h, _ => by have := h.1; simp at this
  | (k1, p1) :: more, (k2, v2) :: mv, kps, kvs, ⟨h1, h2⟩, h => by
    simp only [List.map_cons, List.cons.injEq] at h1 h2
    cases h2 with
    | cons a b =>
      show RepK K T F m (more.foldl _ (putP kps k1 p1)) (mergeK (putK kvs k2 v2) mv)
      rw [h1.1]
      exact RepK.merge ⟨h1.2, b⟩ (h.put a)
end
def cPairs : List (Ex × Ex) → Ev → List PO → Res (List (PK × PV))
  | [], _, h => .ok [] h
  | (a, b) :: r, ρ, h => (a ρ h).bind fun x h1 => (b ρ h1).bind fun y h2 => match keyOf x with
    | some k => (cPairs r ρ h2).bind fun ps h3 => .ok ((k, y) :: ps) h3
    | none => .bad
def mkD (ps : List (PK × PV)) : List (PK × PV) := ps.foldl (fun acc kv => putP acc kv.1 kv.2) []
def cDict (fs : List (Ex × Ex)) : Ex := fun ρ h => (cPairs fs ρ h).bind fun ps h1 => .ok (.dct (mkD ps)) h1
@[irreducible] def RPs (X : Cx) (T : Tab) (Ew : VK) (pos : Pos) (keys : List (Option Expr)) (values : List Expr) (fs : List (Ex × Ex)) : Prop := PPs X pos keys values (fs.map fun p => (wE X T Ew p.1, wE X T Ew p.2))
section
variable {X : Cx} {T : Tab} {Ew : VK} {a b k v o e f : Expr} {fa fb fo : Ex} {pos apos cpos : Pos} {keys : List (Option Expr)} {values : List Expr} {fs : List (Ex × Ex)}
theorem rps_nil : RPs X T Ew pos [] [] [] := by with_unfolding_all exact (
    pps_nil)
theorem rps_cons (hk : RE X T Ew k fa) (hv : RE X T Ew v fb) (hr : RPs X T Ew pos keys values fs) : RPs X T Ew pos (some k :: keys) (v :: values) ((fa, fb) :: fs) := by with_unfolding_all exact (
    pps_cons hk hv hr)
theorem pairs_run {σ : St} {ρ : Ev} : ∀ (fs : List (Ex × Ex)) {F : Hp} {m : List Addr} {h : List PO} {H : Hp} {Q : List (V × V) → Hp → Prop}, RelS X.K T F m ρ h σ H →
    Post X.K T (fun F m ps vs => ∃ kvs : List (Key × V), vs = kvs.map (fun kv => (kV kv.1, kv.2)) ∧ RepK X.K T F m ps kvs) F m H Q Ew (cPairs fs ρ h) → tPairs (fs.map fun p => (wE X T Ew p.1, wE X T Ew p.2)) σ H Q
  | [], F, m, h, H, Q, R, p => Post.here p R.toRelH ⟨[], rfl, .nil⟩
  | (fa, fb) :: fs, F, m, h, H, Q, R, p => by
    refine ⟨F, m, ρ, h, R, (Post.bind p).mono fun x H1 ⟨F1, m1, h1, px, s1, R1, r1, w1⟩ => ?_⟩
    refine ⟨F1, m1, ρ, h1, R.of s1 R1, (Post.bind w1).mono fun y H2 ⟨F2, m2, h2, py, s2, R2, r2, w2⟩ => ?_⟩
    cases q : keyOf px with
    | none => rw [q] at w2; exact w2.elim
    | some kk =>
      rw [q] at w2
      refine pairs_run fs ((R.of s1 R1).of s2 R2) ((Post.bind w2).mono fun vs H3 ⟨F3, m3, h3, ps, s3, R3, ⟨kvs, e3, r3⟩, w3⟩ => ?_)
      subst e3
      have ex := keyOf_rep (s2.rep r1) q
      subst ex
      exact Post.here w3 R3 ⟨(tk kk, y) :: kvs, rfl, by simp only [List.map_cons, r3.1], .cons (s3.rep r2) r3.2⟩
theorem disp_go {F F2 H H2 : Hp} {m m2 : List Addr} {p : Addr} {o u : HO} {h2 : List PO} (R : ∀ a o, F a = some o → H a = some o) (hp : H p = none) (s : Step F m (upd H p o) F2 m2 H2) (R2 : RelH X.K T F2 m2 h2 H2) (hm : p ∉ m) : H2 p = some o ∧ F2 p = none ∧ p ∉ m2 ∧
    Step F m H (upd F2 p u) m2 (upd H2 p u) ∧ RelH X.K T (upd F2 p u) m2 h2 (upd H2 p u) := by
  have e1 : H2 p = some o := s.fr p o upd_same hm
  have hF : F p = none := by
    cases q : F p with
    | none => rfl
    | some z => rw [R p z q] at hp; cases hp
  have e2 : F2 p = none := by
    cases q : F2 p with
    | none => rfl
    | some z =>
      rcases s.fnew p z q with y | y | y
      · rw [hF] at y; cases y
      · rw [upd_same] at y; cases y
      · exact absurd y hm
  have e3 : p ∉ m2 := fun z => by
    rcases s.mem z with y | y
    · exact hm y
    · rw [upd_same] at y; cases y
  have sF : Same F2 (upd F2 p u) := same_new e2 u
  refine ⟨e1, e2, e3, ⟨s.fz.trans sF, s.pre, fun b z hb n => ?_, fun b z hb => ?_, fun i a hi ea => ?_, fun a z ea => ?_⟩, ⟨fun b z hb => ?_, R2.len, fun i ob a h1 h2' => ?_, R2.nd⟩⟩
  · have hb' : b ≠ p := ne_of_none hb hp
    rw [upd_ne hb']
    exact s.fr b z (by rw [upd_ne hb']; exact hb) n
  · have hb' : b ≠ p := ne_of_none hb hp
    obtain ⟨z', ez⟩ := s.dom b z (by rw [upd_ne hb']; exact hb)
    exact ⟨z', by rw [upd_ne hb']; exact ez⟩
  · have q := s.new i a hi ea
    have hb' : a ≠ p := fun z => by rw [z, upd_same] at q; cases q
    rw [upd_ne hb'] at q; exact q
  · by_cases ha : a = p
    · subst ha; exact .inr (.inl hp)
    · rw [upd_ne ha] at ea
      rcases s.fnew a z ea with y | y | y
      · exact .inl y
      · rw [upd_ne ha] at y; exact .inr (.inl y)
      · exact .inr (.inr y)
  · by_cases ha : b = p
    · subst ha; rw [upd_same] at hb ⊢; exact hb
    · rw [upd_ne ha] at hb ⊢; exact R2.same b z hb
  · have hap : a ≠ p := fun z => e3 (by rw [← z]; exact List.mem_of_getElem? h2')
    have q := R2.obj i ob a h1 h2'
    cases ob with
    | lst xs => obtain ⟨f0, ws, z, rr⟩ := q; exact ⟨by rw [upd_ne hap]; exact f0, ws, by rw [upd_ne hap]; exact z, rr.mono sF fun _ _ h => h⟩
    | dct xs => obtain ⟨f0, ws, z, kk, rr⟩ := q; exact ⟨by rw [upd_ne hap]; exact f0, ws, by rw [upd_ne hap]; exact z, kk, rr.mono sF fun _ _ h => h⟩
    | froz p' => obtain ⟨r1, r3, o, r4⟩ := q; exact ⟨r1.mono sF fun _ _ h => h, r3, o, sF _ _ r4⟩
theorem RelH.fresh {K : PySem.W.Frag} {F H : Hp} {m : List Addr} {h : List PO} (R : RelH K T F m h H) {p : Addr} (hp : H p = none) : p ∉ m := fun z => by
  obtain ⟨i, e⟩ := List.mem_iff_getElem?.mp z
  have hi : i < h.length := by
    rw [R.len]
    rcases Nat.lt_or_ge i m.length with q | q
    · exact q
    · rw [List.getElem?_eq_none q] at e; cases e
  have q := R.obj i _ p (List.getElem?_eq_getElem hi) e
  cases ho : h[i] with
  | lst xs => rw [ho] at q; obtain ⟨_, vs, z, _⟩ := q; rw [hp] at z; cases z
  | dct xs => rw [ho] at q; obtain ⟨_, vs, z, _⟩ := q; rw [hp] at z; cases z
  | froz xs => rw [ho] at q; obtain ⟨_, _, o, z⟩ := q; rw [R.same _ _ z] at hp; cases hp
theorem relS_lay {F H : Hp} {m : List Addr} {ρ : Ev} {h : List PO} {σ : St} (R : RelS X.K T F m ρ h σ H) {p : Addr} (hp : H p = none) (o : HO) : RelS X.K T F m ρ h σ (upd H p o) := by
  have hm := R.toRelH.fresh hp
  refine ⟨⟨fun b u e => ?_, R.len, fun i ob a h1 h2 => ?_, R.nd⟩, R.env⟩
  · rw [upd_ne (ne_of_none (R.same _ _ e) hp)]; exact R.same b u e
  · have hap : a ≠ p := fun z => hm (by rw [← z]; exact List.mem_of_getElem? h2)
    have q := R.obj i ob a h1 h2
    cases ob with
    | lst xs => obtain ⟨f0, ws, z, rr⟩ := q; exact ⟨f0, ws, by rw [upd_ne hap]; exact z, rr⟩
    | dct xs => obtain ⟨f0, ws, z, kk, rr⟩ := q; exact ⟨f0, ws, by rw [upd_ne hap]; exact z, kk, rr⟩
    | froz p' => exact q
theorem re_dict (h : RPs X T Ew pos keys values fs) (hall : keys.all (·.isSome) = true) (hl : keys.length = values.length) (h0 : keys ≠ []) (h15 : keys.length ≤ 15) (hfl : fs.length = keys.length) : RE X T Ew (.Dict keys values pos) (cDict fs) := by with_unfolding_all
  refine PE.imp (pe_disp h hall hl h0 h15) fun σ H Q ⟨F, m, ρ, hh, R, p⟩ pp hp => ?_
  have hm := R.toRelH.fresh hp
  have R' := relS_lay R hp (.dK [])
  have hlen : ∀ {fs : List (Ex × Ex)} {h ps h'}, cPairs fs ρ h = .ok ps h' → ps.length = fs.length := by
    intro fs
    induction fs with
    | nil => intro h ps h' e; simp [cPairs] at e; rw [e.1]; rfl
    | cons x r ih =>
      intro h ps h' e
      obtain ⟨fa, fb⟩ := x
      simp only [cPairs] at e
      cases q1 : fa ρ h with
      | bad => rw [q1] at e; cases e
      | exc _ _ => rw [q1] at e; cases e
      | ok x1 h1 =>
        rw [q1] at e
        simp only [Res.bind_ok] at e
        cases q2 : fb ρ h1 with
        | bad => rw [q2] at e; cases e
        | exc _ _ => rw [q2] at e; cases e
        | ok y1 h2 =>
          rw [q2] at e
          simp only [Res.bind_ok] at e
          cases q3 : keyOf x1 with
          | none => rw [q3] at e; cases e
          | some kk =>
            rw [q3] at e
            dsimp only at e
            cases q4 : cPairs r ρ h2 with
            | bad => rw [q4] at e; cases e
            | exc _ _ => rw [q4] at e; cases e
            | ok ps3 h3 =>
              rw [q4] at e
              cases e
              simp [ih q4]
  unfold cDict at p
  refine pairs_run fs R' ?_
  cases q : cPairs fs ρ hh with
  | bad => rw [q] at p; exact p
  | exc e1 h1 =>
    rw [q] at p
    intro F2 m2 H2 x s2 R2 rx
    obtain ⟨e1, e2, e3, s3, R3⟩ := disp_go (u := .dK []) R.same hp s2 R2 hm
    have hs : upd H2 pp (.dK []) = H2 := by
      funext b
      by_cases hb : b = pp
      · subst hb; rw [upd_same, e1]
      · rw [upd_ne hb]
    rw [hs] at s3 R3
    exact p _ m2 H2 x s3 R3 (rx.mono (same_new e2 _) fun _ _ h => h)
  | ok ps h1 =>
    rw [q] at p
    intro F2 m2 H2 vs s2 R2 ⟨kvs, ev, rk⟩
    obtain ⟨e1, e2, e3, s3, R3⟩ := disp_go (u := .dK (mergeK [] kvs)) R.same hp s2 R2 hm
    have hkl : kvs.length = ps.length := by have := congrArg List.length rk.1; simpa using this
    refine ⟨e1, kvs, ev, by rw [hkl, hlen q, hfl]; exact h15, ?_⟩
    have rm : RepK X.K T F2 m2 (mkD ps) (mergeK [] kvs) := RepK.merge rk .nil
    have sF : Same F2 (upd F2 pp (.dK (mergeK [] kvs))) := same_new e2 _
    exact p _ m2 _ _ s3 R3 (.dct (.inl upd_same) rm.1 (rm.2.mono sF fun _ _ h => h))
def cGet2 (d k x : Ex) : Ex := fun ρ h => (d ρ h).bind fun p h1 => if (dcR h1 p).isSome = true then (k ρ h1).bind fun q h2 => (x ρ h2).bind fun z h3 => match dcR h3 p with
    | some kvs => match keyOf q with
      | some kk => .ok (match valP kvs kk with | some v => derefP h3 v | none => z) h3
      | none => .bad
    | none => .bad
  else .bad
theorem re_get2 {fx : Ex} (hu : X.A.units + 64 < cLine) (ho : RE X T Ew o fo) (he : RE X T Ew e fa) (hf : RE X T Ew f fx) (mm : M2 X o "get" apos e f cpos) : RE X T Ew (.Call (.Attribute o "get" apos) [e, f] [] cpos) (cGet2 fo fa fx) := by with_unfolding_all
  refine PE.imp (pe_dget2 (by omega) ho he hf mm) fun σ H Q ⟨F, m, ρ, h, R, p⟩ => ⟨F, m, ρ, h, R, (Post.bind p).mono fun x H1 ⟨F1, m1, h1, p1, s1, R1, r1, w1⟩ => ?_⟩
  by_cases hd : (dcR h1 p1).isSome = true
  · rw [if_pos hd] at w1
    obtain ⟨kvs1, ek1⟩ := Option.isSome_iff_exists.mp hd
    obtain ⟨a, ws, rfl, rd, _, _⟩ := dcR_rep R1 r1 ek1
    refine ⟨a, rfl, .inl ⟨ws, rd⟩, F1, m1, ρ, h1, R.of s1 R1, (Post.bind w1).mono fun y H2 ⟨F2, m2, h2, p2, s2, R2, r2, w2⟩ => ?_⟩
    refine ⟨F2, m2, ρ, h2, (R.of s1 R1).of s2 R2, (Post.bind w2).mono fun z H3 ⟨F3, m3, h3, p3, s3, R3, r3, w3⟩ => ?_⟩
    cases q : dcR h3 p1 with
    | none => rw [q] at w3; exact w3.elim
    | some kvs =>
      rw [q] at w3
      dsimp only at w3
      cases q2 : keyOf p2 with
      | none => rw [q2] at w3; exact w3.elim
      | some kk =>
        rw [q2] at w3
        dsimp only at w3
        obtain ⟨a', ws', ea, rd', kq, rr⟩ := dcR_rep R3 (s3.rep (s2.rep r1)) q
        cases ea
        have ey := keyOf_rep (s3.rep r2) q2
        subst ey
        refine ⟨valV ws' (tk kk), .inl ⟨ws', tk kk, rd', rfl, rfl⟩, ?_⟩
        rcases valP_rep kq rr kk with ⟨v1, u1, e1, e2, rv⟩ | ⟨e1, e2⟩
        · rw [e1] at w3; rw [e2]; exact Post.here w3 R3 (R3.deref rv)
        · rw [e1] at w3; rw [e2]; exact Post.here w3 R3 r3
  · rw [if_neg hd] at w1; exact w1.elim
def pIsB (p q : PV) (h : List PO) : Res PV := match p, q with
  | .bl b, .bl c => .ok (.bl (b == c)) h
  | _, _ => .bad
theorem prim_is {K : PySem.W.Frag} {T : Tab} : Prim2 K T (fun x y H Q => y = .non ∧ Q (.bl (decide (x = .non))) H) pIs := by
  intro F m h H x y p q Q Ew R rp rq w
  unfold pIs at w
  split at w
  · cases rq; exact ⟨rfl, by rw [isNon_rep rp]; exact post_ok w R (.bl _)⟩
  · exact w.elim
end
end L3
set_option Elab.async false
set_option linter.all false
set_option maxRecDepth 100000
set_option maxHeartbeats 4000000
set_option autoImplicit false
namespace L3
open PySem PySem.Spec PyProof.Rows L2
def cChain (g g' : PV → PV → List PO → Res PV) (a b c : Ex) : Ex := fun ρ h => (a ρ h).bind fun x h1 => (b ρ h1).bind fun y h2 => (g x y h2).bind fun z h3 => match z with
  | .bl k => if k = true then (c ρ h3).bind fun u h4 => g' y u h4 else .ok (.bl false) h3
  | _ => .bad
section
variable {X : Cx} {T : Tab} {Ew : VK} {a b c : Expr} {fa fb fc : Ex} {pos : Pos} {op op' : CmpOp} {r r' : R2} {g g' : PV → PV → List PO → Res PV}
theorem chain_w (P : Prim2 X.K T r g) (P' : Prim2 X.K T r' g') {σ : St} {H : Hp} {Q : VK} (w : wE X T Ew (cChain g g' fa fb fc) σ H Q) : tChain r r' (wE X T Ew fa) (wE X T Ew fb) (wE X T Ew fc) σ H Q := by
  obtain ⟨F, m, ρ, h, R, p⟩ := w
  refine ⟨F, m, ρ, h, R, (Post.bind p).mono fun x H1 ⟨F1, m1, h1, px, s1, R1, r1, w1⟩ => ?_⟩
  refine ⟨F1, m1, ρ, h1, R.of s1 R1, (Post.bind w1).mono fun y H2 ⟨F2, m2, h2, py, s2, R2, r2, w2⟩ => ?_⟩
  refine P F2 m2 h2 H2 x y px py _ Ew R2 (s2.rep r1) r2 ((Post.bind (R := RepV X.K T) w2).mono fun z H3 ⟨F3, m3, h3, pz, s3, R3, r3, w3⟩ => ?_)
  cases r3 with
  | bl k =>
    refine ⟨k, rfl, ?_⟩
    cases k with
    | false => exact iteF (Post.here w3 R3 (.bl _))
    | true =>
      refine iteT ⟨F3, m3, ρ, h3, ((R.of s1 R1).of s2 R2).of s3 R3, (Post.bind w3).mono fun u H4 ⟨F4, m4, h4, pu, s4, R4, r4, w4⟩ => ?_⟩
      exact P' F4 m4 h4 H4 y u py pu Q Ew R4 (s4.rep (s3.rep r2)) r4 w4
  | _ => exact w3.elim
theorem rt_chain (ho : OpR X (compareOp op) r) (P : Prim2 X.K T r g) (ho' : OpR X (compareOp op') r') (P' : Prim2 X.K T r' g') (ha : RE X T Ew a fa) (hb : RE X T Ew b fb) (hc : RE X T Ew c fc) (hm : lastMarks [op, op'] [b, c] = false := by with_unfolding_all rfl) : RT X T Ew (.Compare a [op, op'] [b, c] pos) (tCmpE (cChain g g' fa fb fc)) := by with_unfolding_all
  refine PT.imp (pt_chain ho ho' ha hb hc hm) fun σ H Q ⟨F, m, ρ, h, R, p⟩ => ?_
  have p' := (Post.bind (R := RepV X.K T) p).mono (Q' := fun x H1 => ∃ k, x = .bl k ∧ Q k H1) fun x H1 ⟨F1, m1, h1, p1, s1, R1, r1, w1⟩ => by
    cases r1 with
    | bl k => exact ⟨k, rfl, Post.here w1 R1 rfl⟩
    | _ => exact w1.elim
  exact chain_w P P' ⟨F, m, ρ, h, R, p'⟩
end
end L3
set_option Elab.async false
set_option linter.all false
set_option maxRecDepth 100000
set_option maxHeartbeats 4000000
set_option autoImplicit false
namespace L3
open PySem PySem.Spec PyProof.Rows L2
def spLaw (K : PySem.W.Frag) : Sp := fun vs H Q _ => ∃ (a : Addr) (ns : List Int), vs = [.ref a] ∧ SqL K H a (ns.map V.int) ∧ ns.length ≤ 63 ∧ ∀ H', Q (.bl true) H'
theorem reps_ints {K : PySem.W.Frag} {T : Tab} {F : Hp} {m : List Addr} : ∀ ns : List Int, RepVs K T F m (ns.map PV.int) (ns.map V.int)
  | [] => .nil
  | n :: r => .cons (.int n) (reps_ints r)
theorem spLaw_imp {K : PySem.W.Frag} {T : Tab} {fn : List PV → Out} (h : ∀ ns : List Int, ns.length ≤ 63 → fn [.giv (ns.map PV.int)] = .ok (.bl true)) : ∀ vs H Q E, spLaw K vs H Q E → spP K T 1 fn vs H Q E := by
  rintro vs H Q E ⟨a, ns, rfl, sq, hl, q⟩
  refine ⟨fun b => if b = a then H a else none, [.giv (ns.map PV.int)], .bl true, rfl, fun b o e => ?_, .cons (.giv ?_ (reps_ints ns)) .nil, h ns hl, fun F' H' x _ _ _ _ r => ?_⟩
  · by_cases hb : b = a
    · subst hb; have e' : H b = some o := by simpa using e
      exact e'
    · have e' : (none : Option HO) = some o := by simpa [hb] using e
      cases e'
  · rcases sq with (sq | ⟨o, sq⟩) | sq
    · exact .inl (.inl (by simpa using sq))
    · exact .inl (.inr ⟨o, by simpa using sq⟩)
    · exact .inr sq
  · cases r; exact q H'
theorem law_walk {l : PySem.W.OpenLaw} {k : Nat} {q : Program} {loose : List Str} {XP : (Str → Option Value) → Heap → Prop} {YP : World → Heap → Prop} {d : DefRec} {K : Params → PySem.W.Frag} {x : Str} (hn : l.most = some 63) (hdf : d.params.defaults = []) (hr : Room k callerA)
    (hY : ∀ (w : World) (h : Heap), YP w h → (K w.params).In h)
    (F : ∀ (w : World) (mg : Str → Option Value) (fa : Addr) (h : Heap), (K w.params).In h → h.Ns mainGlobals mg → mg d.name = some (.ref fa) →
      ∃ fd : FuncData, (∀ (s : Shared) (u : Value), BindsTo s fd ⟨[u], []⟩ [(x, u)]) ∧ ∀ base : Heap, (K w.params).In base → base.Ns mainGlobals mg → FnOk l.prog w (K w.params) mg base CX0 k fa fd [x] (spLaw (K w.params))) :
    PySem.W.WalkO q loose XP YP l.row.toRowW d [] (fun f vs => PySem.call f vs) :=
  L2.walk_of (n := 63) (k := k) (x := x) (CX := fun _ => CX0) (sp := fun w => spLaw (K w.params)) hn (by decide) hdf hr hY F (fun _ _ a ns hl _ hS => ⟨a, ns, rfl, hS, hl, fun _ => rfl⟩) fun _ _ _ _ _ z => z
end L3
set_option Elab.async false
set_option linter.all false
set_option maxRecDepth 100000
set_option maxHeartbeats 4000000
set_option autoImplicit false
namespace L2
open PySem PySem.Spec PyProof.Rows
section
variable {X : Cx}
theorem call_intT : CallR X (.type "int") (fun xs H Q => ∃ z n, xs = [.str z] ∧ PySem.intText? z = some n ∧ z.length ≤ 640 ∧ Q (.int n) H) := by
  intro pins s σ H xs us Q I r h
  obtain ⟨z, n, rfl, hn, hl, q⟩ := h
  obtain ⟨u, rfl, ru⟩ := r.one
  obtain ⟨t, rfl⟩ := ru
  exact PySem.W.KIN.call_text hn hl ⟨.int _, H, I.tok _, ⟨_, rfl⟩, q⟩
end
end L2
namespace L3
open PySem PySem.Spec PyProof.Rows L2
section
variable {X : Cx} {T : Tab} {Ew : VK} {pos p0 : Pos}
def find3L (x y : List Nat) (i : Int) : Int := Txt.find3 (S x) (S y) i
def starts3L (x y : List Nat) (i : Int) : Bool := Txt.startswith3 (S x) (S y) i
def startsL (x y : List Nat) : Bool := Txt.startswith (S x) (S y)
def occL (x y : List Nat) : List Nat := Builtin.Str.occurrences (S x) (S y) 0 (S x).length 1
def intL (x : List Nat) : Option Int := PySem.intText? (S x)
def pFind3 (p : PV) (ps : List PV) (h : List PO) : Res PV := match p, ps with
  | .str x, [.str y, .int i] => .ok (.int (find3L x y i)) h
  | _, _ => .bad
def pStarts3 (p : PV) (ps : List PV) (h : List PO) : Res PV := match p, ps with
  | .str x, [.str y, .int i] => .ok (.bl (starts3L x y i)) h
  | _, _ => .bad
def pStarts (p : PV) (ps : List PV) (h : List PO) : Res PV := match p, ps with
  | .str x, [.str y] => .ok (.bl (startsL x y)) h
  | _, _ => .bad
def pIndexS (p : PV) (ps : List PV) (h : List PO) : Res PV := match p, ps with
  | .str x, [.str y] => match occL x y with
    | i :: _ => .ok (.int (i : Nat)) h
    | [] => .bad
  | _, _ => .bad
def pIntT (ps : List PV) (h : List PO) : Res PV := match ps with
  | [.str x] => match intL x with
    | some n => if x.length ≤ 640 then .ok (.int n) h else .bad
    | none => .bad
  | _ => .bad
def pMin (ps : List PV) (h : List PO) : Res PV := match ps with
  | [.int i, .int j] => .ok (.int (if j < i then j else i)) h
  | _ => .bad
theorem prim_starts {K : PySem.W.Frag} : PrimM K T (fun x xs H Q => ∃ z y, x = .str z ∧ xs = [.str y] ∧ Q (.bl (Txt.startswith z y)) H) pStarts := by
  intro F m h H x xs p ps Q Ew R rp rs w
  unfold pStarts at w
  split at w
  · cases rp
    obtain ⟨y, rfl, ry⟩ := rs.one
    cases ry
    exact ⟨_, _, rfl, rfl, post_ok w R (.bl _)⟩
  · exact w.elim
theorem re_intT {e : Expr} {es : List Expr} {f : Ax} (hg : Gl X "int") (hm : X.mg "int" = none) (ha : RA X T Ew (e :: es) f)
    (he : starEach (e :: es) X.env = (false, eval e X.env) :: starEach es X.env := by rfl) (hpl : (backTo pos (starEach es X.env)).any (·.1) = false := by rfl) :
    RE X T Ew (.Call (.Name "int" p0) (e :: es) [] pos) (cN pIntT f) := by with_unfolding_all exact (re_callTy call_intT (by
  intro F m h H xs ps Q Ew R rp w
  unfold pIntT at w
  split at w
  · obtain ⟨x, rfl, rx⟩ := rp.one
    cases rx
    split at w
    · rename_i e
      split at w
      · rename_i hl
        exact ⟨_, _, rfl, e, by rw [S_len]; exact hl, post_ok w R (.int _)⟩
      · exact w.elim
    · exact w.elim
  · exact w.elim) hg hm (by decide +kernel) ha (by decide) (by decide) he hpl)
end
end L3
set_option Elab.async false
set_option linter.all false
set_option maxRecDepth 100000
set_option maxHeartbeats 4000000
set_option autoImplicit false
namespace L2
open PySem PySem.Spec PyProof.Rows PySem.Builtin PySem.Builtin.Str
section
variable {X : Cx}
theorem vals_strs : ∀ l : List (Str × Tok), Vals ((l.map (·.1)).map V.str) (strValues l)
  | [] => .nil
  | (x, t) :: r => .cons ⟨t, rfl⟩ (vals_strs r)
theorem mt_split : MtR X "str.split" (fun x xs H Q => ∃ z y, x = .str z ∧ xs = [.str y] ∧ (y.length == 0) = false ∧ z.length + 2 ≤ sizeLine ∧ ∀ l, H l = none → Q (.ref l) (upd H l (.lst ((Txt.split z y).map V.str)))) := by
  intro pins s σ H x xs v us Q I rx rv h
  obtain ⟨z, y, rfl, rfl, hy, hsz, q⟩ := h
  obtain ⟨t, rfl⟩ := rx
  obtain ⟨u, rfl, ru⟩ := rv.one
  obtain ⟨t2, rfl⟩ := ru
  have fin : ∀ (l : List (Str × Tok)) (k : Nat), l.map (·.1) = Txt.split z y → l.length ≤ sizeLine → EP X pins σ Q (.ref s.heap.objs.size) { s with heap := s.heap.push { cls := .type "list", data := .seq (strValues l).toArray }, toks := k } := by
    intro l k e hl
    have r := vals_strs l
    rw [e] at r
    refine ⟨.ref s.heap.objs.size, _, I.laid (o := .lst ((Txt.split z y).map V.str)) (t' := k) (fun b u e => Heap.get?_push_of_some _ e) (Nat.le_refl _) ⟨?_, strValues l, _, r, Heap.get?_push_size _ rfl⟩, rfl, q _ (I.hok.fresh (Nat.le_refl _))⟩
    rw [List.length_map, ← e, List.length_map]; exact hl
  have hn : (partsBetween z (occurrences z y 0 z.length (z.length + 1)) y.length).length ≤ sizeLine := by
    have e1 := StrLaws.occ_length_le z y 0 z.length (z.length + 1)
    rw [length_partsBetween]; omega
  cases h1 : (decide (z.length < y.length) || decide (strKind z < strKind y))
  · cases hf : (occurrences z y 0 z.length (z.length + 1)).isEmpty
    · refine call_meets F.slot_str_split (typeIs_str _ _ _) F.entry_str_split (F.args_str_split_2 _ _) (meets_str_split_sep z y t t2 h1 hy hf (by omega) hn) ?_
      show wants (EP X pins σ Q) X.xe _ { s with toks := _, heap := s.heap.push { cls := .type "list", data := .seq (strsFrom s.toks (partsBetween z (occurrences z y 0 z.length (z.length + 1)) y.length)).toArray } }
      rw [strsFrom_eq]
      have nt := numbered_texts s.toks (partsBetween z (occurrences z y 0 z.length (z.length + 1)) y.length)
      refine fin (numbered s.toks _) _ (nt.trans ((if_neg (ne_true_of_eq_false h1)).trans (if_neg (ne_true_of_eq_false hf))).symm) ?_
      have := congrArg List.length nt
      rw [List.length_map] at this
      rw [this]; exact hn
    · exact call_meets F.slot_str_split (typeIs_str _ _ _) F.entry_str_split (F.args_str_split_2 _ _) (meets_str_split_not_found z y t t2 h1 hy hf)
        (fin [(z, t)] s.toks ((if_neg (ne_true_of_eq_false h1)).trans (if_pos hf)).symm (by show 1 ≤ sizeLine; decide))
  · exact call_meets F.slot_str_split (typeIs_str _ _ _) F.entry_str_split (F.args_str_split_2 _ _) (meets_str_split_cannot_occur z y t t2 h1)
      (fin [(z, t)] s.toks (if_pos h1).symm (by show 1 ≤ sizeLine; decide))
theorem mt_partition : MtR X "str.partition" (fun x xs H Q => ∃ z y, x = .str z ∧ xs = [.str y] ∧ (y.length == 0) = false ∧ z.length ≤ sizeLine ∧ ∀ l, H l = none → Q (.ref l) (upd H l (.tup [.str (Txt.partition z y).1, .str (Txt.partition z y).2.1, .str (Txt.partition z y).2.2]))) := by
  intro pins s σ H x xs v us Q I rx rv h
  obtain ⟨z, y, rfl, rfl, hy, hsz, q⟩ := h
  obtain ⟨t, rfl⟩ := rx
  obtain ⟨u, rfl, ru⟩ := rv.one
  obtain ⟨t2, rfl⟩ := ru
  refine call_meets F.slot_str_partition (typeIs_str _ _ _) F.entry_str_partition (F.args_str_partition_2 _ _) (meets_str_partition z y t t2 hy hsz) ?_
  have fin : ∀ (a b c : Str) (ta tb tc : Tok) (k : Nat), Txt.partition z y = (a, b, c) → EP X pins σ Q (.ref s.heap.objs.size) { s with toks := k, heap := s.heap.push { cls := .type "tuple", data := .seq [.str a ta, .str b tb, .str c tc].toArray } } := by
    intro a b c ta tb tc k e
    rw [e] at q
    exact ⟨.ref s.heap.objs.size, _, I.laid (o := .tup [.str a, .str b, .str c]) (t' := k) (fun b u e => Heap.get?_push_of_some _ e) (Nat.le_refl _) ⟨by show 3 ≤ sizeLine; decide, [.str a ta, .str b tb, .str c tc], .cons ⟨_, rfl⟩ (.cons ⟨_, rfl⟩ (.cons ⟨_, rfl⟩ .nil)), IsTup.new _ _⟩, rfl, q _ (I.hok.fresh (Nat.le_refl _))⟩
  cases e : occurrences z y 0 z.length 1 with
  | nil => exact fin z Str.empty Str.empty _ _ _ _ (by unfold Txt.partition; rw [e])
  | cons i r => exact fin _ _ _ _ _ _ _ (by unfold Txt.partition; rw [e])
theorem bools_of : ∀ {bs : List Bool} {us : List Value}, Vals (bs.map V.bl) us → LSm.BoolsAre us bs
  | [], _, .nil => .nil
  | b :: r, _, .cons e t => by
    cases e
    exact .cons b (bools_of t)
theorem call_all (hc : X.calm = true) : CallR X (.builtin "all") (fun xs H Q => ∃ (p : Addr) (bs : List Bool), xs = [.ref p] ∧ SqL X.K H p (bs.map V.bl) ∧ Q (.bl (bs.all id)) H) := by
  intro pins s σ H xs us Q I r h
  obtain ⟨p, bs, rfl, hq, q⟩ := h
  obtain ⟨u, rfl, ru⟩ := r.one
  cases ru
  obtain ⟨its, r', pl, hz⟩ := I.list hq
  have hl := pl.isList
  have hb := bools_of r'
  have hh : X.A.handled = none := I.ok.hd hc
  have hlt : p < s.heap.objs.size := by obtain ⟨_, e, _⟩ := hl; exact Heap.lt_size e
  refine call_all_walk (wpAny_pyIter_list hl ?_)
  refine ⟨s.heap.objs.size, [s.heap.objs.size, p], [s.heap.objs.size], its.toArray.size, _, _, fun i => (bs[i]?).getD true, rfl, Walks.list (A := X.A.in1) hh _ p (Nat.ne_of_lt hlt) its.toArray,
    ⟨⟨_, Heap.get?_push_size _ rfl, rfl, rfl⟩, hl.push _⟩, fun i v s' Q' E' hP hQ => ?_, fun h' tk hk => ?_⟩
  · obtain ⟨b, e, rfl⟩ := hb.get i v (by simpa using hP)
    simp only [e, Option.getD_some] at hQ
    exact wpAny_truthy_bool hQ
  · have e : ((List.range its.toArray.size).all fun i => (bs[i]?).getD true) = bs.all id := by
      rw [List.size_toArray, hb.length]; exact LSm.range_all bs
    rw [e]
    exact ⟨.bl _, H, I.kept (t' := tk) (LSm.kept_iter hk), rfl, q⟩
theorem call_repr (hg : X.A.guards = some []) (hu : X.A.units + 64 < cLine) : CallR X (.builtin "repr") (fun xs H Q => ∃ (a : Addr) (d : PyData), xs = [.ref a] ∧ L3.RdD X.K H (.ref a) d ∧ d.showable = true ∧ d.hasDict = false ∧ d.depth ≤ 60 ∧ d.shown.length ≤ sizeLine ∧ Q (.str d.shown) H) := by
  intro pins s σ H xs us Q I r h
  obtain ⟨a, d, rfl, rd, h1, h2, h3, h4, q⟩ := h
  obtain ⟨u, rfl, ru⟩ := r.one
  obtain ⟨as, ra⟩ := rd.reads I ru
  cases ru
  exact repr_of_reads' ra h1 (fun z => by rw [h2] at z; cases z) hg (by omega) (fun _ _ e => e) (fun h' u tk hk => ⟨.str _, H, I.kept (t' := tk) hk, ⟨u, rfl⟩, q⟩) h4
def kvD (D : List (List Nat × List Nat)) : List (Key × V) := D.map fun p => (.inr (L3.S p.1), .str (L3.S p.2))
structure GDict (P : Program) (w : World) (K : PySem.W.Frag) (a : Addr) (D : List (List Nat × List Nat)) : Prop where
  ns : (a == sysModules) = false
  ex : ∃ (o : Obj) (es : Array DictEntry) (ep : Nat) (vs : List (Key × Value)), K.lookup a = some o ∧ o.ExactDict ∧ o.data = .dict es ep ∧ KeysOf (mixKind P w) es ∧ Pairs (mixKind P w) es.toList vs ∧ (vs.map (·.1)).Nodup ∧ KV (kvD D) vs
theorem GDict.of {P : Program} {w : World} {K : PySem.W.Frag} {a : Addr} {D : List (List Nat × List Nat)} (g : GDict P w K a D) {h : Heap} (k : K.In h) : ∃ vs, KV (kvD D) vs ∧ h.DictOf (mixKind P w) a vs := by
  obtain ⟨o, es, ep, vs, e1, e2, e3, e4, e5, e6, e7⟩ := g.ex
  exact ⟨vs, e7, o, es, ep, k a o e1, e2, e3, e4, e5, e6⟩
def rInG (a : Addr) (D : List (List Nat × List Nat)) : R2 := fun x y H Q => ∃ k, x = kV k ∧ y = .ref a ∧ Q (.bl (valV (kvD D) k).isSome) H
theorem op_inG {a : Addr} {D : List (List Nat × List Nat)} (g : GDict X.prog X.w X.K a D) : OpR X (compareOp .In) (rInG a D) := by
  intro pins s σ H x y v u Q I rx ry h
  obtain ⟨k, rfl, rfl, q⟩ := h
  cases ry
  obtain ⟨vs, rel, dd⟩ := g.of I.kIn
  refine wpAny_in_of (kV_is rx) g.ns dd.mapOf ?_
  rw [← (rel.val k).isSome_eq]
  exact ⟨.bl _, H, I.tok _, rfl, q⟩
theorem ix_G {a : Addr} {D : List (List Nat × List Nat)} (g : GDict X.prog X.w X.K a D) : IxR X (fun x y H Q => ∃ k v, x = .ref a ∧ y = kV k ∧ valV (kvD D) k = some v ∧ Q v H) := by
  intro value slice pins s σ H x y v u Q I rx ry q hs
  obtain ⟨k, v1, rfl, rfl, l, q⟩ := q
  cases rx
  obtain ⟨vs, rel, dd⟩ := g.of I.kIn
  have hT : s.TypeIs (.ref a) "dict" := dd.typeIs
  obtain ⟨w', hw, rw'⟩ := RelO.some_of (v := v1) (o := valueAt vs k) (by rw [← l]; exact rel.val k)
  unfold subscriptTail
  refine wpAny_bind ?_
  rw [getitemInPython_of_ne hT.not_modules]
  refine wpAny_bind (wpAny_specialOf hT PySem.F.slot_dict_getitem.lookup ?_)
  have fin : wpAny (model X.prog X.w) X.A (subscripted slice false (.ref a) u) (fun r s₃ => wpAny (model X.prog X.w) X.A (letTemporaryGo value (.ref a) r >>= fun _ => pure r) (EP X pins σ Q) X.xe s₃) X.xe s := by
    rw [hs]
    exact wpAny_operating (wpAny_mono (wpAny_getItem_of (E := X.xe) (Q := EP X pins σ Q) (kV_is ry) dd.mapOf hw ⟨v1, H, I.tok _, rw', q⟩) (fun r s₃ h₃ => wpAny_bind (wpAny_letTemporaryGo (wpAny_pure h₃))) fun _ _ x => x)
  first
    | exact wpAny_pure (wpAny_bind fin)
    | exact wpAny_bind (wpAny_pure (wpAny_bind fin))
    | exact wpAny_bind fin
end
end L2
namespace L3
open PySem PySem.Spec PyProof.Rows L2
section
variable {X : Cx} {T : Tab} {Ew : VK} {pos p0 : Pos}
def splitL (x y : List Nat) : List (List Nat) := (Txt.split (S x) (S y)).map fun z => z.cps.toList
def partL (x y : List Nat) : List (List Nat) := [(Txt.partition (S x) (S y)).1.cps.toList, (Txt.partition (S x) (S y)).2.1.cps.toList, (Txt.partition (S x) (S y)).2.2.cps.toList]
def pSplit (p : PV) (ps : List PV) (h : List PO) : Res PV := match p, ps with
  | .str x, [.str y] => if y ≠ [] ∧ x.length + 2 ≤ sizeLine then .ok (.lst ((splitL x y).map PV.str)) h else .bad
  | _, _ => .bad
def pPart (p : PV) (ps : List PV) (h : List PO) : Res PV := match p, ps with
  | .str x, [.str y] => if y ≠ [] ∧ x.length ≤ sizeLine then .ok (.tup ((partL x y).map PV.str)) h else .bad
  | _, _ => .bad
theorem rep_S {K : PySem.W.Frag} {F : Hp} {m : List Addr} (z : Str) : RepV K T F m (.str z.cps.toList) (.str z) := by
  have := RepV.str (K := K) (T := T) (F := F) (m := m) z.cps.toList
  rw [S_of] at this
  exact this
theorem reps_S {K : PySem.W.Frag} {F : Hp} {m : List Addr} : ∀ l : List Str, RepVs K T F m ((l.map fun z => z.cps.toList).map PV.str) (l.map V.str)
  | [] => .nil
  | z :: r => .cons (rep_S z) (reps_S r)
theorem S_ne {b : List Nat} (h : b ≠ []) : ((S b).length == 0) = false := by
  rw [S_len]
  cases b with
  | nil => exact absurd rfl h
  | cons _ _ => rfl
theorem prim_split {K : PySem.W.Frag} : PrimM K T (fun x xs H Q => ∃ z y, x = .str z ∧ xs = [.str y] ∧ (y.length == 0) = false ∧ z.length + 2 ≤ sizeLine ∧ ∀ l, H l = none → Q (.ref l) (upd H l (.lst ((Txt.split z y).map V.str)))) pSplit := by
  intro F m h H x xs p ps Q Ew R rp rs w
  unfold pSplit at w
  split at w
  · rename_i a b
    cases rp
    obtain ⟨y, rfl, ry⟩ := rs.one
    cases ry
    by_cases c : b ≠ [] ∧ a.length + 2 ≤ sizeLine
    · rw [if_pos c] at w
      exact ⟨_, _, rfl, rfl, S_ne c.1, by rw [S_len]; exact c.2, post_lst w R (reps_S _)⟩
    · rw [if_neg c] at w; exact w.elim
  · exact w.elim
theorem prim_part {K : PySem.W.Frag} : PrimM K T (fun x xs H Q => ∃ z y, x = .str z ∧ xs = [.str y] ∧ (y.length == 0) = false ∧ z.length ≤ sizeLine ∧ ∀ l, H l = none → Q (.ref l) (upd H l (.tup [.str (Txt.partition z y).1, .str (Txt.partition z y).2.1, .str (Txt.partition z y).2.2]))) pPart := by
  intro F m h H x xs p ps Q Ew R rp rs w
  unfold pPart at w
  split at w
  · rename_i a b
    cases rp
    obtain ⟨y, rfl, ry⟩ := rs.one
    cases ry
    by_cases c : b ≠ [] ∧ a.length ≤ sizeLine
    · rw [if_pos c] at w
      exact ⟨_, _, rfl, rfl, S_ne c.1, by rw [S_len]; exact c.2, post_tup w R (.cons (rep_S _) (.cons (rep_S _) (.cons (rep_S _) .nil)))⟩
    · rw [if_neg c] at w; exact w.elim
  · exact w.elim
def boolsOf : List PV → Option (List Bool)
  | [] => some []
  | .bl b :: r => (boolsOf r).map (b :: ·)
  | _ :: _ => none
theorem boolsOf_rep {K : PySem.W.Frag} {F : Hp} {m : List Addr} : ∀ {ps : List PV} {vs : List V} {bs : List Bool}, boolsOf ps = some bs → RepVs K T F m ps vs → vs = bs.map V.bl
  | [], _, bs, e, .nil => by simp [boolsOf] at e; subst e; rfl
  | p :: r, _, bs, e, .cons rp rr => by
    cases rp with
    | bl b =>
      simp only [boolsOf, Option.map_eq_some_iff] at e
      obtain ⟨b2, e2, rfl⟩ := e
      rw [boolsOf_rep e2 rr]; rfl
    | _ => simp [boolsOf] at e
def pAll (ps : List PV) (h : List PO) : Res PV := match ps with
  | [p] => match lsR h p with
    | some xs => match boolsOf xs with
      | some bs => .ok (.bl (bs.all id)) h
      | none => .bad
    | none => .bad
  | _ => .bad
theorem re_all {e : Expr} {es : List Expr} {f : Ax} (hg : Gl X "all") (hm : X.mg "all" = none) (ha : RA X T Ew (e :: es) f) (hc : X.calm = true := by rfl)
    (he : starEach (e :: es) X.env = (false, eval e X.env) :: starEach es X.env := by rfl) (hpl : (backTo pos (starEach es X.env)).any (·.1) = false := by rfl) :
    RE X T Ew (.Call (.Name "all" p0) (e :: es) [] pos) (cN pAll f) := by with_unfolding_all exact (
    re_callB (call_all hc) (by
  intro F m h H xs ps Q Ew R rp w
  unfold pAll at w
  split at w
  · rename_i p
    obtain ⟨x, rfl, rx⟩ := rp.one
    cases e1 : lsR h p with
    | none => rw [e1] at w; exact w.elim
    | some ys =>
      rw [e1] at w
      cases e2 : boolsOf ys with
      | none => simp only [e2] at w; exact w.elim
      | some bs =>
        simp only [e2] at w
        obtain ⟨a, vs, rfl, ea, ra⟩ := lsR_rep R rx e1
        have ev := boolsOf_rep e2 ra
        subst ev
        exact ⟨a, bs, rfl, ea, post_ok w R (.bl _)⟩
  · exact w.elim) hg hm (by decide +kernel) ha (by decide) (by decide) he hpl)
def okR (d : PyData) : Bool := d.canLay0 && decide (d.depth ≤ 60) && d.showable && !d.hasDict && decide (d.shown.length ≤ sizeLine)
def pRepr (ps : List PV) (h : List PO) : Res PV := match ps with
  | [.tup xs] => if okR (toD (.tup xs)) = true then .ok (.str (toD (.tup xs)).shown.cps.toList) h else .bad
  | _ => .bad
theorem re_repr {e : Expr} {es : List Expr} {f : Ax} {k : Nat} (hr : Room k X.A) (hg : Gl X "repr") (hm : X.mg "repr" = none) (ha : RA X T Ew (e :: es) f)
    (he : starEach (e :: es) X.env = (false, eval e X.env) :: starEach es X.env := by rfl) (hpl : (backTo pos (starEach es X.env)).any (·.1) = false := by rfl) :
    RE X T Ew (.Call (.Name "repr" p0) (e :: es) [] pos) (cN pRepr f) := by with_unfolding_all exact (
    re_callB (call_repr hr.gd hr.units) (by
  intro F m h H xs ps Q Ew R rp w
  unfold pRepr at w
  split at w
  · rename_i ys
    obtain ⟨x, rfl, rx⟩ := rp.one
    by_cases c : okR (toD (.tup ys)) = true
    · rw [if_pos c] at w
      simp only [okR, Bool.and_eq_true, decide_eq_true_eq, Bool.not_eq_true'] at c
      obtain ⟨⟨⟨⟨c1, c2⟩, c3⟩, c4⟩, c5⟩ := c
      have rd := RepV.rd R.same rx c1
      cases rx with
      | tup ee rr => exact ⟨_, _, rfl, rd, c3, c4, c2, c5, post_ok w R (rep_S _)⟩
    · rw [if_neg c] at w; exact w.elim
  · exact w.elim) hg hm (by decide +kernel) ha (by decide) (by decide) he hpl)
def GTup (K : PySem.W.Frag) (a : Addr) (ls : List (List Nat)) : Prop := ∃ (o : Obj) (its : Array Value) (n : Nat), K.lookup a = some o ∧ o.cls = .type "tuple" ∧ o.data = .seq its n ∧ its.size ≤ sizeLine ∧ Vals (ls.map fun l => V.str (S l)) its.toList
theorem reps_ls {K : PySem.W.Frag} {F : Hp} {m : List Addr} : ∀ ls : List (List Nat), RepVs K T F m (ls.map PV.str) (ls.map fun l => V.str (S l))
  | [] => .nil
  | l :: r => .cons (.str l) (reps_ls r)
theorem re_globT {x : Str} {a : Addr} {ls : List (List Nat)} (hg : Gl X x) (hm : X.mg x = some (.ref a)) (g : GTup X.K a ls) (hd : (x == ("__debug__" : Str)) = false := by decide) : RE X T Ew (.Name x pos) (cK (.tup (ls.map PV.str))) := by with_unfolding_all exact (
    re_const (pe_glob (v := .ref a) hg hm rfl hd) fun _ _ => .tup (.inr g) (reps_ls ls))
theorem re_globC {x : Str} {a : Addr} {C : Nat} (hg : Gl X x) (hm : X.mg x = some (.ref a)) (hT : T C = some a) (hd : (x == ("__debug__" : Str)) = false := by decide) : RE X T Ew (.Name x pos) (cK (.cls C)) := by with_unfolding_all exact (
    re_const (pe_glob (v := .ref a) hg hm rfl hd) fun _ _ => .cls hT)
def lookD (D : List (List Nat × List Nat)) (x : List Nat) : Option (List Nat) := (D.find? fun kv => decide (kv.1 = x)).map (·.2)
theorem lookD_val (x : List Nat) : ∀ D : List (List Nat × List Nat), valV (kvD D) (.inr (S x)) = (lookD D x).map fun l => V.str (S l)
  | [] => rfl
  | (k, v) :: r => by
    have ih := lookD_val x r
    by_cases e : k = x
    · subst e
      simp [kvD, valV, lookD]
    · have e2 : ¬ S k = S x := fun z => e (S_inj z)
      unfold kvD valV lookD at ih ⊢
      rw [List.map_cons, List.find?_cons, List.find?_cons]
      simp only [Sum.inr.injEq, e, e2, decide_false]
      exact ih
def pInG (D : List (List Nat × List Nat)) (C : Nat) (p q : PV) (h : List PO) : Res PV := match p, q with
  | .str x, .cls C' => if C' = C then .ok (.bl (lookD D x).isSome) h else .bad
  | _, _ => .bad
def pIxG (D : List (List Nat × List Nat)) (C : Nat) (p q : PV) (h : List PO) : Res PV := match p, q with
  | .cls C', .str x => if C' = C then (match lookD D x with | some l => .ok (.str l) h | none => .bad) else .bad
  | _, _ => .bad
theorem prim_inG {K : PySem.W.Frag} {a : Addr} {C : Nat} {D : List (List Nat × List Nat)} (hT : T C = some a) : Prim2 K T (rInG a D) (pInG D C) := by
  intro F m h H x y p q Q Ew R rp rq w
  unfold pInG at w
  split at w
  · rename_i l C'
    by_cases e : C' = C
    · subst e
      rw [if_pos rfl] at w
      cases rp
      cases rq with
      | cls c =>
        rw [hT] at c
        cases c
        refine ⟨.inr (S l), rfl, rfl, ?_⟩
        rw [lookD_val, Option.isSome_map]
        exact post_ok w R (.bl _)
    · rw [if_neg e] at w; exact w.elim
  · exact w.elim
theorem prim_ixG {K : PySem.W.Frag} {a : Addr} {C : Nat} {D : List (List Nat × List Nat)} (hT : T C = some a) : Prim2 K T (fun x y H Q => ∃ k v, x = .ref a ∧ y = kV k ∧ valV (kvD D) k = some v ∧ Q v H) (pIxG D C) := by
  intro F m h H x y p q Q Ew R rp rq w
  unfold pIxG at w
  split at w
  · rename_i C' l
    by_cases e : C' = C
    · subst e
      rw [if_pos rfl] at w
      cases rq
      cases rp with
      | cls c =>
        rw [hT] at c
        cases c
        cases z : lookD D l with
        | none => rw [z] at w; exact w.elim
        | some v =>
          rw [z] at w
          exact ⟨.inr (S l), .str (S v), rfl, rfl, by rw [lookD_val, z]; rfl, post_ok w R (.str _)⟩
    · rw [if_neg e] at w; exact w.elim
  · exact w.elim
end
end L3
namespace L3
open PySem PySem.Spec PyProof.Rows L2
section
variable {X : Cx} {T : Tab} {Ew : VK} {a b : Expr} {fa fb : Ex} {pos : Pos}
theorem re_ixG {A : Addr} {C : Nat} {D : List (List Nat × List Nat)} (g : GDict X.prog X.w X.K A D) (hT : T C = some A) (ha : RE X T Ew a fa) (hb : RE X T Ew b fb) (hs : ∀ o i, subscripted b false o i = operate [o, i] (getItem o i) := by intro _ _; rfl) : RE X T Ew (.Subscript a b pos) (c2 (pIxG D C) fa fb) := by with_unfolding_all exact (
  PE.imp (pe_ix (ix_G g) ha hb hs) fun σ H Q w => w2 (prim_ixG hT) w)
end
end L3
set_option Elab.async false
set_option linter.all false
set_option maxRecDepth 100000
set_option maxHeartbeats 4000000
set_option autoImplicit false
namespace L2
open PySem PySem.Spec PyProof.Rows PySem.Builtin
abbrev setO (b : Bool) : Obj := { cls := .type "set", dict := none, data := .set #[] 0 (.fresh 0 0 b) }
section
variable {κ : Type} [DecidableEq κ]
def addK (σ : List κ) (k : κ) : List κ := if k ∈ σ then σ else σ ++ [k]
def seenK (f : Nat → κ) : Nat → List κ
  | 0 => []
  | n + 1 => addK (seenK f n) (f n)
theorem mem_addK {σ : List κ} {k x : κ} : x ∈ addK σ k ↔ x ∈ σ ∨ x = k := by
  unfold addK
  split
  · rename_i h
    exact ⟨.inl, fun z => z.elim id fun e => e ▸ h⟩
  · rw [List.mem_append, List.mem_singleton]
theorem len_addK (σ : List κ) (k : κ) : (addK σ k).length = if k ∈ σ then σ.length else σ.length + 1 := by
  unfold addK
  split
  · rfl
  · rw [List.length_append, List.length_singleton]
theorem len_seenK (f : Nat → κ) (n : Nat) : (seenK f n).length ≤ n := by
  induction n with
  | zero => exact Nat.le_refl _
  | succ n ih =>
    show (addK _ _).length ≤ _
    rw [len_addK]
    split <;> omega
abbrev inK (σ : List κ) (k : κ) : Bool := decide (k ∈ σ)
end
section
variable {P : Program} {w : World} {A : Around} {R : Result → Shared → Prop} {it : Addr} {fp wr : List Addr} {G : Array GenState → Array GenState → Prop} {n : Nat} {Pn : Nat → Value → Prop} {St : Nat → Shared → Prop}
theorem set_kept {h h' : Heap} {a : Addr} {f : Str → Bool} {c : Nat} (e : ∀ o, h.get? a = some o → h'.get? a = some o) (z : h.SetOf (strKind P w) a f c) : h'.SetOf (strKind P w) a f c := by
  obtain ⟨o, es, ep, t, q, rest⟩ := z
  exact ⟨o, es, ep, t, e o q, rest⟩
theorem set_fill (W : WalksS P w A.in1 it fp wr G n Pn St) (a : Addr) (out : a ∉ fp) (f : Nat → Str) (txt : ∀ i v, Pn i v → ∃ t, v = .str (f i) t) (few : n + 1 < scanBound) (r : Nat) :
    ∀ (i : Nat) (s : Shared), i + r = n → St i s → s.heap.SetOf (strKind P w) a (inK (seenK f i)) (seenK f i).length →
      (∀ s', Moved (a :: wr) G s s' → s'.heap.SetOf (strKind P w) a (inK (seenK f n)) (seenK f n).length → R (.ok (.ret .none)) s') →
      codeAny (model P w) A (.builtin "set.update.loop" ⟨[.ref a, .ref it], []⟩) R s := by
  have aw : a ∉ wr := fun z => out (W.sub _ z)
  have tl : ∀ b ∈ wr, b ∈ a :: wr := fun _ z => List.mem_cons_of_mem _ z
  induction r with
  | zero =>
    intro i s e st so k
    obtain rfl : i = n := e
    apply codeAny_builtin F.entry_set_update_loop
    rw [Around.under_plainId F.plain_set_update_loop _]
    apply wpAny_bind (m := pyNext (.ref it))
    exact W.done s _ _ st fun s' mv => wpAny_pure (k s' (mv.mono tl) (set_kept (fun o q => mv.heap a o aw q) so))
  | succ r ih =>
    intro i s e st so k
    apply codeAny_builtin F.entry_set_update_loop
    rw [Around.under_plainId F.plain_set_update_loop _]
    apply wpAny_bind (m := pyNext (.ref it))
    refine W.item i s _ _ (by omega) st fun v s' hv st' mv => ?_
    obtain ⟨t, rfl⟩ := txt i v hv
    have so' := set_kept (h' := s'.heap) (fun o q => mv.heap a o aw q) so
    apply wpAny_bind (m := holding [Value.str (f i) t] (setAdd a (.str (f i) t)))
    apply wpAny_holding
    unfold setAdd
    apply wpAny_holding
    apply wpAny_bind
    apply (strKind P w).pyHash (strKind_is P w (f i) t)
    have room := len_seenK f i
    refine wpAny_setAddHashed_of (knd := strKind P w) (strKind_is _ _ _ _) rfl so' (by omega) fun h' sb so2 => wpAny_pure ⟨plainId_quiet F.plain_set_update_loop _, ?_⟩
    have other : ∀ b, b ≠ a → ∀ o, s'.heap.get? b = some o → h'.get? b = some o := fun b ne o q => (sb.2 b ne).trans q
    have next : h'.SetOf (strKind P w) a (inK (seenK f (i + 1))) (seenK f (i + 1)).length := by
      refine SetOf_congr so2 (fun x => ?_) ?_
      · rw [Bool.eq_iff_iff, Bool.or_eq_true, decide_eq_true_eq, decide_eq_true_eq, decide_eq_true_eq]
        exact mem_addK.symm
      · show _ = (addK _ _).length
        rw [len_addK]
        simp only [decide_eq_true_eq]
    refine ih (i + 1) _ (by omega) (W.frame _ s' _ _ st' (Nat.le_succ _) fun b hb o q => other b (fun z => out (z ▸ hb)) o q) next fun s2 mv2 so3 => k s2 ?_ so3
    exact Moved.trans W.gtrans ((mv.mono tl).then_heap (Nat.le_succ _) fun b o hb q => other b (fun z => hb (z ▸ List.mem_cons_self)) o q) mv2
end
section
variable {P : Program} {w : World} {A : Around} {E : Value → Shared → Prop} {s : Shared}
theorem text_at {zs : List Str} {us : List Value} (r : Vals (zs.map V.str) us) (i : Nat) (v : Value) (e : us[i]? = some v) : ∃ t, v = .str (zs.getD i Str.empty) t := by
  induction zs generalizing us i with
  | nil => cases r; simp at e
  | cons z q ih =>
    cases r with
    | cons h t =>
      obtain ⟨k, rfl⟩ := h
      cases i with
      | zero => simp at e; exact ⟨k, e.symm⟩
      | succ i => exact ih t i (by simpa using e)
abbrev SetEnd (P : Program) (w : World) (s : Shared) (a : Addr) (zs : List Str) (n : Nat) (h' : Heap) : Prop :=
  h'.SetOf (strKind P w) a (inK (seenK (fun i => zs.getD i Str.empty) n)) (seenK (fun i => zs.getD i Str.empty) n).length ∧ ∀ b o, b < a → s.heap.get? b = some o → h'.get? b = some o
theorem set_init {b : Bool} {l : Addr} {its : Array Value} {zs : List Str} (hh : A.handled = none) (hl : s.heap.IsList l its) (r : Vals (zs.map V.str) its.toList) (few : its.size + 1 < scanBound) :
    codeAny (model P w) A (.call (.builtin "set.__init__") ⟨[.ref s.heap.objs.size, .ref l], []⟩)
      (wants (fun u s2 => u = .none ∧ ∃ h' tk, s2 = { s with heap := h', toks := tk } ∧ SetEnd P w s s.heap.objs.size zs its.size h') E) { s with heap := s.heap.push (setO b) } := by
  have at0 : (s.heap.push (setO b)).get? s.heap.objs.size = some (setO b) := Heap.get?_push_size _ rfl
  refine codeAny_call_builtin F.called_set.init.plain F.entry_set_init (check_set_init_1 ⟨_, at0, rfl⟩ ?_)
  obtain ⟨⟨oc, od, odt, osl⟩, q, c1, c, c2⟩ := hl
  cases c1
  cases c2
  have q' : (s.heap.push (setO b)).get? l = some { cls := .type "list", dict := od, data := .seq its c, slots := osl } := Heap.get?_push_of_some _ q
  have n1 := F.sub_list_set
  have n2 := F.sub_list_frozenset
  have n3 : (Value.type "list" == Value.type "dict") = false := by decide
  have ll : l < s.heap.objs.size := Heap.lt_size q
  have isl : (s.heap.push (setO b)).IsList l its := ⟨_, q', rfl, c, rfl⟩
  unfold Builtin.«set.__init__» noKeywords Builtin.Frozenset.updateFrom
  generalize gi : pyIter = iter
  wp_walk
  subst gi
  apply wpAny_pyIter_list isl
  refine wpAny_bind <| wpAny_runValue ?_
  have sz : (s.heap.push (setO b)).objs.size = s.heap.objs.size + 1 := Heap.size_push _ _
  have ne1 : l ≠ (s.heap.push (setO b)).objs.size := fun z => by
    rw [sz] at z
    exact Nat.lt_irrefl _ (Nat.lt_trans (z ▸ ll) (Nat.lt_succ_self _))
  have out : s.heap.objs.size ∉ [(s.heap.push (setO b)).objs.size, l] := by
    intro z
    rcases List.mem_cons.mp z with z | z
    · rw [sz] at z
      exact Nat.ne_of_lt (Nat.lt_succ_self _) z
    · exact Nat.ne_of_gt ll (List.mem_singleton.mp z)
  have W := (Walks.list (prog := P) (w := w) (A := A.in1.in1) (by simp [hh]) _ l ne1 its).toS
  refine set_fill W s.heap.objs.size out (fun i => zs.getD i Str.empty) (fun i v z => text_at r i v (by rw [Array.getElem?_toList]; exact z)) few its.size 0 _ (Nat.zero_add _) ?_ ?_ ?_
  · exact ⟨⟨_, Heap.get?_push_size _ rfl, rfl, rfl⟩, isl.push _⟩
  · exact SetOf_congr ((setObjOf_fresh (knd := strKind P w) b).setOf (Heap.get?_push_of_some _ at0) (by decide)) (fun _ => rfl) rfl
  · rintro ⟨h', g', d', t', o'⟩ mv so
    obtain rfl : g' = s.gens := mv.gens
    obtain rfl : d' = s.drawn := mv.drawn
    obtain rfl : o' = s.os := mv.os
    apply wpAny_pure
    refine wpAny_pure ⟨rfl, h', t', rfl, so, fun x o hx e => mv.heap x o (fun z => ?_) (Heap.get?_push_of_some _ (Heap.get?_push_of_some _ e))⟩
    rcases List.mem_cons.mp z with z | z
    · exact Nat.ne_of_lt hx z
    · have z := List.mem_singleton.mp z
      rw [sz] at z
      exact Nat.ne_of_lt (Nat.lt_succ_of_lt hx) z
theorem set_of_texts {l : Addr} {its : Array Value} {zs : List Str} {Q : Value → Shared → Prop} (hh : A.handled = none) (hl : s.heap.IsList l its) (r : Vals (zs.map V.str) its.toList) (few : its.size + 1 < scanBound)
    (k : ∀ (h' : Heap) (tk : Nat), SetEnd P w s s.heap.objs.size zs its.size h' → Q (.ref s.heap.objs.size) { s with heap := h', toks := tk }) : wpAny (model P w) A (call (.type "set") [.ref l]) Q E s := by
  have C := F.called_set
  obtain ⟨_, _, c1⟩ := C.mro
  have c2 := C.made
  have c3 := C.sub
  have c4 := C.notType
  have c5 := C.canCreate
  have c6 := F.typeCall_set_1 (.ref l)
  have c7 := C.init.lookup
  have c8 := C.init.bind (.ref s.heap.objs.size)
  apply wpAny_call
  apply codeAny_of_tree
  show wpAny _ _ (callAny (.type "set") ⟨[.ref l], []⟩) _ _ _
  apply wpAny_pure
  refine And.intro (Code.quiet_builtin _ (by decide +kernel)) <| codeAny_builtin F.entry_type_call ?_
  rw [Around.under_plain (weight_type_call_type "set" [.ref l] []) rfl]
  repeat any_goals first | assumption | wp_step
  refine codeAny_mono (R := wants (fun o s1 => ∃ b : Bool, o = .ref s.heap.objs.size ∧ s1 = { s with heap := s.heap.push (setO b) }) E) (code_set_new_1 _ fun b => ⟨b, rfl, rfl⟩) fun res s1 z => ?_
  rcases res with e | (o | _ | _ | _) <;> first | exact z | exact z.elim | skip
  obtain ⟨b, rfl, rfl⟩ := z
  have isS : Shared.TypeIs { s with heap := s.heap.push (setO b) } (.ref s.heap.objs.size) "set" := ⟨_, Heap.get?_push_size _ rfl, rfl⟩
  repeat any_goals first | assumption | wp_step
  refine codeAny_mono (set_init (E := E) (by simp [hh]) hl r few) fun res2 s2 z2 => ?_
  rcases res2 with e | (o | _ | _ | _) <;> first | exact z2 | exact z2.elim | skip
  obtain ⟨rfl, h', tk, rfl, fin⟩ := z2
  repeat any_goals first | assumption | wp_step
  exact k h' tk fin
end
section
variable {X : Cx} {e : Expr} {te : TE} {p1 p2 pos pos2 : Pos}
theorem pe_lenSet (hc : X.calm = true) (g1 : Gl X "len") (m1 : X.mg "len" = none) (g2 : Gl X "set") (m2 : X.mg "set" = none) (he : PE X e te)
    (hs : starEach [e] X.env = (false, eval e X.env) :: starEach [] X.env := by rfl) (hs2 : starEach [.Call (.Name "set" p2) [e] [] pos2] X.env = (false, eval (.Call (.Name "set" p2) [e] [] pos2) X.env) :: starEach [] X.env := by rfl)
    (hp : (backTo pos (starEach [] X.env)).any (·.1) = false := by rfl) (hp2 : (backTo pos2 (starEach [] X.env)).any (·.1) = false := by rfl) :
    PE X (.Call (.Name "len" p1) [.Call (.Name "set" p2) [e] [] pos2] [] pos) (fun σ H Q => te σ H fun x H1 => ∃ (a : Addr) (zs : List Str), x = .ref a ∧ SqL X.K H1 a (zs.map V.str) ∧ zs.length + 1 < scanBound ∧ Q (.int ((seenK (fun i => zs.getD i Str.empty) zs.length).length : Nat)) H1) := by
  intro pins s σ H Q I h
  refine wpAny_Call_Name_kw (ld_blt I g1 m1 PySem.boot_len ?_ (by decide) (by decide))
  refine PyProof.Rows.callWith_builtin1 ?_ hs2 hp
  rw [hs2]
  show wpAny _ _ (spliced ((false, eval (.Call (.Name "set" p2) [e] [] pos2) X.env) :: backTo pos (starEach [] X.env))) _ _ s
  refine Calls.spliced_cons ?_
  have hv : bootBuiltins "set" = some (.type "set") := by decide +kernel
  refine wpAny_Call_Name_kw (ld_blt I g2 m2 hv ?_ (by decide) (by decide))
  refine callWith_type1 ?_ hs hp2
  have ha := pa_cons he pa_nil hs
  refine thn (ha pos2 pins s σ H (fun vs H1 => match vs with
    | [x] => ∃ (a : Addr) (zs : List Str), x = .ref a ∧ SqL X.K H1 a (zs.map V.str) ∧ zs.length + 1 < scanBound ∧ Q (.int ((seenK (fun i => zs.getD i Str.empty) zs.length).length : Nat)) H1
    | _ => False) I h) fun us s1 ⟨vs, H1, I1, rv, z⟩ => ?_
  dsimp only at z
  split at z
  rotate_left
  · exact z.elim
  rename_i x
  obtain ⟨a, zs, e1, sq, few, q⟩ := z
  subst e1
  obtain ⟨u, rfl, ru⟩ := rv.one
  cases ru
  obtain ⟨its, ri, pl, hz⟩ := I1.list sq
  have ln : its.length = zs.length := by rw [← ri.length, List.length_map]
  refine set_of_texts (I1.ok.hd hc) pl.isList (by simpa using ri) (by simpa [ln] using few) fun h' tk fin => ?_
  obtain ⟨so, kp⟩ := fin
  have I2 : Inv X pins σ H1 { s1 with heap := h', toks := tk } := I1.kept fun b o z => kp b o (Heap.lt_size z) z
  refine Calls.spliced_nil ?_
  obtain ⟨o, go, oo⟩ := so.objOf
  obtain ⟨o1, es, ep, t, o2, _, _, o3, o4⟩ := oo
  have lz := len_seenK (fun i => zs.getD i Str.empty) its.toArray.size
  have sz : its.toArray.size = zs.length := by simp [ln]
  have sb : scanBound < 2 ^ 63 := by decide
  refine call_len_set go o1 o2 o4 (by omega) ?_
  refine ⟨.int _, H1, I2.tok _, ⟨_, rfl⟩, ?_⟩
  rw [o3, sz]
  exact q
end
end L2
namespace L3
open PySem PySem.Spec PyProof.Rows L2
theorem seen_S (f : Nat → List Nat) : ∀ n, seenK (fun i => S (f i)) n = (seenK f n).map S
  | 0 => rfl
  | n + 1 => by
    show addK (seenK (fun i => S (f i)) n) (S (f n)) = (addK (seenK f n) (f n)).map S
    rw [seen_S f n]
    unfold addK
    have : S (f n) ∈ (seenK f n).map S ↔ f n ∈ seenK f n := by
      constructor
      · intro h
        obtain ⟨x, hx, e⟩ := List.mem_map.mp h
        rw [← S_inj e]; exact hx
      · exact fun h => List.mem_map.mpr ⟨_, h, rfl⟩
    by_cases q : f n ∈ seenK f n
    · rw [if_pos q, if_pos (this.mpr q)]
    · rw [if_neg q, if_neg (fun z => q (this.mp z)), List.map_append]; rfl
def setN (ls : List (List Nat)) : Nat := (seenK (fun i => ls.getD i []) ls.length).length
theorem setN_S (ls : List (List Nat)) : (seenK (fun i => (ls.map S).getD i Str.empty) (ls.map S).length).length = setN ls := by
  have : (fun i => (ls.map S).getD i Str.empty) = fun i => S (ls.getD i []) := by
    funext i
    rw [List.getD_eq_getElem?_getD, List.getD_eq_getElem?_getD, List.getElem?_map]
    cases ls[i]? <;> rfl
  rw [this, List.length_map, seen_S, List.length_map]
  rfl
def pLenSet (p : PV) (h : List PO) : Res PV := match lsR h p with
  | some xs => match strsOf xs with
    | some ls => if ls.length + 1 < scanBound then .ok (.int (setN ls : Nat)) h else .bad
    | none => .bad
  | none => .bad
section
variable {X : Cx} {T : Tab} {Ew : VK} {e : Expr} {f : Ex} {p1 p2 pos pos2 : Pos}
theorem strs_rep {K : PySem.W.Frag} {F : Hp} {m : List Addr} : ∀ {ls : List (List Nat)} {vs : List V}, RepVs K T F m (ls.map PV.str) vs → vs = (ls.map S).map V.str
  | [], _, .nil => rfl
  | l :: r, _, .cons a b => by
    cases a
    rw [strs_rep b]; rfl
theorem re_lenSet (g1 : Gl X "len") (m1 : X.mg "len" = none) (g2 : Gl X "set") (m2 : X.mg "set" = none) (he : RE X T Ew e f) (hc : X.calm = true := by rfl)
    (hs : starEach [e] X.env = (false, eval e X.env) :: starEach [] X.env := by rfl) (hs2 : starEach [.Call (.Name "set" p2) [e] [] pos2] X.env = (false, eval (.Call (.Name "set" p2) [e] [] pos2) X.env) :: starEach [] X.env := by rfl)
    (hp : (backTo pos (starEach [] X.env)).any (·.1) = false := by rfl) (hp2 : (backTo pos2 (starEach [] X.env)).any (·.1) = false := by rfl) :
    RE X T Ew (.Call (.Name "len" p1) [.Call (.Name "set" p2) [e] [] pos2] [] pos) (c1 pLenSet f) := by with_unfolding_all
  refine PE.imp (pe_lenSet hc g1 m1 g2 m2 he hs hs2 hp hp2) fun σ H Q ⟨F, m, ρ, h, R, p⟩ => ⟨F, m, ρ, h, R, (Post.bind p).mono fun x H1 ⟨F1, m1, h1, p1, s1, R1, r1, w⟩ => ?_⟩
  unfold pLenSet at w
  cases e1 : lsR h1 p1 with
  | none => rw [e1] at w; exact w.elim
  | some ys =>
    rw [e1] at w
    cases e2 : strsOf ys with
    | none => simp only [e2] at w; exact w.elim
    | some ls =>
      simp only [e2] at w
      by_cases q : ls.length + 1 < scanBound
      · rw [if_pos q] at w
        obtain ⟨a, vs, rfl, ea, ra⟩ := lsR_rep R1 r1 e1
        have em := strsOf_map e2
        subst em
        have ev := strs_rep ra
        subst ev
        refine ⟨a, ls.map S, rfl, ea, by rw [List.length_map]; exact q, ?_⟩
        rw [setN_S]
        exact post_ok w R1 (.int _)
      · rw [if_neg q] at w; exact w.elim
end
end L3
namespace L2
open PySem PySem.Spec PyProof.Rows
theorem ent_eq {w : World} {k1 k2 v1 v2 : Str} {t u : Tok} (e1 : k1 = k2) (e2 : v1 = v2) : (⟨keyH w (.inr k1), .str k1 t, .str v1 u⟩ : DictEntry) = ⟨keyH w (.inr k2), .str k2 t, .str v2 u⟩ := by rw [e1, e2]
theorem gdict_of {P : Program} {w : World} {K : PySem.W.Frag} {a : Addr} {ep : Nat} {D : List (List Nat × List Nat)} {es : List DictEntry} (lk : K.lookup a = some ⟨.type "dict", none, .dict es.toArray ep, #[]⟩) (ns : (a == sysModules) = false) (nd : (D.map (·.1)).Nodup)
    (r : Paired (fun (p : List Nat × List Nat) (e : DictEntry) => ∃ t u, e = ⟨keyH w (.inr (L3.S p.1)), .str (L3.S p.1) t, .str (L3.S p.2) u⟩) D es) : GDict P w K a D := by
  have main : ∀ {D : List (List Nat × List Nat)} {es : List DictEntry}, Paired (fun (p : List Nat × List Nat) (e : DictEntry) => ∃ t u, e = ⟨keyH w (.inr (L3.S p.1)), .str (L3.S p.1) t, .str (L3.S p.2) u⟩) D es →
      ∃ vs : List (Key × Value), (∀ e ∈ es, ∃ k, (mixKind P w).is k e.key = true ∧ e.hash = (mixKind P w).hash k) ∧ Pairs (mixKind P w) es vs ∧ vs.map (·.1) = D.map (fun p => Sum.inr (L3.S p.1)) ∧ KV (kvD D) vs := by
    intro D es r
    induction r with
    | nil => exact ⟨[], by simp, .nil, rfl, .nil⟩
    | cons h t ih =>
      rename_i p e D' es'
      obtain ⟨t1, u1, rfl⟩ := h
      obtain ⟨vs, i1, i2, i3, i4⟩ := ih
      have is1 := mixKind_str P w (L3.S p.1) t1
      refine ⟨(.inr (L3.S p.1), .str (L3.S p.2) u1) :: vs, fun e he => ?_, .cons is1 rfl i2, by rw [List.map_cons, List.map_cons, i3], .cons ⟨rfl, ⟨u1, rfl⟩⟩ i4⟩
      rcases List.mem_cons.mp he with rfl | he
      · exact ⟨_, is1, rfl⟩
      · exact i1 e he
  obtain ⟨vs, i1, i2, i3, i4⟩ := main r
  refine ⟨ns, _, es.toArray, ep, vs, lk, ⟨rfl, rfl, rfl⟩, rfl, fun e he => i1 e (by simpa using he), by simpa using i2, ?_, i4⟩
  rw [i3]
  have : D.map (fun p => (Sum.inr (L3.S p.1) : Key)) = (D.map (·.1)).map fun l => Sum.inr (L3.S l) := by rw [List.map_map]; rfl
  rw [this]
  exact List.pairwise_map.mpr (nd.imp fun h e => h (L3.S_inj (Sum.inr.inj e)))
end L2
set_option Elab.async false
set_option linter.all false
set_option maxRecDepth 100000
set_option maxHeartbeats 4000000
set_option autoImplicit false
namespace L3
open PySem PySem.Spec PyProof.Rows L2
section
variable {X : Cx} {T : Tab} {Ew : VK} {pos spos : Pos}
theorem rs_setComp {elt iter : Expr} {x y : Str} {px py : Pos} {ifs : List Expr} {scope : Scope} {it : Ax} {tt : Tx} {te : Ex} {M : List Str} {iy : Nat} (caps : List Nat) (hcalm : X.calm = true) (S : CompOk X.N X.env.scope scope caps x M)
    (hi : RI X T Ew (.Name x px) iter it) (ht : ∀ cl C ex s H, RFs (cxComp X M scope cl C ex s H) T Ew ifs tt) (he : ∀ cl C ex s H, RE (cxComp X M scope cl C ex s H) T Ew elt te)
    (hNd : X.N.Nodup) (hy : X.N[iy]? = some y) (hLy : X.env.scope.names.lookup y = some .local) (hsw : swapsWith (.ListComp elt [⟨.Name x px, iter, ifs, 0⟩] scope pos) (some (.Name y py)) spos.line X.env = pure true)
    (hs : ∀ y, foldedSetIterable iter X.env y = pure y := by intro _; rfl) : RS X T Ew (.Assign [.Name y py] (.ListComp elt [⟨.Name x px, iter, ifs, 0⟩] scope pos) spos) (sSet iy (cN okL (aComp caps it tt te))) := by with_unfolding_all exact (
  PS.imp (ps_setComp (tt := wT X T Ew tt) (te := wE X T Ew te) caps hcalm S hi ht he hNd hy hLy hsw hs) fun D σ H ⟨F, m, ρ, h, R, p⟩ => comp_run (fun F m h H ps vs R r w D hD => post_lst w R r D hD)
    ⟨F, m, ρ, h, R, (post_e p).mono fun v H1 ⟨F1, m1, h1, q, s1, R1, r1, w1⟩ => w1 F1 m1 H1 _ .refl ⟨R1, (s1.env R.env).set iy r1⟩⟩)
theorem rs_setCompM {elt iter : Expr} {x y : Str} {px py : Pos} {ifs : List Expr} {scope : Scope} {it : Ax} {tt : Tx} {te : Ex} {M : List Str} {iy : Nat} (caps : List Nat) (hcalm : X.calm = true) (S : CompOk X.N X.env.scope scope caps x M)
    (hi : RI X T Ew (.Name x px) iter it) (ht : ∀ cl C ex s H, RFs (cxComp X M scope cl C ex s H) T Ew ifs tt) (he : ∀ cl C ex s H, RE (cxComp X M scope cl C ex s H) T Ew elt te)
    (hNd : X.N.Nodup) (hy : X.N[iy]? = some y) (hLy : X.env.scope.names.lookup y = some .local) (hsw : swapsWith (.ListComp elt [⟨.Name x px, iter, ifs, 0⟩] scope pos) (some (.Name y py)) spos.line X.env = pure true)
    (hs : ∀ y, foldedSetIterable iter X.env y = pure y := by intro _; rfl) : RS X T Ew (.Assign [.Name y py] (.ListComp elt [⟨.Name x px, iter, ifs, 0⟩] scope pos) spos) (sSet iy (cN newL (aComp caps it tt te))) := by with_unfolding_all exact (
  PS.imp (ps_setComp (tt := wT X T Ew tt) (te := wE X T Ew te) caps hcalm S hi ht he hNd hy hLy hsw hs) fun D σ H ⟨F, m, ρ, h, R, p⟩ => comp_run (fun F m h H ps vs R r w D hD => post_new w R r D hD)
    ⟨F, m, ρ, h, R, (post_e p).mono fun v H1 ⟨F1, m1, h1, q, s1, R1, r1, w1⟩ => w1 F1 m1 H1 _ .refl ⟨R1, (s1.env R.env).set iy r1⟩⟩)
def setIxR (v o i : PV) (ρ : Ev) (h : List PO) : SR := match liveL h o, i with
  | some (n, xs), .int k => match ixN xs.length k with
    | some j => .nx ρ (h.set n (.lst (xs.set j v)))
    | none => .bad
  | _, _ => .bad
def sSetIx (fo fi fv : Ex) : Sx := fun ρ h => eThen (fv ρ h) fun v h1 => eThen (fo ρ h1) fun o h2 => eThen (fi ρ h2) fun i h3 => setIxR v o i ρ h3
theorem rs_setIx {o i v : Expr} {fo fi fv : Ex} {px : Pos} (ho : RE X T Ew o fo) (hi : RE X T Ew i fi) (hv : RE X T Ew v fv)
    (ha : ∀ u, assign (.Subscript o i px) X.env u = (do
      let ov ← holding [u] (eval o X.env)
      let iv ← holding [u, ov] (eval i X.env)
      standAt px
      holding [u, ov, iv] (setItem ov iv u)
      release [u, ov, iv] []) := by intro _; rfl)
    (hs : swapsWithSole [.Subscript o i px] v pos.line X.env = pure false := by rfl) (hw : swappedStores [.Subscript o i px] v X.env = pure none := by rfl)
    (h1 : (assignEach [.Subscript o i px] X.env).map (·.2) = [assign (.Subscript o i px) X.env] := by rfl) : RS X T Ew (.Assign [.Subscript o i px] v pos) (sSetIx fo fi fv) := by with_unfolding_all
  refine PS.imp (ps_asg hv (pg_sub ho hi set_list ha) hs hw h1) fun D σ H ⟨F, m, ρ, h, R, p⟩ => ⟨F, m, ρ, h, R, (post_e p).mono fun v H1 ⟨F1, m1, h1, pv, s1, R1, r1, w1⟩ => ?_⟩
  refine ⟨F1, m1, ρ, h1, R.of s1 R1, (post_e w1).mono fun o H2 ⟨F2, m2, h2, po, s2, R2, r2, w2⟩ => ?_⟩
  refine ⟨F2, m2, ρ, h2, (R.of s1 R1).of s2 R2, (post_e w2).mono fun i H3 ⟨F3, m3, h3, pi, s3, R3, r3, w3⟩ => ?_⟩
  have RS3 := ((R.of s1 R1).of s2 R2).of s3 R3
  unfold setIxR at w3
  split at w3
  · rename_i n xs k el
    split at w3
    · rename_i j hj
      obtain ⟨a, vs, rfl, em, hF, hH, rr⟩ := liveL_rep R3 (s3.rep r2) el
      cases r3
      have rv := s3.rep (s2.rep r1)
      refine ⟨a, vs, k, j, rfl, rfl, hH, by rw [← rr.length]; exact hj, ?_⟩
      obtain ⟨st, R'⟩ := R3.upd (o' := .lst (xs.set j pv)) (ho := .lst (vs.set j v)) em hF ⟨_, hH⟩ ⟨hF, _, upd_same, rr.set rv j⟩
      exact w3 F3 m3 _ _ st ⟨R', st.env RS3.env⟩
    · exact w3.elim
  · exact w3.elim
end
end L3
set_option Elab.async false
set_option linter.all false
set_option maxRecDepth 100000
set_option maxHeartbeats 4000000
set_option autoImplicit false
namespace L3
open PySem L2
section
variable (ρ : Ev) (h : List PO)
@[simp] theorem ev_var (i : Nat) : cVar i ρ h = match ρ[i]? with | some (some p) => .ok (derefP h p) h | _ => .bad := id rfl
@[simp] theorem ev_K (v : PV) : cK v ρ h = .ok v h := id rfl
@[simp] theorem ev_c1 (g : PV → List PO → Res PV) (a : Ex) : c1 g a ρ h = (a ρ h).bind g := id rfl
@[simp] theorem ev_c2 (g : PV → PV → List PO → Res PV) (a b : Ex) : c2 g a b ρ h = (a ρ h).bind fun x h1 => (b ρ h1).bind fun y h2 => g x y h2 := id rfl
@[simp] theorem ev_cN (g : List PV → List PO → Res PV) (a : Ax) : cN g a ρ h = (a ρ h).bind g := id rfl
@[simp] theorem ev_nil : aNil ρ h = .ok [] h := id rfl
@[simp] theorem ev_cons (a : Ex) (r : Ax) : aCons a r ρ h = (a ρ h).bind fun x h1 => (r ρ h1).bind fun xs h2 => .ok (x :: xs) h2 := id rfl
@[simp] theorem ev_and (f g : Ex) : cAnd f g ρ h = (f ρ h).bind fun p h1 => match p with | .bl b => if b = true then g ρ h1 else .ok (.bl false) h1 | _ => .bad := id rfl
@[simp] theorem ev_or (f g : Ex) : cOr f g ρ h = (f ρ h).bind fun p h1 => match p with | .bl b => if b = true then .ok (.bl true) h1 else g ρ h1 | _ => .bad := id rfl
@[simp] theorem ev_not (f : Ex) : cNot f ρ h = (f ρ h).bind fun p h1 => match p with | .bl b => .ok (.bl (!b)) h1 | _ => .bad := id rfl
@[simp] theorem ev_ifE (t : Tx) (f g : Ex) : cIfE t f g ρ h = (t ρ h).bind fun b h1 => if b = true then f ρ h1 else g ρ h1 := id rfl
@[simp] theorem ev_chain (g g' : PV → PV → List PO → Res PV) (a b c : Ex) : cChain g g' a b c ρ h = (a ρ h).bind fun x h1 => (b ρ h1).bind fun y h2 => (g x y h2).bind fun z h3 => match z with | .bl k => if k = true then (c ρ h3).bind fun u h4 => g' y u h4 else .ok (.bl false) h3 | _ => .bad := id rfl
@[simp] theorem ev_sl (a : Ex) (lo hi : Ox) : cSl a lo hi ρ h = (a ρ h).bind fun p h1 => (lo ρ h1).bind fun l h2 => (hi ρ h2).bind fun u h3 => pSl p l u h3 := id rfl
@[simp] theorem ev_oNone : oNone ρ h = .ok none h := id rfl
@[simp] theorem ev_oSome (f : Ex) : oSome f ρ h = (f ρ h).bind fun p h1 => match p with | .int i => .ok (some i) h1 | _ => .bad := id rfl
@[simp] theorem ev_cM (recv : List PO → PV → Bool) (g : PV → List PV → List PO → Res PV) (o : Ex) (as : Ax) : cM recv g o as ρ h = (o ρ h).bind fun p h1 => if recv h1 p = true then (as ρ h1).bind fun ps h2 => g p ps h2 else .bad := id rfl
@[simp] theorem ev_call (fn : List PV → Out) (as : Ax) : cCall fn as ρ h = (as ρ h).bind (callO fn) := id rfl
@[simp] theorem ev_meth (res : Nat → Option (List PV → Out)) (o : Ex) (as : Ax) : cMeth res o as ρ h = (o ρ h).bind fun p h1 => match p with | .ins C [] => (match res C with | some fn => (as ρ h1).bind fun ps h2 => callO fn (.ins C [] :: ps) h2 | none => .bad) | _ => .bad := id rfl
@[simp] theorem ev_make (C : Nat) : cMake C ρ h = .ok (.ins C []) h := id rfl
@[simp] theorem ev_get2 (d k x : Ex) : cGet2 d k x ρ h = (d ρ h).bind fun p h1 => if (dcR h1 p).isSome = true then (k ρ h1).bind fun q h2 => (x ρ h2).bind fun z h3 => (match dcR h3 p with | some kvs => (match keyOf q with | some kk => .ok (match valP kvs kk with | some v => derefP h3 v | none => z) h3 | none => .bad) | none => .bad) else .bad := id rfl
@[simp] theorem ev_tTru (f : Ex) : tTruE f ρ h = (f ρ h).bind fun p h1 => match truP h1 p with | some b => .ok b h1 | none => .bad := id rfl
@[simp] theorem ev_tCmp (f : Ex) : tCmpE f ρ h = (f ρ h).bind fun p h1 => match p with | .bl b => .ok b h1 | _ => .bad := id rfl
@[simp] theorem ev_tNot (f : Tx) : tNotE f ρ h = (f ρ h).bind fun b h1 => .ok (!b) h1 := id rfl
@[simp] theorem ev_tAnd (f g : Tx) : tAndE f g ρ h = (f ρ h).bind fun b h1 => if b = true then g ρ h1 else .ok false h1 := id rfl
@[simp] theorem ev_tOr (f g : Tx) : tOrE f g ρ h = (f ρ h).bind fun b h1 => if b = true then .ok true h1 else g ρ h1 := id rfl
@[simp] theorem ev_range1 (f : Ax) : aRange1 f ρ h = (f ρ h).bind fun ps h1 => match ps with | [.int j] => if bel 4611686018427387904 j = true then .ok ((List.range j.toNat).map fun i => PV.int (0 + (i : Nat))) h1 else .bad | _ => .bad := id rfl
@[simp] theorem ev_range2 (f : Ax) : aRange2 f ρ h = (f ρ h).bind fun ps h1 => match ps with | [.int i, .int j] => if bel 4611686018427387904 i = true ∧ bel 4611686018427387904 j = true then .ok ((List.range (j - i).toNat).map fun k => PV.int (i + (k : Nat))) h1 else .bad | _ => .bad := id rfl
@[simp] theorem ev_aSeq (f : Ex) : aSeq f ρ h = (f ρ h).bind seqIt := id rfl
@[simp] theorem ev_aComp (caps : List Nat) (it : Ax) (tt : Tx) (te : Ex) : aComp caps it tt te ρ h = (it ρ h).bind fun xs h1 => if xs.length < sizeLine then compL tt te (capP caps ρ) xs h1 else .bad := id rfl
@[simp] theorem ev_yes : tYesE ρ h = .ok true h := id rfl
@[simp] theorem ev_sNil : sNil ρ h = .nx ρ h := id rfl
@[simp] theorem ev_sSeq (f g : Sx) : sSeq f g ρ h = match f ρ h with | .nx ρ1 h1 => g ρ1 h1 | .rt v h1 => .rt v h1 | .bk ρ1 h1 => .bk ρ1 h1 | .ct ρ1 h1 => .ct ρ1 h1 | .exc v h1 => .exc v h1 | .bad => .bad := id rfl
@[simp] theorem ev_sRet (f : Ex) : sRet f ρ h = eThen (f ρ h) fun v h1 => .rt v h1 := id rfl
@[simp] theorem ev_sRetN : sRetN ρ h = .rt .non h := id rfl
@[simp] theorem ev_sDrop (f : Ex) : sDrop f ρ h = eThen (f ρ h) fun _ h1 => .nx ρ h1 := id rfl
@[simp] theorem ev_sIf (t : Tx) (f g : Sx) : sIf t f g ρ h = bThen (t ρ h) fun b h1 => if b = true then f ρ h1 else g ρ h1 := id rfl
@[simp] theorem ev_sSet (i : Nat) (f : Ex) : sSet i f ρ h = eThen (f ρ h) fun v h1 => .nx (ρ.set i (some v)) h1 := id rfl
@[simp] theorem ev_sNever : sNever ρ h = .bad := id rfl
@[simp] theorem ev_sFor (it : Ax) (g : Gx) (body : Sx) : sFor it g body ρ h = lThen (it ρ h) fun xs h1 => loopS g body xs ρ h1 := id rfl
@[simp] theorem ev_loop0 (g : Gx) (body : Sx) : loopS g body [] ρ h = .nx ρ h := id rfl
@[simp] theorem ev_gNm (i : Nat) (p : PV) : gNm i p ρ = some (ρ.set i (some p)) := id rfl
end
theorem ev_loop (g : Gx) (body : Sx) (p : PV) (r : List PV) (ρ : Ev) (h : List PO) : loopS g body (p :: r) ρ h = match g p ρ with
    | some ρ1 => (match body ρ1 h with
      | .nx ρ2 h2 => loopS g body r ρ2 h2
      | .ct ρ2 h2 => loopS g body r ρ2 h2
      | .bk ρ2 h2 => .nx ρ2 h2
      | .rt v h2 => .rt v h2
      | .exc v h2 => .exc v h2
      | .bad => .bad)
    | none => .bad := rfl
section
variable (h : List PO)
@[simp] theorem dr_int (i : Int) : derefP h (.int i) = .int i := id rfl
@[simp] theorem dr_bl (i : Bool) : derefP h (.bl i) = .bl i := id rfl
@[simp] theorem dr_str (i : List Nat) : derefP h (.str i) = .str i := id rfl
@[simp] theorem dr_non : derefP h .non = .non := id rfl
@[simp] theorem dr_tup (i : List PV) : derefP h (.tup i) = .tup i := id rfl
@[simp] theorem dr_lst (i : List PV) : derefP h (.lst i) = .lst i := id rfl
@[simp] theorem dr_giv (i : List PV) : derefP h (.giv i) = .giv i := id rfl
@[simp] theorem dr_dct (i : List (PK × PV)) : derefP h (.dct i) = .dct i := id rfl
@[simp] theorem dr_ins (c : Nat) (i : List (Str × PV)) : derefP h (.ins c i) = .ins c i := id rfl
@[simp] theorem dr_ref0 (xs : List PV) (r : List PO) : derefP (.lst xs :: r) (.ref 0) = .ref 0 := id rfl
@[simp] theorem add_ii (i j : Int) : pAdd (.int i) (.int j) h = .ok (.int (i + j)) h := id rfl
@[simp] theorem add_ss (a b : List Nat) : pAdd (.str a) (.str b) h = if a.length + b.length ≤ sizeLine then .ok (.str (a ++ b)) h else .bad := id rfl
@[simp] theorem add_tt (a b : List PV) : pAdd (.tup a) (.tup b) h = if a.isEmpty = false ∧ a.length + b.length ≤ sizeLine then .ok (.tup (a ++ b)) h else .bad := id rfl
@[simp] theorem add_ll (a b : List PV) : pAdd (.lst a) (.lst b) h = if a.length + b.length ≤ sizeLine then .ok (.lst (a ++ b)) h else .bad := id rfl
@[simp] theorem sub_ii (i j : Int) : pSub (.int i) (.int j) h = .ok (.int (i - j)) h := id rfl
@[simp] theorem mul_ii (i j : Int) : pMul (.int i) (.int j) h = if mulC i j = true then .ok (.int (i * j)) h else .bad := id rfl
@[simp] theorem mul_si (a : List Nat) (k : Int) : pMul (.str a) (.int k) h = if bel 1048576 k = true ∧ a.length * k.toNat ≤ 1048576 then .ok (.str (repL a k)) h else .bad := id rfl
@[simp] theorem pI_ii (C : Int → Int → Bool) (g : Int → Int → Int) (i j : Int) : pI C g (.int i) (.int j) h = if C i j = true then .ok (.int (g i j)) h else .bad := id rfl
@[simp] theorem neg_i (i : Int) : pNeg (.int i) h = .ok (.int (-i)) h := id rfl
@[simp] theorem cmp_ii (g : Int → Int → Bool) (i j : Int) : pCmp g (.int i) (.int j) h = .ok (.bl (g i j)) h := id rfl
@[simp] theorem is_n (p : PV) : pIs p .non h = .ok (.bl (isNon p)) h := id rfl
@[simp] theorem isnot_n (p : PV) : pIsNot p .non h = .ok (.bl (!isNon p)) h := id rfl
@[simp] theorem isb (b c : Bool) : pIsB (.bl b) (.bl c) h = .ok (.bl (b == c)) h := id rfl
@[simp] theorem ix_si (l : List Nat) (i : Int) : pIx (.str l) (.int i) h = match atI l i with | some c => if l.length ≤ sizeLine then .ok (.str [c]) h else .bad | none => .bad := id rfl
@[simp] theorem ix_ti (l : List PV) (i : Int) : pIx (.tup l) (.int i) h = match atI l i with | some v => .ok (derefP h v) h | none => .bad := id rfl
@[simp] theorem ix_li (l : List PV) (i : Int) : pIx (.lst l) (.int i) h = match atI l i with | some v => .ok (derefP h v) h | none => .bad := id rfl
@[simp] theorem ix_gi (l : List PV) (i : Int) : pIx (.giv l) (.int i) h = match atI l i with | some v => .ok (derefP h v) h | none => .bad := id rfl
@[simp] theorem sl_s (l : List Nat) (lo hi : Option Int) : pSl (.str l) lo hi h = if l.length ≤ sizeLine then .ok (.str (cut l lo hi)) h else .bad := id rfl
@[simp] theorem len_s (l : List Nat) : pLen [.str l] h = match (if l.length ≤ sizeLine then some l.length else none) with | some n => .ok (.int n) h | none => .bad := id rfl
@[simp] theorem len_t (l : List PV) : pLen [.tup l] h = .ok (.int l.length) h := id rfl
@[simp] theorem len_l (l : List PV) : pLen [.lst l] h = .ok (.int l.length) h := id rfl
@[simp] theorem len_g (l : List PV) : pLen [.giv l] h = .ok (.int l.length) h := id rfl
@[simp] theorem lst_mk (ps : List PV) : pLst ps h = if ps.length ≤ sizeLine then .ok (.lst ps) h else .bad := id rfl
@[simp] theorem lstM_mk (ps : List PV) : pLstM ps h = if ps.length ≤ sizeLine then .ok (.ref h.length) (h ++ [.lst ps]) else .bad := id rfl
@[simp] theorem tup_mk (ps : List PV) : pTup ps h = if ps.length ≤ sizeLine then .ok (.tup ps) h else .bad := id rfl
@[simp] theorem okL_mk (ps : List PV) : okL ps h = .ok (.lst ps) h := id rfl
@[simp] theorem newL_mk (ps : List PV) : newL ps h = .ok (.ref h.length) (h ++ [.lst ps]) := id rfl
@[simp] theorem int_b (b : Bool) : pInt [.bl b] h = .ok (.int (if b then 1 else 0)) h := id rfl
@[simp] theorem int_i (b : Int) : pInt [.int b] h = .ok (.int b) h := id rfl
@[simp] theorem abs_i (i : Int) : pAbs [.int i] h = .ok (.int (if i < 0 then -i else i)) h := id rfl
@[simp] theorem str_i (i : Int) : pStr [.int i] h = if i.natAbs.log2 < 1920 then .ok (.str (strI i)) h else .bad := id rfl
@[simp] theorem seqIt_s (l : List Nat) : seqIt (.str l) h = .ok (l.map fun c => PV.str [c]) h := id rfl
@[simp] theorem seqIt_t (l : List PV) : seqIt (.tup l) h = .ok l h := id rfl
@[simp] theorem seqIt_l (l : List PV) : seqIt (.lst l) h = .ok l h := id rfl
@[simp] theorem seqIt_g (l : List PV) : seqIt (.giv l) h = .ok l h := id rfl
@[simp] theorem find_ss (x y : List Nat) : pFind (.str x) [.str y] h = .ok (.int (findI (firstFrom y x 0))) h := id rfl
@[simp] theorem isStr_s (x : List Nat) : isStr h (.str x) = true := id rfl
@[simp] theorem frz_int (i : Int) : frzV h (.int i) = some (.int i, h) := by simp [frzV, PV.pure]
@[simp] theorem frz_bl (i : Bool) : frzV h (.bl i) = some (.bl i, h) := by simp [frzV, PV.pure]
@[simp] theorem frz_non : frzV h .non = some (.non, h) := by simp [frzV, PV.pure]
@[simp] theorem frz_str (i : List Nat) : frzV h (.str i) = some (.str i, h) := by simp [frzV, PV.pure]
@[simp] theorem frz_ins (c : Nat) : frzV h (.ins c []) = some (.ins c [], h) := by simp [frzV, PV.pure, purefs]
theorem frz_giv {l : List PV} (q : pures l = true) : frzV h (.giv l) = some (.giv l, h) := by simp [frzV, PV.pure, q]
theorem frz_lst {l : List PV} (q : pures l = true) : frzV h (.lst l) = some (.lst l, h) := by simp [frzV, PV.pure, q]
theorem frz_tup {l : List PV} (q : pures l = true) : frzV h (.tup l) = some (.tup l, h) := by simp [frzV, PV.pure, q]
@[simp] theorem frzs_nil : frzs [] h = some ([], h) := id rfl
@[simp] theorem frzs_cons (p : PV) (r : List PV) : frzs (p :: r) h = match frzV h p with | some (q, h1) => (match frzs r h1 with | some (qs, h2) => some (q :: qs, h2) | none => none) | none => none := id rfl
@[simp] theorem in_ss (a b : List Nat) : pIn (.str a) (.str b) h = .ok (.bl (inStr a b)) h := id rfl
@[simp] theorem notin_ss (a b : List Nat) : pNotIn (.str a) (.str b) h = .ok (.bl (!inStr a b)) h := id rfl
@[simp] theorem tru_b (b : Bool) : truP h (.bl b) = some b := id rfl
@[simp] theorem tru_i (b : Int) : truP h (.int b) = some (b != 0) := id rfl
@[simp] theorem tru_s (l : List Nat) : truP h (.str l) = if l.length ≤ sizeLine then some (!l.isEmpty) else none := id rfl
@[simp] theorem isin_s_str (l : List Nat) : pIsinst [.str l, .ty "str"] h = .ok (.bl true) h := id rfl
@[simp] theorem isin_s_int (l : List Nat) : pIsinst [.str l, .ty "int"] h = .ok (.bl false) h := id rfl
@[simp] theorem isin_s_bool (l : List Nat) : pIsinst [.str l, .ty "bool"] h = .ok (.bl false) h := id rfl
@[simp] theorem isin_s_list (l : List Nat) : pIsinst [.str l, .ty "list"] h = .ok (.bl false) h := id rfl
@[simp] theorem isin_s_tuple (l : List Nat) : pIsinst [.str l, .ty "tuple"] h = .ok (.bl false) h := id rfl
@[simp] theorem isin_s_dict (l : List Nat) : pIsinst [.str l, .ty "dict"] h = .ok (.bl false) h := id rfl
@[simp] theorem isin_i_str (l : Int) : pIsinst [.int l, .ty "str"] h = .ok (.bl false) h := id rfl
@[simp] theorem isin_i_int (l : Int) : pIsinst [.int l, .ty "int"] h = .ok (.bl true) h := id rfl
@[simp] theorem isin_i_bool (l : Int) : pIsinst [.int l, .ty "bool"] h = .ok (.bl false) h := id rfl
@[simp] theorem isin_i_list (l : Int) : pIsinst [.int l, .ty "list"] h = .ok (.bl false) h := id rfl
@[simp] theorem isin_i_tuple (l : Int) : pIsinst [.int l, .ty "tuple"] h = .ok (.bl false) h := id rfl
@[simp] theorem isin_i_dict (l : Int) : pIsinst [.int l, .ty "dict"] h = .ok (.bl false) h := id rfl
@[simp] theorem isin_b_str (l : Bool) : pIsinst [.bl l, .ty "str"] h = .ok (.bl false) h := id rfl
@[simp] theorem isin_b_int (l : Bool) : pIsinst [.bl l, .ty "int"] h = .ok (.bl true) h := id rfl
@[simp] theorem isin_b_bool (l : Bool) : pIsinst [.bl l, .ty "bool"] h = .ok (.bl true) h := id rfl
@[simp] theorem isin_b_list (l : Bool) : pIsinst [.bl l, .ty "list"] h = .ok (.bl false) h := id rfl
@[simp] theorem isin_b_tuple (l : Bool) : pIsinst [.bl l, .ty "tuple"] h = .ok (.bl false) h := id rfl
@[simp] theorem isin_b_dict (l : Bool) : pIsinst [.bl l, .ty "dict"] h = .ok (.bl false) h := id rfl
@[simp] theorem isin_n_str  : pIsinst [.non, .ty "str"] h = .ok (.bl false) h := id rfl
@[simp] theorem isin_n_int  : pIsinst [.non, .ty "int"] h = .ok (.bl false) h := id rfl
@[simp] theorem isin_n_bool  : pIsinst [.non, .ty "bool"] h = .ok (.bl false) h := id rfl
@[simp] theorem isin_n_list  : pIsinst [.non, .ty "list"] h = .ok (.bl false) h := id rfl
@[simp] theorem isin_n_tuple  : pIsinst [.non, .ty "tuple"] h = .ok (.bl false) h := id rfl
@[simp] theorem isin_n_dict  : pIsinst [.non, .ty "dict"] h = .ok (.bl false) h := id rfl
@[simp] theorem isin_t_str (l : List PV) : pIsinst [.tup l, .ty "str"] h = .ok (.bl false) h := id rfl
@[simp] theorem isin_t_int (l : List PV) : pIsinst [.tup l, .ty "int"] h = .ok (.bl false) h := id rfl
@[simp] theorem isin_t_bool (l : List PV) : pIsinst [.tup l, .ty "bool"] h = .ok (.bl false) h := id rfl
@[simp] theorem isin_t_list (l : List PV) : pIsinst [.tup l, .ty "list"] h = .ok (.bl false) h := id rfl
@[simp] theorem isin_t_tuple (l : List PV) : pIsinst [.tup l, .ty "tuple"] h = .ok (.bl true) h := id rfl
@[simp] theorem isin_t_dict (l : List PV) : pIsinst [.tup l, .ty "dict"] h = .ok (.bl false) h := id rfl
@[simp] theorem isin_l_str (l : List PV) : pIsinst [.lst l, .ty "str"] h = .ok (.bl false) h := id rfl
@[simp] theorem isin_l_int (l : List PV) : pIsinst [.lst l, .ty "int"] h = .ok (.bl false) h := id rfl
@[simp] theorem isin_l_bool (l : List PV) : pIsinst [.lst l, .ty "bool"] h = .ok (.bl false) h := id rfl
@[simp] theorem isin_l_list (l : List PV) : pIsinst [.lst l, .ty "list"] h = .ok (.bl true) h := id rfl
@[simp] theorem isin_l_tuple (l : List PV) : pIsinst [.lst l, .ty "tuple"] h = .ok (.bl false) h := id rfl
@[simp] theorem isin_l_dict (l : List PV) : pIsinst [.lst l, .ty "dict"] h = .ok (.bl false) h := id rfl
@[simp] theorem isin_g_str (l : List PV) : pIsinst [.giv l, .ty "str"] h = .ok (.bl false) h := id rfl
@[simp] theorem isin_g_int (l : List PV) : pIsinst [.giv l, .ty "int"] h = .ok (.bl false) h := id rfl
@[simp] theorem isin_g_bool (l : List PV) : pIsinst [.giv l, .ty "bool"] h = .ok (.bl false) h := id rfl
@[simp] theorem isin_g_list (l : List PV) : pIsinst [.giv l, .ty "list"] h = .ok (.bl true) h := id rfl
@[simp] theorem isin_g_tuple (l : List PV) : pIsinst [.giv l, .ty "tuple"] h = .ok (.bl false) h := id rfl
@[simp] theorem isin_g_dict (l : List PV) : pIsinst [.giv l, .ty "dict"] h = .ok (.bl false) h := id rfl
@[simp] theorem isin_d_str (l : List (PK × PV)) : pIsinst [.dct l, .ty "str"] h = .ok (.bl false) h := id rfl
@[simp] theorem isin_d_int (l : List (PK × PV)) : pIsinst [.dct l, .ty "int"] h = .ok (.bl false) h := id rfl
@[simp] theorem isin_d_bool (l : List (PK × PV)) : pIsinst [.dct l, .ty "bool"] h = .ok (.bl false) h := id rfl
@[simp] theorem isin_d_list (l : List (PK × PV)) : pIsinst [.dct l, .ty "list"] h = .ok (.bl false) h := id rfl
@[simp] theorem isin_d_tuple (l : List (PK × PV)) : pIsinst [.dct l, .ty "tuple"] h = .ok (.bl false) h := id rfl
@[simp] theorem isin_d_dict (l : List (PK × PV)) : pIsinst [.dct l, .ty "dict"] h = .ok (.bl true) h := id rfl
end
theorem szl : (sizeLine : Nat) = 16777216 := by decide
theorem callO_def (fn : List PV → Out) (ps : List PV) (h : List PO) : callO fn ps h = match frzs ps h with | some (qs, h2) => (match fn qs with | .ok v => .ok v h2 | .bad => .bad) | none => .bad := rfl
theorem mulC_r {i j : Int} (h : bel 18446744073709551616 j = true) : mulC i j = true := by unfold mulC; rw [h, Bool.or_true]
theorem mulC_l {i j : Int} (h : bel 18446744073709551616 i = true) : mulC i j = true := by unfold mulC; rw [h, Bool.true_or]
theorem pEq_ss (a b : List Nat) (h : List PO) (ha : ∀ c ∈ a, c < 1114112) (hb : ∀ c ∈ b, c < 1114112) : pEq (.str a) (.str b) h = .ok (.bl (decide (a = b))) h := by
  have ok : ∀ l : List Nat, (∀ c ∈ l, c < 1114112) → okD h (.str l) = true := by
    intro l hl
    unfold okD dOf
    simp only [toD, PyData.canLay0, PyData.depth]
    simp [PyData.strOk, S]
    exact hl
  unfold pEq
  rw [if_pos ⟨ok a ha, ok b hb⟩]
  have e : PyData.eqv (dOf h (.str a)) (dOf h (.str b)) = decide (a = b) := by
    show PyData.eqv (toD (.str a)) (toD (.str b)) = _
    simp only [toD, PyData.eqv]
    by_cases q : a = b
    · subst q; simp
    · have : ¬ S a = S b := fun z => q (S_inj z)
      simp [q, this]
  rw [e]
end L3
set_option Elab.async false
set_option linter.all false
set_option maxRecDepth 100000
set_option maxHeartbeats 4000000
set_option autoImplicit false
namespace L3
open PySem L2
theorem compL_filter {tt : Tx} {te : Ex} {cp : Ev} {h : List L3.PO} {t : PV → Bool} {f : PV → PV} : ∀ (xs : List PV), (∀ p ∈ xs, tt (some p :: cp) h = .ok (t p) h) → (∀ p ∈ xs, te (some p :: cp) h = .ok (f p) h) →
    compL tt te cp xs h = .ok ((xs.filter t).map f) h
  | [], _, _ => rfl
  | p :: r, h1, h2 => by
    have ih := compL_filter r (fun q hq => h1 q (List.mem_cons_of_mem _ hq)) (fun q hq => h2 q (List.mem_cons_of_mem _ hq))
    rw [compL, h1 p List.mem_cons_self]
    cases e : t p with
    | true => simp only [Res.bind_ok, if_true, h2 p List.mem_cons_self, ih, List.filter_cons, e, List.map_cons]
    | false => simp only [Res.bind_ok, Bool.false_eq_true, if_false, ih, List.filter_cons, e]
theorem compL_map {te : Ex} {cp : Ev} {h : List L3.PO} {f : PV → PV} (xs : List PV) (h2 : ∀ p ∈ xs, te (some p :: cp) h = .ok (f p) h) : compL tYesE te cp xs h = .ok (xs.map f) h := by
  have := compL_filter (tt := tYesE) (t := fun _ => true) xs (fun _ _ => rfl) h2
  rw [this, List.filter_eq_self.mpr (fun _ _ => rfl)]
theorem atI_getD {α : Type} {xs : List α} {i : Int} (d : α) (h0 : 0 ≤ i) (h1 : i < (xs.length : Int)) : atI xs i = some (xs.getD i.toNat d) := by
  refine atI_at h0 ?_
  rw [List.getD_eq_getElem?_getD, List.getElem?_eq_getElem (by omega)]; rfl
theorem getD_mem {α : Type} {xs : List α} {n : Nat} {d : α} (h : n < xs.length) : xs.getD n d ∈ xs := by
  rw [List.getD_eq_getElem?_getD, List.getElem?_eq_getElem h]; exact List.getElem_mem h
theorem joinL_nil : ∀ ls : List (List Nat), joinL [] ls = ls.flatten
  | [] => rfl
  | [x] => by simp [joinL]
  | x :: y :: r => by
    show x ++ [] ++ joinL [] (y :: r) = _
    rw [joinL_nil (y :: r), List.append_nil]; rfl
theorem pJoin_of {sep : List Nat} {q : PV} {ls : List (List Nat)} {h : List L3.PO} (e : lsR h q = some (ls.map PV.str)) (hz : (ls.map (fun l => l.length)).sum + ls.length * sep.length ≤ 16777216) : pJoin (.str sep) [q] h = .ok (.str (joinL sep ls)) h := by
  unfold pJoin
  simp only [e, strsOf_of, hz, if_true]
theorem pJoin_l {ls : List (List Nat)} {h : List L3.PO} (hz : (ls.map (fun l => l.length)).sum ≤ 16777216) : pJoin (.str []) [.lst (ls.map PV.str)] h = .ok (.str ls.flatten) h := by
  rw [pJoin_of (ls := ls) rfl (by simpa using hz), joinL_nil]
theorem app0 (xs : List PV) (r : List L3.PO) (p : PV) : pAppend (.ref 0) [p] (.lst xs :: r) = if xs.length < sizeLine then .ok .non (.lst (xs ++ [p]) :: r) else .bad := rfl
theorem isLst0 (xs : List PV) (r : List L3.PO) : isLst (.lst xs :: r) (.ref 0) = true := rfl
theorem pEq_ii (a b : Int) (h : List L3.PO) : pEq (.int a) (.int b) h = .ok (.bl (decide (a = b))) h := by
  have ok : ∀ l : Int, okD h (.int l) = true := fun l => by unfold okD dOf; simp [toD, PyData.canLay0, PyData.depth]
  unfold pEq
  rw [if_pos ⟨ok a, ok b⟩]
  have e : PyData.eqv (dOf h (.int a)) (dOf h (.int b)) = decide (a = b) := by
    show PyData.eqv (toD (.int a)) (toD (.int b)) = _
    simp only [toD, PyData.eqv]
    by_cases q : a = b <;> simp [q]
  rw [e]
theorem pNe_ii (a b : Int) (h : List L3.PO) : pNe (.int a) (.int b) h = .ok (.bl (!decide (a = b))) h := by
  have ok : ∀ l : Int, okD h (.int l) = true := fun l => by unfold okD dOf; simp [toD, PyData.canLay0, PyData.depth]
  unfold pNe
  rw [if_pos ⟨ok a, ok b⟩]
  have e : PyData.eqv (dOf h (.int a)) (dOf h (.int b)) = decide (a = b) := by
    show PyData.eqv (toD (.int a)) (toD (.int b)) = _
    simp only [toD, PyData.eqv]
    by_cases q : a = b <;> simp [q]
  rw [e]
theorem pNe_ss (a b : List Nat) (h : List L3.PO) (ha : ∀ c ∈ a, c < 1114112) (hb : ∀ c ∈ b, c < 1114112) : pNe (.str a) (.str b) h = .ok (.bl (!decide (a = b))) h := by
  have e := pEq_ss a b h ha hb
  unfold pEq at e
  unfold pNe
  split at e
  · rename_i hc
    rw [if_pos hc]
    injection e with e1 e2
    injection e1 with e1
    rw [e1]
  · cases e
end L3
set_option Elab.async false
set_option linter.all false
set_option maxRecDepth 100000
set_option maxHeartbeats 4000000
set_option autoImplicit false
namespace L3
open PySem L2
section
variable (h : List L3.PO)
@[simp] theorem find3_ss (x y : List Nat) (i : Int) : pFind3 (.str x) [.str y, .int i] h = .ok (.int (find3L x y i)) h := id rfl
@[simp] theorem starts3_ss (x y : List Nat) (i : Int) : pStarts3 (.str x) [.str y, .int i] h = .ok (.bl (starts3L x y i)) h := id rfl
@[simp] theorem starts_ss (x y : List Nat) : pStarts (.str x) [.str y] h = .ok (.bl (startsL x y)) h := id rfl
@[simp] theorem indexS_ss (x y : List Nat) : pIndexS (.str x) [.str y] h = (match occL x y with | i :: _ => .ok (.int (i : Nat)) h | [] => .bad) := id rfl
@[simp] theorem intT_s (x : List Nat) : pIntT [.str x] h = (match intL x with | some n => if x.length ≤ 640 then .ok (.int n) h else .bad | none => .bad) := id rfl
@[simp] theorem min_ii (i j : Int) : pMin [.int i, .int j] h = .ok (.int (if j < i then j else i)) h := id rfl
end
theorem pre1 (c : Nat) (x : List Nat) (i : Nat) : [c].isPrefixOf (x.drop i) = decide (x[i]? = some c) := by
  rw [Bool.eq_iff_iff, decide_eq_true_eq]
  cases e : x.drop i with
  | nil =>
    have : x.length ≤ i := List.drop_eq_nil_iff.mp e
    simp [List.isPrefixOf, this]
  | cons a r =>
    have : x[i]? = some a := by
      have := List.head?_drop (l := x) (i := i)
      rw [e] at this
      simpa using this.symm
    rw [this]
    show (c == a && true) = true ↔ some a = some c
    rw [Bool.and_true, beq_iff_eq, Option.some.injEq]
    exact ⟨Eq.symm, Eq.symm⟩
theorem split_at_sign {c : Nat} : ∀ {s : List Nat}, c ∈ s → ∃ a b, s = a ++ c :: b ∧ (∀ z ∈ a, z ≠ c)
  | [], h => by cases h
  | z :: r, h => by
    by_cases q : z = c
    · subst q; exact ⟨[], r, rfl, by simp⟩
    · obtain ⟨a, b, e, n⟩ := split_at_sign (c := c) (s := r) (by rcases List.mem_cons.mp h with w | w; exact absurd w.symm q; exact w)
      exact ⟨z :: a, b, by rw [e]; rfl, by
        intro y hy
        rcases List.mem_cons.mp hy with w | w
        · rw [w]; exact q
        · exact n y w⟩
theorem first1_some {c : Nat} {x : List Nat} {lo : Nat} (h : c ∈ x.drop lo) : firstFrom [c] x lo = some (lo + ((x.drop lo).takeWhile (· != c)).length) := by
  unfold firstFrom
  rw [List.find?_range_eq_some]
  obtain ⟨a, b, e, n⟩ := split_at_sign h
  have tw : (x.drop lo).takeWhile (· != c) = a := by
    rw [e, List.takeWhile_append_of_pos (by intro z hz; simpa using n z hz)]
    simp
  rw [tw]
  have ln : x.length = lo + a.length + 1 + b.length := by
    have : (x.drop lo).length = a.length + (b.length + 1) := by rw [e]; simp
    rw [List.length_drop] at this
    omega
  have at_ : ∀ j, x[lo + j]? = (a ++ c :: b)[j]? := fun j => by rw [← e, List.getElem?_drop]
  refine ⟨?_, List.mem_range.mpr (by omega), fun j hj => ?_⟩
  · rw [pre1, at_, Bool.and_eq_true]
    refine ⟨decide_eq_true (by omega), decide_eq_true ?_⟩
    rw [List.getElem?_append_right (Nat.le_refl _), Nat.sub_self]; rfl
  · rw [Bool.not_eq_true', Bool.and_eq_false_iff]
    by_cases q : lo ≤ j
    · right
      obtain ⟨d, rfl⟩ := Nat.exists_eq_add_of_le q
      rw [pre1, at_]
      apply decide_eq_false
      have hd : d < a.length := by omega
      rw [List.getElem?_append_left hd]
      intro z
      exact n _ (List.mem_of_getElem? z) rfl
    · left
      exact decide_eq_false q
theorem first1_none {c : Nat} {x : List Nat} {lo : Nat} (h : c ∉ x.drop lo) : firstFrom [c] x lo = none := by
  unfold firstFrom
  rw [List.find?_eq_none]
  intro j hj
  rw [pre1, Bool.and_eq_true, decide_eq_true_eq, decide_eq_true_eq]
  rintro ⟨q, e⟩
  apply h
  obtain ⟨d, rfl⟩ := Nat.exists_eq_add_of_le q
  rw [← List.getElem?_drop] at e
  exact List.mem_of_getElem? e
end L3
set_option Elab.async false
set_option linter.all false
set_option maxRecDepth 100000
set_option maxHeartbeats 4000000
set_option autoImplicit false
namespace L3
open PySem L2
def esc1 (mark raw letters : List Nat) (c : Nat) : List Nat := match firstFrom [c] raw 0 with
  | some i => mark ++ [letters.getD i 0]
  | none => [c]
structure Tb (m : Nat) (raw letters : List Nat) : Prop where
  ten : (10 : Nat) ≠ m
  mr : m ∈ raw
  tr : (10 : Nat) ∈ raw
  go : ∀ p, p < letters.length → esc1 [m] raw letters (raw.getD p 0) = [m, letters.getD p 0]
  bk : ∀ p, p < raw.length → firstFrom [letters.getD p 0] letters 0 = some p
  rl : raw.length ≤ letters.length
theorem first0 {c : Nat} {x : List Nat} {p : Nat} (h : firstFrom [c] x 0 = some p) : p < x.length ∧ x.getD p 0 = c := by
  by_cases q : c ∈ x.drop 0
  · rw [first1_some q] at h
    have h := Option.some.inj h
    rw [List.drop_zero] at q h
    obtain ⟨a, b, e, n⟩ := split_at_sign q
    have tw : x.takeWhile (· != c) = a := by
      rw [e, List.takeWhile_append_of_pos (by intro z hz; simpa using n z hz)]
      simp
    rw [tw, Nat.zero_add] at h
    subst h
    refine ⟨by rw [e]; simp, ?_⟩
    rw [e, List.getD_eq_getElem?_getD, List.getElem?_append_right (Nat.le_refl _), Nat.sub_self]; rfl
  · rw [first1_none q] at h; cases h
variable {m : Nat} {raw letters : List Nat}
end L3
set_option Elab.async false
set_option linter.all false
set_option maxRecDepth 100000
set_option maxHeartbeats 4000000
set_option autoImplicit false
namespace L3
open PySem L2
open PySem.NumText (digitsVal AllDigits)
theorem intL_digits {s : List Nat} (h : AllDigits s) (hn : s ≠ []) (hl : s.length ≤ 4300) : intL s = some ((digitsVal s : Nat) : Int) := by
  unfold intL
  exact PySem.intText_digits (x := S s) (by show AllDigits s; exact h) hn (by rw [S_len]; exact hl)
end L3
set_option Elab.async false
set_option linter.all false
set_option maxRecDepth 100000
set_option maxHeartbeats 4000000
set_option autoImplicit false
namespace L3
open PySem L2
def splitC (c : Nat) : List Nat → List (List Nat)
  | [] => [[]]
  | a :: r => if a = c then [] :: splitC c r else match splitC c r with
    | w :: ws => (a :: w) :: ws
    | [] => [[a]]
theorem splitC_ne (c : Nat) : ∀ l, splitC c l ≠ []
  | [] => by simp [splitC]
  | a :: r => by
    unfold splitC
    split
    · simp
    · split <;> simp
theorem splitC_free {c : Nat} : ∀ {a : List Nat}, c ∉ a → splitC c a = [a]
  | [], _ => rfl
  | x :: r, h => by
    have hx : x ≠ c := fun z => h (by rw [z]; exact List.mem_cons_self)
    rw [splitC, if_neg hx, splitC_free fun z => h (List.mem_cons_of_mem _ z)]
theorem splitC_cons {c : Nat} (r : List Nat) : ∀ {a : List Nat}, c ∉ a → splitC c (a ++ c :: r) = a :: splitC c r
  | [], _ => by show splitC c (c :: r) = _; rw [splitC, if_pos rfl]
  | x :: q, h => by
    have hx : x ≠ c := fun z => h (by rw [z]; exact List.mem_cons_self)
    show splitC c (x :: (q ++ c :: r)) = _
    rw [splitC, if_neg hx, splitC_cons r fun z => h (List.mem_cons_of_mem _ z)]
theorem splitC_join {c : Nat} : ∀ {ws : List (List Nat)}, ws ≠ [] → (∀ w ∈ ws, c ∉ w) → splitC c (joinL [c] ws) = ws
  | [], h, _ => absurd rfl h
  | [w], _, h => splitC_free (h w (by simp))
  | w :: v :: r, _, h => by
    show splitC c (w ++ [c] ++ joinL [c] (v :: r)) = _
    rw [List.append_assoc, List.singleton_append, splitC_cons _ (h w (by simp)), splitC_join (by simp) fun x hx => h x (List.mem_cons_of_mem _ hx)]
theorem splitL_S (x y : List Nat) : (splitL x y).map S = Txt.split (S x) (S y) := by
  unfold splitL
  rw [List.map_map]
  conv => rhs; rw [← List.map_id (Txt.split (S x) (S y))]
  exact List.map_congr_left fun z _ => S_of z
theorem split_join (x y : List Nat) : joinL y (splitL x y) = x := by
  apply S_inj
  rw [← S_join, splitL_S]
  show Builtin.Str.glued _ _ = _
  rw [StrLaws.glued_eq_join, StrLaws.join_split]
theorem split_noc (x : List Nat) (c : Nat) : ∀ p ∈ splitL x [c], c ∉ p := by
  intro p hp
  obtain ⟨z, hz, rfl⟩ := List.mem_map.mp hp
  exact StrLaws.split_free (S x) c z hz
theorem split_ne (x y : List Nat) : splitL x y ≠ [] := by
  unfold splitL Txt.split
  intro h
  have h := List.map_eq_nil_iff.mp h
  split at h
  · cases h
  · split at h
    · cases h
    · have := congrArg List.length h
      rw [length_partsBetween] at this
      simp at this
theorem splitL_one (x : List Nat) (c : Nat) : splitL x [c] = splitC c x := by
  have h := splitC_join (c := c) (split_ne x [c]) (split_noc x c)
  rw [split_join] at h
  exact h.symm
theorem mem_joinL {y : List Nat} {c : Nat} : ∀ {ls : List (List Nat)} {p : List Nat}, p ∈ ls → c ∈ p → c ∈ joinL y ls
  | [], _, h, _ => by cases h
  | [x], p, h, hc => by
    rw [List.mem_singleton.mp h] at hc; exact hc
  | x :: z :: r, p, h, hc => by
    show c ∈ x ++ y ++ joinL y (z :: r)
    rcases List.mem_cons.mp h with e | e
    · rw [e] at hc; simp [hc]
    · exact List.mem_append_right _ (mem_joinL e hc)
theorem split_mem {x y p : List Nat} {c : Nat} (h : p ∈ splitL x y) (hc : c ∈ p) : c ∈ x := by
  have := mem_joinL (y := y) h hc
  rw [split_join] at this
  exact this
theorem len_joinL {y : List Nat} (hy : y ≠ []) : ∀ {ls : List (List Nat)}, ls ≠ [] → ls.length ≤ (joinL y ls).length + 1
  | [], h => absurd rfl h
  | [x], _ => by simp
  | x :: z :: r, _ => by
    have ih := len_joinL hy (ls := z :: r) (by simp)
    have : 1 ≤ y.length := List.length_pos_iff.mpr hy
    show _ ≤ (x ++ y ++ joinL y (z :: r)).length + 1
    simp only [List.length_append, List.length_cons] at ih ⊢
    omega
theorem split_len (x : List Nat) {y : List Nat} (hy : y ≠ []) : (splitL x y).length ≤ x.length + 1 := by
  have := len_joinL hy (split_ne x y)
  rw [split_join] at this
  exact this
theorem part_len {y : List Nat} : ∀ {ls : List (List Nat)} {p : List Nat}, p ∈ ls → p.length ≤ (joinL y ls).length
  | [], _, h => by cases h
  | [x], p, h => by rw [List.mem_singleton.mp h]; exact Nat.le_refl _
  | x :: z :: r, p, h => by
    show _ ≤ (x ++ y ++ joinL y (z :: r)).length
    rcases List.mem_cons.mp h with e | e
    · rw [e]; simp only [List.length_append]; omega
    · have := part_len (y := y) e
      simp only [List.length_append]; omega
theorem split_part {x y p : List Nat} (h : p ∈ splitL x y) : p.length ≤ x.length := by
  have := part_len (y := y) h
  rw [split_join] at this
  exact this
theorem partL_eq (x y : List Nat) : partL x y = match firstFrom y x 0 with | some i => [x.take i, y, x.drop (i + y.length)] | none => [x, [], []] := by
  unfold partL Txt.partition
  rw [occ_first1]
  cases firstFrom y x 0 with
  | none => rfl
  | some i =>
    show [(Builtin.Str.strSub (S x) 0 i).cps.toList, (S y).cps.toList, (Builtin.Str.strSub (S x) (i + (S y).length) (S x).length).cps.toList] = _
    rw [StrLaws.strSub_toList, StrLaws.strSub_toList, S_cps, S_cps, S_len, S_len, List.drop_zero, Nat.sub_zero, List.take_of_length_le (l := x.drop _) (by rw [List.length_drop]; omega)]
theorem startsL_eq (x y : List Nat) : startsL x y = y.isPrefixOf x := by
  unfold startsL Txt.startswith
  rw [StrLaws.subAt_eq, S_cps, S_cps, S_len, S_len, List.drop_zero, Bool.eq_iff_iff, Bool.and_eq_true, decide_eq_true_eq, beq_iff_eq, List.isPrefixOf_iff_prefix]
  constructor
  · rintro ⟨_, h⟩
    rw [← h]; exact List.take_prefix _ _
  · intro h
    refine ⟨by have := h.length_le; omega, ?_⟩
    exact (List.prefix_iff_eq_take.mp h).symm
end L3
set_option Elab.async false
set_option linter.all false
set_option maxRecDepth 100000
set_option maxHeartbeats 4000000
set_option autoImplicit false
namespace L3
open PySem L2
section
variable (h : List L3.PO) (ρ : Ev)
@[simp] theorem split_ss (x y : List Nat) : pSplit (.str x) [.str y] h = if y ≠ [] ∧ x.length + 2 ≤ sizeLine then .ok (.lst ((splitL x y).map PV.str)) h else .bad := id rfl
@[simp] theorem part_ss (x y : List Nat) : pPart (.str x) [.str y] h = if y ≠ [] ∧ x.length ≤ sizeLine then .ok (.tup ((partL x y).map PV.str)) h else .bad := id rfl
@[simp] theorem inG_s (D : List (List Nat × List Nat)) (C C' : Nat) (x : List Nat) : pInG D C (.str x) (.cls C') h = if C' = C then .ok (.bl (lookD D x).isSome) h else .bad := id rfl
@[simp] theorem ixG_s (D : List (List Nat × List Nat)) (C C' : Nat) (x : List Nat) : pIxG D C (.cls C') (.str x) h = if C' = C then (match lookD D x with | some l => .ok (.str l) h | none => .bad) else .bad := id rfl
@[simp] theorem tuple_l (xs : List PV) : pTuple [.lst xs] h = .ok (.tup xs) h := id rfl
@[simp] theorem tuple_t (xs : List PV) : pTuple [.tup xs] h = .ok (.tup xs) h := id rfl
@[simp] theorem ev_setIx (fo fi fv : Ex) : sSetIx fo fi fv ρ h = eThen (fv ρ h) fun v h1 => eThen (fo ρ h1) fun o h2 => eThen (fi ρ h2) fun i h3 => setIxR v o i ρ h3 := id rfl
@[simp] theorem sl_l (xs : List PV) (lo hi : Option Int) : pSl (.lst xs) lo hi h = .ok (.lst (cut xs lo hi)) h := id rfl
end
theorem all_bl (bs : List Bool) (h : List L3.PO) : pAll [.lst (bs.map PV.bl)] h = .ok (.bl (bs.all id)) h := by
  have e : boolsOf (bs.map PV.bl) = some bs := by
    induction bs with
    | nil => rfl
    | cons b r ih => simp [boolsOf, ih]
  show (match boolsOf (bs.map PV.bl) with | some bs => Res.ok (PV.bl (bs.all id)) h | none => .bad) = _
  rw [e]
theorem ok_str {l : List Nat} (h : List L3.PO) (hl : ∀ c ∈ l, c < 1114112) : okD h (.str l) = true := by
  unfold okD dOf
  simp only [toD, PyData.canLay0, PyData.depth]
  simp [PyData.strOk, S]
  exact hl
theorem eqv_ss (a b : List Nat) (ha : ∀ c ∈ a, c < 1114112) (hb : ∀ c ∈ b, c < 1114112) : PyData.eqv (toD (.str a)) (toD (.str b)) = decide (a = b) := by
  have := pEq_ss a b [] ha hb
  unfold pEq at this
  rw [if_pos ⟨ok_str [] ha, ok_str [] hb⟩] at this
  injection this with this
  injection this
theorem any_eqv {x : List Nat} (hx : ∀ c ∈ x, c < 1114112) : ∀ {ls : List (List Nat)}, (∀ l ∈ ls, ∀ c ∈ l, c < 1114112) → ((ls.map PV.str).any fun y => PyData.eqv (toD y) (toD (.str x))) = decide (x ∈ ls)
  | [], _ => rfl
  | l :: r, h => by
    rw [List.map_cons, List.any_cons, eqv_ss l x (h l (by simp)) hx, any_eqv hx fun z hz => h z (List.mem_cons_of_mem _ hz), Bool.eq_iff_iff, Bool.or_eq_true, decide_eq_true_eq, decide_eq_true_eq, decide_eq_true_eq, List.mem_cons]
    exact or_congr eq_comm Iff.rfl
theorem all_ok : ∀ {ls : List (List Nat)}, (∀ l ∈ ls, ∀ c ∈ l, c < 1114112) → (ls.map PV.str).all (okD []) = true
  | [], _ => rfl
  | l :: r, h => by rw [List.map_cons, List.all_cons, ok_str [] (h l (by simp)), all_ok fun z hz => h z (List.mem_cons_of_mem _ hz)]; rfl
theorem inB_t {x : List Nat} {ls : List (List Nat)} (hx : ∀ c ∈ x, c < 1114112) (hl : ∀ l ∈ ls, ∀ c ∈ l, c < 1114112) (h : List L3.PO) : pInB (.str x) (.tup (ls.map PV.str)) h = some (decide (x ∈ ls)) := by
  show (if okD [] (.str x) = true ∧ (ls.map PV.str).all (okD []) = true then some ((ls.map PV.str).any fun y => PyData.eqv (toD y) (toD (.str x))) else none) = _
  rw [if_pos ⟨ok_str [] hx, all_ok hl⟩, any_eqv hx hl]
theorem inB_l {x : List Nat} {ls : List (List Nat)} (hx : ∀ c ∈ x, c < 1114112) (hl : ∀ l ∈ ls, ∀ c ∈ l, c < 1114112) (h : List L3.PO) : pInB (.str x) (.lst (ls.map PV.str)) h = some (decide (x ∈ ls)) := by
  show (if okD [] (.str x) = true ∧ (ls.map PV.str).all (okD []) = true then some ((ls.map PV.str).any fun y => PyData.eqv (toD y) (toD (.str x))) else none) = _
  rw [if_pos ⟨ok_str [] hx, all_ok hl⟩, any_eqv hx hl]
theorem in_t {x : List Nat} {ls : List (List Nat)} (hx : ∀ c ∈ x, c < 1114112) (hl : ∀ l ∈ ls, ∀ c ∈ l, c < 1114112) (h : List L3.PO) : pIn (.str x) (.tup (ls.map PV.str)) h = .ok (.bl (decide (x ∈ ls))) h := by unfold pIn; rw [inB_t hx hl]
theorem nin_t {x : List Nat} {ls : List (List Nat)} (hx : ∀ c ∈ x, c < 1114112) (hl : ∀ l ∈ ls, ∀ c ∈ l, c < 1114112) (h : List L3.PO) : pNotIn (.str x) (.tup (ls.map PV.str)) h = .ok (.bl (!decide (x ∈ ls))) h := by unfold pNotIn; rw [inB_t hx hl]
theorem in_l {x : List Nat} {ls : List (List Nat)} (hx : ∀ c ∈ x, c < 1114112) (hl : ∀ l ∈ ls, ∀ c ∈ l, c < 1114112) (h : List L3.PO) : pIn (.str x) (.lst (ls.map PV.str)) h = .ok (.bl (decide (x ∈ ls))) h := by unfold pIn; rw [inB_l hx hl]
theorem toDs_strs : ∀ {ls : List (List Nat)}, (∀ l ∈ ls, ∀ c ∈ l, c < 1114112) → PyData.canLayAll0 (toDs (ls.map PV.str)) = true ∧ PyData.depthAll (toDs (ls.map PV.str)) ≤ 1
  | [], _ => by simp [toDs, PyData.canLayAll0, PyData.depthAll]
  | l :: r, h => by
    have ih := toDs_strs fun z hz => h z (List.mem_cons_of_mem _ hz)
    have h1 : ∀ c ∈ l, c < 1114112 := h l (by simp)
    have h2 : PyData.canLay0 (toD (.str l)) = true := by
      have := ok_str [] h1
      unfold okD at this
      exact ((Bool.and_eq_true _ _).mp this).1
    have h3 : PyData.depth (toD (.str l)) ≤ 1 := by simp [toD, PyData.depth]
    rw [List.map_cons]
    simp only [toDs, PyData.canLayAll0, PyData.depthAll, h2, ih.1, Bool.and_self, true_and]
    omega
theorem eq_nil {ls : List (List Nat)} (hl : ∀ l ∈ ls, ∀ c ∈ l, c < 1114112) (h : List L3.PO) : pEq (.lst (ls.map PV.str)) (.lst []) h = .ok (.bl ls.isEmpty) h := by
  have ok : okD h (.lst (ls.map PV.str)) = true := by
    unfold okD dOf
    have := toDs_strs hl
    simp only [toD, PyData.canLay0, PyData.depth, this.1, Bool.true_and, decide_eq_true_eq]
    omega
  unfold pEq
  rw [if_pos ⟨ok, rfl⟩]
  cases ls with
  | nil => rfl
  | cons a r => rfl
end L3
set_option Elab.async false
set_option linter.all false
set_option maxRecDepth 100000
set_option maxHeartbeats 4000000
set_option autoImplicit false
namespace K5
open PySem PySem.Spec PyProof.Rows L2 L3
def top (i : Nat) : Stmt := PySem.Challenge.pw_formsmith_k05_commands.main.body.getD i (.Pass ⟨0, 0, 0, 0⟩)
def tv_COMMAND_WORDS : List (List Nat) := [[97, 115], [98, 101, 116, 119, 101, 101, 110], [98, 111, 100, 121], [101, 108, 115, 101], [101, 110, 100], [102, 111, 114], [105, 102], [105, 110], [112, 105, 101, 99, 101], [117, 115, 101], [119, 105, 116, 104]]
def tv_MANIES : List (List Nat) := [[48], [49], [50], [51]]
def tv_WAYS : List (List Nat) := [[119, 111, 114, 100], [110, 117, 109, 98, 101, 114], [113, 117, 111, 116, 101, 100], [112, 108, 97, 105, 110], [108, 105, 110, 101]]
def dv_BARE : List (List Nat × List Nat) := [([40], [111, 112, 101, 110]), ([41], [99, 108, 111, 115, 101]), ([101, 110, 100], [101, 110, 100]), ([101, 108, 115, 101], [101, 108, 115, 101]), ([98, 101, 116, 119, 101, 101, 110], [98, 101, 116, 119, 101, 101, 110])]
def q_217402 : List Nat := [10, 32, 33, 34, 35, 36, 38, 39, 40, 41, 42, 43, 44, 45, 46, 47, 48, 49, 50, 51, 52, 53, 54, 55, 56, 57, 58, 59, 60, 61, 62, 63, 64, 65, 66, 67, 68, 69, 70, 71, 72, 73, 74, 75, 76, 77, 78, 79, 80, 81, 82, 83, 84, 85, 86, 87, 88, 89, 90, 91, 92, 93, 94, 95, 96, 97, 98, 99, 100, 101, 102, 103, 104, 105, 106, 107, 108, 109, 110, 111, 112, 113, 114, 115, 116, 117, 118, 119, 120, 121, 122, 124, 126]
def q_c3fcd3 : List Nat := [97, 98, 99, 100, 101, 102, 103, 104, 105, 106, 107, 108, 109, 110, 111, 112, 113, 114, 115, 116, 117, 118, 119, 120, 121, 122]
inductive Fn where
  | law | l_names | l_mixed | l_text_by | command_of | l_cell_at | l_bent | l_same | l_command | l_path_by | place_command | for_command | if_command | use_command | body_command | piece_command | bracketed | l_path | l_use | l_piece | l_row | l_is_name | path_of | is_name | paths_of | names_of | l_called | is_path | is_made_of | listed
def stOf : Fn → Stmt
  | .law => top 39
  | .l_names => top 27
  | .l_mixed => top 26
  | .l_text_by => top 36
  | .command_of => top 12
  | .l_cell_at => top 25
  | .l_bent => top 37
  | .l_same => top 38
  | .l_command => top 34
  | .l_path_by => top 35
  | .place_command => top 13
  | .for_command => top 14
  | .if_command => top 15
  | .use_command => top 16
  | .body_command => top 17
  | .piece_command => top 18
  | .bracketed => top 19
  | .l_path => top 29
  | .l_use => top 32
  | .l_piece => top 33
  | .l_row => top 30
  | .l_is_name => top 28
  | .path_of => top 20
  | .is_name => top 5
  | .paths_of => top 22
  | .names_of => top 21
  | .l_called => top 31
  | .is_path => top 6
  | .is_made_of => top 7
  | .listed => top 23
def nmOf : Fn → Str
  | .law => "law"
  | .l_names => "_law_names"
  | .l_mixed => "_law_mixed"
  | .l_text_by => "_law_text_by"
  | .command_of => "command_of"
  | .l_cell_at => "_law_cell_at"
  | .l_bent => "_law_bent"
  | .l_same => "_law_same"
  | .l_command => "_law_command"
  | .l_path_by => "_law_path_by"
  | .place_command => "place_command"
  | .for_command => "for_command"
  | .if_command => "if_command"
  | .use_command => "use_command"
  | .body_command => "body_command"
  | .piece_command => "piece_command"
  | .bracketed => "bracketed"
  | .l_path => "_law_path"
  | .l_use => "_law_use"
  | .l_piece => "_law_piece"
  | .l_row => "_law_row"
  | .l_is_name => "_law_is_name"
  | .path_of => "path_of"
  | .is_name => "is_name"
  | .paths_of => "paths_of"
  | .names_of => "names_of"
  | .l_called => "_law_called"
  | .is_path => "is_path"
  | .is_made_of => "is_made_of"
  | .listed => "listed"
def qlOf : Fn → Str
  | .law => "law"
  | .l_names => "_law_names"
  | .l_mixed => "_law_mixed"
  | .l_text_by => "_law_text_by"
  | .command_of => "command_of"
  | .l_cell_at => "_law_cell_at"
  | .l_bent => "_law_bent"
  | .l_same => "_law_same"
  | .l_command => "_law_command"
  | .l_path_by => "_law_path_by"
  | .place_command => "place_command"
  | .for_command => "for_command"
  | .if_command => "if_command"
  | .use_command => "use_command"
  | .body_command => "body_command"
  | .piece_command => "piece_command"
  | .bracketed => "bracketed"
  | .l_path => "_law_path"
  | .l_use => "_law_use"
  | .l_piece => "_law_piece"
  | .l_row => "_law_row"
  | .l_is_name => "_law_is_name"
  | .path_of => "path_of"
  | .is_name => "is_name"
  | .paths_of => "paths_of"
  | .names_of => "names_of"
  | .l_called => "_law_called"
  | .is_path => "is_path"
  | .is_made_of => "is_made_of"
  | .listed => "listed"
def psOf : Fn → List Str
  | .law => ["_law_script"]
  | .l_names => ["_law_n"]
  | .l_mixed => ["_law_cell", "_law_k"]
  | .l_text_by => ["_law_names_here", "_law_n"]
  | .command_of => ["text"]
  | .l_cell_at => ["_law_script", "_law_k"]
  | .l_bent => ["_law_text", "_law_n"]
  | .l_same => ["_law_found", "_law_due"]
  | .l_command => ["_law_text"]
  | .l_path_by => ["_law_names_here", "_law_n"]
  | .place_command => ["text"]
  | .for_command => ["text"]
  | .if_command => ["text"]
  | .use_command => ["parts"]
  | .body_command => ["parts"]
  | .piece_command => ["parts"]
  | .bracketed => ["text"]
  | .l_path => ["_law_text"]
  | .l_use => ["_law_text"]
  | .l_piece => ["_law_text"]
  | .l_row => ["_law_text", "_law_with_fields"]
  | .l_is_name => ["_law_word"]
  | .path_of => ["text"]
  | .is_name => ["thing"]
  | .paths_of => ["text"]
  | .names_of => ["text"]
  | .l_called => ["_law_text", "_law_behind"]
  | .is_path => ["thing"]
  | .is_made_of => ["text", "allowed"]
  | .listed => ["text"]
noncomputable def w_law_1 (C : Fn → List PV → Out) : Sx := (sSeq (sSet 7 (cCall (C .l_bent) (aCons (cVar 4) (aCons (cCall (C .l_mixed) (aCons (cCall (C .l_cell_at) (aCons (cVar 0) (aCons (c2 pAdd (cK (.int 15)) (cVar 2)) aNil))) (aCons (c2 pAdd (cK (.int 3)) (cVar 6)) aNil))) aNil))))
    (sIf (tNotE (tTruE (cCall (C .l_same) (aCons (cCall (C .command_of) (aCons (cVar 7) aNil)) (aCons (cCall (C .l_command) (aCons (cVar 7) aNil)) aNil))))) (sRet (cK (.bl false))) sNil))
noncomputable def w_law_2 (C : Fn → List PV → Out) : Sx := (sSeq (sSet 3 (c2 pAdd (c2 pMul (c2 pDiv (cCall (C .l_mixed) (aCons (cCall (C .l_cell_at) (aCons (cVar 0) (aCons (c2 pAdd (cK (.int 1)) (cVar 2)) aNil))) (aCons (cVar 2) aNil))) (cK (.int 14))) (cK (.int 14))) (cVar 2)))
    (sSeq (sSet 4 (cCall (C .l_text_by) (aCons (cVar 1) (aCons (cVar 3) aNil))))
    (sSeq (sSet 5 (cCall (C .command_of) (aCons (cVar 4) aNil)))
    (sSeq (sIf (tOrE (tCmpE (c2 pIs (cVar 5) (cK .non))) (tNotE (tTruE (cCall (C .l_same) (aCons (cVar 5) (aCons (cCall (C .l_command) (aCons (cVar 4) aNil)) aNil)))))) (sRet (cK (.bl false))) sNil)
    (sFor (aRange1 (aCons (cK (.int 2)) aNil)) (gNm 6) (w_law_1 C))))))
noncomputable def b_law (C : Fn → List PV → Out) : Sx :=
  (sSeq (sSet 1 (cCall (C .l_names) (aCons (cCall (C .l_mixed) (aCons (cCall (C .l_cell_at) (aCons (cVar 0) (aCons (cK (.int 0)) aNil))) (aCons (cK (.int 0)) aNil))) aNil)))
    (sSeq (sFor (aRange1 (aCons (cK (.int 14)) aNil)) (gNm 2) (w_law_2 C))
    (sRet (cK (.bl true)))))
noncomputable def e_l_names_1 (C : Fn → List PV → Out) : Ex := (c2 pIx (cVar 1) (c2 pMod (c2 pAdd (c2 pAdd (c2 pDiv (cVar 2) (cK (.int 128))) (c2 pMul (cK (.int 5)) (cVar 0))) (c2 pMul (c2 pMul (cK (.int 3)) (c2 pDiv (cVar 3) (cK (.int 8)))) (c2 pSub (cK (.int 1)) (c2 pMod (cVar 2) (cK (.int 2)))))) (cK (.int 26))))
noncomputable def w_l_names_2 (C : Fn → List PV → Out) : Sx := (sSeq (sSet 5 (cN newL (aComp [1, 0, 4] (aRange1 (aCons (cK (.int 8)) aNil)) tYesE (e_l_names_1 C))))
    (sSeq (sIf (tCmpE (c2 pEq (c2 pMod (cVar 0) (cK (.int 2))) (cK (.int 1)))) (sSetIx (cVar 5) (cVar 2) (c2 pIx (cVar 1) (c2 pMod (c2 pAdd (c2 pAdd (c2 pDiv (cVar 0) (cK (.int 128))) (c2 pMul (cK (.int 7)) (cVar 4))) (cK (.int 1))) (cK (.int 26))))) sNil)
    (sDrop (cM isLst pAppend (cVar 3) (aCons (cM isStr pJoin (cK (.str [])) (aCons (cSl (cVar 5) oNone (oSome (c2 pIx (cN pLst (aCons (c2 pAdd (cK (.int 1)) (c2 pMod (cVar 4) (cK (.int 8)))) (aCons (c2 pAdd (c2 pAdd (cVar 2) (cK (.int 1))) (c2 pMod (c2 pDiv (cVar 0) (cK (.int 16))) (c2 pSub (cK (.int 8)) (cVar 2)))) aNil))) (c2 pMod (cVar 0) (cK (.int 2)))))) aNil)) aNil)))))
noncomputable def b_l_names (C : Fn → List PV → Out) : Sx :=
  (sSeq (sSet 1 (cK (.str q_c3fcd3)))
    (sSeq (sSet 2 (c2 pMod (c2 pDiv (cVar 0) (cK (.int 2))) (cK (.int 8))))
    (sSeq (sSet 3 (cN pLstM aNil))
    (sSeq (sFor (aRange1 (aCons (cK (.int 12)) aNil)) (gNm 4) (w_l_names_2 C))
    (sSeq (sSet 6 (cN pLst (aCons (cK (.str [97, 115])) (aCons (cK (.str [98, 101, 116, 119, 101, 101, 110])) (aCons (cK (.str [98, 111, 100, 121])) (aCons (cK (.str [101, 108, 115, 101])) (aCons (cK (.str [101, 110, 100])) (aCons (cK (.str [102, 111, 114])) (aCons (cK (.str [105, 102])) (aCons (cK (.str [105, 110])) (aCons (cK (.str [112, 105, 101, 99, 101])) (aCons (cK (.str [117, 115, 101])) (aCons (cK (.str [119, 105, 116, 104])) aNil)))))))))))))
    (sSeq (sIf (tCmpE (c2 pLt (c1 pLenSet (c2 pAdd (cVar 3) (cVar 6))) (cK (.int 23)))) (sRet (cN pLst (aCons (cK (.str [97])) (aCons (cK (.str [98])) (aCons (cK (.str [97, 98])) (aCons (cK (.str [98, 97])) (aCons (cK (.str [105, 116, 101, 109])) (aCons (cK (.str [105, 116, 101, 109, 115])) (aCons (cK (.str [99])) (aCons (cK (.str [120])) (aCons (cK (.str [120, 121])) (aCons (cK (.str [121])) (aCons (cK (.str [114, 111, 119])) (aCons (cK (.str [114, 111, 119, 115])) aNil)))))))))))))) sNil)
    (sRet (cVar 3))))))))
noncomputable def b_l_mixed (C : Fn → List PV → Out) : Sx :=
  (sRet (c2 pMod (c2 pMul (c2 pAdd (c2 pAdd (cVar 0) (c2 pMul (c2 pMul (cK (.int 31)) (cVar 1)) (cVar 1))) (cK (.int 7))) (cK (.int 48271))) (cK (.int 2147483647))))
noncomputable def e_l_text_by_1 (C : Fn → List PV → Out) : Ex := (cCall (C .l_path_by) (aCons (cVar 1) (aCons (c2 pDiv (cCall (C .l_mixed) (aCons (cVar 2) (aCons (cVar 0) aNil))) (cK (.int 3))) aNil)))
noncomputable def e_l_text_by_2 (C : Fn → List PV → Out) : Ex := (c2 pIx (cVar 1) (c2 pMod (c2 pDiv (cCall (C .l_mixed) (aCons (cVar 2) (aCons (c2 pAdd (cK (.int 9)) (cVar 0)) aNil))) (cK (.int 3))) (cK (.int 12))))
noncomputable def b_l_text_by (C : Fn → List PV → Out) : Sx :=
  (sSeq (sSet 2 (cCall (C .l_path_by) (aCons (cVar 0) (aCons (c2 pDiv (cVar 1) (cK (.int 11))) aNil))))
    (sSeq (sSet 3 (cM isStr pJoin (cK (.str [44, 32])) (aCons (cN okL (aComp [0, 1] (aRange1 (aCons (c2 pMod (c2 pDiv (cVar 1) (cK (.int 13))) (cK (.int 6))) aNil)) tYesE (e_l_text_by_1 C))) aNil)))
    (sSeq (sSet 4 (cM isStr pJoin (cK (.str [44, 32])) (aCons (cN okL (aComp [0, 1] (aRange1 (aCons (c2 pMod (c2 pDiv (cVar 1) (cK (.int 17))) (cK (.int 6))) aNil)) tYesE (e_l_text_by_2 C))) aNil)))
    (sSeq (sSet 5 (c2 pIx (cVar 0) (c2 pMod (c2 pDiv (cVar 1) (cK (.int 19))) (cK (.int 12)))))
    (sSeq (sSet 6 (c2 pIx (cN pLst (aCons (cK (.str [119, 111, 114, 100])) (aCons (cK (.str [110, 117, 109, 98, 101, 114])) (aCons (cK (.str [113, 117, 111, 116, 101, 100])) (aCons (cK (.str [112, 108, 97, 105, 110])) (aCons (cK (.str [108, 105, 110, 101])) aNil)))))) (c2 pMod (c2 pDiv (cVar 1) (cK (.int 23))) (cK (.int 5)))))
    (sSeq (sSet 7 (cN pLst (aCons (cK (.str [40])) (aCons (cK (.str [41])) (aCons (cK (.str [101, 110, 100])) (aCons (cK (.str [101, 108, 115, 101])) (aCons (cK (.str [98, 101, 116, 119, 101, 101, 110])) (aCons (cVar 2) (aCons (c2 pAdd (c2 pAdd (cVar 2) (cK (.str [32, 97, 115, 32]))) (cVar 6)) aNil)))))))))
    (sSeq (sSet 7 (c2 pAdd (cVar 7) (cN pLst (aCons (c2 pAdd (c2 pAdd (c2 pAdd (cK (.str [102, 111, 114, 32])) (cVar 5)) (cK (.str [32, 105, 110, 32]))) (cVar 2)) (aCons (c2 pAdd (cK (.str [105, 102, 32])) (cVar 2)) aNil)))))
    (sSeq (sSet 8 (c2 pAdd (c2 pAdd (c2 pAdd (c2 pAdd (cK (.str [117, 115, 101, 32])) (cVar 5)) (cK (.str [40]))) (cVar 3)) (cK (.str [41]))))
    (sSeq (sSet 7 (c2 pAdd (cVar 7) (cN pLst (aCons (cVar 8) (aCons (c2 pAdd (c2 pAdd (cVar 8) (cK (.str [32, 119, 105, 116, 104, 32]))) (cVar 4)) aNil)))))
    (sSeq (sSet 7 (c2 pAdd (cVar 7) (cN pLst (aCons (c2 pAdd (c2 pAdd (cK (.str [98, 111, 100, 121, 40])) (cVar 3)) (cK (.str [41]))) (aCons (c2 pAdd (c2 pAdd (c2 pAdd (c2 pAdd (cK (.str [112, 105, 101, 99, 101, 32])) (cVar 5)) (cK (.str [40]))) (cVar 4)) (cK (.str [41]))) aNil)))))
    (sRet (c2 pIx (c2 pAdd (cVar 7) (cN pLst (aCons (c2 pAdd (c2 pAdd (c2 pAdd (c2 pAdd (c2 pAdd (cK (.str [112, 105, 101, 99, 101, 32])) (cVar 5)) (cK (.str [40]))) (cVar 4)) (cK (.str [41, 32, 98, 111, 100, 121, 32]))) (c2 pIx (cK (.str [48, 49, 50, 51])) (c2 pMod (c2 pDiv (cVar 1) (cK (.int 29))) (cK (.int 4))))) aNil))) (c2 pMod (cVar 1) (cK (.int 14)))))))))))))))
noncomputable def b_command_of (C : Fn → List PV → Out) : Sx :=
  (sSeq (sIf (tCmpE (c2 (pInG dv_BARE 0) (cVar 0) (cK (.cls 0)))) (sRet (cN pTup (aCons (c2 (pIxG dv_BARE 0) (cK (.cls 0)) (cVar 0)) aNil))) sNil)
    (sSeq (sIf (tTruE (cM isStr pStarts (cVar 0) (aCons (cK (.str [102, 111, 114, 32])) aNil))) (sRet (cCall (C .for_command) (aCons (cSl (cVar 0) (oSome (cN pLen (aCons (cK (.str [102, 111, 114, 32])) aNil))) oNone) aNil))) sNil)
    (sSeq (sIf (tTruE (cM isStr pStarts (cVar 0) (aCons (cK (.str [105, 102, 32])) aNil))) (sRet (cCall (C .if_command) (aCons (cSl (cVar 0) (oSome (cN pLen (aCons (cK (.str [105, 102, 32])) aNil))) oNone) aNil))) sNil)
    (sSeq (sIf (tTruE (cM isStr pStarts (cVar 0) (aCons (cK (.str [117, 115, 101, 32])) aNil))) (sRet (cCall (C .use_command) (aCons (cCall (C .bracketed) (aCons (cSl (cVar 0) (oSome (cN pLen (aCons (cK (.str [117, 115, 101, 32])) aNil))) oNone) aNil)) aNil))) sNil)
    (sSeq (sIf (tTruE (cM isStr pStarts (cVar 0) (aCons (cK (.str [98, 111, 100, 121, 40])) aNil))) (sRet (cCall (C .body_command) (aCons (cCall (C .bracketed) (aCons (cVar 0) aNil)) aNil))) sNil)
    (sSeq (sIf (tTruE (cM isStr pStarts (cVar 0) (aCons (cK (.str [112, 105, 101, 99, 101, 32])) aNil))) (sRet (cCall (C .piece_command) (aCons (cCall (C .bracketed) (aCons (cSl (cVar 0) (oSome (cN pLen (aCons (cK (.str [112, 105, 101, 99, 101, 32])) aNil))) oNone) aNil)) aNil))) sNil)
    (sRet (cCall (C .place_command) (aCons (cVar 0) aNil)))))))))
noncomputable def b_l_cell_at (C : Fn → List PV → Out) : Sx :=
  (sSeq (sIf (tCmpE (c2 pLt (cVar 1) (cN pLen (aCons (cVar 0) aNil)))) (sRet (c2 pIx (cVar 0) (cVar 1))) sNil)
    (sRet (cK (.int 0))))
noncomputable def b_l_bent (C : Fn → List PV → Out) : Sx :=
  (sSeq (sSet 2 (cK (.str q_217402)))
    (sSeq (sSet 3 (c2 pIx (cN pLst (aCons (c2 pIx (cVar 2) (c2 pMod (c2 pDiv (cVar 1) (cK (.int 16))) (cK (.int 93)))) (aCons (c2 pIx (cK (.str [32, 46, 44, 40, 41, 48, 49, 50, 51, 97])) (c2 pMod (c2 pDiv (cVar 1) (cK (.int 16))) (cK (.int 10)))) aNil))) (c2 pMod (c2 pDiv (cVar 1) (cK (.int 8))) (cK (.int 2)))))
    (sSeq (sSet 4 (c2 pMod (c2 pDiv (cVar 1) (cK (.int 2048))) (c2 pAdd (cN pLen (aCons (cVar 0) aNil)) (cK (.int 1)))))
    (sSeq (sIf (tCmpE (c2 pEq (c2 pMod (cVar 1) (cK (.int 5))) (cK (.int 0)))) (sRet (c2 pAdd (c2 pAdd (cSl (cVar 0) oNone (oSome (cVar 4))) (cVar 3)) (cSl (cVar 0) (oSome (cVar 4)) oNone))) sNil)
    (sSeq (sIf (tCmpE (c2 pEq (c2 pMod (cVar 1) (cK (.int 5))) (cK (.int 1)))) (sRet (c2 pAdd (cSl (cVar 0) oNone (oSome (cVar 4))) (cSl (cVar 0) (oSome (c2 pAdd (cVar 4) (cK (.int 1)))) oNone))) sNil)
    (sSeq (sIf (tCmpE (c2 pEq (c2 pMod (cVar 1) (cK (.int 5))) (cK (.int 2)))) (sRet (c2 pAdd (c2 pAdd (cSl (cVar 0) oNone (oSome (cVar 4))) (cVar 3)) (cSl (cVar 0) (oSome (c2 pAdd (cVar 4) (cK (.int 1)))) oNone))) sNil)
    (sSeq (sSet 5 (cM isStr pSplit (cVar 0) (aCons (cK (.str [32])) aNil)))
    (sSeq (sSet 6 (c2 pMod (c2 pDiv (cVar 1) (cK (.int 2048))) (cN pLen (aCons (cVar 5) aNil))))
    (sSeq (sSet 7 (c2 pIx (cN pLst (aCons (cK (.str [97, 115])) (aCons (cK (.str [98, 101, 116, 119, 101, 101, 110])) (aCons (cK (.str [98, 111, 100, 121])) (aCons (cK (.str [101, 108, 115, 101])) (aCons (cK (.str [101, 110, 100])) (aCons (cK (.str [102, 111, 114])) (aCons (cK (.str [105, 102])) (aCons (cK (.str [105, 110])) (aCons (cK (.str [112, 105, 101, 99, 101])) (aCons (cK (.str [117, 115, 101])) (aCons (cK (.str [119, 105, 116, 104])) (aCons (cK (.str [])) aNil))))))))))))) (c2 pMod (c2 pDiv (cVar 1) (cK (.int 16))) (cK (.int 12)))))
    (sSeq (sIf (tCmpE (c2 pEq (c2 pMod (cVar 1) (cK (.int 5))) (cK (.int 3)))) (sSeq (sSet 8 (c2 pMul (cN pLst (aCons (c2 pIx (cVar 5) (cVar 6)) aNil)) (c2 pMod (c2 pDiv (cVar 1) (cK (.int 8))) (cK (.int 3)))))
    (sRet (cM isStr pJoin (cK (.str [32])) (aCons (c2 pAdd (c2 pAdd (cSl (cVar 5) oNone (oSome (cVar 6))) (cVar 8)) (cSl (cVar 5) (oSome (c2 pAdd (cVar 6) (cK (.int 1)))) oNone)) aNil)))) sNil)
    (sRet (cM isStr pJoin (cK (.str [32])) (aCons (c2 pAdd (c2 pAdd (cSl (cVar 5) oNone (oSome (cVar 6))) (cN pLst (aCons (cVar 7) aNil))) (cSl (cVar 5) (oSome (c2 pAdd (cVar 6) (cK (.int 1)))) oNone)) aNil)))))))))))))
noncomputable def b_l_same (C : Fn → List PV → Out) : Sx :=
  (sSeq (sIf (tOrE (tCmpE (c2 pIs (cVar 1) (cK .non))) (tCmpE (c2 pIs (cVar 0) (cK .non)))) (sRet (cAnd (c2 pIs (cVar 0) (cK .non)) (c2 pIs (cVar 1) (cK .non)))) sNil)
    (sRet (c2 pEq (cN pRepr (aCons (cVar 0) aNil)) (cN pRepr (aCons (cVar 1) aNil)))))
noncomputable def b_l_command (C : Fn → List PV → Out) : Sx :=
  (sSeq (sSet 1 (cM isStr pSplit (cVar 0) (aCons (cK (.str [32])) aNil)))
    (sSeq (sIf (tCmpE (c2 pIn (cVar 0) (cN pTup (aCons (cK (.str [40])) (aCons (cK (.str [41])) (aCons (cK (.str [101, 110, 100])) (aCons (cK (.str [101, 108, 115, 101])) (aCons (cK (.str [98, 101, 116, 119, 101, 101, 110])) aNil)))))))) (sRet (cN pTup (aCons (cGet2 (cDict [((cK (.str [40])), (cK (.str [111, 112, 101, 110]))), ((cK (.str [41])), (cK (.str [99, 108, 111, 115, 101])))]) (cVar 0) (cVar 0)) aNil))) sNil)
    (sSeq (sIf (tCmpE (c2 pEq (c2 pIx (cVar 1) (cK (.int 0))) (cK (.str [102, 111, 114])))) (sSeq (sIf (tOrE (tCmpE (c2 pNe (cN pLen (aCons (cVar 1) aNil)) (cK (.int 4)))) (tOrE (tCmpE (c2 pNe (c2 pIx (cVar 1) (cK (.int 2))) (cK (.str [105, 110])))) (tNotE (tTruE (cCall (C .l_is_name) (aCons (c2 pIx (cVar 1) (cK (.int 1))) aNil)))))) (sRet (cK .non)) sNil)
    (sSeq (sIf (tCmpE (c2 pIs (cCall (C .l_path) (aCons (c2 pIx (cVar 1) (cK (.int 3))) aNil)) (cK .non))) (sRet (cK .non)) sNil)
    (sRet (cN pTup (aCons (cK (.str [102, 111, 114])) (aCons (c2 pIx (cVar 1) (cK (.int 1))) (aCons (cCall (C .l_path) (aCons (c2 pIx (cVar 1) (cK (.int 3))) aNil)) aNil))))))) sNil)
    (sSeq (sIf (tCmpE (c2 pEq (c2 pIx (cVar 1) (cK (.int 0))) (cK (.str [105, 102])))) (sSeq (sIf (tOrE (tCmpE (c2 pNe (cN pLen (aCons (cVar 1) aNil)) (cK (.int 2)))) (tCmpE (c2 pIs (cCall (C .l_path) (aCons (c2 pIx (cVar 1) (cK (.int 1))) aNil)) (cK .non)))) (sRet (cK .non)) sNil)
    (sRet (cN pTup (aCons (cK (.str [105, 102])) (aCons (cCall (C .l_path) (aCons (c2 pIx (cVar 1) (cK (.int 1))) aNil)) aNil))))) sNil)
    (sSeq (sIf (tCmpE (c2 pEq (c2 pIx (cVar 1) (cK (.int 0))) (cK (.str [117, 115, 101])))) (sRet (cCall (C .l_use) (aCons (cSl (cVar 0) (oSome (cK (.int 4))) oNone) aNil))) sNil)
    (sSeq (sIf (tCmpE (c2 pEq (c2 pIx (cVar 1) (cK (.int 0))) (cK (.str [112, 105, 101, 99, 101])))) (sRet (cCall (C .l_piece) (aCons (cSl (cVar 0) (oSome (cK (.int 6))) oNone) aNil))) sNil)
    (sSeq (sIf (tCmpE (c2 pEq (cSl (cVar 0) oNone (oSome (cK (.int 5)))) (cK (.str [98, 111, 100, 121, 40])))) (sSeq (sSet 2 (cCall (C .l_row) (aCons (cSl (cVar 0) (oSome (cK (.int 5))) (oSome (c1 pNeg (cK (.int 1))))) (aCons (cK (.bl true)) aNil))))
    (sRet (cIfE (tOrE (tCmpE (c2 pNe (c2 pIx (cVar 0) (c1 pNeg (cK (.int 1)))) (cK (.str [41])))) (tCmpE (c2 pIs (cVar 2) (cK .non)))) (cK .non) (cN pTup (aCons (cK (.str [98, 111, 100, 121])) (aCons (cVar 2) aNil)))))) sNil)
    (sSeq (sIf (tCmpE (c2 pEq (cN pLen (aCons (cVar 1) aNil)) (cK (.int 1)))) (sSet 1 (c2 pAdd (cVar 1) (cN pLst (aCons (cK (.str [97, 115])) (aCons (cK (.str [112, 108, 97, 105, 110])) aNil))))) sNil)
    (sSeq (sSet 3 (cCall (C .l_path) (aCons (c2 pIx (cVar 1) (cK (.int 0))) aNil)))
    (sSeq (sIf (tOrE (tCmpE (c2 pNe (cN pLen (aCons (cVar 1) aNil)) (cK (.int 3)))) (tOrE (tCmpE (c2 pNe (c2 pIx (cVar 1) (cK (.int 1))) (cK (.str [97, 115])))) (tCmpE (c2 pIs (cVar 3) (cK .non))))) (sRet (cK .non)) sNil)
    (sSeq (sIf (tCmpE (c2 pNotIn (c2 pIx (cVar 1) (cK (.int 2))) (cN pTup (aCons (cK (.str [119, 111, 114, 100])) (aCons (cK (.str [110, 117, 109, 98, 101, 114])) (aCons (cK (.str [113, 117, 111, 116, 101, 100])) (aCons (cK (.str [112, 108, 97, 105, 110])) (aCons (cK (.str [108, 105, 110, 101])) aNil)))))))) (sRet (cK .non)) sNil)
    (sRet (cN pTup (aCons (cK (.str [112, 108, 97, 99, 101])) (aCons (cVar 3) (aCons (c2 pIx (cVar 1) (cK (.int 2))) aNil))))))))))))))))
noncomputable def e_l_path_by_1 (C : Fn → List PV → Out) : Ex := (c2 pIx (cVar 1) (c2 pMod (c2 pDiv (c2 pDiv (cVar 2) (cK (.int 4))) (c2 pAdd (cK (.int 1)) (c2 pMul (cK (.int 12)) (cVar 0)))) (cK (.int 12))))
noncomputable def b_l_path_by (C : Fn → List PV → Out) : Sx :=
  (sRet (cM isStr pJoin (cK (.str [46])) (aCons (cN okL (aComp [0, 1] (aRange1 (aCons (c2 pAdd (cK (.int 1)) (c2 pMod (cVar 1) (cK (.int 4)))) aNil)) tYesE (e_l_path_by_1 C))) aNil)))
noncomputable def b_place_command (C : Fn → List PV → Out) : Sx :=
  (sSeq (sSet 1 (cM isStr pPart (cVar 0) (aCons (cK (.str [32, 97, 115, 32])) aNil)))
    (sSeq (sSet 2 (cCall (C .path_of) (aCons (c2 pIx (cVar 1) (cK (.int 0))) aNil)))
    (sSeq (sSet 3 (cIfE (tTruE (c2 pIx (cVar 1) (cK (.int 1)))) (c2 pIx (cVar 1) (cK (.int 2))) (cK (.str [112, 108, 97, 105, 110]))))
    (sSeq (sIf (tOrE (tCmpE (c2 pIs (cVar 2) (cK .non))) (tCmpE (c2 pNotIn (cVar 3) (cK (.tup (tv_WAYS.map PV.str)))))) (sRet (cK .non)) sNil)
    (sRet (cN pTup (aCons (cK (.str [112, 108, 97, 99, 101])) (aCons (cVar 2) (aCons (cVar 3) aNil)))))))))
noncomputable def b_for_command (C : Fn → List PV → Out) : Sx :=
  (sSeq (sSet 1 (cM isStr pPart (cVar 0) (aCons (cK (.str [32, 105, 110, 32])) aNil)))
    (sSeq (sSet 2 (cCall (C .path_of) (aCons (c2 pIx (cVar 1) (cK (.int 2))) aNil)))
    (sSeq (sIf (tOrE (tNotE (tTruE (cCall (C .is_name) (aCons (c2 pIx (cVar 1) (cK (.int 0))) aNil)))) (tCmpE (c2 pIs (cVar 2) (cK .non)))) (sRet (cK .non)) sNil)
    (sRet (cN pTup (aCons (cK (.str [102, 111, 114])) (aCons (c2 pIx (cVar 1) (cK (.int 0))) (aCons (cVar 2) aNil))))))))
noncomputable def b_if_command (C : Fn → List PV → Out) : Sx :=
  (sSeq (sSet 1 (cCall (C .path_of) (aCons (cVar 0) aNil)))
    (sSeq (sIf (tCmpE (c2 pIs (cVar 1) (cK .non))) (sRet (cK .non)) sNil)
    (sRet (cN pTup (aCons (cK (.str [105, 102])) (aCons (cVar 1) aNil))))))
noncomputable def b_use_command (C : Fn → List PV → Out) : Sx :=
  (sSeq (sIf (tOrE (tCmpE (c2 pIs (cVar 0) (cK .non))) (tNotE (tTruE (cCall (C .is_name) (aCons (c2 pIx (cVar 0) (cK (.int 0))) aNil))))) (sRet (cK .non)) sNil)
    (sSeq (sSet 1 (cCall (C .paths_of) (aCons (c2 pIx (cVar 0) (cK (.int 1))) aNil)))
    (sSeq (sIf (tCmpE (c2 pIs (cVar 1) (cK .non))) (sRet (cK .non)) sNil)
    (sSeq (sIf (tCmpE (c2 pEq (c2 pIx (cVar 0) (cK (.int 2))) (cK (.str [])))) (sRet (cN pTup (aCons (cK (.str [117, 115, 101])) (aCons (c2 pIx (cVar 0) (cK (.int 0))) (aCons (cVar 1) (aCons (cK .non) aNil)))))) sNil)
    (sSeq (sIf (tNotE (tTruE (cM isStr pStarts (c2 pIx (cVar 0) (cK (.int 2))) (aCons (cK (.str [32, 119, 105, 116, 104, 32])) aNil)))) (sRet (cK .non)) sNil)
    (sSeq (sSet 2 (cCall (C .names_of) (aCons (cSl (c2 pIx (cVar 0) (cK (.int 2))) (oSome (cN pLen (aCons (cK (.str [32, 119, 105, 116, 104, 32])) aNil))) oNone) aNil)))
    (sSeq (sIf (tCmpE (c2 pIs (cVar 2) (cK .non))) (sRet (cK .non)) sNil)
    (sRet (cN pTup (aCons (cK (.str [117, 115, 101])) (aCons (c2 pIx (cVar 0) (cK (.int 0))) (aCons (cVar 1) (aCons (cVar 2) aNil)))))))))))))
noncomputable def b_body_command (C : Fn → List PV → Out) : Sx :=
  (sSeq (sIf (tOrE (tCmpE (c2 pIs (cVar 0) (cK .non))) (tCmpE (c2 pNe (c2 pIx (cVar 0) (cK (.int 2))) (cK (.str []))))) (sRet (cK .non)) sNil)
    (sSeq (sSet 1 (cCall (C .paths_of) (aCons (c2 pIx (cVar 0) (cK (.int 1))) aNil)))
    (sSeq (sIf (tCmpE (c2 pIs (cVar 1) (cK .non))) (sRet (cK .non)) sNil)
    (sRet (cN pTup (aCons (cK (.str [98, 111, 100, 121])) (aCons (cVar 1) aNil)))))))
noncomputable def b_piece_command (C : Fn → List PV → Out) : Sx :=
  (sSeq (sIf (tOrE (tCmpE (c2 pIs (cVar 0) (cK .non))) (tNotE (tTruE (cCall (C .is_name) (aCons (c2 pIx (cVar 0) (cK (.int 0))) aNil))))) (sRet (cK .non)) sNil)
    (sSeq (sSet 1 (cCall (C .names_of) (aCons (c2 pIx (cVar 0) (cK (.int 1))) aNil)))
    (sSeq (sIf (tCmpE (c2 pIs (cVar 1) (cK .non))) (sRet (cK .non)) sNil)
    (sSeq (sIf (tCmpE (c2 pEq (c2 pIx (cVar 0) (cK (.int 2))) (cK (.str [])))) (sRet (cN pTup (aCons (cK (.str [112, 105, 101, 99, 101])) (aCons (c2 pIx (cVar 0) (cK (.int 0))) (aCons (cVar 1) (aCons (cK .non) aNil)))))) sNil)
    (sSeq (sSet 2 (cSl (c2 pIx (cVar 0) (cK (.int 2))) (oSome (cN pLen (aCons (cK (.str [32, 98, 111, 100, 121, 32])) aNil))) oNone))
    (sSeq (sIf (tOrE (tNotE (tTruE (cM isStr pStarts (c2 pIx (cVar 0) (cK (.int 2))) (aCons (cK (.str [32, 98, 111, 100, 121, 32])) aNil)))) (tCmpE (c2 pNotIn (cVar 2) (cK (.tup (tv_MANIES.map PV.str)))))) (sRet (cK .non)) sNil)
    (sRet (cN pTup (aCons (cK (.str [112, 105, 101, 99, 101])) (aCons (c2 pIx (cVar 0) (cK (.int 0))) (aCons (cVar 1) (aCons (cN pIntT (aCons (cVar 2) aNil)) aNil))))))))))))
noncomputable def b_bracketed (C : Fn → List PV → Out) : Sx :=
  (sSeq (sSet 1 (cM isStr pFind (cVar 0) (aCons (cK (.str [40])) aNil)))
    (sSeq (sSet 2 (cM isStr pFind (cVar 0) (aCons (cK (.str [41])) aNil)))
    (sSeq (sIf (tNotE (tCmpE (cChain pLe pLt (cK (.int 0)) (cVar 1) (cVar 2)))) (sRet (cK .non)) sNil)
    (sRet (cN pTup (aCons (cSl (cVar 0) oNone (oSome (cVar 1))) (aCons (cSl (cVar 0) (oSome (c2 pAdd (cVar 1) (cK (.int 1)))) (oSome (cVar 2))) (aCons (cSl (cVar 0) (oSome (c2 pAdd (cVar 2) (cK (.int 1)))) oNone) aNil))))))))
noncomputable def e_l_path_1 (C : Fn → List PV → Out) : Ex := (cCall (C .l_is_name) (aCons (cVar 0) aNil))
noncomputable def b_l_path (C : Fn → List PV → Out) : Sx :=
  (sSeq (sSet 1 (cM isStr pSplit (cVar 0) (aCons (cK (.str [46])) aNil)))
    (sSeq (sIf (tOrE (tCmpE (c2 pGt (cN pLen (aCons (cVar 1) aNil)) (cK (.int 4)))) (tNotE (tTruE (cN pAll (aCons (cN okL (aComp [] (aSeq (cVar 1)) tYesE (e_l_path_1 C))) aNil))))) (sRet (cK .non)) sNil)
    (sRet (cN pTuple (aCons (cVar 1) aNil)))))
noncomputable def b_l_use (C : Fn → List PV → Out) : Sx :=
  (sSeq (sSet 1 (cCall (C .l_called) (aCons (cVar 0) (aCons (cK (.str [32, 119, 105, 116, 104, 32])) aNil))))
    (sSeq (sIf (tCmpE (c2 pIs (cVar 1) (cK .non))) (sRet (cK .non)) sNil)
    (sSeq (sSet 2 (cCall (C .l_row) (aCons (c2 pIx (cVar 1) (cK (.int 1))) (aCons (cK (.bl true)) aNil))))
    (sSeq (sSet 3 (cK .non))
    (sSeq (sIf (tCmpE (c2 pNe (c2 pIx (cVar 1) (cK (.int 2))) (cK (.str [])))) (sSet 3 (cCall (C .l_row) (aCons (cSl (c2 pIx (cVar 1) (cK (.int 2))) (oSome (cK (.int 6))) oNone) (aCons (cK (.bl false)) aNil)))) sNil)
    (sSeq (sIf (tOrE (tCmpE (c2 pIs (cVar 2) (cK .non))) (tAndE (tCmpE (c2 pNe (c2 pIx (cVar 1) (cK (.int 2))) (cK (.str [])))) (tCmpE (c2 pIs (cVar 3) (cK .non))))) (sRet (cK .non)) sNil)
    (sRet (cN pTup (aCons (cK (.str [117, 115, 101])) (aCons (c2 pIx (cVar 1) (cK (.int 0))) (aCons (cVar 2) (aCons (cVar 3) aNil))))))))))))
noncomputable def b_l_piece (C : Fn → List PV → Out) : Sx :=
  (sSeq (sSet 1 (cCall (C .l_called) (aCons (cVar 0) (aCons (cK (.str [32, 98, 111, 100, 121, 32])) aNil))))
    (sSeq (sIf (tCmpE (c2 pIs (cVar 1) (cK .non))) (sRet (cK .non)) sNil)
    (sSeq (sSet 2 (cCall (C .l_row) (aCons (c2 pIx (cVar 1) (cK (.int 1))) (aCons (cK (.bl false)) aNil))))
    (sSeq (sIf (tOrE (tCmpE (c2 pIs (cVar 2) (cK .non))) (tCmpE (c2 pNotIn (c2 pIx (cVar 1) (cK (.int 2))) (cN pTup (aCons (cK (.str [])) (aCons (cK (.str [32, 98, 111, 100, 121, 32, 48])) (aCons (cK (.str [32, 98, 111, 100, 121, 32, 49])) (aCons (cK (.str [32, 98, 111, 100, 121, 32, 50])) (aCons (cK (.str [32, 98, 111, 100, 121, 32, 51])) aNil))))))))) (sRet (cK .non)) sNil)
    (sRet (cN pTup (aCons (cK (.str [112, 105, 101, 99, 101])) (aCons (c2 pIx (cVar 1) (cK (.int 0))) (aCons (cVar 2) (aCons (cIfE (tCmpE (c2 pEq (c2 pIx (cVar 1) (cK (.int 2))) (cK (.str [])))) (cK .non) (cN pIntT (aCons (cSl (c2 pIx (cVar 1) (cK (.int 2))) (oSome (cK (.int 6))) oNone) aNil))) aNil))))))))))
noncomputable def e_l_row_1 (C : Fn → List PV → Out) : Ex := (cCall (C .l_path) (aCons (cVar 0) aNil))
noncomputable def e_l_row_2 (C : Fn → List PV → Out) : Ex := (c2 pIx (cN pLst (aCons (cK .non) (aCons (cVar 0) aNil))) (cN pInt (aCons (cCall (C .l_is_name) (aCons (cVar 0) aNil)) aNil)))
noncomputable def b_l_row (C : Fn → List PV → Out) : Sx :=
  (sSeq (sIf (tCmpE (c2 pEq (cVar 0) (cK (.str [])))) (sRet (cN pTup aNil)) sNil)
    (sSeq (sIf (tTruE (cVar 1)) (sSet 2 (cN okL (aComp [] (aSeq (cM isStr pSplit (cVar 0) (aCons (cK (.str [44, 32])) aNil))) tYesE (e_l_row_1 C)))) (sSet 2 (cN okL (aComp [] (aSeq (cM isStr pSplit (cVar 0) (aCons (cK (.str [44, 32])) aNil))) tYesE (e_l_row_2 C)))))
    (sSeq (sIf (tCmpE (c2 pIn (cK .non) (cVar 2))) (sRet (cK .non)) sNil)
    (sRet (cN pTuple (aCons (cVar 2) aNil))))))
noncomputable def t_l_is_name_1 (C : Fn → List PV → Out) : Tx := (tCmpE (c2 pNotIn (cVar 0) (cK (.str q_c3fcd3))))
noncomputable def e_l_is_name_1 (C : Fn → List PV → Out) : Ex := (cVar 0)
noncomputable def b_l_is_name (C : Fn → List PV → Out) : Sx :=
  (sSeq (sSet 1 (cN pLst (aCons (cK (.str [97, 115])) (aCons (cK (.str [98, 101, 116, 119, 101, 101, 110])) (aCons (cK (.str [98, 111, 100, 121])) (aCons (cK (.str [101, 108, 115, 101])) (aCons (cK (.str [101, 110, 100])) (aCons (cK (.str [102, 111, 114])) (aCons (cK (.str [105, 102])) (aCons (cK (.str [105, 110])) (aCons (cK (.str [112, 105, 101, 99, 101])) (aCons (cK (.str [117, 115, 101])) (aCons (cK (.str [119, 105, 116, 104])) aNil)))))))))))))
    (sSeq (sIf (tOrE (tNotE (tCmpE (cChain pLe pLe (cK (.int 1)) (cN pLen (aCons (cVar 0) aNil)) (cK (.int 8))))) (tCmpE (c2 pIn (cVar 0) (cVar 1)))) (sRet (cK (.bl false))) sNil)
    (sRet (c2 pEq (cN okL (aComp [] (aSeq (cVar 0)) (t_l_is_name_1 C) (e_l_is_name_1 C))) (cN pLst aNil)))))
noncomputable def b_path_of (C : Fn → List PV → Out) : Sx :=
  (sSeq (sSet 1 (cN pTuple (aCons (cM isStr pSplit (cVar 0) (aCons (cK (.str [46])) aNil)) aNil)))
    (sRet (cIfE (tTruE (cCall (C .is_path) (aCons (cVar 1) aNil))) (cVar 1) (cK .non))))
noncomputable def b_is_name (C : Fn → List PV → Out) : Sx :=
  (sSeq (sIf (tOrE (tNotE (tTruE (cN pIsinst (aCons (cVar 0) (aCons (cK (.ty "str")) aNil))))) (tNotE (tCmpE (cChain pLe pLe (cK (.int 1)) (cN pLen (aCons (cVar 0) aNil)) (cK (.int 8)))))) (sRet (cK (.bl false))) sNil)
    (sRet (cAnd (cCall (C .is_made_of) (aCons (cVar 0) (aCons (cK (.str q_c3fcd3)) aNil))) (c2 pNotIn (cVar 0) (cK (.tup (tv_COMMAND_WORDS.map PV.str)))))))
noncomputable def e_paths_of_1 (C : Fn → List PV → Out) : Ex := (cCall (C .path_of) (aCons (cVar 0) aNil))
noncomputable def b_paths_of (C : Fn → List PV → Out) : Sx :=
  (sSeq (sSet 1 (cN pTuple (aCons (cN okL (aComp [] (aSeq (cCall (C .listed) (aCons (cVar 0) aNil))) tYesE (e_paths_of_1 C))) aNil)))
    (sRet (cIfE (tCmpE (c2 pIn (cK .non) (cVar 1))) (cK .non) (cVar 1))))
noncomputable def e_names_of_1 (C : Fn → List PV → Out) : Ex := (cCall (C .is_name) (aCons (cVar 0) aNil))
noncomputable def b_names_of (C : Fn → List PV → Out) : Sx :=
  (sSeq (sSet 1 (cCall (C .listed) (aCons (cVar 0) aNil)))
    (sRet (cIfE (tTruE (cN pAll (aCons (cN okL (aComp [] (aSeq (cVar 1)) tYesE (e_names_of_1 C))) aNil))) (cVar 1) (cK .non))))
noncomputable def b_l_called (C : Fn → List PV → Out) : Sx :=
  (sSeq (sSet 2 (cM isStr pFind (cVar 0) (aCons (cK (.str [40])) aNil)))
    (sSeq (sSet 3 (cM isStr pFind (cVar 0) (aCons (cK (.str [41])) aNil)))
    (sSeq (sIf (tOrE (tCmpE (c2 pLt (cVar 2) (cK (.int 0)))) (tOrE (tCmpE (c2 pLt (cVar 3) (cVar 2))) (tNotE (tTruE (cCall (C .l_is_name) (aCons (cSl (cVar 0) oNone (oSome (cVar 2))) aNil)))))) (sRet (cK .non)) sNil)
    (sSeq (sSet 4 (cSl (cVar 0) (oSome (c2 pAdd (cVar 3) (cK (.int 1)))) oNone))
    (sSeq (sIf (tAndE (tCmpE (c2 pNe (cVar 4) (cK (.str [])))) (tCmpE (c2 pNe (cSl (cVar 4) oNone (oSome (cN pLen (aCons (cVar 1) aNil)))) (cVar 1)))) (sRet (cK .non)) sNil)
    (sRet (cN pLst (aCons (cSl (cVar 0) oNone (oSome (cVar 2))) (aCons (cSl (cVar 0) (oSome (c2 pAdd (cVar 2) (cK (.int 1)))) (oSome (cVar 3))) (aCons (cVar 4) aNil))))))))))
noncomputable def e_is_path_1 (C : Fn → List PV → Out) : Ex := (cCall (C .is_name) (aCons (cVar 0) aNil))
noncomputable def b_is_path (C : Fn → List PV → Out) : Sx :=
  (sSeq (sIf (tOrE (tNotE (tTruE (cN pIsinst (aCons (cVar 0) (aCons (cK (.ty "tuple")) aNil))))) (tNotE (tCmpE (cChain pLe pLe (cK (.int 1)) (cN pLen (aCons (cVar 0) aNil)) (cK (.int 4)))))) (sRet (cK (.bl false))) sNil)
    (sRet (cN pAll (aCons (cN okL (aComp [] (aSeq (cVar 0)) tYesE (e_is_path_1 C))) aNil))))
noncomputable def w_is_made_of_1 (C : Fn → List PV → Out) : Sx := (sIf (tCmpE (c2 pNotIn (cVar 2) (cVar 1))) (sRet (cK (.bl false))) sNil)
noncomputable def b_is_made_of (C : Fn → List PV → Out) : Sx :=
  (sSeq (sFor (aSeq (cVar 0)) (gNm 2) (w_is_made_of_1 C))
    (sRet (cK (.bl true))))
noncomputable def b_listed (C : Fn → List PV → Out) : Sx :=
  (sRet (cIfE (tTruE (cVar 0)) (cN pTuple (aCons (cM isStr pSplit (cVar 0) (aCons (cK (.str [44, 32])) aNil)) aNil)) (cN pTup aNil)))
noncomputable def F : Nat → Fn → List PV → Out
  | 0, _, _ => .bad
  | k + 1, .law, ps => runF (b_law (F k)) 1 8 ps
  | k + 1, .l_names, ps => runF (b_l_names (F k)) 1 7 ps
  | k + 1, .l_mixed, ps => runF (b_l_mixed (F k)) 2 2 ps
  | k + 1, .l_text_by, ps => runF (b_l_text_by (F k)) 2 9 ps
  | k + 1, .command_of, ps => runF (b_command_of (F k)) 1 1 ps
  | k + 1, .l_cell_at, ps => runF (b_l_cell_at (F k)) 2 2 ps
  | k + 1, .l_bent, ps => runF (b_l_bent (F k)) 2 9 ps
  | k + 1, .l_same, ps => runF (b_l_same (F k)) 2 2 ps
  | k + 1, .l_command, ps => runF (b_l_command (F k)) 1 4 ps
  | k + 1, .l_path_by, ps => runF (b_l_path_by (F k)) 2 2 ps
  | k + 1, .place_command, ps => runF (b_place_command (F k)) 1 4 ps
  | k + 1, .for_command, ps => runF (b_for_command (F k)) 1 3 ps
  | k + 1, .if_command, ps => runF (b_if_command (F k)) 1 2 ps
  | k + 1, .use_command, ps => runF (b_use_command (F k)) 1 3 ps
  | k + 1, .body_command, ps => runF (b_body_command (F k)) 1 2 ps
  | k + 1, .piece_command, ps => runF (b_piece_command (F k)) 1 3 ps
  | k + 1, .bracketed, ps => runF (b_bracketed (F k)) 1 3 ps
  | k + 1, .l_path, ps => runF (b_l_path (F k)) 1 2 ps
  | k + 1, .l_use, ps => runF (b_l_use (F k)) 1 4 ps
  | k + 1, .l_piece, ps => runF (b_l_piece (F k)) 1 3 ps
  | k + 1, .l_row, ps => runF (b_l_row (F k)) 2 3 ps
  | k + 1, .l_is_name, ps => runF (b_l_is_name (F k)) 1 2 ps
  | k + 1, .path_of, ps => runF (b_path_of (F k)) 1 2 ps
  | k + 1, .is_name, ps => runF (b_is_name (F k)) 1 1 ps
  | k + 1, .paths_of, ps => runF (b_paths_of (F k)) 1 2 ps
  | k + 1, .names_of, ps => runF (b_names_of (F k)) 1 2 ps
  | k + 1, .l_called, ps => runF (b_l_called (F k)) 2 5 ps
  | k + 1, .is_path, ps => runF (b_is_path (F k)) 1 1 ps
  | k + 1, .is_made_of, ps => runF (b_is_made_of (F k)) 2 3 ps
  | k + 1, .listed, ps => runF (b_listed (F k)) 1 1 ps
theorem lenF {k : Nat} : ∀ (f : Fn) qs v, F k f qs = .ok v → qs.length = (psOf f).length := by
  cases k with
  | zero => intro f qs v h; simp [F] at h
  | succ k => intro f qs v h; cases f <;> exact runF_len _ _ h
structure Sys (P : Program) (w : World) (K : PySem.W.Frag) (mg : Str → Option Value) where
  adr : Fn → Addr
  fd : Fn → FuncData
  kls : Nat → Addr
  ok : ∀ f, Fun K (nmOf f) (qlOf f) (stOf f) (adr f) (fd f)
  bi : ∀ f, Binds K (fd f) (psOf f) []
  m_l_bent : mg "_law_bent" = some (.ref (adr .l_bent))
  m_l_called : mg "_law_called" = some (.ref (adr .l_called))
  m_l_cell_at : mg "_law_cell_at" = some (.ref (adr .l_cell_at))
  m_l_command : mg "_law_command" = some (.ref (adr .l_command))
  m_l_is_name : mg "_law_is_name" = some (.ref (adr .l_is_name))
  m_l_mixed : mg "_law_mixed" = some (.ref (adr .l_mixed))
  m_l_names : mg "_law_names" = some (.ref (adr .l_names))
  m_l_path : mg "_law_path" = some (.ref (adr .l_path))
  m_l_path_by : mg "_law_path_by" = some (.ref (adr .l_path_by))
  m_l_piece : mg "_law_piece" = some (.ref (adr .l_piece))
  m_l_row : mg "_law_row" = some (.ref (adr .l_row))
  m_l_same : mg "_law_same" = some (.ref (adr .l_same))
  m_l_text_by : mg "_law_text_by" = some (.ref (adr .l_text_by))
  m_l_use : mg "_law_use" = some (.ref (adr .l_use))
  m_body_command : mg "body_command" = some (.ref (adr .body_command))
  m_bracketed : mg "bracketed" = some (.ref (adr .bracketed))
  m_command_of : mg "command_of" = some (.ref (adr .command_of))
  m_for_command : mg "for_command" = some (.ref (adr .for_command))
  m_if_command : mg "if_command" = some (.ref (adr .if_command))
  m_is_made_of : mg "is_made_of" = some (.ref (adr .is_made_of))
  m_is_name : mg "is_name" = some (.ref (adr .is_name))
  m_is_path : mg "is_path" = some (.ref (adr .is_path))
  m_listed : mg "listed" = some (.ref (adr .listed))
  m_names_of : mg "names_of" = some (.ref (adr .names_of))
  m_path_of : mg "path_of" = some (.ref (adr .path_of))
  m_paths_of : mg "paths_of" = some (.ref (adr .paths_of))
  m_piece_command : mg "piece_command" = some (.ref (adr .piece_command))
  m_place_command : mg "place_command" = some (.ref (adr .place_command))
  m_use_command : mg "use_command" = some (.ref (adr .use_command))
  n_all : mg "all" = none
  n_int : mg "int" = none
  n_isinstance : mg "isinstance" = none
  n_len : mg "len" = none
  n_range : mg "range" = none
  n_repr : mg "repr" = none
  n_set : mg "set" = none
  n_str : mg "str" = none
  n_tuple : mg "tuple" = none
  u_MOST_LETTERS : Value
  g_MOST_LETTERS : mg "MOST_LETTERS" = some u_MOST_LETTERS
  r_MOST_LETTERS : RelV (.int 8) u_MOST_LETTERS
  u_MOST_NAMES : Value
  g_MOST_NAMES : mg "MOST_NAMES" = some u_MOST_NAMES
  r_MOST_NAMES : RelV (.int 4) u_MOST_NAMES
  u_SMALL_LETTERS : Value
  g_SMALL_LETTERS : mg "SMALL_LETTERS" = some u_SMALL_LETTERS
  r_SMALL_LETTERS : RelV (.str (S q_c3fcd3)) u_SMALL_LETTERS
  a_COMMAND_WORDS : Addr
  g_COMMAND_WORDS : mg "COMMAND_WORDS" = some (.ref a_COMMAND_WORDS)
  k_COMMAND_WORDS : GTup K a_COMMAND_WORDS tv_COMMAND_WORDS
  a_MANIES : Addr
  g_MANIES : mg "MANIES" = some (.ref a_MANIES)
  k_MANIES : GTup K a_MANIES tv_MANIES
  a_WAYS : Addr
  g_WAYS : mg "WAYS" = some (.ref a_WAYS)
  k_WAYS : GTup K a_WAYS tv_WAYS
  a_BARE : Addr
  g_BARE : mg "BARE" = some (.ref a_BARE)
  d_BARE : GDict P w K a_BARE dv_BARE
def Sys.tab {P : Program} {w : World} {K : PySem.W.Frag} {mg : Str → Option Value} (Y : Sys P w K mg) : Tab
  | 0 => some Y.a_BARE
  | _ => none
section
variable (P : Program) (w : World) {K : PySem.W.Frag} {mg : Str → Option Value} {base : Heap}
abbrev All (Y : Sys P w K mg) (base : Heap) (k : Nat) : Prop := ∀ f, FnOk P w K mg base CX0 k (Y.adr f) (Y.fd f) (psOf f) (spP K Y.tab (psOf f).length (F k f))
theorem sc_law : FnScope ["_law_script", "_law_names_here", "_law_k", "_law_n", "_law_text", "_law_found", "_law_turn", "_law_bent_here"] ["_law_script"] (defScope (stOf .law)) := ⟨rfl, rfl, rfl, by decide +kernel, rfl, by decide +kernel, by decide +kernel⟩
theorem r_law (Y : Sys P w K mg) {k : Nat} (G : All P w Y base k) (cdv : Value) (A : Around) (outer : List Env) (s : Shared) (H : Hp) (E : XK) (f : Addr) (hr : Room k (A.deeper (envOfC (qlOf .law) (defScope (stOf .law)) s.heap.objs.size f cdv))) :
    RSs (cxOf CX0 P w K mg base ["_law_script", "_law_names_here", "_law_k", "_law_n", "_law_text", "_law_found", "_law_turn", "_law_bent_here"] (qlOf .law) (defScope (stOf .law)) f cdv A outer s H E).nox Y.tab (fun _ _ => False) (defBody (stOf .law)) (b_law (F k)) := by
  have hu := hr.units
  exact (rss_cons (rs_set (i := 1) sc_law.nd rfl (Or.inl rfl) (re_call (G .l_names) (lenF .l_names) hr rfl Y.m_l_names (Y.ok .l_names).kp (Y.bi .l_names) (ra_cons (re_call (G .l_mixed) (lenF .l_mixed) hr rfl Y.m_l_mixed (Y.ok .l_mixed).kp (Y.bi .l_mixed) (ra_cons (re_call (G .l_cell_at) (lenF .l_cell_at) hr rfl Y.m_l_cell_at (Y.ok .l_cell_at).kp (Y.bi .l_cell_at) (ra_cons (rv 0) (ra_cons re_int ra_nil))) (ra_cons re_int ra_nil))) ra_nil)))
    (rss_cons (rs_for PassesOwn.never rfl (ri_range1 rfl Y.n_range (ra_cons re_int ra_nil)) (rg_name (i := 2) sc_law.nd rfl (Or.inl rfl)) (rss_cons (rs_set (i := 3) sc_law.nd rfl (Or.inl rfl) (re_add (re_mul (re_fdiv (re_call (G .l_mixed) (lenF .l_mixed) hr rfl Y.m_l_mixed (Y.ok .l_mixed).kp (Y.bi .l_mixed) (ra_cons (re_call (G .l_cell_at) (lenF .l_cell_at) hr rfl Y.m_l_cell_at (Y.ok .l_cell_at).kp (Y.bi .l_cell_at) (ra_cons (rv 0) (ra_cons (re_add re_int (rv 2)) ra_nil))) (ra_cons (rv 2) ra_nil))) re_int) re_int) (rv 2)))
    (rss_cons (rs_set (i := 4) sc_law.nd rfl (Or.inl rfl) (re_call (G .l_text_by) (lenF .l_text_by) hr rfl Y.m_l_text_by (Y.ok .l_text_by).kp (Y.bi .l_text_by) (ra_cons (rv 1) (ra_cons (rv 3) ra_nil))))
    (rss_cons (rs_set (i := 5) sc_law.nd rfl (Or.inl rfl) (re_call (G .command_of) (lenF .command_of) hr rfl Y.m_command_of (Y.ok .command_of).kp (Y.bi .command_of) (ra_cons (rv 4) ra_nil)))
    (rss_cons (rs_if (RW.rt (rw_or (rt_cmp op_isN prim_is (rv 5) re_non (nomark _)) (rw_or1 (rt_not (rt_tru (re_call (G .l_same) (lenF .l_same) hr rfl Y.m_l_same (Y.ok .l_same).kp (Y.bi .l_same) (ra_cons (rv 5) (ra_cons (re_call (G .l_command) (lenF .l_command) hr rfl Y.m_l_command (Y.ok .l_command).kp (Y.bi .l_command) (ra_cons (rv 4) ra_nil)) ra_nil)))))))) (rss_one (rs_ret re_bl)) rss_nil)
    (rss_one (rs_for PassesOwn.never rfl (ri_range1 rfl Y.n_range (ra_cons re_int ra_nil)) (rg_name (i := 6) sc_law.nd rfl (Or.inl rfl)) (rss_cons (rs_set (i := 7) sc_law.nd rfl (Or.inl rfl) (re_call (G .l_bent) (lenF .l_bent) hr rfl Y.m_l_bent (Y.ok .l_bent).kp (Y.bi .l_bent) (ra_cons (rv 4) (ra_cons (re_call (G .l_mixed) (lenF .l_mixed) hr rfl Y.m_l_mixed (Y.ok .l_mixed).kp (Y.bi .l_mixed) (ra_cons (re_call (G .l_cell_at) (lenF .l_cell_at) hr rfl Y.m_l_cell_at (Y.ok .l_cell_at).kp (Y.bi .l_cell_at) (ra_cons (rv 0) (ra_cons (re_add re_int (rv 2)) ra_nil))) (ra_cons (re_add re_int (rv 6)) ra_nil))) ra_nil))))
    (rss_one (rs_if (rt_not (rt_tru (re_call (G .l_same) (lenF .l_same) hr rfl Y.m_l_same (Y.ok .l_same).kp (Y.bi .l_same) (ra_cons (re_call (G .command_of) (lenF .command_of) hr rfl Y.m_command_of (Y.ok .command_of).kp (Y.bi .command_of) (ra_cons (rv 7) ra_nil)) (ra_cons (re_call (G .l_command) (lenF .l_command) hr rfl Y.m_l_command (Y.ok .l_command).kp (Y.bi .l_command) (ra_cons (rv 7) ra_nil)) ra_nil))))) (rss_one (rs_ret re_bl)) rss_nil))))))))))
    (rss_one (rs_ret re_bl))))
theorem sc_l_names : FnScope ["_law_n", "_law_some", "_law_at", "_law_found", "_law_k", "_law_word", "_law_told"] ["_law_n"] (defScope (stOf .l_names)) := ⟨rfl, rfl, rfl, by decide +kernel, rfl, by decide +kernel, by decide +kernel⟩
theorem r_l_names (Y : Sys P w K mg) {k : Nat} (G : All P w Y base k) (cdv : Value) (A : Around) (outer : List Env) (s : Shared) (H : Hp) (E : XK) (f : Addr) (hr : Room k (A.deeper (envOfC (qlOf .l_names) (defScope (stOf .l_names)) s.heap.objs.size f cdv))) :
    RSs (cxOf CX0 P w K mg base ["_law_n", "_law_some", "_law_at", "_law_found", "_law_k", "_law_word", "_law_told"] (qlOf .l_names) (defScope (stOf .l_names)) f cdv A outer s H E).nox Y.tab (fun _ _ => False) (defBody (stOf .l_names)) (b_l_names (F k)) := by
  have hu := hr.units
  exact (rss_cons (rs_set (i := 1) sc_l_names.nd rfl (Or.inr rfl) (re_str q_c3fcd3 (by kernel_rfl)))
    (rss_cons (rs_set (i := 2) sc_l_names.nd rfl (Or.inl rfl) (re_mod (re_fdiv (rv 0) re_int) re_int))
    (rss_cons (rs_set (i := 3) sc_l_names.nd rfl (Or.inl rfl) (re_lstM ra_nil))
    (rss_cons (rs_for PassesOwn.never rfl (ri_range1 rfl Y.n_range (ra_cons re_int ra_nil)) (rg_name (i := 4) sc_l_names.nd rfl (Or.inr rfl)) (rss_cons (rs_setCompM (M := ["_law_j", "_law_some", "_law_n", "_law_k"]) [1, 0, 4] rfl (CompOk.of (by kernel_rfl)) (ri_range1 rfl Y.n_range (ra_cons re_int ra_nil)) (fun _ _ _ _ _ => rf_nil) (fun _ _ _ _ _ => (re_ix hu (rv 1) (re_mod (re_add (re_add (re_fdiv (rv 2) re_int) (re_mul re_int (rv 0))) (re_mul (re_mul re_int (re_fdiv (rv 3) re_int)) (re_sub re_int (re_mod (rv 2) re_int)))) re_int))) (iy := 5) sc_l_names.nd rfl rfl (by with_unfolding_all rfl))
    (rss_cons (rs_if (rt_cmp (op_eqD hu) prim_eq (re_mod (rv 0) re_int) re_int (nomark _)) (rss_one (rs_setIx (rv 5) (rv 2) (re_ix hu (rv 1) (re_mod (re_add (re_add (re_fdiv (rv 0) re_int) (re_mul re_int (rv 4))) re_int) re_int)))) rss_nil)
    (rss_one (rs_expr (re_bm ty_lst PySem.F.plainAttrs_list PySem.F.slot_list_append PySem.F.type_list_append mt_append prim_append (rv 3) (ra_cons (re_bm ty_str PySem.F.plainAttrs_str PySem.F.slot_str_join PySem.F.type_str_join mt_join prim_join (re_str [] (by kernel_rfl)) (ra_cons (re_slice (rv 5) ro_none (ro_some (re_ix hu (re_lst (ra_cons (re_add re_int (re_mod (rv 4) re_int)) (ra_cons (re_add (re_add (rv 2) re_int) (re_mod (re_fdiv (rv 0) re_int) (re_sub re_int (rv 2)))) ra_nil))) (re_mod (rv 0) re_int)))) ra_nil)) ra_nil)))))))
    (rss_cons (rs_set (i := 6) sc_l_names.nd rfl (Or.inl rfl) (re_lst (ra_cons (re_str [97, 115] (by kernel_rfl)) (ra_cons (re_str [98, 101, 116, 119, 101, 101, 110] (by kernel_rfl)) (ra_cons (re_str [98, 111, 100, 121] (by kernel_rfl)) (ra_cons (re_str [101, 108, 115, 101] (by kernel_rfl)) (ra_cons (re_str [101, 110, 100] (by kernel_rfl)) (ra_cons (re_str [102, 111, 114] (by kernel_rfl)) (ra_cons (re_str [105, 102] (by kernel_rfl)) (ra_cons (re_str [105, 110] (by kernel_rfl)) (ra_cons (re_str [112, 105, 101, 99, 101] (by kernel_rfl)) (ra_cons (re_str [117, 115, 101] (by kernel_rfl)) (ra_cons (re_str [119, 105, 116, 104] (by kernel_rfl)) ra_nil)))))))))))))
    (rss_cons (rs_if (rt_cmp op_lt prim_cmp (re_lenSet rfl Y.n_len rfl Y.n_set (re_add (rv 3) (rv 6))) re_int (nomark _)) (rss_one (rs_ret (re_lst (ra_cons (re_str [97] (by kernel_rfl)) (ra_cons (re_str [98] (by kernel_rfl)) (ra_cons (re_str [97, 98] (by kernel_rfl)) (ra_cons (re_str [98, 97] (by kernel_rfl)) (ra_cons (re_str [105, 116, 101, 109] (by kernel_rfl)) (ra_cons (re_str [105, 116, 101, 109, 115] (by kernel_rfl)) (ra_cons (re_str [99] (by kernel_rfl)) (ra_cons (re_str [120] (by kernel_rfl)) (ra_cons (re_str [120, 121] (by kernel_rfl)) (ra_cons (re_str [121] (by kernel_rfl)) (ra_cons (re_str [114, 111, 119] (by kernel_rfl)) (ra_cons (re_str [114, 111, 119, 115] (by kernel_rfl)) ra_nil))))))))))))))) rss_nil)
    (rss_one (rs_ret (rv 3)))))))))
theorem sc_l_mixed : FnScope ["_law_cell", "_law_k"] ["_law_cell", "_law_k"] (defScope (stOf .l_mixed)) := ⟨rfl, rfl, rfl, by decide +kernel, rfl, by decide +kernel, by decide +kernel⟩
theorem r_l_mixed (Y : Sys P w K mg) {k : Nat} (G : All P w Y base k) (cdv : Value) (A : Around) (outer : List Env) (s : Shared) (H : Hp) (E : XK) (f : Addr) (hr : Room k (A.deeper (envOfC (qlOf .l_mixed) (defScope (stOf .l_mixed)) s.heap.objs.size f cdv))) :
    RSs (cxOf CX0 P w K mg base ["_law_cell", "_law_k"] (qlOf .l_mixed) (defScope (stOf .l_mixed)) f cdv A outer s H E).nox Y.tab (fun _ _ => False) (defBody (stOf .l_mixed)) (b_l_mixed (F k)) := by
  have hu := hr.units
  exact (rss_one (rs_ret (re_mod (re_mul (re_add (re_add (rv 0) (re_mul (re_mul re_int (rv 1)) (rv 1))) re_int) re_int) re_int)))
theorem sc_l_text_by : FnScope ["_law_names_here", "_law_n", "_law_path_here", "_law_paths", "_law_some", "_law_name", "_law_way", "_law_texts", "_law_use_here"] ["_law_names_here", "_law_n"] (defScope (stOf .l_text_by)) := ⟨rfl, rfl, rfl, by decide +kernel, rfl, by decide +kernel, by decide +kernel⟩
theorem r_l_text_by (Y : Sys P w K mg) {k : Nat} (G : All P w Y base k) (cdv : Value) (A : Around) (outer : List Env) (s : Shared) (H : Hp) (E : XK) (f : Addr) (hr : Room k (A.deeper (envOfC (qlOf .l_text_by) (defScope (stOf .l_text_by)) s.heap.objs.size f cdv))) :
    RSs (cxOf CX0 P w K mg base ["_law_names_here", "_law_n", "_law_path_here", "_law_paths", "_law_some", "_law_name", "_law_way", "_law_texts", "_law_use_here"] (qlOf .l_text_by) (defScope (stOf .l_text_by)) f cdv A outer s H E).nox Y.tab (fun _ _ => False) (defBody (stOf .l_text_by)) (b_l_text_by (F k)) := by
  have hu := hr.units
  exact (rss_cons (rs_set (i := 2) sc_l_text_by.nd rfl (Or.inl rfl) (re_call (G .l_path_by) (lenF .l_path_by) hr rfl Y.m_l_path_by (Y.ok .l_path_by).kp (Y.bi .l_path_by) (ra_cons (rv 0) (ra_cons (re_fdiv (rv 1) re_int) ra_nil))))
    (rss_cons (rs_set (i := 3) sc_l_text_by.nd rfl (Or.inl rfl) (re_bm ty_str PySem.F.plainAttrs_str PySem.F.slot_str_join PySem.F.type_str_join mt_join prim_join (re_str [44, 32] (by kernel_rfl)) (ra_cons (re_comp (M := ["_law_k", "_law_names_here", "_law_n"]) [0, 1] rfl (CompOk.of (by kernel_rfl)) (ri_range1 rfl Y.n_range (ra_cons (re_mod (re_fdiv (rv 1) re_int) re_int) ra_nil)) (fun _ _ _ _ _ => rf_nil) (fun _ _ _ _ _ => (re_call (G .l_path_by) (lenF .l_path_by) hr rfl Y.m_l_path_by (Y.ok .l_path_by).kp (Y.bi .l_path_by) (ra_cons (rv 1) (ra_cons (re_fdiv (re_call (G .l_mixed) (lenF .l_mixed) hr rfl Y.m_l_mixed (Y.ok .l_mixed).kp (Y.bi .l_mixed) (ra_cons (rv 2) (ra_cons (rv 0) ra_nil))) re_int) ra_nil))))) ra_nil)))
    (rss_cons (rs_set (i := 4) sc_l_text_by.nd rfl (Or.inl rfl) (re_bm ty_str PySem.F.plainAttrs_str PySem.F.slot_str_join PySem.F.type_str_join mt_join prim_join (re_str [44, 32] (by kernel_rfl)) (ra_cons (re_comp (M := ["_law_k", "_law_names_here", "_law_n"]) [0, 1] rfl (CompOk.of (by kernel_rfl)) (ri_range1 rfl Y.n_range (ra_cons (re_mod (re_fdiv (rv 1) re_int) re_int) ra_nil)) (fun _ _ _ _ _ => rf_nil) (fun _ _ _ _ _ => (re_ix hu (rv 1) (re_mod (re_fdiv (re_call (G .l_mixed) (lenF .l_mixed) hr rfl Y.m_l_mixed (Y.ok .l_mixed).kp (Y.bi .l_mixed) (ra_cons (rv 2) (ra_cons (re_add re_int (rv 0)) ra_nil))) re_int) re_int)))) ra_nil)))
    (rss_cons (rs_set (i := 5) sc_l_text_by.nd rfl (Or.inl rfl) (re_ix hu (rv 0) (re_mod (re_fdiv (rv 1) re_int) re_int)))
    (rss_cons (rs_set (i := 6) sc_l_text_by.nd rfl (Or.inl rfl) (re_ix hu (re_lst (ra_cons (re_str [119, 111, 114, 100] (by kernel_rfl)) (ra_cons (re_str [110, 117, 109, 98, 101, 114] (by kernel_rfl)) (ra_cons (re_str [113, 117, 111, 116, 101, 100] (by kernel_rfl)) (ra_cons (re_str [112, 108, 97, 105, 110] (by kernel_rfl)) (ra_cons (re_str [108, 105, 110, 101] (by kernel_rfl)) ra_nil)))))) (re_mod (re_fdiv (rv 1) re_int) re_int)))
    (rss_cons (rs_set (i := 7) sc_l_text_by.nd rfl (Or.inl rfl) (re_lst (ra_cons (re_str [40] (by kernel_rfl)) (ra_cons (re_str [41] (by kernel_rfl)) (ra_cons (re_str [101, 110, 100] (by kernel_rfl)) (ra_cons (re_str [101, 108, 115, 101] (by kernel_rfl)) (ra_cons (re_str [98, 101, 116, 119, 101, 101, 110] (by kernel_rfl)) (ra_cons (rv 2) (ra_cons (re_add (re_add (rv 2) (re_str [32, 97, 115, 32] (by kernel_rfl))) (rv 6)) ra_nil)))))))))
    (rss_cons (rs_set (i := 7) sc_l_text_by.nd rfl (Or.inl rfl) (re_add (rv 7) (re_lst (ra_cons (re_add (re_add (re_add (re_str [102, 111, 114, 32] (by kernel_rfl)) (rv 5)) (re_str [32, 105, 110, 32] (by kernel_rfl))) (rv 2)) (ra_cons (re_add (re_str [105, 102, 32] (by kernel_rfl)) (rv 2)) ra_nil)))))
    (rss_cons (rs_set (i := 8) sc_l_text_by.nd rfl (Or.inl rfl) (re_add (re_add (re_add (re_add (re_str [117, 115, 101, 32] (by kernel_rfl)) (rv 5)) (re_str [40] (by kernel_rfl))) (rv 3)) (re_str [41] (by kernel_rfl))))
    (rss_cons (rs_set (i := 7) sc_l_text_by.nd rfl (Or.inl rfl) (re_add (rv 7) (re_lst (ra_cons (rv 8) (ra_cons (re_add (re_add (rv 8) (re_str [32, 119, 105, 116, 104, 32] (by kernel_rfl))) (rv 4)) ra_nil)))))
    (rss_cons (rs_set (i := 7) sc_l_text_by.nd rfl (Or.inl rfl) (re_add (rv 7) (re_lst (ra_cons (re_add (re_add (re_str [98, 111, 100, 121, 40] (by kernel_rfl)) (rv 3)) (re_str [41] (by kernel_rfl))) (ra_cons (re_add (re_add (re_add (re_add (re_str [112, 105, 101, 99, 101, 32] (by kernel_rfl)) (rv 5)) (re_str [40] (by kernel_rfl))) (rv 4)) (re_str [41] (by kernel_rfl))) ra_nil)))))
    (rss_one (rs_ret (re_ix hu (re_add (rv 7) (re_lst (ra_cons (re_add (re_add (re_add (re_add (re_add (re_str [112, 105, 101, 99, 101, 32] (by kernel_rfl)) (rv 5)) (re_str [40] (by kernel_rfl))) (rv 4)) (re_str [41, 32, 98, 111, 100, 121, 32] (by kernel_rfl))) (re_ix hu (re_str [48, 49, 50, 51] (by kernel_rfl)) (re_mod (re_fdiv (rv 1) re_int) re_int))) ra_nil))) (re_mod (rv 1) re_int))))))))))))))
theorem sc_command_of : FnScope ["text"] ["text"] (defScope (stOf .command_of)) := ⟨rfl, rfl, rfl, by decide +kernel, rfl, by decide +kernel, by decide +kernel⟩
theorem r_command_of (Y : Sys P w K mg) {k : Nat} (G : All P w Y base k) (cdv : Value) (A : Around) (outer : List Env) (s : Shared) (H : Hp) (E : XK) (f : Addr) (hr : Room k (A.deeper (envOfC (qlOf .command_of) (defScope (stOf .command_of)) s.heap.objs.size f cdv))) :
    RSs (cxOf CX0 P w K mg base ["text"] (qlOf .command_of) (defScope (stOf .command_of)) f cdv A outer s H E).nox Y.tab (fun _ _ => False) (defBody (stOf .command_of)) (b_command_of (F k)) := by
  have hu := hr.units
  exact (rss_cons (rs_if (rt_cmp (op_inG Y.d_BARE) (prim_inG rfl) (rv 0) (re_globC rfl Y.g_BARE rfl) (by with_unfolding_all rfl)) (rss_one (rs_ret (re_tup (ra_cons (re_ixG Y.d_BARE rfl (re_globC rfl Y.g_BARE rfl) (rv 0)) ra_nil)))) rss_nil)
    (rss_cons (rs_if (rt_tru (re_bm ty_str PySem.F.plainAttrs_str PySem.F.slot_str_startswith PySem.F.type_str_startswith mt_startswith prim_starts (rv 0) (ra_cons (re_str [102, 111, 114, 32] (by kernel_rfl)) ra_nil))) (rss_one (rs_ret (re_call (G .for_command) (lenF .for_command) hr rfl Y.m_for_command (Y.ok .for_command).kp (Y.bi .for_command) (ra_cons (re_slice (rv 0) (ro_some (re_len rfl Y.n_len (ra_cons (re_str [102, 111, 114, 32] (by kernel_rfl)) ra_nil))) ro_none) ra_nil)))) rss_nil)
    (rss_cons (rs_if (rt_tru (re_bm ty_str PySem.F.plainAttrs_str PySem.F.slot_str_startswith PySem.F.type_str_startswith mt_startswith prim_starts (rv 0) (ra_cons (re_str [105, 102, 32] (by kernel_rfl)) ra_nil))) (rss_one (rs_ret (re_call (G .if_command) (lenF .if_command) hr rfl Y.m_if_command (Y.ok .if_command).kp (Y.bi .if_command) (ra_cons (re_slice (rv 0) (ro_some (re_len rfl Y.n_len (ra_cons (re_str [105, 102, 32] (by kernel_rfl)) ra_nil))) ro_none) ra_nil)))) rss_nil)
    (rss_cons (rs_if (rt_tru (re_bm ty_str PySem.F.plainAttrs_str PySem.F.slot_str_startswith PySem.F.type_str_startswith mt_startswith prim_starts (rv 0) (ra_cons (re_str [117, 115, 101, 32] (by kernel_rfl)) ra_nil))) (rss_one (rs_ret (re_call (G .use_command) (lenF .use_command) hr rfl Y.m_use_command (Y.ok .use_command).kp (Y.bi .use_command) (ra_cons (re_call (G .bracketed) (lenF .bracketed) hr rfl Y.m_bracketed (Y.ok .bracketed).kp (Y.bi .bracketed) (ra_cons (re_slice (rv 0) (ro_some (re_len rfl Y.n_len (ra_cons (re_str [117, 115, 101, 32] (by kernel_rfl)) ra_nil))) ro_none) ra_nil)) ra_nil)))) rss_nil)
    (rss_cons (rs_if (rt_tru (re_bm ty_str PySem.F.plainAttrs_str PySem.F.slot_str_startswith PySem.F.type_str_startswith mt_startswith prim_starts (rv 0) (ra_cons (re_str [98, 111, 100, 121, 40] (by kernel_rfl)) ra_nil))) (rss_one (rs_ret (re_call (G .body_command) (lenF .body_command) hr rfl Y.m_body_command (Y.ok .body_command).kp (Y.bi .body_command) (ra_cons (re_call (G .bracketed) (lenF .bracketed) hr rfl Y.m_bracketed (Y.ok .bracketed).kp (Y.bi .bracketed) (ra_cons (rv 0) ra_nil)) ra_nil)))) rss_nil)
    (rss_cons (rs_if (rt_tru (re_bm ty_str PySem.F.plainAttrs_str PySem.F.slot_str_startswith PySem.F.type_str_startswith mt_startswith prim_starts (rv 0) (ra_cons (re_str [112, 105, 101, 99, 101, 32] (by kernel_rfl)) ra_nil))) (rss_one (rs_ret (re_call (G .piece_command) (lenF .piece_command) hr rfl Y.m_piece_command (Y.ok .piece_command).kp (Y.bi .piece_command) (ra_cons (re_call (G .bracketed) (lenF .bracketed) hr rfl Y.m_bracketed (Y.ok .bracketed).kp (Y.bi .bracketed) (ra_cons (re_slice (rv 0) (ro_some (re_len rfl Y.n_len (ra_cons (re_str [112, 105, 101, 99, 101, 32] (by kernel_rfl)) ra_nil))) ro_none) ra_nil)) ra_nil)))) rss_nil)
    (rss_one (rs_ret (re_call (G .place_command) (lenF .place_command) hr rfl Y.m_place_command (Y.ok .place_command).kp (Y.bi .place_command) (ra_cons (rv 0) ra_nil))))))))))
theorem sc_l_cell_at : FnScope ["_law_script", "_law_k"] ["_law_script", "_law_k"] (defScope (stOf .l_cell_at)) := ⟨rfl, rfl, rfl, by decide +kernel, rfl, by decide +kernel, by decide +kernel⟩
theorem r_l_cell_at (Y : Sys P w K mg) {k : Nat} (G : All P w Y base k) (cdv : Value) (A : Around) (outer : List Env) (s : Shared) (H : Hp) (E : XK) (f : Addr) (hr : Room k (A.deeper (envOfC (qlOf .l_cell_at) (defScope (stOf .l_cell_at)) s.heap.objs.size f cdv))) :
    RSs (cxOf CX0 P w K mg base ["_law_script", "_law_k"] (qlOf .l_cell_at) (defScope (stOf .l_cell_at)) f cdv A outer s H E).nox Y.tab (fun _ _ => False) (defBody (stOf .l_cell_at)) (b_l_cell_at (F k)) := by
  have hu := hr.units
  exact (rss_cons (rs_if (rt_cmp op_lt prim_cmp (rv 1) (re_len rfl Y.n_len (ra_cons (rv 0) ra_nil)) (nomark _)) (rss_one (rs_ret (re_ix hu (rv 0) (rv 1)))) rss_nil)
    (rss_one (rs_ret re_int)))
theorem sc_l_bent : FnScope ["_law_text", "_law_n", "_law_every", "_law_sign", "_law_at", "_law_words", "_law_place", "_law_other", "_law_twice"] ["_law_text", "_law_n"] (defScope (stOf .l_bent)) := ⟨rfl, rfl, rfl, by decide +kernel, rfl, by decide +kernel, by decide +kernel⟩
theorem r_l_bent (Y : Sys P w K mg) {k : Nat} (G : All P w Y base k) (cdv : Value) (A : Around) (outer : List Env) (s : Shared) (H : Hp) (E : XK) (f : Addr) (hr : Room k (A.deeper (envOfC (qlOf .l_bent) (defScope (stOf .l_bent)) s.heap.objs.size f cdv))) :
    RSs (cxOf CX0 P w K mg base ["_law_text", "_law_n", "_law_every", "_law_sign", "_law_at", "_law_words", "_law_place", "_law_other", "_law_twice"] (qlOf .l_bent) (defScope (stOf .l_bent)) f cdv A outer s H E).nox Y.tab (fun _ _ => False) (defBody (stOf .l_bent)) (b_l_bent (F k)) := by
  have hu := hr.units
  exact (rss_cons (rs_set (i := 2) sc_l_bent.nd rfl (Or.inl rfl) (re_str q_217402 (by kernel_rfl)))
    (rss_cons (rs_set (i := 3) sc_l_bent.nd rfl (Or.inl rfl) (re_ix hu (re_lst (ra_cons (re_ix hu (rv 2) (re_mod (re_fdiv (rv 1) re_int) re_int)) (ra_cons (re_ix hu (re_str [32, 46, 44, 40, 41, 48, 49, 50, 51, 97] (by kernel_rfl)) (re_mod (re_fdiv (rv 1) re_int) re_int)) ra_nil))) (re_mod (re_fdiv (rv 1) re_int) re_int)))
    (rss_cons (rs_set (i := 4) sc_l_bent.nd rfl (Or.inl rfl) (re_mod (re_fdiv (rv 1) re_int) (re_add (re_len rfl Y.n_len (ra_cons (rv 0) ra_nil)) re_int)))
    (rss_cons (rs_if (rt_cmp (op_eqD hu) prim_eq (re_mod (rv 1) re_int) re_int (nomark _)) (rss_one (rs_ret (re_add (re_add (re_slice (rv 0) ro_none (ro_some (rv 4))) (rv 3)) (re_slice (rv 0) (ro_some (rv 4)) ro_none)))) rss_nil)
    (rss_cons (rs_if (rt_cmp (op_eqD hu) prim_eq (re_mod (rv 1) re_int) re_int (nomark _)) (rss_one (rs_ret (re_add (re_slice (rv 0) ro_none (ro_some (rv 4))) (re_slice (rv 0) (ro_some (re_add (rv 4) re_int)) ro_none)))) rss_nil)
    (rss_cons (rs_if (rt_cmp (op_eqD hu) prim_eq (re_mod (rv 1) re_int) re_int (nomark _)) (rss_one (rs_ret (re_add (re_add (re_slice (rv 0) ro_none (ro_some (rv 4))) (rv 3)) (re_slice (rv 0) (ro_some (re_add (rv 4) re_int)) ro_none)))) rss_nil)
    (rss_cons (rs_set (i := 5) sc_l_bent.nd rfl (Or.inl rfl) (re_bm ty_str PySem.F.plainAttrs_str PySem.F.slot_str_split PySem.F.type_str_split mt_split prim_split (rv 0) (ra_cons (re_str [32] (by kernel_rfl)) ra_nil)))
    (rss_cons (rs_set (i := 6) sc_l_bent.nd rfl (Or.inl rfl) (re_mod (re_fdiv (rv 1) re_int) (re_len rfl Y.n_len (ra_cons (rv 5) ra_nil))))
    (rss_cons (rs_set (i := 7) sc_l_bent.nd rfl (Or.inl rfl) (re_ix hu (re_lst (ra_cons (re_str [97, 115] (by kernel_rfl)) (ra_cons (re_str [98, 101, 116, 119, 101, 101, 110] (by kernel_rfl)) (ra_cons (re_str [98, 111, 100, 121] (by kernel_rfl)) (ra_cons (re_str [101, 108, 115, 101] (by kernel_rfl)) (ra_cons (re_str [101, 110, 100] (by kernel_rfl)) (ra_cons (re_str [102, 111, 114] (by kernel_rfl)) (ra_cons (re_str [105, 102] (by kernel_rfl)) (ra_cons (re_str [105, 110] (by kernel_rfl)) (ra_cons (re_str [112, 105, 101, 99, 101] (by kernel_rfl)) (ra_cons (re_str [117, 115, 101] (by kernel_rfl)) (ra_cons (re_str [119, 105, 116, 104] (by kernel_rfl)) (ra_cons (re_str [] (by kernel_rfl)) ra_nil))))))))))))) (re_mod (re_fdiv (rv 1) re_int) re_int)))
    (rss_cons (rs_if (rt_cmp (op_eqD hu) prim_eq (re_mod (rv 1) re_int) re_int (nomark _)) (rss_cons (rs_set (i := 8) sc_l_bent.nd rfl (Or.inl rfl) (re_mul (re_lst (ra_cons (re_ix hu (rv 5) (rv 6)) ra_nil)) (re_mod (re_fdiv (rv 1) re_int) re_int)))
    (rss_one (rs_ret (re_bm ty_str PySem.F.plainAttrs_str PySem.F.slot_str_join PySem.F.type_str_join mt_join prim_join (re_str [32] (by kernel_rfl)) (ra_cons (re_add (re_add (re_slice (rv 5) ro_none (ro_some (rv 6))) (rv 8)) (re_slice (rv 5) (ro_some (re_add (rv 6) re_int)) ro_none)) ra_nil))))) rss_nil)
    (rss_one (rs_ret (re_bm ty_str PySem.F.plainAttrs_str PySem.F.slot_str_join PySem.F.type_str_join mt_join prim_join (re_str [32] (by kernel_rfl)) (ra_cons (re_add (re_add (re_slice (rv 5) ro_none (ro_some (rv 6))) (re_lst (ra_cons (rv 7) ra_nil))) (re_slice (rv 5) (ro_some (re_add (rv 6) re_int)) ro_none)) ra_nil))))))))))))))
theorem sc_l_same : FnScope ["_law_found", "_law_due"] ["_law_found", "_law_due"] (defScope (stOf .l_same)) := ⟨rfl, rfl, rfl, by decide +kernel, rfl, by decide +kernel, by decide +kernel⟩
theorem r_l_same (Y : Sys P w K mg) {k : Nat} (G : All P w Y base k) (cdv : Value) (A : Around) (outer : List Env) (s : Shared) (H : Hp) (E : XK) (f : Addr) (hr : Room k (A.deeper (envOfC (qlOf .l_same) (defScope (stOf .l_same)) s.heap.objs.size f cdv))) :
    RSs (cxOf CX0 P w K mg base ["_law_found", "_law_due"] (qlOf .l_same) (defScope (stOf .l_same)) f cdv A outer s H E).nox Y.tab (fun _ _ => False) (defBody (stOf .l_same)) (b_l_same (F k)) := by
  have hu := hr.units
  exact (rss_cons (rs_if (RW.rt (rw_or (rt_cmp op_isN prim_is (rv 1) re_non (nomark _)) (rw_or1 (rt_cmp op_isN prim_is (rv 0) re_non (nomark _))))) (rss_one (rs_ret (re_and (re_cmp op_isN prim_is (rv 0) re_non (nomark _)) (re_one (re_cmp op_isN prim_is (rv 1) re_non (nomark _)))))) rss_nil)
    (rss_one (rs_ret (re_cmp (op_eqD hu) prim_eq (re_repr hr rfl Y.n_repr (ra_cons (rv 0) ra_nil)) (re_repr hr rfl Y.n_repr (ra_cons (rv 1) ra_nil)) (nomark _)))))
theorem sc_l_command : FnScope ["_law_text", "_law_words", "_law_paths", "_law_path_here"] ["_law_text"] (defScope (stOf .l_command)) := ⟨rfl, rfl, rfl, by decide +kernel, rfl, by decide +kernel, by decide +kernel⟩
theorem r_l_command (Y : Sys P w K mg) {k : Nat} (G : All P w Y base k) (cdv : Value) (A : Around) (outer : List Env) (s : Shared) (H : Hp) (E : XK) (f : Addr) (hr : Room k (A.deeper (envOfC (qlOf .l_command) (defScope (stOf .l_command)) s.heap.objs.size f cdv))) :
    RSs (cxOf CX0 P w K mg base ["_law_text", "_law_words", "_law_paths", "_law_path_here"] (qlOf .l_command) (defScope (stOf .l_command)) f cdv A outer s H E).nox Y.tab (fun _ _ => False) (defBody (stOf .l_command)) (b_l_command (F k)) := by
  have hu := hr.units
  exact (rss_cons (rs_set (i := 1) sc_l_command.nd rfl (Or.inl rfl) (re_bm ty_str PySem.F.plainAttrs_str PySem.F.slot_str_split PySem.F.type_str_split mt_split prim_split (rv 0) (ra_cons (re_str [32] (by kernel_rfl)) ra_nil)))
    (rss_cons (rs_if (rt_cmp (op_inA hu) prim_in (rv 0) (re_tup (ra_cons (re_str [40] (by kernel_rfl)) (ra_cons (re_str [41] (by kernel_rfl)) (ra_cons (re_str [101, 110, 100] (by kernel_rfl)) (ra_cons (re_str [101, 108, 115, 101] (by kernel_rfl)) (ra_cons (re_str [98, 101, 116, 119, 101, 101, 110] (by kernel_rfl)) ra_nil)))))) (by with_unfolding_all rfl)) (rss_one (rs_ret (re_tup (ra_cons (re_get2 hu (re_dict (rps_cons (re_str [40] (by kernel_rfl)) (re_str [111, 112, 101, 110] (by kernel_rfl)) (rps_cons (re_str [41] (by kernel_rfl)) (re_str [99, 108, 111, 115, 101] (by kernel_rfl)) rps_nil)) rfl rfl (by intro z; cases z) (by decide) rfl) (rv 0) (rv 0) ⟨rfl, rfl, rfl, rfl⟩) ra_nil)))) rss_nil)
    (rss_cons (rs_if (rt_cmp (op_eqD hu) prim_eq (re_ix hu (rv 1) re_int) (re_str [102, 111, 114] (by kernel_rfl)) (nomark _)) (rss_cons (rs_if (RW.rt (rw_or (rt_cmp (op_neD hu) prim_ne (re_len rfl Y.n_len (ra_cons (rv 1) ra_nil)) re_int (nomark _)) (rw_or (rt_cmp (op_neD hu) prim_ne (re_ix hu (rv 1) re_int) (re_str [105, 110] (by kernel_rfl)) (nomark _)) (rw_or1 (rt_not (rt_tru (re_call (G .l_is_name) (lenF .l_is_name) hr rfl Y.m_l_is_name (Y.ok .l_is_name).kp (Y.bi .l_is_name) (ra_cons (re_ix hu (rv 1) re_int) ra_nil)))))))) (rss_one (rs_ret re_non)) rss_nil)
    (rss_cons (rs_if (rt_cmp op_isN prim_is (re_call (G .l_path) (lenF .l_path) hr rfl Y.m_l_path (Y.ok .l_path).kp (Y.bi .l_path) (ra_cons (re_ix hu (rv 1) re_int) ra_nil)) re_non (nomark _)) (rss_one (rs_ret re_non)) rss_nil)
    (rss_one (rs_ret (re_tup (ra_cons (re_str [102, 111, 114] (by kernel_rfl)) (ra_cons (re_ix hu (rv 1) re_int) (ra_cons (re_call (G .l_path) (lenF .l_path) hr rfl Y.m_l_path (Y.ok .l_path).kp (Y.bi .l_path) (ra_cons (re_ix hu (rv 1) re_int) ra_nil)) ra_nil)))))))) rss_nil)
    (rss_cons (rs_if (rt_cmp (op_eqD hu) prim_eq (re_ix hu (rv 1) re_int) (re_str [105, 102] (by kernel_rfl)) (nomark _)) (rss_cons (rs_if (RW.rt (rw_or (rt_cmp (op_neD hu) prim_ne (re_len rfl Y.n_len (ra_cons (rv 1) ra_nil)) re_int (nomark _)) (rw_or1 (rt_cmp op_isN prim_is (re_call (G .l_path) (lenF .l_path) hr rfl Y.m_l_path (Y.ok .l_path).kp (Y.bi .l_path) (ra_cons (re_ix hu (rv 1) re_int) ra_nil)) re_non (nomark _))))) (rss_one (rs_ret re_non)) rss_nil)
    (rss_one (rs_ret (re_tup (ra_cons (re_str [105, 102] (by kernel_rfl)) (ra_cons (re_call (G .l_path) (lenF .l_path) hr rfl Y.m_l_path (Y.ok .l_path).kp (Y.bi .l_path) (ra_cons (re_ix hu (rv 1) re_int) ra_nil)) ra_nil)))))) rss_nil)
    (rss_cons (rs_if (rt_cmp (op_eqD hu) prim_eq (re_ix hu (rv 1) re_int) (re_str [117, 115, 101] (by kernel_rfl)) (nomark _)) (rss_one (rs_ret (re_call (G .l_use) (lenF .l_use) hr rfl Y.m_l_use (Y.ok .l_use).kp (Y.bi .l_use) (ra_cons (re_slice (rv 0) (ro_some re_int) ro_none) ra_nil)))) rss_nil)
    (rss_cons (rs_if (rt_cmp (op_eqD hu) prim_eq (re_ix hu (rv 1) re_int) (re_str [112, 105, 101, 99, 101] (by kernel_rfl)) (nomark _)) (rss_one (rs_ret (re_call (G .l_piece) (lenF .l_piece) hr rfl Y.m_l_piece (Y.ok .l_piece).kp (Y.bi .l_piece) (ra_cons (re_slice (rv 0) (ro_some re_int) ro_none) ra_nil)))) rss_nil)
    (rss_cons (rs_if (rt_cmp (op_eqD hu) prim_eq (re_slice (rv 0) ro_none (ro_some re_int)) (re_str [98, 111, 100, 121, 40] (by kernel_rfl)) (nomark _)) (rss_cons (rs_set (i := 2) sc_l_command.nd rfl (Or.inl rfl) (re_call (G .l_row) (lenF .l_row) hr rfl Y.m_l_row (Y.ok .l_row).kp (Y.bi .l_row) (ra_cons (re_slice (rv 0) (ro_some re_int) (ro_some (re_neg re_int))) (ra_cons re_bl ra_nil))))
    (rss_one (rs_ret (re_ifExp (RW.rt (rw_or (rt_cmp (op_neD hu) prim_ne (re_ix hu (rv 0) (re_neg re_int)) (re_str [41] (by kernel_rfl)) (nomark _)) (rw_or1 (rt_cmp op_isN prim_is (rv 2) re_non (nomark _))))) re_non (re_tup (ra_cons (re_str [98, 111, 100, 121] (by kernel_rfl)) (ra_cons (rv 2) ra_nil))))))) rss_nil)
    (rss_cons (rs_if (rt_cmp (op_eqD hu) prim_eq (re_len rfl Y.n_len (ra_cons (rv 1) ra_nil)) re_int (nomark _)) (rss_one (rs_set (i := 1) sc_l_command.nd rfl (Or.inl rfl) (re_add (rv 1) (re_lst (ra_cons (re_str [97, 115] (by kernel_rfl)) (ra_cons (re_str [112, 108, 97, 105, 110] (by kernel_rfl)) ra_nil)))))) rss_nil)
    (rss_cons (rs_set (i := 3) sc_l_command.nd rfl (Or.inl rfl) (re_call (G .l_path) (lenF .l_path) hr rfl Y.m_l_path (Y.ok .l_path).kp (Y.bi .l_path) (ra_cons (re_ix hu (rv 1) re_int) ra_nil)))
    (rss_cons (rs_if (RW.rt (rw_or (rt_cmp (op_neD hu) prim_ne (re_len rfl Y.n_len (ra_cons (rv 1) ra_nil)) re_int (nomark _)) (rw_or (rt_cmp (op_neD hu) prim_ne (re_ix hu (rv 1) re_int) (re_str [97, 115] (by kernel_rfl)) (nomark _)) (rw_or1 (rt_cmp op_isN prim_is (rv 3) re_non (nomark _)))))) (rss_one (rs_ret re_non)) rss_nil)
    (rss_cons (rs_if (rt_cmp (op_notInA hu) prim_notIn (re_ix hu (rv 1) re_int) (re_tup (ra_cons (re_str [119, 111, 114, 100] (by kernel_rfl)) (ra_cons (re_str [110, 117, 109, 98, 101, 114] (by kernel_rfl)) (ra_cons (re_str [113, 117, 111, 116, 101, 100] (by kernel_rfl)) (ra_cons (re_str [112, 108, 97, 105, 110] (by kernel_rfl)) (ra_cons (re_str [108, 105, 110, 101] (by kernel_rfl)) ra_nil)))))) (by with_unfolding_all rfl)) (rss_one (rs_ret re_non)) rss_nil)
    (rss_one (rs_ret (re_tup (ra_cons (re_str [112, 108, 97, 99, 101] (by kernel_rfl)) (ra_cons (rv 3) (ra_cons (re_ix hu (rv 1) re_int) ra_nil)))))))))))))))))
theorem sc_l_path_by : FnScope ["_law_names_here", "_law_n"] ["_law_names_here", "_law_n"] (defScope (stOf .l_path_by)) := ⟨rfl, rfl, rfl, by decide +kernel, rfl, by decide +kernel, by decide +kernel⟩
theorem r_l_path_by (Y : Sys P w K mg) {k : Nat} (G : All P w Y base k) (cdv : Value) (A : Around) (outer : List Env) (s : Shared) (H : Hp) (E : XK) (f : Addr) (hr : Room k (A.deeper (envOfC (qlOf .l_path_by) (defScope (stOf .l_path_by)) s.heap.objs.size f cdv))) :
    RSs (cxOf CX0 P w K mg base ["_law_names_here", "_law_n"] (qlOf .l_path_by) (defScope (stOf .l_path_by)) f cdv A outer s H E).nox Y.tab (fun _ _ => False) (defBody (stOf .l_path_by)) (b_l_path_by (F k)) := by
  have hu := hr.units
  exact (rss_one (rs_ret (re_bm ty_str PySem.F.plainAttrs_str PySem.F.slot_str_join PySem.F.type_str_join mt_join prim_join (re_str [46] (by kernel_rfl)) (ra_cons (re_comp (M := ["_law_k", "_law_names_here", "_law_n"]) [0, 1] rfl (CompOk.of (by kernel_rfl)) (ri_range1 rfl Y.n_range (ra_cons (re_add re_int (re_mod (rv 1) re_int)) ra_nil)) (fun _ _ _ _ _ => rf_nil) (fun _ _ _ _ _ => (re_ix hu (rv 1) (re_mod (re_fdiv (re_fdiv (rv 2) re_int) (re_add re_int (re_mul re_int (rv 0)))) re_int)))) ra_nil))))
theorem sc_place_command : FnScope ["text", "parts", "path", "way"] ["text"] (defScope (stOf .place_command)) := ⟨rfl, rfl, rfl, by decide +kernel, rfl, by decide +kernel, by decide +kernel⟩
theorem r_place_command (Y : Sys P w K mg) {k : Nat} (G : All P w Y base k) (cdv : Value) (A : Around) (outer : List Env) (s : Shared) (H : Hp) (E : XK) (f : Addr) (hr : Room k (A.deeper (envOfC (qlOf .place_command) (defScope (stOf .place_command)) s.heap.objs.size f cdv))) :
    RSs (cxOf CX0 P w K mg base ["text", "parts", "path", "way"] (qlOf .place_command) (defScope (stOf .place_command)) f cdv A outer s H E).nox Y.tab (fun _ _ => False) (defBody (stOf .place_command)) (b_place_command (F k)) := by
  have hu := hr.units
  exact (rss_cons (rs_set (i := 1) sc_place_command.nd rfl (Or.inl rfl) (re_bm ty_str PySem.F.plainAttrs_str PySem.F.slot_str_partition PySem.F.type_str_partition mt_partition prim_part (rv 0) (ra_cons (re_str [32, 97, 115, 32] (by kernel_rfl)) ra_nil)))
    (rss_cons (rs_set (i := 2) sc_place_command.nd rfl (Or.inl rfl) (re_call (G .path_of) (lenF .path_of) hr rfl Y.m_path_of (Y.ok .path_of).kp (Y.bi .path_of) (ra_cons (re_ix hu (rv 1) re_int) ra_nil)))
    (rss_cons (rs_set (i := 3) sc_place_command.nd rfl (Or.inl rfl) (re_ifExp (rt_tru (re_ix hu (rv 1) re_int)) (re_ix hu (rv 1) re_int) (re_str [112, 108, 97, 105, 110] (by kernel_rfl))))
    (rss_cons (rs_if (RW.rt (rw_or (rt_cmp op_isN prim_is (rv 2) re_non (nomark _)) (rw_or1 (rt_cmp (op_notInA hu) prim_notIn (rv 3) (re_globT rfl Y.g_WAYS Y.k_WAYS) (by with_unfolding_all rfl))))) (rss_one (rs_ret re_non)) rss_nil)
    (rss_one (rs_ret (re_tup (ra_cons (re_str [112, 108, 97, 99, 101] (by kernel_rfl)) (ra_cons (rv 2) (ra_cons (rv 3) ra_nil))))))))))
theorem sc_for_command : FnScope ["text", "parts", "path"] ["text"] (defScope (stOf .for_command)) := ⟨rfl, rfl, rfl, by decide +kernel, rfl, by decide +kernel, by decide +kernel⟩
theorem r_for_command (Y : Sys P w K mg) {k : Nat} (G : All P w Y base k) (cdv : Value) (A : Around) (outer : List Env) (s : Shared) (H : Hp) (E : XK) (f : Addr) (hr : Room k (A.deeper (envOfC (qlOf .for_command) (defScope (stOf .for_command)) s.heap.objs.size f cdv))) :
    RSs (cxOf CX0 P w K mg base ["text", "parts", "path"] (qlOf .for_command) (defScope (stOf .for_command)) f cdv A outer s H E).nox Y.tab (fun _ _ => False) (defBody (stOf .for_command)) (b_for_command (F k)) := by
  have hu := hr.units
  exact (rss_cons (rs_set (i := 1) sc_for_command.nd rfl (Or.inl rfl) (re_bm ty_str PySem.F.plainAttrs_str PySem.F.slot_str_partition PySem.F.type_str_partition mt_partition prim_part (rv 0) (ra_cons (re_str [32, 105, 110, 32] (by kernel_rfl)) ra_nil)))
    (rss_cons (rs_set (i := 2) sc_for_command.nd rfl (Or.inl rfl) (re_call (G .path_of) (lenF .path_of) hr rfl Y.m_path_of (Y.ok .path_of).kp (Y.bi .path_of) (ra_cons (re_ix hu (rv 1) re_int) ra_nil)))
    (rss_cons (rs_if (RW.rt (rw_or (rt_not (rt_tru (re_call (G .is_name) (lenF .is_name) hr rfl Y.m_is_name (Y.ok .is_name).kp (Y.bi .is_name) (ra_cons (re_ix hu (rv 1) re_int) ra_nil)))) (rw_or1 (rt_cmp op_isN prim_is (rv 2) re_non (nomark _))))) (rss_one (rs_ret re_non)) rss_nil)
    (rss_one (rs_ret (re_tup (ra_cons (re_str [102, 111, 114] (by kernel_rfl)) (ra_cons (re_ix hu (rv 1) re_int) (ra_cons (rv 2) ra_nil)))))))))
theorem sc_if_command : FnScope ["text", "path"] ["text"] (defScope (stOf .if_command)) := ⟨rfl, rfl, rfl, by decide +kernel, rfl, by decide +kernel, by decide +kernel⟩
theorem r_if_command (Y : Sys P w K mg) {k : Nat} (G : All P w Y base k) (cdv : Value) (A : Around) (outer : List Env) (s : Shared) (H : Hp) (E : XK) (f : Addr) (hr : Room k (A.deeper (envOfC (qlOf .if_command) (defScope (stOf .if_command)) s.heap.objs.size f cdv))) :
    RSs (cxOf CX0 P w K mg base ["text", "path"] (qlOf .if_command) (defScope (stOf .if_command)) f cdv A outer s H E).nox Y.tab (fun _ _ => False) (defBody (stOf .if_command)) (b_if_command (F k)) := by
  have hu := hr.units
  exact (rss_cons (rs_set (i := 1) sc_if_command.nd rfl (Or.inl rfl) (re_call (G .path_of) (lenF .path_of) hr rfl Y.m_path_of (Y.ok .path_of).kp (Y.bi .path_of) (ra_cons (rv 0) ra_nil)))
    (rss_cons (rs_if (rt_cmp op_isN prim_is (rv 1) re_non (nomark _)) (rss_one (rs_ret re_non)) rss_nil)
    (rss_one (rs_ret (re_tup (ra_cons (re_str [105, 102] (by kernel_rfl)) (ra_cons (rv 1) ra_nil)))))))
theorem sc_use_command : FnScope ["parts", "paths", "names"] ["parts"] (defScope (stOf .use_command)) := ⟨rfl, rfl, rfl, by decide +kernel, rfl, by decide +kernel, by decide +kernel⟩
theorem r_use_command (Y : Sys P w K mg) {k : Nat} (G : All P w Y base k) (cdv : Value) (A : Around) (outer : List Env) (s : Shared) (H : Hp) (E : XK) (f : Addr) (hr : Room k (A.deeper (envOfC (qlOf .use_command) (defScope (stOf .use_command)) s.heap.objs.size f cdv))) :
    RSs (cxOf CX0 P w K mg base ["parts", "paths", "names"] (qlOf .use_command) (defScope (stOf .use_command)) f cdv A outer s H E).nox Y.tab (fun _ _ => False) (defBody (stOf .use_command)) (b_use_command (F k)) := by
  have hu := hr.units
  exact (rss_cons (rs_if (RW.rt (rw_or (rt_cmp op_isN prim_is (rv 0) re_non (nomark _)) (rw_or1 (rt_not (rt_tru (re_call (G .is_name) (lenF .is_name) hr rfl Y.m_is_name (Y.ok .is_name).kp (Y.bi .is_name) (ra_cons (re_ix hu (rv 0) re_int) ra_nil))))))) (rss_one (rs_ret re_non)) rss_nil)
    (rss_cons (rs_set (i := 1) sc_use_command.nd rfl (Or.inl rfl) (re_call (G .paths_of) (lenF .paths_of) hr rfl Y.m_paths_of (Y.ok .paths_of).kp (Y.bi .paths_of) (ra_cons (re_ix hu (rv 0) re_int) ra_nil)))
    (rss_cons (rs_if (rt_cmp op_isN prim_is (rv 1) re_non (nomark _)) (rss_one (rs_ret re_non)) rss_nil)
    (rss_cons (rs_if (rt_cmp (op_eqD hu) prim_eq (re_ix hu (rv 0) re_int) (re_str [] (by kernel_rfl)) (nomark _)) (rss_one (rs_ret (re_tup (ra_cons (re_str [117, 115, 101] (by kernel_rfl)) (ra_cons (re_ix hu (rv 0) re_int) (ra_cons (rv 1) (ra_cons re_non ra_nil))))))) rss_nil)
    (rss_cons (rs_if (rt_not (rt_tru (re_bm ty_str PySem.F.plainAttrs_str PySem.F.slot_str_startswith PySem.F.type_str_startswith mt_startswith prim_starts (re_ix hu (rv 0) re_int) (ra_cons (re_str [32, 119, 105, 116, 104, 32] (by kernel_rfl)) ra_nil)))) (rss_one (rs_ret re_non)) rss_nil)
    (rss_cons (rs_set (i := 2) sc_use_command.nd rfl (Or.inl rfl) (re_call (G .names_of) (lenF .names_of) hr rfl Y.m_names_of (Y.ok .names_of).kp (Y.bi .names_of) (ra_cons (re_slice (re_ix hu (rv 0) re_int) (ro_some (re_len rfl Y.n_len (ra_cons (re_str [32, 119, 105, 116, 104, 32] (by kernel_rfl)) ra_nil))) ro_none) ra_nil)))
    (rss_cons (rs_if (rt_cmp op_isN prim_is (rv 2) re_non (nomark _)) (rss_one (rs_ret re_non)) rss_nil)
    (rss_one (rs_ret (re_tup (ra_cons (re_str [117, 115, 101] (by kernel_rfl)) (ra_cons (re_ix hu (rv 0) re_int) (ra_cons (rv 1) (ra_cons (rv 2) ra_nil))))))))))))))
theorem sc_body_command : FnScope ["parts", "paths"] ["parts"] (defScope (stOf .body_command)) := ⟨rfl, rfl, rfl, by decide +kernel, rfl, by decide +kernel, by decide +kernel⟩
theorem r_body_command (Y : Sys P w K mg) {k : Nat} (G : All P w Y base k) (cdv : Value) (A : Around) (outer : List Env) (s : Shared) (H : Hp) (E : XK) (f : Addr) (hr : Room k (A.deeper (envOfC (qlOf .body_command) (defScope (stOf .body_command)) s.heap.objs.size f cdv))) :
    RSs (cxOf CX0 P w K mg base ["parts", "paths"] (qlOf .body_command) (defScope (stOf .body_command)) f cdv A outer s H E).nox Y.tab (fun _ _ => False) (defBody (stOf .body_command)) (b_body_command (F k)) := by
  have hu := hr.units
  exact (rss_cons (rs_if (RW.rt (rw_or (rt_cmp op_isN prim_is (rv 0) re_non (nomark _)) (rw_or1 (rt_cmp (op_neD hu) prim_ne (re_ix hu (rv 0) re_int) (re_str [] (by kernel_rfl)) (nomark _))))) (rss_one (rs_ret re_non)) rss_nil)
    (rss_cons (rs_set (i := 1) sc_body_command.nd rfl (Or.inl rfl) (re_call (G .paths_of) (lenF .paths_of) hr rfl Y.m_paths_of (Y.ok .paths_of).kp (Y.bi .paths_of) (ra_cons (re_ix hu (rv 0) re_int) ra_nil)))
    (rss_cons (rs_if (rt_cmp op_isN prim_is (rv 1) re_non (nomark _)) (rss_one (rs_ret re_non)) rss_nil)
    (rss_one (rs_ret (re_tup (ra_cons (re_str [98, 111, 100, 121] (by kernel_rfl)) (ra_cons (rv 1) ra_nil))))))))
theorem sc_piece_command : FnScope ["parts", "names", "many"] ["parts"] (defScope (stOf .piece_command)) := ⟨rfl, rfl, rfl, by decide +kernel, rfl, by decide +kernel, by decide +kernel⟩
theorem r_piece_command (Y : Sys P w K mg) {k : Nat} (G : All P w Y base k) (cdv : Value) (A : Around) (outer : List Env) (s : Shared) (H : Hp) (E : XK) (f : Addr) (hr : Room k (A.deeper (envOfC (qlOf .piece_command) (defScope (stOf .piece_command)) s.heap.objs.size f cdv))) :
    RSs (cxOf CX0 P w K mg base ["parts", "names", "many"] (qlOf .piece_command) (defScope (stOf .piece_command)) f cdv A outer s H E).nox Y.tab (fun _ _ => False) (defBody (stOf .piece_command)) (b_piece_command (F k)) := by
  have hu := hr.units
  exact (rss_cons (rs_if (RW.rt (rw_or (rt_cmp op_isN prim_is (rv 0) re_non (nomark _)) (rw_or1 (rt_not (rt_tru (re_call (G .is_name) (lenF .is_name) hr rfl Y.m_is_name (Y.ok .is_name).kp (Y.bi .is_name) (ra_cons (re_ix hu (rv 0) re_int) ra_nil))))))) (rss_one (rs_ret re_non)) rss_nil)
    (rss_cons (rs_set (i := 1) sc_piece_command.nd rfl (Or.inl rfl) (re_call (G .names_of) (lenF .names_of) hr rfl Y.m_names_of (Y.ok .names_of).kp (Y.bi .names_of) (ra_cons (re_ix hu (rv 0) re_int) ra_nil)))
    (rss_cons (rs_if (rt_cmp op_isN prim_is (rv 1) re_non (nomark _)) (rss_one (rs_ret re_non)) rss_nil)
    (rss_cons (rs_if (rt_cmp (op_eqD hu) prim_eq (re_ix hu (rv 0) re_int) (re_str [] (by kernel_rfl)) (nomark _)) (rss_one (rs_ret (re_tup (ra_cons (re_str [112, 105, 101, 99, 101] (by kernel_rfl)) (ra_cons (re_ix hu (rv 0) re_int) (ra_cons (rv 1) (ra_cons re_non ra_nil))))))) rss_nil)
    (rss_cons (rs_set (i := 2) sc_piece_command.nd rfl (Or.inl rfl) (re_slice (re_ix hu (rv 0) re_int) (ro_some (re_len rfl Y.n_len (ra_cons (re_str [32, 98, 111, 100, 121, 32] (by kernel_rfl)) ra_nil))) ro_none))
    (rss_cons (rs_if (RW.rt (rw_or (rt_not (rt_tru (re_bm ty_str PySem.F.plainAttrs_str PySem.F.slot_str_startswith PySem.F.type_str_startswith mt_startswith prim_starts (re_ix hu (rv 0) re_int) (ra_cons (re_str [32, 98, 111, 100, 121, 32] (by kernel_rfl)) ra_nil)))) (rw_or1 (rt_cmp (op_notInA hu) prim_notIn (rv 2) (re_globT rfl Y.g_MANIES Y.k_MANIES) (by with_unfolding_all rfl))))) (rss_one (rs_ret re_non)) rss_nil)
    (rss_one (rs_ret (re_tup (ra_cons (re_str [112, 105, 101, 99, 101] (by kernel_rfl)) (ra_cons (re_ix hu (rv 0) re_int) (ra_cons (rv 1) (ra_cons (re_intT rfl Y.n_int (ra_cons (rv 2) ra_nil)) ra_nil)))))))))))))
theorem sc_bracketed : FnScope ["text", "opening", "closing"] ["text"] (defScope (stOf .bracketed)) := ⟨rfl, rfl, rfl, by decide +kernel, rfl, by decide +kernel, by decide +kernel⟩
theorem r_bracketed (Y : Sys P w K mg) {k : Nat} (G : All P w Y base k) (cdv : Value) (A : Around) (outer : List Env) (s : Shared) (H : Hp) (E : XK) (f : Addr) (hr : Room k (A.deeper (envOfC (qlOf .bracketed) (defScope (stOf .bracketed)) s.heap.objs.size f cdv))) :
    RSs (cxOf CX0 P w K mg base ["text", "opening", "closing"] (qlOf .bracketed) (defScope (stOf .bracketed)) f cdv A outer s H E).nox Y.tab (fun _ _ => False) (defBody (stOf .bracketed)) (b_bracketed (F k)) := by
  have hu := hr.units
  exact (rss_cons (rs_set (i := 1) sc_bracketed.nd rfl (Or.inl rfl) (re_bm ty_str PySem.F.plainAttrs_str PySem.F.slot_str_find PySem.F.type_str_find mt_find prim_find (rv 0) (ra_cons (re_str [40] (by kernel_rfl)) ra_nil)))
    (rss_cons (rs_set (i := 2) sc_bracketed.nd rfl (Or.inl rfl) (re_bm ty_str PySem.F.plainAttrs_str PySem.F.slot_str_find PySem.F.type_str_find mt_find prim_find (rv 0) (ra_cons (re_str [41] (by kernel_rfl)) ra_nil)))
    (rss_cons (rs_if (rt_not (rt_chain op_le prim_cmp op_lt prim_cmp re_int (rv 1) (rv 2))) (rss_one (rs_ret re_non)) rss_nil)
    (rss_one (rs_ret (re_tup (ra_cons (re_slice (rv 0) ro_none (ro_some (rv 1))) (ra_cons (re_slice (rv 0) (ro_some (re_add (rv 1) re_int)) (ro_some (rv 2))) (ra_cons (re_slice (rv 0) (ro_some (re_add (rv 2) re_int)) ro_none) ra_nil)))))))))
theorem sc_l_path : FnScope ["_law_text", "_law_parts"] ["_law_text"] (defScope (stOf .l_path)) := ⟨rfl, rfl, rfl, by decide +kernel, rfl, by decide +kernel, by decide +kernel⟩
theorem r_l_path (Y : Sys P w K mg) {k : Nat} (G : All P w Y base k) (cdv : Value) (A : Around) (outer : List Env) (s : Shared) (H : Hp) (E : XK) (f : Addr) (hr : Room k (A.deeper (envOfC (qlOf .l_path) (defScope (stOf .l_path)) s.heap.objs.size f cdv))) :
    RSs (cxOf CX0 P w K mg base ["_law_text", "_law_parts"] (qlOf .l_path) (defScope (stOf .l_path)) f cdv A outer s H E).nox Y.tab (fun _ _ => False) (defBody (stOf .l_path)) (b_l_path (F k)) := by
  have hu := hr.units
  exact (rss_cons (rs_set (i := 1) sc_l_path.nd rfl (Or.inl rfl) (re_bm ty_str PySem.F.plainAttrs_str PySem.F.slot_str_split PySem.F.type_str_split mt_split prim_split (rv 0) (ra_cons (re_str [46] (by kernel_rfl)) ra_nil)))
    (rss_cons (rs_if (RW.rt (rw_or (rt_cmp op_gt prim_cmp (re_len rfl Y.n_len (ra_cons (rv 1) ra_nil)) re_int (nomark _)) (rw_or1 (rt_not (rt_tru (re_all rfl Y.n_all (ra_cons (re_comp (M := ["_law_part"]) [] rfl (CompOk.of (by kernel_rfl)) (ri_seq (rv 1)) (fun _ _ _ _ _ => rf_nil) (fun _ _ _ _ _ => (re_call (G .l_is_name) (lenF .l_is_name) hr rfl Y.m_l_is_name (Y.ok .l_is_name).kp (Y.bi .l_is_name) (ra_cons (rv 0) ra_nil)))) ra_nil))))))) (rss_one (rs_ret re_non)) rss_nil)
    (rss_one (rs_ret (re_tuple rfl Y.n_tuple (ra_cons (rv 1) ra_nil))))))
theorem sc_l_use : FnScope ["_law_text", "_law_found", "_law_paths", "_law_names_here"] ["_law_text"] (defScope (stOf .l_use)) := ⟨rfl, rfl, rfl, by decide +kernel, rfl, by decide +kernel, by decide +kernel⟩
theorem r_l_use (Y : Sys P w K mg) {k : Nat} (G : All P w Y base k) (cdv : Value) (A : Around) (outer : List Env) (s : Shared) (H : Hp) (E : XK) (f : Addr) (hr : Room k (A.deeper (envOfC (qlOf .l_use) (defScope (stOf .l_use)) s.heap.objs.size f cdv))) :
    RSs (cxOf CX0 P w K mg base ["_law_text", "_law_found", "_law_paths", "_law_names_here"] (qlOf .l_use) (defScope (stOf .l_use)) f cdv A outer s H E).nox Y.tab (fun _ _ => False) (defBody (stOf .l_use)) (b_l_use (F k)) := by
  have hu := hr.units
  exact (rss_cons (rs_set (i := 1) sc_l_use.nd rfl (Or.inl rfl) (re_call (G .l_called) (lenF .l_called) hr rfl Y.m_l_called (Y.ok .l_called).kp (Y.bi .l_called) (ra_cons (rv 0) (ra_cons (re_str [32, 119, 105, 116, 104, 32] (by kernel_rfl)) ra_nil))))
    (rss_cons (rs_if (rt_cmp op_isN prim_is (rv 1) re_non (nomark _)) (rss_one (rs_ret re_non)) rss_nil)
    (rss_cons (rs_set (i := 2) sc_l_use.nd rfl (Or.inl rfl) (re_call (G .l_row) (lenF .l_row) hr rfl Y.m_l_row (Y.ok .l_row).kp (Y.bi .l_row) (ra_cons (re_ix hu (rv 1) re_int) (ra_cons re_bl ra_nil))))
    (rss_cons (rs_set (i := 3) sc_l_use.nd rfl (Or.inl rfl) re_non)
    (rss_cons (rs_if (rt_cmp (op_neD hu) prim_ne (re_ix hu (rv 1) re_int) (re_str [] (by kernel_rfl)) (nomark _)) (rss_one (rs_set (i := 3) sc_l_use.nd rfl (Or.inl rfl) (re_call (G .l_row) (lenF .l_row) hr rfl Y.m_l_row (Y.ok .l_row).kp (Y.bi .l_row) (ra_cons (re_slice (re_ix hu (rv 1) re_int) (ro_some re_int) ro_none) (ra_cons re_bl ra_nil))))) rss_nil)
    (rss_cons (rs_if (RW.rt (rw_or (rt_cmp op_isN prim_is (rv 2) re_non (nomark _)) (rw_or1 (RW.rt (rw_and (rt_cmp (op_neD hu) prim_ne (re_ix hu (rv 1) re_int) (re_str [] (by kernel_rfl)) (nomark _)) (rw_and1 (rt_cmp op_isN prim_is (rv 3) re_non (nomark _)))))))) (rss_one (rs_ret re_non)) rss_nil)
    (rss_one (rs_ret (re_tup (ra_cons (re_str [117, 115, 101] (by kernel_rfl)) (ra_cons (re_ix hu (rv 1) re_int) (ra_cons (rv 2) (ra_cons (rv 3) ra_nil)))))))))))))
theorem sc_l_piece : FnScope ["_law_text", "_law_found", "_law_names_here"] ["_law_text"] (defScope (stOf .l_piece)) := ⟨rfl, rfl, rfl, by decide +kernel, rfl, by decide +kernel, by decide +kernel⟩
theorem r_l_piece (Y : Sys P w K mg) {k : Nat} (G : All P w Y base k) (cdv : Value) (A : Around) (outer : List Env) (s : Shared) (H : Hp) (E : XK) (f : Addr) (hr : Room k (A.deeper (envOfC (qlOf .l_piece) (defScope (stOf .l_piece)) s.heap.objs.size f cdv))) :
    RSs (cxOf CX0 P w K mg base ["_law_text", "_law_found", "_law_names_here"] (qlOf .l_piece) (defScope (stOf .l_piece)) f cdv A outer s H E).nox Y.tab (fun _ _ => False) (defBody (stOf .l_piece)) (b_l_piece (F k)) := by
  have hu := hr.units
  exact (rss_cons (rs_set (i := 1) sc_l_piece.nd rfl (Or.inl rfl) (re_call (G .l_called) (lenF .l_called) hr rfl Y.m_l_called (Y.ok .l_called).kp (Y.bi .l_called) (ra_cons (rv 0) (ra_cons (re_str [32, 98, 111, 100, 121, 32] (by kernel_rfl)) ra_nil))))
    (rss_cons (rs_if (rt_cmp op_isN prim_is (rv 1) re_non (nomark _)) (rss_one (rs_ret re_non)) rss_nil)
    (rss_cons (rs_set (i := 2) sc_l_piece.nd rfl (Or.inl rfl) (re_call (G .l_row) (lenF .l_row) hr rfl Y.m_l_row (Y.ok .l_row).kp (Y.bi .l_row) (ra_cons (re_ix hu (rv 1) re_int) (ra_cons re_bl ra_nil))))
    (rss_cons (rs_if (RW.rt (rw_or (rt_cmp op_isN prim_is (rv 2) re_non (nomark _)) (rw_or1 (rt_cmp (op_notInA hu) prim_notIn (re_ix hu (rv 1) re_int) (re_tup (ra_cons (re_str [] (by kernel_rfl)) (ra_cons (re_str [32, 98, 111, 100, 121, 32, 48] (by kernel_rfl)) (ra_cons (re_str [32, 98, 111, 100, 121, 32, 49] (by kernel_rfl)) (ra_cons (re_str [32, 98, 111, 100, 121, 32, 50] (by kernel_rfl)) (ra_cons (re_str [32, 98, 111, 100, 121, 32, 51] (by kernel_rfl)) ra_nil)))))) (by with_unfolding_all rfl))))) (rss_one (rs_ret re_non)) rss_nil)
    (rss_one (rs_ret (re_tup (ra_cons (re_str [112, 105, 101, 99, 101] (by kernel_rfl)) (ra_cons (re_ix hu (rv 1) re_int) (ra_cons (rv 2) (ra_cons (re_ifExp (rt_cmp (op_eqD hu) prim_eq (re_ix hu (rv 1) re_int) (re_str [] (by kernel_rfl)) (nomark _)) re_non (re_intT rfl Y.n_int (ra_cons (re_slice (re_ix hu (rv 1) re_int) (ro_some re_int) ro_none) ra_nil))) ra_nil)))))))))))
theorem sc_l_row : FnScope ["_law_text", "_law_with_fields", "_law_found"] ["_law_text", "_law_with_fields"] (defScope (stOf .l_row)) := ⟨rfl, rfl, rfl, by decide +kernel, rfl, by decide +kernel, by decide +kernel⟩
theorem r_l_row (Y : Sys P w K mg) {k : Nat} (G : All P w Y base k) (cdv : Value) (A : Around) (outer : List Env) (s : Shared) (H : Hp) (E : XK) (f : Addr) (hr : Room k (A.deeper (envOfC (qlOf .l_row) (defScope (stOf .l_row)) s.heap.objs.size f cdv))) :
    RSs (cxOf CX0 P w K mg base ["_law_text", "_law_with_fields", "_law_found"] (qlOf .l_row) (defScope (stOf .l_row)) f cdv A outer s H E).nox Y.tab (fun _ _ => False) (defBody (stOf .l_row)) (b_l_row (F k)) := by
  have hu := hr.units
  exact (rss_cons (rs_if (rt_cmp (op_eqD hu) prim_eq (rv 0) (re_str [] (by kernel_rfl)) (nomark _)) (rss_one (rs_ret (re_tup ra_nil))) rss_nil)
    (rss_cons (rs_if (rt_tru (rv 1)) (rss_one (rs_setComp (M := ["_law_part"]) [] rfl (CompOk.of (by kernel_rfl)) (ri_seq (re_bm ty_str PySem.F.plainAttrs_str PySem.F.slot_str_split PySem.F.type_str_split mt_split prim_split (rv 0) (ra_cons (re_str [44, 32] (by kernel_rfl)) ra_nil))) (fun _ _ _ _ _ => rf_nil) (fun _ _ _ _ _ => (re_call (G .l_path) (lenF .l_path) hr rfl Y.m_l_path (Y.ok .l_path).kp (Y.bi .l_path) (ra_cons (rv 0) ra_nil))) (iy := 2) sc_l_row.nd rfl rfl (by with_unfolding_all rfl))) (rss_one (rs_setComp (M := ["_law_part"]) [] rfl (CompOk.of (by kernel_rfl)) (ri_seq (re_bm ty_str PySem.F.plainAttrs_str PySem.F.slot_str_split PySem.F.type_str_split mt_split prim_split (rv 0) (ra_cons (re_str [44, 32] (by kernel_rfl)) ra_nil))) (fun _ _ _ _ _ => rf_nil) (fun _ _ _ _ _ => (re_ix hu (re_lst (ra_cons re_non (ra_cons (rv 0) ra_nil))) (re_intB rfl Y.n_int (ra_cons (re_call (G .l_is_name) (lenF .l_is_name) hr rfl Y.m_l_is_name (Y.ok .l_is_name).kp (Y.bi .l_is_name) (ra_cons (rv 0) ra_nil)) ra_nil)))) (iy := 2) sc_l_row.nd rfl rfl (by with_unfolding_all rfl))))
    (rss_cons (rs_if (rt_cmp (op_inA hu) prim_in re_non (rv 2) (by with_unfolding_all rfl)) (rss_one (rs_ret re_non)) rss_nil)
    (rss_one (rs_ret (re_tuple rfl Y.n_tuple (ra_cons (rv 2) ra_nil)))))))
theorem sc_l_is_name : FnScope ["_law_word", "_law_told"] ["_law_word"] (defScope (stOf .l_is_name)) := ⟨rfl, rfl, rfl, by decide +kernel, rfl, by decide +kernel, by decide +kernel⟩
theorem r_l_is_name (Y : Sys P w K mg) {k : Nat} (G : All P w Y base k) (cdv : Value) (A : Around) (outer : List Env) (s : Shared) (H : Hp) (E : XK) (f : Addr) (hr : Room k (A.deeper (envOfC (qlOf .l_is_name) (defScope (stOf .l_is_name)) s.heap.objs.size f cdv))) :
    RSs (cxOf CX0 P w K mg base ["_law_word", "_law_told"] (qlOf .l_is_name) (defScope (stOf .l_is_name)) f cdv A outer s H E).nox Y.tab (fun _ _ => False) (defBody (stOf .l_is_name)) (b_l_is_name (F k)) := by
  have hu := hr.units
  exact (rss_cons (rs_set (i := 1) sc_l_is_name.nd rfl (Or.inl rfl) (re_lst (ra_cons (re_str [97, 115] (by kernel_rfl)) (ra_cons (re_str [98, 101, 116, 119, 101, 101, 110] (by kernel_rfl)) (ra_cons (re_str [98, 111, 100, 121] (by kernel_rfl)) (ra_cons (re_str [101, 108, 115, 101] (by kernel_rfl)) (ra_cons (re_str [101, 110, 100] (by kernel_rfl)) (ra_cons (re_str [102, 111, 114] (by kernel_rfl)) (ra_cons (re_str [105, 102] (by kernel_rfl)) (ra_cons (re_str [105, 110] (by kernel_rfl)) (ra_cons (re_str [112, 105, 101, 99, 101] (by kernel_rfl)) (ra_cons (re_str [117, 115, 101] (by kernel_rfl)) (ra_cons (re_str [119, 105, 116, 104] (by kernel_rfl)) ra_nil)))))))))))))
    (rss_cons (rs_if (RW.rt (rw_or (rt_not (rt_chain op_le prim_cmp op_le prim_cmp re_int (re_len rfl Y.n_len (ra_cons (rv 0) ra_nil)) re_int)) (rw_or1 (rt_cmp (op_inA hu) prim_in (rv 0) (rv 1) (by with_unfolding_all rfl))))) (rss_one (rs_ret re_bl)) rss_nil)
    (rss_one (rs_ret (re_cmp (op_eqD hu) prim_eq (re_comp (M := ["_law_sign"]) [] rfl (CompOk.of (by kernel_rfl)) (ri_seq (rv 0)) (fun _ _ _ _ _ => (rf_one (rt_cmp (op_notInA hu) prim_notIn (rv 0) (re_str q_c3fcd3 (by kernel_rfl)) (by with_unfolding_all rfl)))) (fun _ _ _ _ _ => (rv 0))) (re_lst ra_nil) (nomark _))))))
theorem sc_path_of : FnScope ["text", "path"] ["text"] (defScope (stOf .path_of)) := ⟨rfl, rfl, rfl, by decide +kernel, rfl, by decide +kernel, by decide +kernel⟩
theorem r_path_of (Y : Sys P w K mg) {k : Nat} (G : All P w Y base k) (cdv : Value) (A : Around) (outer : List Env) (s : Shared) (H : Hp) (E : XK) (f : Addr) (hr : Room k (A.deeper (envOfC (qlOf .path_of) (defScope (stOf .path_of)) s.heap.objs.size f cdv))) :
    RSs (cxOf CX0 P w K mg base ["text", "path"] (qlOf .path_of) (defScope (stOf .path_of)) f cdv A outer s H E).nox Y.tab (fun _ _ => False) (defBody (stOf .path_of)) (b_path_of (F k)) := by
  have hu := hr.units
  exact (rss_cons (rs_set (i := 1) sc_path_of.nd rfl (Or.inl rfl) (re_tuple rfl Y.n_tuple (ra_cons (re_bm ty_str PySem.F.plainAttrs_str PySem.F.slot_str_split PySem.F.type_str_split mt_split prim_split (rv 0) (ra_cons (re_str [46] (by kernel_rfl)) ra_nil)) ra_nil)))
    (rss_one (rs_ret (re_ifExp (rt_tru (re_call (G .is_path) (lenF .is_path) hr rfl Y.m_is_path (Y.ok .is_path).kp (Y.bi .is_path) (ra_cons (rv 1) ra_nil))) (rv 1) re_non))))
theorem sc_is_name : FnScope ["thing"] ["thing"] (defScope (stOf .is_name)) := ⟨rfl, rfl, rfl, by decide +kernel, rfl, by decide +kernel, by decide +kernel⟩
theorem r_is_name (Y : Sys P w K mg) {k : Nat} (G : All P w Y base k) (cdv : Value) (A : Around) (outer : List Env) (s : Shared) (H : Hp) (E : XK) (f : Addr) (hr : Room k (A.deeper (envOfC (qlOf .is_name) (defScope (stOf .is_name)) s.heap.objs.size f cdv))) :
    RSs (cxOf CX0 P w K mg base ["thing"] (qlOf .is_name) (defScope (stOf .is_name)) f cdv A outer s H E).nox Y.tab (fun _ _ => False) (defBody (stOf .is_name)) (b_is_name (F k)) := by
  have hu := hr.units
  exact (rss_cons (rs_if (RW.rt (rw_or (rt_not (rt_tru (re_isinst rfl Y.n_isinstance (ra_cons (rv 0) (ra_cons (re_tyN rfl Y.n_str (by decide +kernel)) ra_nil))))) (rw_or1 (rt_not (rt_chain op_le prim_cmp op_le prim_cmp re_int (re_len rfl Y.n_len (ra_cons (rv 0) ra_nil)) (re_globI rfl Y.g_MOST_LETTERS Y.r_MOST_LETTERS)))))) (rss_one (rs_ret re_bl)) rss_nil)
    (rss_one (rs_ret (re_and (re_call (G .is_made_of) (lenF .is_made_of) hr rfl Y.m_is_made_of (Y.ok .is_made_of).kp (Y.bi .is_made_of) (ra_cons (rv 0) (ra_cons (re_globS rfl Y.g_SMALL_LETTERS Y.r_SMALL_LETTERS) ra_nil))) (re_one (re_cmp (op_notInA hu) prim_notIn (rv 0) (re_globT rfl Y.g_COMMAND_WORDS Y.k_COMMAND_WORDS) (by with_unfolding_all rfl)))))))
theorem sc_paths_of : FnScope ["text", "paths"] ["text"] (defScope (stOf .paths_of)) := ⟨rfl, rfl, rfl, by decide +kernel, rfl, by decide +kernel, by decide +kernel⟩
theorem r_paths_of (Y : Sys P w K mg) {k : Nat} (G : All P w Y base k) (cdv : Value) (A : Around) (outer : List Env) (s : Shared) (H : Hp) (E : XK) (f : Addr) (hr : Room k (A.deeper (envOfC (qlOf .paths_of) (defScope (stOf .paths_of)) s.heap.objs.size f cdv))) :
    RSs (cxOf CX0 P w K mg base ["text", "paths"] (qlOf .paths_of) (defScope (stOf .paths_of)) f cdv A outer s H E).nox Y.tab (fun _ _ => False) (defBody (stOf .paths_of)) (b_paths_of (F k)) := by
  have hu := hr.units
  exact (rss_cons (rs_set (i := 1) sc_paths_of.nd rfl (Or.inl rfl) (re_tuple rfl Y.n_tuple (ra_cons (re_comp (M := ["part"]) [] rfl (CompOk.of (by kernel_rfl)) (ri_seq (re_call (G .listed) (lenF .listed) hr rfl Y.m_listed (Y.ok .listed).kp (Y.bi .listed) (ra_cons (rv 0) ra_nil))) (fun _ _ _ _ _ => rf_nil) (fun _ _ _ _ _ => (re_call (G .path_of) (lenF .path_of) hr rfl Y.m_path_of (Y.ok .path_of).kp (Y.bi .path_of) (ra_cons (rv 0) ra_nil)))) ra_nil)))
    (rss_one (rs_ret (re_ifExp (rt_cmp (op_inA hu) prim_in re_non (rv 1) (by with_unfolding_all rfl)) re_non (rv 1)))))
theorem sc_names_of : FnScope ["text", "names"] ["text"] (defScope (stOf .names_of)) := ⟨rfl, rfl, rfl, by decide +kernel, rfl, by decide +kernel, by decide +kernel⟩
theorem r_names_of (Y : Sys P w K mg) {k : Nat} (G : All P w Y base k) (cdv : Value) (A : Around) (outer : List Env) (s : Shared) (H : Hp) (E : XK) (f : Addr) (hr : Room k (A.deeper (envOfC (qlOf .names_of) (defScope (stOf .names_of)) s.heap.objs.size f cdv))) :
    RSs (cxOf CX0 P w K mg base ["text", "names"] (qlOf .names_of) (defScope (stOf .names_of)) f cdv A outer s H E).nox Y.tab (fun _ _ => False) (defBody (stOf .names_of)) (b_names_of (F k)) := by
  have hu := hr.units
  exact (rss_cons (rs_set (i := 1) sc_names_of.nd rfl (Or.inl rfl) (re_call (G .listed) (lenF .listed) hr rfl Y.m_listed (Y.ok .listed).kp (Y.bi .listed) (ra_cons (rv 0) ra_nil)))
    (rss_one (rs_ret (re_ifExp (rt_tru (re_all rfl Y.n_all (ra_cons (re_comp (M := ["name"]) [] rfl (CompOk.of (by kernel_rfl)) (ri_seq (rv 1)) (fun _ _ _ _ _ => rf_nil) (fun _ _ _ _ _ => (re_call (G .is_name) (lenF .is_name) hr rfl Y.m_is_name (Y.ok .is_name).kp (Y.bi .is_name) (ra_cons (rv 0) ra_nil)))) ra_nil))) (rv 1) re_non))))
theorem sc_l_called : FnScope ["_law_text", "_law_behind", "_law_at", "_law_shut", "_law_rest"] ["_law_text", "_law_behind"] (defScope (stOf .l_called)) := ⟨rfl, rfl, rfl, by decide +kernel, rfl, by decide +kernel, by decide +kernel⟩
theorem r_l_called (Y : Sys P w K mg) {k : Nat} (G : All P w Y base k) (cdv : Value) (A : Around) (outer : List Env) (s : Shared) (H : Hp) (E : XK) (f : Addr) (hr : Room k (A.deeper (envOfC (qlOf .l_called) (defScope (stOf .l_called)) s.heap.objs.size f cdv))) :
    RSs (cxOf CX0 P w K mg base ["_law_text", "_law_behind", "_law_at", "_law_shut", "_law_rest"] (qlOf .l_called) (defScope (stOf .l_called)) f cdv A outer s H E).nox Y.tab (fun _ _ => False) (defBody (stOf .l_called)) (b_l_called (F k)) := by
  have hu := hr.units
  exact (rss_cons (rs_set (i := 2) sc_l_called.nd rfl (Or.inl rfl) (re_bm ty_str PySem.F.plainAttrs_str PySem.F.slot_str_find PySem.F.type_str_find mt_find prim_find (rv 0) (ra_cons (re_str [40] (by kernel_rfl)) ra_nil)))
    (rss_cons (rs_set (i := 3) sc_l_called.nd rfl (Or.inl rfl) (re_bm ty_str PySem.F.plainAttrs_str PySem.F.slot_str_find PySem.F.type_str_find mt_find prim_find (rv 0) (ra_cons (re_str [41] (by kernel_rfl)) ra_nil)))
    (rss_cons (rs_if (RW.rt (rw_or (rt_cmp op_lt prim_cmp (rv 2) re_int (nomark _)) (rw_or (rt_cmp op_lt prim_cmp (rv 3) (rv 2) (nomark _)) (rw_or1 (rt_not (rt_tru (re_call (G .l_is_name) (lenF .l_is_name) hr rfl Y.m_l_is_name (Y.ok .l_is_name).kp (Y.bi .l_is_name) (ra_cons (re_slice (rv 0) ro_none (ro_some (rv 2))) ra_nil)))))))) (rss_one (rs_ret re_non)) rss_nil)
    (rss_cons (rs_set (i := 4) sc_l_called.nd rfl (Or.inl rfl) (re_slice (rv 0) (ro_some (re_add (rv 3) re_int)) ro_none))
    (rss_cons (rs_if (RW.rt (rw_and (rt_cmp (op_neD hu) prim_ne (rv 4) (re_str [] (by kernel_rfl)) (nomark _)) (rw_and1 (rt_cmp (op_neD hu) prim_ne (re_slice (rv 4) ro_none (ro_some (re_len rfl Y.n_len (ra_cons (rv 1) ra_nil)))) (rv 1) (nomark _))))) (rss_one (rs_ret re_non)) rss_nil)
    (rss_one (rs_ret (re_lst (ra_cons (re_slice (rv 0) ro_none (ro_some (rv 2))) (ra_cons (re_slice (rv 0) (ro_some (re_add (rv 2) re_int)) (ro_some (rv 3))) (ra_cons (rv 4) ra_nil)))))))))))
theorem sc_is_path : FnScope ["thing"] ["thing"] (defScope (stOf .is_path)) := ⟨rfl, rfl, rfl, by decide +kernel, rfl, by decide +kernel, by decide +kernel⟩
theorem r_is_path (Y : Sys P w K mg) {k : Nat} (G : All P w Y base k) (cdv : Value) (A : Around) (outer : List Env) (s : Shared) (H : Hp) (E : XK) (f : Addr) (hr : Room k (A.deeper (envOfC (qlOf .is_path) (defScope (stOf .is_path)) s.heap.objs.size f cdv))) :
    RSs (cxOf CX0 P w K mg base ["thing"] (qlOf .is_path) (defScope (stOf .is_path)) f cdv A outer s H E).nox Y.tab (fun _ _ => False) (defBody (stOf .is_path)) (b_is_path (F k)) := by
  have hu := hr.units
  exact (rss_cons (rs_if (RW.rt (rw_or (rt_not (rt_tru (re_isinst rfl Y.n_isinstance (ra_cons (rv 0) (ra_cons (re_tyN rfl Y.n_tuple (by decide +kernel)) ra_nil))))) (rw_or1 (rt_not (rt_chain op_le prim_cmp op_le prim_cmp re_int (re_len rfl Y.n_len (ra_cons (rv 0) ra_nil)) (re_globI rfl Y.g_MOST_NAMES Y.r_MOST_NAMES)))))) (rss_one (rs_ret re_bl)) rss_nil)
    (rss_one (rs_ret (re_all rfl Y.n_all (ra_cons (re_comp (M := ["part"]) [] rfl (CompOk.of (by kernel_rfl)) (ri_seq (rv 0)) (fun _ _ _ _ _ => rf_nil) (fun _ _ _ _ _ => (re_call (G .is_name) (lenF .is_name) hr rfl Y.m_is_name (Y.ok .is_name).kp (Y.bi .is_name) (ra_cons (rv 0) ra_nil)))) ra_nil)))))
theorem sc_is_made_of : FnScope ["text", "allowed", "sign"] ["text", "allowed"] (defScope (stOf .is_made_of)) := ⟨rfl, rfl, rfl, by decide +kernel, rfl, by decide +kernel, by decide +kernel⟩
theorem r_is_made_of (Y : Sys P w K mg) {k : Nat} (G : All P w Y base k) (cdv : Value) (A : Around) (outer : List Env) (s : Shared) (H : Hp) (E : XK) (f : Addr) (hr : Room k (A.deeper (envOfC (qlOf .is_made_of) (defScope (stOf .is_made_of)) s.heap.objs.size f cdv))) :
    RSs (cxOf CX0 P w K mg base ["text", "allowed", "sign"] (qlOf .is_made_of) (defScope (stOf .is_made_of)) f cdv A outer s H E).nox Y.tab (fun _ _ => False) (defBody (stOf .is_made_of)) (b_is_made_of (F k)) := by
  have hu := hr.units
  exact (rss_cons (rs_for PassesOwn.never rfl (ri_seq (rv 0)) (rg_name (i := 2) sc_is_made_of.nd rfl (Or.inl rfl)) (rss_one (rs_if (rt_cmp (op_notInA hu) prim_notIn (rv 2) (rv 1) (by with_unfolding_all rfl)) (rss_one (rs_ret re_bl)) rss_nil)))
    (rss_one (rs_ret re_bl)))
theorem sc_listed : FnScope ["text"] ["text"] (defScope (stOf .listed)) := ⟨rfl, rfl, rfl, by decide +kernel, rfl, by decide +kernel, by decide +kernel⟩
theorem r_listed (Y : Sys P w K mg) {k : Nat} (G : All P w Y base k) (cdv : Value) (A : Around) (outer : List Env) (s : Shared) (H : Hp) (E : XK) (f : Addr) (hr : Room k (A.deeper (envOfC (qlOf .listed) (defScope (stOf .listed)) s.heap.objs.size f cdv))) :
    RSs (cxOf CX0 P w K mg base ["text"] (qlOf .listed) (defScope (stOf .listed)) f cdv A outer s H E).nox Y.tab (fun _ _ => False) (defBody (stOf .listed)) (b_listed (F k)) := by
  have hu := hr.units
  exact (rss_one (rs_ret (re_ifExp (rt_tru (rv 0)) (re_tuple rfl Y.n_tuple (ra_cons (re_bm ty_str PySem.F.plainAttrs_str PySem.F.slot_str_split PySem.F.type_str_split mt_split prim_split (rv 0) (ra_cons (re_str [44, 32] (by kernel_rfl)) ra_nil)) ra_nil)) (re_tup ra_nil))))
theorem all_ok (Y : Sys P w K mg) : ∀ k, All P w Y base k
  | 0 => fun f => ⟨fun vs H Q E h => by obtain ⟨_, _, _, _, _, _, e, _⟩ := h; simp [F] at e, fun A outer s H args us vs Q E _ _ _ _ h => by obtain ⟨_, _, _, _, _, _, e, _⟩ := h; simp [F] at e⟩
  | k + 1 => fun f => by
    have G := all_ok Y k
    cases f with
    | law => exact fn_pure (Y.ok .law) sc_law fun cdv A outer s H E hr => r_law P w Y G cdv A outer s H E _ hr
    | l_names => exact fn_pure (Y.ok .l_names) sc_l_names fun cdv A outer s H E hr => r_l_names P w Y G cdv A outer s H E _ hr
    | l_mixed => exact fn_pure (Y.ok .l_mixed) sc_l_mixed fun cdv A outer s H E hr => r_l_mixed P w Y G cdv A outer s H E _ hr
    | l_text_by => exact fn_pure (Y.ok .l_text_by) sc_l_text_by fun cdv A outer s H E hr => r_l_text_by P w Y G cdv A outer s H E _ hr
    | command_of => exact fn_pure (Y.ok .command_of) sc_command_of fun cdv A outer s H E hr => r_command_of P w Y G cdv A outer s H E _ hr
    | l_cell_at => exact fn_pure (Y.ok .l_cell_at) sc_l_cell_at fun cdv A outer s H E hr => r_l_cell_at P w Y G cdv A outer s H E _ hr
    | l_bent => exact fn_pure (Y.ok .l_bent) sc_l_bent fun cdv A outer s H E hr => r_l_bent P w Y G cdv A outer s H E _ hr
    | l_same => exact fn_pure (Y.ok .l_same) sc_l_same fun cdv A outer s H E hr => r_l_same P w Y G cdv A outer s H E _ hr
    | l_command => exact fn_pure (Y.ok .l_command) sc_l_command fun cdv A outer s H E hr => r_l_command P w Y G cdv A outer s H E _ hr
    | l_path_by => exact fn_pure (Y.ok .l_path_by) sc_l_path_by fun cdv A outer s H E hr => r_l_path_by P w Y G cdv A outer s H E _ hr
    | place_command => exact fn_pure (Y.ok .place_command) sc_place_command fun cdv A outer s H E hr => r_place_command P w Y G cdv A outer s H E _ hr
    | for_command => exact fn_pure (Y.ok .for_command) sc_for_command fun cdv A outer s H E hr => r_for_command P w Y G cdv A outer s H E _ hr
    | if_command => exact fn_pure (Y.ok .if_command) sc_if_command fun cdv A outer s H E hr => r_if_command P w Y G cdv A outer s H E _ hr
    | use_command => exact fn_pure (Y.ok .use_command) sc_use_command fun cdv A outer s H E hr => r_use_command P w Y G cdv A outer s H E _ hr
    | body_command => exact fn_pure (Y.ok .body_command) sc_body_command fun cdv A outer s H E hr => r_body_command P w Y G cdv A outer s H E _ hr
    | piece_command => exact fn_pure (Y.ok .piece_command) sc_piece_command fun cdv A outer s H E hr => r_piece_command P w Y G cdv A outer s H E _ hr
    | bracketed => exact fn_pure (Y.ok .bracketed) sc_bracketed fun cdv A outer s H E hr => r_bracketed P w Y G cdv A outer s H E _ hr
    | l_path => exact fn_pure (Y.ok .l_path) sc_l_path fun cdv A outer s H E hr => r_l_path P w Y G cdv A outer s H E _ hr
    | l_use => exact fn_pure (Y.ok .l_use) sc_l_use fun cdv A outer s H E hr => r_l_use P w Y G cdv A outer s H E _ hr
    | l_piece => exact fn_pure (Y.ok .l_piece) sc_l_piece fun cdv A outer s H E hr => r_l_piece P w Y G cdv A outer s H E _ hr
    | l_row => exact fn_pure (Y.ok .l_row) sc_l_row fun cdv A outer s H E hr => r_l_row P w Y G cdv A outer s H E _ hr
    | l_is_name => exact fn_pure (Y.ok .l_is_name) sc_l_is_name fun cdv A outer s H E hr => r_l_is_name P w Y G cdv A outer s H E _ hr
    | path_of => exact fn_pure (Y.ok .path_of) sc_path_of fun cdv A outer s H E hr => r_path_of P w Y G cdv A outer s H E _ hr
    | is_name => exact fn_pure (Y.ok .is_name) sc_is_name fun cdv A outer s H E hr => r_is_name P w Y G cdv A outer s H E _ hr
    | paths_of => exact fn_pure (Y.ok .paths_of) sc_paths_of fun cdv A outer s H E hr => r_paths_of P w Y G cdv A outer s H E _ hr
    | names_of => exact fn_pure (Y.ok .names_of) sc_names_of fun cdv A outer s H E hr => r_names_of P w Y G cdv A outer s H E _ hr
    | l_called => exact fn_pure (Y.ok .l_called) sc_l_called fun cdv A outer s H E hr => r_l_called P w Y G cdv A outer s H E _ hr
    | is_path => exact fn_pure (Y.ok .is_path) sc_is_path fun cdv A outer s H E hr => r_is_path P w Y G cdv A outer s H E _ hr
    | is_made_of => exact fn_pure (Y.ok .is_made_of) sc_is_made_of fun cdv A outer s H E hr => r_is_made_of P w Y G cdv A outer s H E _ hr
    | listed => exact fn_pure (Y.ok .listed) sc_listed fun cdv A outer s H E hr => r_listed P w Y G cdv A outer s H E _ hr
end
theorem all_mk {l : PySem.W.OpenLaw} {w : World} {K : PySem.W.Frag} {h : Heap} {mg : Str → Option Value} {fa : Addr} (hlaw : ∀ ns : List Int, ns.length ≤ 63 → F 30 .law [.giv (ns.map PV.int)] = .ok (.bl true)) (X : K.In h) (G : h.Ns mainGlobals mg) (hfa : mg "law" = some (.ref fa))
    {f_law : Addr} {od_law an_law : Option Addr} {sl_law : Array (Option Value)} {oc_law kV_law dc_law pm_law cd_law ct_law : Value}
    {f_l_names : Addr} {od_l_names an_l_names : Option Addr} {sl_l_names : Array (Option Value)} {oc_l_names kV_l_names dc_l_names pm_l_names cd_l_names ct_l_names : Value}
    {f_l_mixed : Addr} {od_l_mixed an_l_mixed : Option Addr} {sl_l_mixed : Array (Option Value)} {oc_l_mixed kV_l_mixed dc_l_mixed pm_l_mixed cd_l_mixed ct_l_mixed : Value}
    {f_l_text_by : Addr} {od_l_text_by an_l_text_by : Option Addr} {sl_l_text_by : Array (Option Value)} {oc_l_text_by kV_l_text_by dc_l_text_by pm_l_text_by cd_l_text_by ct_l_text_by : Value}
    {f_command_of : Addr} {od_command_of an_command_of : Option Addr} {sl_command_of : Array (Option Value)} {oc_command_of kV_command_of dc_command_of pm_command_of cd_command_of ct_command_of : Value}
    {f_l_cell_at : Addr} {od_l_cell_at an_l_cell_at : Option Addr} {sl_l_cell_at : Array (Option Value)} {oc_l_cell_at kV_l_cell_at dc_l_cell_at pm_l_cell_at cd_l_cell_at ct_l_cell_at : Value}
    {f_l_bent : Addr} {od_l_bent an_l_bent : Option Addr} {sl_l_bent : Array (Option Value)} {oc_l_bent kV_l_bent dc_l_bent pm_l_bent cd_l_bent ct_l_bent : Value}
    {f_l_same : Addr} {od_l_same an_l_same : Option Addr} {sl_l_same : Array (Option Value)} {oc_l_same kV_l_same dc_l_same pm_l_same cd_l_same ct_l_same : Value}
    {f_l_command : Addr} {od_l_command an_l_command : Option Addr} {sl_l_command : Array (Option Value)} {oc_l_command kV_l_command dc_l_command pm_l_command cd_l_command ct_l_command : Value}
    {f_l_path_by : Addr} {od_l_path_by an_l_path_by : Option Addr} {sl_l_path_by : Array (Option Value)} {oc_l_path_by kV_l_path_by dc_l_path_by pm_l_path_by cd_l_path_by ct_l_path_by : Value}
    {f_place_command : Addr} {od_place_command an_place_command : Option Addr} {sl_place_command : Array (Option Value)} {oc_place_command kV_place_command dc_place_command pm_place_command cd_place_command ct_place_command : Value}
    {f_for_command : Addr} {od_for_command an_for_command : Option Addr} {sl_for_command : Array (Option Value)} {oc_for_command kV_for_command dc_for_command pm_for_command cd_for_command ct_for_command : Value}
    {f_if_command : Addr} {od_if_command an_if_command : Option Addr} {sl_if_command : Array (Option Value)} {oc_if_command kV_if_command dc_if_command pm_if_command cd_if_command ct_if_command : Value}
    {f_use_command : Addr} {od_use_command an_use_command : Option Addr} {sl_use_command : Array (Option Value)} {oc_use_command kV_use_command dc_use_command pm_use_command cd_use_command ct_use_command : Value}
    {f_body_command : Addr} {od_body_command an_body_command : Option Addr} {sl_body_command : Array (Option Value)} {oc_body_command kV_body_command dc_body_command pm_body_command cd_body_command ct_body_command : Value}
    {f_piece_command : Addr} {od_piece_command an_piece_command : Option Addr} {sl_piece_command : Array (Option Value)} {oc_piece_command kV_piece_command dc_piece_command pm_piece_command cd_piece_command ct_piece_command : Value}
    {f_bracketed : Addr} {od_bracketed an_bracketed : Option Addr} {sl_bracketed : Array (Option Value)} {oc_bracketed kV_bracketed dc_bracketed pm_bracketed cd_bracketed ct_bracketed : Value}
    {f_l_path : Addr} {od_l_path an_l_path : Option Addr} {sl_l_path : Array (Option Value)} {oc_l_path kV_l_path dc_l_path pm_l_path cd_l_path ct_l_path : Value}
    {f_l_use : Addr} {od_l_use an_l_use : Option Addr} {sl_l_use : Array (Option Value)} {oc_l_use kV_l_use dc_l_use pm_l_use cd_l_use ct_l_use : Value}
    {f_l_piece : Addr} {od_l_piece an_l_piece : Option Addr} {sl_l_piece : Array (Option Value)} {oc_l_piece kV_l_piece dc_l_piece pm_l_piece cd_l_piece ct_l_piece : Value}
    {f_l_row : Addr} {od_l_row an_l_row : Option Addr} {sl_l_row : Array (Option Value)} {oc_l_row kV_l_row dc_l_row pm_l_row cd_l_row ct_l_row : Value}
    {f_l_is_name : Addr} {od_l_is_name an_l_is_name : Option Addr} {sl_l_is_name : Array (Option Value)} {oc_l_is_name kV_l_is_name dc_l_is_name pm_l_is_name cd_l_is_name ct_l_is_name : Value}
    {f_path_of : Addr} {od_path_of an_path_of : Option Addr} {sl_path_of : Array (Option Value)} {oc_path_of kV_path_of dc_path_of pm_path_of cd_path_of ct_path_of : Value}
    {f_is_name : Addr} {od_is_name an_is_name : Option Addr} {sl_is_name : Array (Option Value)} {oc_is_name kV_is_name dc_is_name pm_is_name cd_is_name ct_is_name : Value}
    {f_paths_of : Addr} {od_paths_of an_paths_of : Option Addr} {sl_paths_of : Array (Option Value)} {oc_paths_of kV_paths_of dc_paths_of pm_paths_of cd_paths_of ct_paths_of : Value}
    {f_names_of : Addr} {od_names_of an_names_of : Option Addr} {sl_names_of : Array (Option Value)} {oc_names_of kV_names_of dc_names_of pm_names_of cd_names_of ct_names_of : Value}
    {f_l_called : Addr} {od_l_called an_l_called : Option Addr} {sl_l_called : Array (Option Value)} {oc_l_called kV_l_called dc_l_called pm_l_called cd_l_called ct_l_called : Value}
    {f_is_path : Addr} {od_is_path an_is_path : Option Addr} {sl_is_path : Array (Option Value)} {oc_is_path kV_is_path dc_is_path pm_is_path cd_is_path ct_is_path : Value}
    {f_is_made_of : Addr} {od_is_made_of an_is_made_of : Option Addr} {sl_is_made_of : Array (Option Value)} {oc_is_made_of kV_is_made_of dc_is_made_of pm_is_made_of cd_is_made_of ct_is_made_of : Value}
    {f_listed : Addr} {od_listed an_listed : Option Addr} {sl_listed : Array (Option Value)} {oc_listed kV_listed dc_listed pm_listed cd_listed ct_listed : Value}
    {t_MOST_LETTERS : Tok}
    {t_MOST_NAMES : Tok}
    {t_SMALL_LETTERS : Tok}
    {A_COMMAND_WORDS : Addr} {n_COMMAND_WORDS : Nat} {sl_COMMAND_WORDS : Array (Option Value)} {od_COMMAND_WORDS : Option Addr} {t_COMMAND_WORDS_0 : Tok} {t_COMMAND_WORDS_1 : Tok} {t_COMMAND_WORDS_2 : Tok} {t_COMMAND_WORDS_3 : Tok} {t_COMMAND_WORDS_4 : Tok} {t_COMMAND_WORDS_5 : Tok} {t_COMMAND_WORDS_6 : Tok} {t_COMMAND_WORDS_7 : Tok} {t_COMMAND_WORDS_8 : Tok} {t_COMMAND_WORDS_9 : Tok} {t_COMMAND_WORDS_10 : Tok}
    {A_MANIES : Addr} {n_MANIES : Nat} {sl_MANIES : Array (Option Value)} {od_MANIES : Option Addr} {t_MANIES_0 : Tok} {t_MANIES_1 : Tok} {t_MANIES_2 : Tok} {t_MANIES_3 : Tok}
    {A_WAYS : Addr} {n_WAYS : Nat} {sl_WAYS : Array (Option Value)} {od_WAYS : Option Addr} {t_WAYS_0 : Tok} {t_WAYS_1 : Tok} {t_WAYS_2 : Tok} {t_WAYS_3 : Tok} {t_WAYS_4 : Tok}
    {A_BARE : Addr} {n_BARE : Nat} {t_BARE_0 u_BARE_0 : Tok} {h_BARE_0 : Int} {t_BARE_1 u_BARE_1 : Tok} {h_BARE_1 : Int} {t_BARE_2 u_BARE_2 : Tok} {h_BARE_2 : Int} {t_BARE_3 u_BARE_3 : Tok} {h_BARE_3 : Int} {t_BARE_4 u_BARE_4 : Tok} {h_BARE_4 : Int}
    (a_law : PySem.W.nsIn K mainGlobals "law" = some (some (.ref f_law)))
    (l_law : K.lookup f_law = some ⟨oc_law, od_law, .func (PySem.W.fnOf "law" "law" (defArgs (stOf .law)) (defBody (stOf .law)) (defScope (stOf .law)) .none kV_law dc_law pm_law an_law cd_law ct_law), sl_law⟩)
    (c_law : PySem.W.codeIn K cd_law "law" = true)
    (k_law : PySem.W.keepIn K (.ref f_law) = true)
    (a_l_names : PySem.W.nsIn K mainGlobals "_law_names" = some (some (.ref f_l_names)))
    (l_l_names : K.lookup f_l_names = some ⟨oc_l_names, od_l_names, .func (PySem.W.fnOf "_law_names" "_law_names" (defArgs (stOf .l_names)) (defBody (stOf .l_names)) (defScope (stOf .l_names)) .none kV_l_names dc_l_names pm_l_names an_l_names cd_l_names ct_l_names), sl_l_names⟩)
    (c_l_names : PySem.W.codeIn K cd_l_names "_law_names" = true)
    (k_l_names : PySem.W.keepIn K (.ref f_l_names) = true)
    (a_l_mixed : PySem.W.nsIn K mainGlobals "_law_mixed" = some (some (.ref f_l_mixed)))
    (l_l_mixed : K.lookup f_l_mixed = some ⟨oc_l_mixed, od_l_mixed, .func (PySem.W.fnOf "_law_mixed" "_law_mixed" (defArgs (stOf .l_mixed)) (defBody (stOf .l_mixed)) (defScope (stOf .l_mixed)) .none kV_l_mixed dc_l_mixed pm_l_mixed an_l_mixed cd_l_mixed ct_l_mixed), sl_l_mixed⟩)
    (c_l_mixed : PySem.W.codeIn K cd_l_mixed "_law_mixed" = true)
    (k_l_mixed : PySem.W.keepIn K (.ref f_l_mixed) = true)
    (a_l_text_by : PySem.W.nsIn K mainGlobals "_law_text_by" = some (some (.ref f_l_text_by)))
    (l_l_text_by : K.lookup f_l_text_by = some ⟨oc_l_text_by, od_l_text_by, .func (PySem.W.fnOf "_law_text_by" "_law_text_by" (defArgs (stOf .l_text_by)) (defBody (stOf .l_text_by)) (defScope (stOf .l_text_by)) .none kV_l_text_by dc_l_text_by pm_l_text_by an_l_text_by cd_l_text_by ct_l_text_by), sl_l_text_by⟩)
    (c_l_text_by : PySem.W.codeIn K cd_l_text_by "_law_text_by" = true)
    (k_l_text_by : PySem.W.keepIn K (.ref f_l_text_by) = true)
    (a_command_of : PySem.W.nsIn K mainGlobals "command_of" = some (some (.ref f_command_of)))
    (l_command_of : K.lookup f_command_of = some ⟨oc_command_of, od_command_of, .func (PySem.W.fnOf "command_of" "command_of" (defArgs (stOf .command_of)) (defBody (stOf .command_of)) (defScope (stOf .command_of)) .none kV_command_of dc_command_of pm_command_of an_command_of cd_command_of ct_command_of), sl_command_of⟩)
    (c_command_of : PySem.W.codeIn K cd_command_of "command_of" = true)
    (k_command_of : PySem.W.keepIn K (.ref f_command_of) = true)
    (a_l_cell_at : PySem.W.nsIn K mainGlobals "_law_cell_at" = some (some (.ref f_l_cell_at)))
    (l_l_cell_at : K.lookup f_l_cell_at = some ⟨oc_l_cell_at, od_l_cell_at, .func (PySem.W.fnOf "_law_cell_at" "_law_cell_at" (defArgs (stOf .l_cell_at)) (defBody (stOf .l_cell_at)) (defScope (stOf .l_cell_at)) .none kV_l_cell_at dc_l_cell_at pm_l_cell_at an_l_cell_at cd_l_cell_at ct_l_cell_at), sl_l_cell_at⟩)
    (c_l_cell_at : PySem.W.codeIn K cd_l_cell_at "_law_cell_at" = true)
    (k_l_cell_at : PySem.W.keepIn K (.ref f_l_cell_at) = true)
    (a_l_bent : PySem.W.nsIn K mainGlobals "_law_bent" = some (some (.ref f_l_bent)))
    (l_l_bent : K.lookup f_l_bent = some ⟨oc_l_bent, od_l_bent, .func (PySem.W.fnOf "_law_bent" "_law_bent" (defArgs (stOf .l_bent)) (defBody (stOf .l_bent)) (defScope (stOf .l_bent)) .none kV_l_bent dc_l_bent pm_l_bent an_l_bent cd_l_bent ct_l_bent), sl_l_bent⟩)
    (c_l_bent : PySem.W.codeIn K cd_l_bent "_law_bent" = true)
    (k_l_bent : PySem.W.keepIn K (.ref f_l_bent) = true)
    (a_l_same : PySem.W.nsIn K mainGlobals "_law_same" = some (some (.ref f_l_same)))
    (l_l_same : K.lookup f_l_same = some ⟨oc_l_same, od_l_same, .func (PySem.W.fnOf "_law_same" "_law_same" (defArgs (stOf .l_same)) (defBody (stOf .l_same)) (defScope (stOf .l_same)) .none kV_l_same dc_l_same pm_l_same an_l_same cd_l_same ct_l_same), sl_l_same⟩)
    (c_l_same : PySem.W.codeIn K cd_l_same "_law_same" = true)
    (k_l_same : PySem.W.keepIn K (.ref f_l_same) = true)
    (a_l_command : PySem.W.nsIn K mainGlobals "_law_command" = some (some (.ref f_l_command)))
    (l_l_command : K.lookup f_l_command = some ⟨oc_l_command, od_l_command, .func (PySem.W.fnOf "_law_command" "_law_command" (defArgs (stOf .l_command)) (defBody (stOf .l_command)) (defScope (stOf .l_command)) .none kV_l_command dc_l_command pm_l_command an_l_command cd_l_command ct_l_command), sl_l_command⟩)
    (c_l_command : PySem.W.codeIn K cd_l_command "_law_command" = true)
    (k_l_command : PySem.W.keepIn K (.ref f_l_command) = true)
    (a_l_path_by : PySem.W.nsIn K mainGlobals "_law_path_by" = some (some (.ref f_l_path_by)))
    (l_l_path_by : K.lookup f_l_path_by = some ⟨oc_l_path_by, od_l_path_by, .func (PySem.W.fnOf "_law_path_by" "_law_path_by" (defArgs (stOf .l_path_by)) (defBody (stOf .l_path_by)) (defScope (stOf .l_path_by)) .none kV_l_path_by dc_l_path_by pm_l_path_by an_l_path_by cd_l_path_by ct_l_path_by), sl_l_path_by⟩)
    (c_l_path_by : PySem.W.codeIn K cd_l_path_by "_law_path_by" = true)
    (k_l_path_by : PySem.W.keepIn K (.ref f_l_path_by) = true)
    (a_place_command : PySem.W.nsIn K mainGlobals "place_command" = some (some (.ref f_place_command)))
    (l_place_command : K.lookup f_place_command = some ⟨oc_place_command, od_place_command, .func (PySem.W.fnOf "place_command" "place_command" (defArgs (stOf .place_command)) (defBody (stOf .place_command)) (defScope (stOf .place_command)) .none kV_place_command dc_place_command pm_place_command an_place_command cd_place_command ct_place_command), sl_place_command⟩)
    (c_place_command : PySem.W.codeIn K cd_place_command "place_command" = true)
    (k_place_command : PySem.W.keepIn K (.ref f_place_command) = true)
    (a_for_command : PySem.W.nsIn K mainGlobals "for_command" = some (some (.ref f_for_command)))
    (l_for_command : K.lookup f_for_command = some ⟨oc_for_command, od_for_command, .func (PySem.W.fnOf "for_command" "for_command" (defArgs (stOf .for_command)) (defBody (stOf .for_command)) (defScope (stOf .for_command)) .none kV_for_command dc_for_command pm_for_command an_for_command cd_for_command ct_for_command), sl_for_command⟩)
    (c_for_command : PySem.W.codeIn K cd_for_command "for_command" = true)
    (k_for_command : PySem.W.keepIn K (.ref f_for_command) = true)
    (a_if_command : PySem.W.nsIn K mainGlobals "if_command" = some (some (.ref f_if_command)))
    (l_if_command : K.lookup f_if_command = some ⟨oc_if_command, od_if_command, .func (PySem.W.fnOf "if_command" "if_command" (defArgs (stOf .if_command)) (defBody (stOf .if_command)) (defScope (stOf .if_command)) .none kV_if_command dc_if_command pm_if_command an_if_command cd_if_command ct_if_command), sl_if_command⟩)
    (c_if_command : PySem.W.codeIn K cd_if_command "if_command" = true)
    (k_if_command : PySem.W.keepIn K (.ref f_if_command) = true)
    (a_use_command : PySem.W.nsIn K mainGlobals "use_command" = some (some (.ref f_use_command)))
    (l_use_command : K.lookup f_use_command = some ⟨oc_use_command, od_use_command, .func (PySem.W.fnOf "use_command" "use_command" (defArgs (stOf .use_command)) (defBody (stOf .use_command)) (defScope (stOf .use_command)) .none kV_use_command dc_use_command pm_use_command an_use_command cd_use_command ct_use_command), sl_use_command⟩)
    (c_use_command : PySem.W.codeIn K cd_use_command "use_command" = true)
    (k_use_command : PySem.W.keepIn K (.ref f_use_command) = true)
    (a_body_command : PySem.W.nsIn K mainGlobals "body_command" = some (some (.ref f_body_command)))
    (l_body_command : K.lookup f_body_command = some ⟨oc_body_command, od_body_command, .func (PySem.W.fnOf "body_command" "body_command" (defArgs (stOf .body_command)) (defBody (stOf .body_command)) (defScope (stOf .body_command)) .none kV_body_command dc_body_command pm_body_command an_body_command cd_body_command ct_body_command), sl_body_command⟩)
    (c_body_command : PySem.W.codeIn K cd_body_command "body_command" = true)
    (k_body_command : PySem.W.keepIn K (.ref f_body_command) = true)
    (a_piece_command : PySem.W.nsIn K mainGlobals "piece_command" = some (some (.ref f_piece_command)))
    (l_piece_command : K.lookup f_piece_command = some ⟨oc_piece_command, od_piece_command, .func (PySem.W.fnOf "piece_command" "piece_command" (defArgs (stOf .piece_command)) (defBody (stOf .piece_command)) (defScope (stOf .piece_command)) .none kV_piece_command dc_piece_command pm_piece_command an_piece_command cd_piece_command ct_piece_command), sl_piece_command⟩)
    (c_piece_command : PySem.W.codeIn K cd_piece_command "piece_command" = true)
    (k_piece_command : PySem.W.keepIn K (.ref f_piece_command) = true)
    (a_bracketed : PySem.W.nsIn K mainGlobals "bracketed" = some (some (.ref f_bracketed)))
    (l_bracketed : K.lookup f_bracketed = some ⟨oc_bracketed, od_bracketed, .func (PySem.W.fnOf "bracketed" "bracketed" (defArgs (stOf .bracketed)) (defBody (stOf .bracketed)) (defScope (stOf .bracketed)) .none kV_bracketed dc_bracketed pm_bracketed an_bracketed cd_bracketed ct_bracketed), sl_bracketed⟩)
    (c_bracketed : PySem.W.codeIn K cd_bracketed "bracketed" = true)
    (k_bracketed : PySem.W.keepIn K (.ref f_bracketed) = true)
    (a_l_path : PySem.W.nsIn K mainGlobals "_law_path" = some (some (.ref f_l_path)))
    (l_l_path : K.lookup f_l_path = some ⟨oc_l_path, od_l_path, .func (PySem.W.fnOf "_law_path" "_law_path" (defArgs (stOf .l_path)) (defBody (stOf .l_path)) (defScope (stOf .l_path)) .none kV_l_path dc_l_path pm_l_path an_l_path cd_l_path ct_l_path), sl_l_path⟩)
    (c_l_path : PySem.W.codeIn K cd_l_path "_law_path" = true)
    (k_l_path : PySem.W.keepIn K (.ref f_l_path) = true)
    (a_l_use : PySem.W.nsIn K mainGlobals "_law_use" = some (some (.ref f_l_use)))
    (l_l_use : K.lookup f_l_use = some ⟨oc_l_use, od_l_use, .func (PySem.W.fnOf "_law_use" "_law_use" (defArgs (stOf .l_use)) (defBody (stOf .l_use)) (defScope (stOf .l_use)) .none kV_l_use dc_l_use pm_l_use an_l_use cd_l_use ct_l_use), sl_l_use⟩)
    (c_l_use : PySem.W.codeIn K cd_l_use "_law_use" = true)
    (k_l_use : PySem.W.keepIn K (.ref f_l_use) = true)
    (a_l_piece : PySem.W.nsIn K mainGlobals "_law_piece" = some (some (.ref f_l_piece)))
    (l_l_piece : K.lookup f_l_piece = some ⟨oc_l_piece, od_l_piece, .func (PySem.W.fnOf "_law_piece" "_law_piece" (defArgs (stOf .l_piece)) (defBody (stOf .l_piece)) (defScope (stOf .l_piece)) .none kV_l_piece dc_l_piece pm_l_piece an_l_piece cd_l_piece ct_l_piece), sl_l_piece⟩)
    (c_l_piece : PySem.W.codeIn K cd_l_piece "_law_piece" = true)
    (k_l_piece : PySem.W.keepIn K (.ref f_l_piece) = true)
    (a_l_row : PySem.W.nsIn K mainGlobals "_law_row" = some (some (.ref f_l_row)))
    (l_l_row : K.lookup f_l_row = some ⟨oc_l_row, od_l_row, .func (PySem.W.fnOf "_law_row" "_law_row" (defArgs (stOf .l_row)) (defBody (stOf .l_row)) (defScope (stOf .l_row)) .none kV_l_row dc_l_row pm_l_row an_l_row cd_l_row ct_l_row), sl_l_row⟩)
    (c_l_row : PySem.W.codeIn K cd_l_row "_law_row" = true)
    (k_l_row : PySem.W.keepIn K (.ref f_l_row) = true)
    (a_l_is_name : PySem.W.nsIn K mainGlobals "_law_is_name" = some (some (.ref f_l_is_name)))
    (l_l_is_name : K.lookup f_l_is_name = some ⟨oc_l_is_name, od_l_is_name, .func (PySem.W.fnOf "_law_is_name" "_law_is_name" (defArgs (stOf .l_is_name)) (defBody (stOf .l_is_name)) (defScope (stOf .l_is_name)) .none kV_l_is_name dc_l_is_name pm_l_is_name an_l_is_name cd_l_is_name ct_l_is_name), sl_l_is_name⟩)
    (c_l_is_name : PySem.W.codeIn K cd_l_is_name "_law_is_name" = true)
    (k_l_is_name : PySem.W.keepIn K (.ref f_l_is_name) = true)
    (a_path_of : PySem.W.nsIn K mainGlobals "path_of" = some (some (.ref f_path_of)))
    (l_path_of : K.lookup f_path_of = some ⟨oc_path_of, od_path_of, .func (PySem.W.fnOf "path_of" "path_of" (defArgs (stOf .path_of)) (defBody (stOf .path_of)) (defScope (stOf .path_of)) .none kV_path_of dc_path_of pm_path_of an_path_of cd_path_of ct_path_of), sl_path_of⟩)
    (c_path_of : PySem.W.codeIn K cd_path_of "path_of" = true)
    (k_path_of : PySem.W.keepIn K (.ref f_path_of) = true)
    (a_is_name : PySem.W.nsIn K mainGlobals "is_name" = some (some (.ref f_is_name)))
    (l_is_name : K.lookup f_is_name = some ⟨oc_is_name, od_is_name, .func (PySem.W.fnOf "is_name" "is_name" (defArgs (stOf .is_name)) (defBody (stOf .is_name)) (defScope (stOf .is_name)) .none kV_is_name dc_is_name pm_is_name an_is_name cd_is_name ct_is_name), sl_is_name⟩)
    (c_is_name : PySem.W.codeIn K cd_is_name "is_name" = true)
    (k_is_name : PySem.W.keepIn K (.ref f_is_name) = true)
    (a_paths_of : PySem.W.nsIn K mainGlobals "paths_of" = some (some (.ref f_paths_of)))
    (l_paths_of : K.lookup f_paths_of = some ⟨oc_paths_of, od_paths_of, .func (PySem.W.fnOf "paths_of" "paths_of" (defArgs (stOf .paths_of)) (defBody (stOf .paths_of)) (defScope (stOf .paths_of)) .none kV_paths_of dc_paths_of pm_paths_of an_paths_of cd_paths_of ct_paths_of), sl_paths_of⟩)
    (c_paths_of : PySem.W.codeIn K cd_paths_of "paths_of" = true)
    (k_paths_of : PySem.W.keepIn K (.ref f_paths_of) = true)
    (a_names_of : PySem.W.nsIn K mainGlobals "names_of" = some (some (.ref f_names_of)))
    (l_names_of : K.lookup f_names_of = some ⟨oc_names_of, od_names_of, .func (PySem.W.fnOf "names_of" "names_of" (defArgs (stOf .names_of)) (defBody (stOf .names_of)) (defScope (stOf .names_of)) .none kV_names_of dc_names_of pm_names_of an_names_of cd_names_of ct_names_of), sl_names_of⟩)
    (c_names_of : PySem.W.codeIn K cd_names_of "names_of" = true)
    (k_names_of : PySem.W.keepIn K (.ref f_names_of) = true)
    (a_l_called : PySem.W.nsIn K mainGlobals "_law_called" = some (some (.ref f_l_called)))
    (l_l_called : K.lookup f_l_called = some ⟨oc_l_called, od_l_called, .func (PySem.W.fnOf "_law_called" "_law_called" (defArgs (stOf .l_called)) (defBody (stOf .l_called)) (defScope (stOf .l_called)) .none kV_l_called dc_l_called pm_l_called an_l_called cd_l_called ct_l_called), sl_l_called⟩)
    (c_l_called : PySem.W.codeIn K cd_l_called "_law_called" = true)
    (k_l_called : PySem.W.keepIn K (.ref f_l_called) = true)
    (a_is_path : PySem.W.nsIn K mainGlobals "is_path" = some (some (.ref f_is_path)))
    (l_is_path : K.lookup f_is_path = some ⟨oc_is_path, od_is_path, .func (PySem.W.fnOf "is_path" "is_path" (defArgs (stOf .is_path)) (defBody (stOf .is_path)) (defScope (stOf .is_path)) .none kV_is_path dc_is_path pm_is_path an_is_path cd_is_path ct_is_path), sl_is_path⟩)
    (c_is_path : PySem.W.codeIn K cd_is_path "is_path" = true)
    (k_is_path : PySem.W.keepIn K (.ref f_is_path) = true)
    (a_is_made_of : PySem.W.nsIn K mainGlobals "is_made_of" = some (some (.ref f_is_made_of)))
    (l_is_made_of : K.lookup f_is_made_of = some ⟨oc_is_made_of, od_is_made_of, .func (PySem.W.fnOf "is_made_of" "is_made_of" (defArgs (stOf .is_made_of)) (defBody (stOf .is_made_of)) (defScope (stOf .is_made_of)) .none kV_is_made_of dc_is_made_of pm_is_made_of an_is_made_of cd_is_made_of ct_is_made_of), sl_is_made_of⟩)
    (c_is_made_of : PySem.W.codeIn K cd_is_made_of "is_made_of" = true)
    (k_is_made_of : PySem.W.keepIn K (.ref f_is_made_of) = true)
    (a_listed : PySem.W.nsIn K mainGlobals "listed" = some (some (.ref f_listed)))
    (l_listed : K.lookup f_listed = some ⟨oc_listed, od_listed, .func (PySem.W.fnOf "listed" "listed" (defArgs (stOf .listed)) (defBody (stOf .listed)) (defScope (stOf .listed)) .none kV_listed dc_listed pm_listed an_listed cd_listed ct_listed), sl_listed⟩)
    (c_listed : PySem.W.codeIn K cd_listed "listed" = true)
    (k_listed : PySem.W.keepIn K (.ref f_listed) = true)
    (g_MOST_LETTERS : PySem.W.nsIn K mainGlobals "MOST_LETTERS" = some (some (.int 8 t_MOST_LETTERS)))
    (g_MOST_NAMES : PySem.W.nsIn K mainGlobals "MOST_NAMES" = some (some (.int 4 t_MOST_NAMES)))
    (g_SMALL_LETTERS : PySem.W.nsIn K mainGlobals "SMALL_LETTERS" = some (some (.str "abcdefghijklmnopqrstuvwxyz" t_SMALL_LETTERS)))
    (g_COMMAND_WORDS : PySem.W.nsIn K mainGlobals "COMMAND_WORDS" = some (some (.ref A_COMMAND_WORDS)))
    (k_COMMAND_WORDS : K.lookup A_COMMAND_WORDS = some ⟨.type "tuple", od_COMMAND_WORDS, .seq #[.str "as" t_COMMAND_WORDS_0, .str "between" t_COMMAND_WORDS_1, .str "body" t_COMMAND_WORDS_2, .str "else" t_COMMAND_WORDS_3, .str "end" t_COMMAND_WORDS_4, .str "for" t_COMMAND_WORDS_5, .str "if" t_COMMAND_WORDS_6, .str "in" t_COMMAND_WORDS_7, .str "piece" t_COMMAND_WORDS_8, .str "use" t_COMMAND_WORDS_9, .str "with" t_COMMAND_WORDS_10] n_COMMAND_WORDS, sl_COMMAND_WORDS⟩)
    (g_MANIES : PySem.W.nsIn K mainGlobals "MANIES" = some (some (.ref A_MANIES)))
    (k_MANIES : K.lookup A_MANIES = some ⟨.type "tuple", od_MANIES, .seq #[.str "0" t_MANIES_0, .str "1" t_MANIES_1, .str "2" t_MANIES_2, .str "3" t_MANIES_3] n_MANIES, sl_MANIES⟩)
    (g_WAYS : PySem.W.nsIn K mainGlobals "WAYS" = some (some (.ref A_WAYS)))
    (k_WAYS : K.lookup A_WAYS = some ⟨.type "tuple", od_WAYS, .seq #[.str "word" t_WAYS_0, .str "number" t_WAYS_1, .str "quoted" t_WAYS_2, .str "plain" t_WAYS_3, .str "line" t_WAYS_4] n_WAYS, sl_WAYS⟩)
    (g_BARE : PySem.W.nsIn K mainGlobals "BARE" = some (some (.ref A_BARE)))
    (k_BARE : K.lookup A_BARE = some ⟨.type "dict", none, .dict #[⟨h_BARE_0, .str "(" t_BARE_0, .str "open" u_BARE_0⟩, ⟨h_BARE_1, .str ")" t_BARE_1, .str "close" u_BARE_1⟩, ⟨h_BARE_2, .str "end" t_BARE_2, .str "end" u_BARE_2⟩, ⟨h_BARE_3, .str "else" t_BARE_3, .str "else" u_BARE_3⟩, ⟨h_BARE_4, .str "between" t_BARE_4, .str "between" u_BARE_4⟩] n_BARE, #[]⟩)
    (eh_BARE_0 : h_BARE_0 = keyH w (.inr "("))
    (eh_BARE_1 : h_BARE_1 = keyH w (.inr ")"))
    (eh_BARE_2 : h_BARE_2 = keyH w (.inr "end"))
    (eh_BARE_3 : h_BARE_3 = keyH w (.inr "else"))
    (eh_BARE_4 : h_BARE_4 = keyH w (.inr "between"))
    (ns_BARE : (A_BARE == sysModules) = false)
    (n_all : PySem.W.nsIn K mainGlobals "all" = some none)
    (n_int : PySem.W.nsIn K mainGlobals "int" = some none)
    (n_isinstance : PySem.W.nsIn K mainGlobals "isinstance" = some none)
    (n_len : PySem.W.nsIn K mainGlobals "len" = some none)
    (n_range : PySem.W.nsIn K mainGlobals "range" = some none)
    (n_repr : PySem.W.nsIn K mainGlobals "repr" = some none)
    (n_set : PySem.W.nsIn K mainGlobals "set" = some none)
    (n_str : PySem.W.nsIn K mainGlobals "str" = some none)
    (n_tuple : PySem.W.nsIn K mainGlobals "tuple" = some none) :
    ∃ fd : FuncData, (∀ (s : Shared) (v : Value), BindsTo s fd ⟨[v], []⟩ [("_law_script", v)]) ∧ ∀ base : Heap, K.In base → base.Ns mainGlobals mg → FnOk l.prog w K mg base CX0 30 fa fd ["_law_script"] (spLaw K) := by
  have e := (PySem.W.mg_of X G a_law).symm.trans hfa
  have ef : f_law = fa := by injection e with e1; injection e1
  subst ef
  let Y : Sys l.prog w K mg := {
    adr := fun f => match f with | .law => f_law | .l_names => f_l_names | .l_mixed => f_l_mixed | .l_text_by => f_l_text_by | .command_of => f_command_of | .l_cell_at => f_l_cell_at | .l_bent => f_l_bent | .l_same => f_l_same | .l_command => f_l_command | .l_path_by => f_l_path_by | .place_command => f_place_command | .for_command => f_for_command | .if_command => f_if_command | .use_command => f_use_command | .body_command => f_body_command | .piece_command => f_piece_command | .bracketed => f_bracketed | .l_path => f_l_path | .l_use => f_l_use | .l_piece => f_l_piece | .l_row => f_l_row | .l_is_name => f_l_is_name | .path_of => f_path_of | .is_name => f_is_name | .paths_of => f_paths_of | .names_of => f_names_of | .l_called => f_l_called | .is_path => f_is_path | .is_made_of => f_is_made_of | .listed => f_listed
    fd := fun f => match f with | .law => PySem.W.fnOf "law" "law" (defArgs (stOf .law)) (defBody (stOf .law)) (defScope (stOf .law)) .none kV_law dc_law pm_law an_law cd_law ct_law | .l_names => PySem.W.fnOf "_law_names" "_law_names" (defArgs (stOf .l_names)) (defBody (stOf .l_names)) (defScope (stOf .l_names)) .none kV_l_names dc_l_names pm_l_names an_l_names cd_l_names ct_l_names | .l_mixed => PySem.W.fnOf "_law_mixed" "_law_mixed" (defArgs (stOf .l_mixed)) (defBody (stOf .l_mixed)) (defScope (stOf .l_mixed)) .none kV_l_mixed dc_l_mixed pm_l_mixed an_l_mixed cd_l_mixed ct_l_mixed | .l_text_by => PySem.W.fnOf "_law_text_by" "_law_text_by" (defArgs (stOf .l_text_by)) (defBody (stOf .l_text_by)) (defScope (stOf .l_text_by)) .none kV_l_text_by dc_l_text_by pm_l_text_by an_l_text_by cd_l_text_by ct_l_text_by | .command_of => PySem.W.fnOf "command_of" "command_of" (defArgs (stOf .command_of)) (defBody (stOf .command_of)) (defScope (stOf .command_of)) .none kV_command_of dc_command_of pm_command_of an_command_of cd_command_of ct_command_of | .l_cell_at => PySem.W.fnOf "_law_cell_at" "_law_cell_at" (defArgs (stOf .l_cell_at)) (defBody (stOf .l_cell_at)) (defScope (stOf .l_cell_at)) .none kV_l_cell_at dc_l_cell_at pm_l_cell_at an_l_cell_at cd_l_cell_at ct_l_cell_at | .l_bent => PySem.W.fnOf "_law_bent" "_law_bent" (defArgs (stOf .l_bent)) (defBody (stOf .l_bent)) (defScope (stOf .l_bent)) .none kV_l_bent dc_l_bent pm_l_bent an_l_bent cd_l_bent ct_l_bent | .l_same => PySem.W.fnOf "_law_same" "_law_same" (defArgs (stOf .l_same)) (defBody (stOf .l_same)) (defScope (stOf .l_same)) .none kV_l_same dc_l_same pm_l_same an_l_same cd_l_same ct_l_same | .l_command => PySem.W.fnOf "_law_command" "_law_command" (defArgs (stOf .l_command)) (defBody (stOf .l_command)) (defScope (stOf .l_command)) .none kV_l_command dc_l_command pm_l_command an_l_command cd_l_command ct_l_command | .l_path_by => PySem.W.fnOf "_law_path_by" "_law_path_by" (defArgs (stOf .l_path_by)) (defBody (stOf .l_path_by)) (defScope (stOf .l_path_by)) .none kV_l_path_by dc_l_path_by pm_l_path_by an_l_path_by cd_l_path_by ct_l_path_by | .place_command => PySem.W.fnOf "place_command" "place_command" (defArgs (stOf .place_command)) (defBody (stOf .place_command)) (defScope (stOf .place_command)) .none kV_place_command dc_place_command pm_place_command an_place_command cd_place_command ct_place_command | .for_command => PySem.W.fnOf "for_command" "for_command" (defArgs (stOf .for_command)) (defBody (stOf .for_command)) (defScope (stOf .for_command)) .none kV_for_command dc_for_command pm_for_command an_for_command cd_for_command ct_for_command | .if_command => PySem.W.fnOf "if_command" "if_command" (defArgs (stOf .if_command)) (defBody (stOf .if_command)) (defScope (stOf .if_command)) .none kV_if_command dc_if_command pm_if_command an_if_command cd_if_command ct_if_command | .use_command => PySem.W.fnOf "use_command" "use_command" (defArgs (stOf .use_command)) (defBody (stOf .use_command)) (defScope (stOf .use_command)) .none kV_use_command dc_use_command pm_use_command an_use_command cd_use_command ct_use_command | .body_command => PySem.W.fnOf "body_command" "body_command" (defArgs (stOf .body_command)) (defBody (stOf .body_command)) (defScope (stOf .body_command)) .none kV_body_command dc_body_command pm_body_command an_body_command cd_body_command ct_body_command | .piece_command => PySem.W.fnOf "piece_command" "piece_command" (defArgs (stOf .piece_command)) (defBody (stOf .piece_command)) (defScope (stOf .piece_command)) .none kV_piece_command dc_piece_command pm_piece_command an_piece_command cd_piece_command ct_piece_command | .bracketed => PySem.W.fnOf "bracketed" "bracketed" (defArgs (stOf .bracketed)) (defBody (stOf .bracketed)) (defScope (stOf .bracketed)) .none kV_bracketed dc_bracketed pm_bracketed an_bracketed cd_bracketed ct_bracketed | .l_path => PySem.W.fnOf "_law_path" "_law_path" (defArgs (stOf .l_path)) (defBody (stOf .l_path)) (defScope (stOf .l_path)) .none kV_l_path dc_l_path pm_l_path an_l_path cd_l_path ct_l_path | .l_use => PySem.W.fnOf "_law_use" "_law_use" (defArgs (stOf .l_use)) (defBody (stOf .l_use)) (defScope (stOf .l_use)) .none kV_l_use dc_l_use pm_l_use an_l_use cd_l_use ct_l_use | .l_piece => PySem.W.fnOf "_law_piece" "_law_piece" (defArgs (stOf .l_piece)) (defBody (stOf .l_piece)) (defScope (stOf .l_piece)) .none kV_l_piece dc_l_piece pm_l_piece an_l_piece cd_l_piece ct_l_piece | .l_row => PySem.W.fnOf "_law_row" "_law_row" (defArgs (stOf .l_row)) (defBody (stOf .l_row)) (defScope (stOf .l_row)) .none kV_l_row dc_l_row pm_l_row an_l_row cd_l_row ct_l_row | .l_is_name => PySem.W.fnOf "_law_is_name" "_law_is_name" (defArgs (stOf .l_is_name)) (defBody (stOf .l_is_name)) (defScope (stOf .l_is_name)) .none kV_l_is_name dc_l_is_name pm_l_is_name an_l_is_name cd_l_is_name ct_l_is_name | .path_of => PySem.W.fnOf "path_of" "path_of" (defArgs (stOf .path_of)) (defBody (stOf .path_of)) (defScope (stOf .path_of)) .none kV_path_of dc_path_of pm_path_of an_path_of cd_path_of ct_path_of | .is_name => PySem.W.fnOf "is_name" "is_name" (defArgs (stOf .is_name)) (defBody (stOf .is_name)) (defScope (stOf .is_name)) .none kV_is_name dc_is_name pm_is_name an_is_name cd_is_name ct_is_name | .paths_of => PySem.W.fnOf "paths_of" "paths_of" (defArgs (stOf .paths_of)) (defBody (stOf .paths_of)) (defScope (stOf .paths_of)) .none kV_paths_of dc_paths_of pm_paths_of an_paths_of cd_paths_of ct_paths_of | .names_of => PySem.W.fnOf "names_of" "names_of" (defArgs (stOf .names_of)) (defBody (stOf .names_of)) (defScope (stOf .names_of)) .none kV_names_of dc_names_of pm_names_of an_names_of cd_names_of ct_names_of | .l_called => PySem.W.fnOf "_law_called" "_law_called" (defArgs (stOf .l_called)) (defBody (stOf .l_called)) (defScope (stOf .l_called)) .none kV_l_called dc_l_called pm_l_called an_l_called cd_l_called ct_l_called | .is_path => PySem.W.fnOf "is_path" "is_path" (defArgs (stOf .is_path)) (defBody (stOf .is_path)) (defScope (stOf .is_path)) .none kV_is_path dc_is_path pm_is_path an_is_path cd_is_path ct_is_path | .is_made_of => PySem.W.fnOf "is_made_of" "is_made_of" (defArgs (stOf .is_made_of)) (defBody (stOf .is_made_of)) (defScope (stOf .is_made_of)) .none kV_is_made_of dc_is_made_of pm_is_made_of an_is_made_of cd_is_made_of ct_is_made_of | .listed => PySem.W.fnOf "listed" "listed" (defArgs (stOf .listed)) (defBody (stOf .listed)) (defScope (stOf .listed)) .none kV_listed dc_listed pm_listed an_listed cd_listed ct_listed
    kls := fun i => match i with  | _ => 0
    ok := fun f => by cases f with
      | law => exact fun_mk (st := stOf .law) l_law c_law k_law
      | l_names => exact fun_mk (st := stOf .l_names) l_l_names c_l_names k_l_names
      | l_mixed => exact fun_mk (st := stOf .l_mixed) l_l_mixed c_l_mixed k_l_mixed
      | l_text_by => exact fun_mk (st := stOf .l_text_by) l_l_text_by c_l_text_by k_l_text_by
      | command_of => exact fun_mk (st := stOf .command_of) l_command_of c_command_of k_command_of
      | l_cell_at => exact fun_mk (st := stOf .l_cell_at) l_l_cell_at c_l_cell_at k_l_cell_at
      | l_bent => exact fun_mk (st := stOf .l_bent) l_l_bent c_l_bent k_l_bent
      | l_same => exact fun_mk (st := stOf .l_same) l_l_same c_l_same k_l_same
      | l_command => exact fun_mk (st := stOf .l_command) l_l_command c_l_command k_l_command
      | l_path_by => exact fun_mk (st := stOf .l_path_by) l_l_path_by c_l_path_by k_l_path_by
      | place_command => exact fun_mk (st := stOf .place_command) l_place_command c_place_command k_place_command
      | for_command => exact fun_mk (st := stOf .for_command) l_for_command c_for_command k_for_command
      | if_command => exact fun_mk (st := stOf .if_command) l_if_command c_if_command k_if_command
      | use_command => exact fun_mk (st := stOf .use_command) l_use_command c_use_command k_use_command
      | body_command => exact fun_mk (st := stOf .body_command) l_body_command c_body_command k_body_command
      | piece_command => exact fun_mk (st := stOf .piece_command) l_piece_command c_piece_command k_piece_command
      | bracketed => exact fun_mk (st := stOf .bracketed) l_bracketed c_bracketed k_bracketed
      | l_path => exact fun_mk (st := stOf .l_path) l_l_path c_l_path k_l_path
      | l_use => exact fun_mk (st := stOf .l_use) l_l_use c_l_use k_l_use
      | l_piece => exact fun_mk (st := stOf .l_piece) l_l_piece c_l_piece k_l_piece
      | l_row => exact fun_mk (st := stOf .l_row) l_l_row c_l_row k_l_row
      | l_is_name => exact fun_mk (st := stOf .l_is_name) l_l_is_name c_l_is_name k_l_is_name
      | path_of => exact fun_mk (st := stOf .path_of) l_path_of c_path_of k_path_of
      | is_name => exact fun_mk (st := stOf .is_name) l_is_name c_is_name k_is_name
      | paths_of => exact fun_mk (st := stOf .paths_of) l_paths_of c_paths_of k_paths_of
      | names_of => exact fun_mk (st := stOf .names_of) l_names_of c_names_of k_names_of
      | l_called => exact fun_mk (st := stOf .l_called) l_l_called c_l_called k_l_called
      | is_path => exact fun_mk (st := stOf .is_path) l_is_path c_is_path k_is_path
      | is_made_of => exact fun_mk (st := stOf .is_made_of) l_is_made_of c_is_made_of k_is_made_of
      | listed => exact fun_mk (st := stOf .listed) l_listed c_listed k_listed
    bi := fun f => by cases f with
      | law => exact (fun_mk (st := stOf .law) l_law c_law k_law).binds fun _ _ _ _ _ _ us hl => match us, hl with | [_], _ => rfl
      | l_names => exact (fun_mk (st := stOf .l_names) l_l_names c_l_names k_l_names).binds fun _ _ _ _ _ _ us hl => match us, hl with | [_], _ => rfl
      | l_mixed => exact (fun_mk (st := stOf .l_mixed) l_l_mixed c_l_mixed k_l_mixed).binds fun _ _ _ _ _ _ us hl => match us, hl with | [_, _], _ => rfl
      | l_text_by => exact (fun_mk (st := stOf .l_text_by) l_l_text_by c_l_text_by k_l_text_by).binds fun _ _ _ _ _ _ us hl => match us, hl with | [_, _], _ => rfl
      | command_of => exact (fun_mk (st := stOf .command_of) l_command_of c_command_of k_command_of).binds fun _ _ _ _ _ _ us hl => match us, hl with | [_], _ => rfl
      | l_cell_at => exact (fun_mk (st := stOf .l_cell_at) l_l_cell_at c_l_cell_at k_l_cell_at).binds fun _ _ _ _ _ _ us hl => match us, hl with | [_, _], _ => rfl
      | l_bent => exact (fun_mk (st := stOf .l_bent) l_l_bent c_l_bent k_l_bent).binds fun _ _ _ _ _ _ us hl => match us, hl with | [_, _], _ => rfl
      | l_same => exact (fun_mk (st := stOf .l_same) l_l_same c_l_same k_l_same).binds fun _ _ _ _ _ _ us hl => match us, hl with | [_, _], _ => rfl
      | l_command => exact (fun_mk (st := stOf .l_command) l_l_command c_l_command k_l_command).binds fun _ _ _ _ _ _ us hl => match us, hl with | [_], _ => rfl
      | l_path_by => exact (fun_mk (st := stOf .l_path_by) l_l_path_by c_l_path_by k_l_path_by).binds fun _ _ _ _ _ _ us hl => match us, hl with | [_, _], _ => rfl
      | place_command => exact (fun_mk (st := stOf .place_command) l_place_command c_place_command k_place_command).binds fun _ _ _ _ _ _ us hl => match us, hl with | [_], _ => rfl
      | for_command => exact (fun_mk (st := stOf .for_command) l_for_command c_for_command k_for_command).binds fun _ _ _ _ _ _ us hl => match us, hl with | [_], _ => rfl
      | if_command => exact (fun_mk (st := stOf .if_command) l_if_command c_if_command k_if_command).binds fun _ _ _ _ _ _ us hl => match us, hl with | [_], _ => rfl
      | use_command => exact (fun_mk (st := stOf .use_command) l_use_command c_use_command k_use_command).binds fun _ _ _ _ _ _ us hl => match us, hl with | [_], _ => rfl
      | body_command => exact (fun_mk (st := stOf .body_command) l_body_command c_body_command k_body_command).binds fun _ _ _ _ _ _ us hl => match us, hl with | [_], _ => rfl
      | piece_command => exact (fun_mk (st := stOf .piece_command) l_piece_command c_piece_command k_piece_command).binds fun _ _ _ _ _ _ us hl => match us, hl with | [_], _ => rfl
      | bracketed => exact (fun_mk (st := stOf .bracketed) l_bracketed c_bracketed k_bracketed).binds fun _ _ _ _ _ _ us hl => match us, hl with | [_], _ => rfl
      | l_path => exact (fun_mk (st := stOf .l_path) l_l_path c_l_path k_l_path).binds fun _ _ _ _ _ _ us hl => match us, hl with | [_], _ => rfl
      | l_use => exact (fun_mk (st := stOf .l_use) l_l_use c_l_use k_l_use).binds fun _ _ _ _ _ _ us hl => match us, hl with | [_], _ => rfl
      | l_piece => exact (fun_mk (st := stOf .l_piece) l_l_piece c_l_piece k_l_piece).binds fun _ _ _ _ _ _ us hl => match us, hl with | [_], _ => rfl
      | l_row => exact (fun_mk (st := stOf .l_row) l_l_row c_l_row k_l_row).binds fun _ _ _ _ _ _ us hl => match us, hl with | [_, _], _ => rfl
      | l_is_name => exact (fun_mk (st := stOf .l_is_name) l_l_is_name c_l_is_name k_l_is_name).binds fun _ _ _ _ _ _ us hl => match us, hl with | [_], _ => rfl
      | path_of => exact (fun_mk (st := stOf .path_of) l_path_of c_path_of k_path_of).binds fun _ _ _ _ _ _ us hl => match us, hl with | [_], _ => rfl
      | is_name => exact (fun_mk (st := stOf .is_name) l_is_name c_is_name k_is_name).binds fun _ _ _ _ _ _ us hl => match us, hl with | [_], _ => rfl
      | paths_of => exact (fun_mk (st := stOf .paths_of) l_paths_of c_paths_of k_paths_of).binds fun _ _ _ _ _ _ us hl => match us, hl with | [_], _ => rfl
      | names_of => exact (fun_mk (st := stOf .names_of) l_names_of c_names_of k_names_of).binds fun _ _ _ _ _ _ us hl => match us, hl with | [_], _ => rfl
      | l_called => exact (fun_mk (st := stOf .l_called) l_l_called c_l_called k_l_called).binds fun _ _ _ _ _ _ us hl => match us, hl with | [_, _], _ => rfl
      | is_path => exact (fun_mk (st := stOf .is_path) l_is_path c_is_path k_is_path).binds fun _ _ _ _ _ _ us hl => match us, hl with | [_], _ => rfl
      | is_made_of => exact (fun_mk (st := stOf .is_made_of) l_is_made_of c_is_made_of k_is_made_of).binds fun _ _ _ _ _ _ us hl => match us, hl with | [_, _], _ => rfl
      | listed => exact (fun_mk (st := stOf .listed) l_listed c_listed k_listed).binds fun _ _ _ _ _ _ us hl => match us, hl with | [_], _ => rfl
    m_l_bent := PySem.W.mg_of X G a_l_bent
    m_l_called := PySem.W.mg_of X G a_l_called
    m_l_cell_at := PySem.W.mg_of X G a_l_cell_at
    m_l_command := PySem.W.mg_of X G a_l_command
    m_l_is_name := PySem.W.mg_of X G a_l_is_name
    m_l_mixed := PySem.W.mg_of X G a_l_mixed
    m_l_names := PySem.W.mg_of X G a_l_names
    m_l_path := PySem.W.mg_of X G a_l_path
    m_l_path_by := PySem.W.mg_of X G a_l_path_by
    m_l_piece := PySem.W.mg_of X G a_l_piece
    m_l_row := PySem.W.mg_of X G a_l_row
    m_l_same := PySem.W.mg_of X G a_l_same
    m_l_text_by := PySem.W.mg_of X G a_l_text_by
    m_l_use := PySem.W.mg_of X G a_l_use
    m_body_command := PySem.W.mg_of X G a_body_command
    m_bracketed := PySem.W.mg_of X G a_bracketed
    m_command_of := PySem.W.mg_of X G a_command_of
    m_for_command := PySem.W.mg_of X G a_for_command
    m_if_command := PySem.W.mg_of X G a_if_command
    m_is_made_of := PySem.W.mg_of X G a_is_made_of
    m_is_name := PySem.W.mg_of X G a_is_name
    m_is_path := PySem.W.mg_of X G a_is_path
    m_listed := PySem.W.mg_of X G a_listed
    m_names_of := PySem.W.mg_of X G a_names_of
    m_path_of := PySem.W.mg_of X G a_path_of
    m_paths_of := PySem.W.mg_of X G a_paths_of
    m_piece_command := PySem.W.mg_of X G a_piece_command
    m_place_command := PySem.W.mg_of X G a_place_command
    m_use_command := PySem.W.mg_of X G a_use_command
    n_all := PySem.W.mg_none_of X G n_all
    n_int := PySem.W.mg_none_of X G n_int
    n_isinstance := PySem.W.mg_none_of X G n_isinstance
    n_len := PySem.W.mg_none_of X G n_len
    n_range := PySem.W.mg_none_of X G n_range
    n_repr := PySem.W.mg_none_of X G n_repr
    n_set := PySem.W.mg_none_of X G n_set
    n_str := PySem.W.mg_none_of X G n_str
    n_tuple := PySem.W.mg_none_of X G n_tuple
    u_MOST_LETTERS := _
    g_MOST_LETTERS := PySem.W.mg_of X G g_MOST_LETTERS
    r_MOST_LETTERS := ⟨t_MOST_LETTERS, by rfl⟩
    u_MOST_NAMES := _
    g_MOST_NAMES := PySem.W.mg_of X G g_MOST_NAMES
    r_MOST_NAMES := ⟨t_MOST_NAMES, by rfl⟩
    u_SMALL_LETTERS := _
    g_SMALL_LETTERS := PySem.W.mg_of X G g_SMALL_LETTERS
    r_SMALL_LETTERS := ⟨t_SMALL_LETTERS, by exact congrArg (fun z => Value.str z t_SMALL_LETTERS) (by kernel_rfl)⟩
    a_COMMAND_WORDS := A_COMMAND_WORDS
    g_COMMAND_WORDS := PySem.W.mg_of X G g_COMMAND_WORDS
    k_COMMAND_WORDS := ⟨_, _, _, k_COMMAND_WORDS, rfl, rfl, by show 11 ≤ sizeLine; decide, (.cons ⟨t_COMMAND_WORDS_0, congrArg (fun z => Value.str z t_COMMAND_WORDS_0) (by kernel_rfl)⟩ (.cons ⟨t_COMMAND_WORDS_1, congrArg (fun z => Value.str z t_COMMAND_WORDS_1) (by kernel_rfl)⟩ (.cons ⟨t_COMMAND_WORDS_2, congrArg (fun z => Value.str z t_COMMAND_WORDS_2) (by kernel_rfl)⟩ (.cons ⟨t_COMMAND_WORDS_3, congrArg (fun z => Value.str z t_COMMAND_WORDS_3) (by kernel_rfl)⟩ (.cons ⟨t_COMMAND_WORDS_4, congrArg (fun z => Value.str z t_COMMAND_WORDS_4) (by kernel_rfl)⟩ (.cons ⟨t_COMMAND_WORDS_5, congrArg (fun z => Value.str z t_COMMAND_WORDS_5) (by kernel_rfl)⟩ (.cons ⟨t_COMMAND_WORDS_6, congrArg (fun z => Value.str z t_COMMAND_WORDS_6) (by kernel_rfl)⟩ (.cons ⟨t_COMMAND_WORDS_7, congrArg (fun z => Value.str z t_COMMAND_WORDS_7) (by kernel_rfl)⟩ (.cons ⟨t_COMMAND_WORDS_8, congrArg (fun z => Value.str z t_COMMAND_WORDS_8) (by kernel_rfl)⟩ (.cons ⟨t_COMMAND_WORDS_9, congrArg (fun z => Value.str z t_COMMAND_WORDS_9) (by kernel_rfl)⟩ (.cons ⟨t_COMMAND_WORDS_10, congrArg (fun z => Value.str z t_COMMAND_WORDS_10) (by kernel_rfl)⟩ .nil)))))))))))⟩
    a_MANIES := A_MANIES
    g_MANIES := PySem.W.mg_of X G g_MANIES
    k_MANIES := ⟨_, _, _, k_MANIES, rfl, rfl, by show 4 ≤ sizeLine; decide, (.cons ⟨t_MANIES_0, congrArg (fun z => Value.str z t_MANIES_0) (by kernel_rfl)⟩ (.cons ⟨t_MANIES_1, congrArg (fun z => Value.str z t_MANIES_1) (by kernel_rfl)⟩ (.cons ⟨t_MANIES_2, congrArg (fun z => Value.str z t_MANIES_2) (by kernel_rfl)⟩ (.cons ⟨t_MANIES_3, congrArg (fun z => Value.str z t_MANIES_3) (by kernel_rfl)⟩ .nil))))⟩
    a_WAYS := A_WAYS
    g_WAYS := PySem.W.mg_of X G g_WAYS
    k_WAYS := ⟨_, _, _, k_WAYS, rfl, rfl, by show 5 ≤ sizeLine; decide, (.cons ⟨t_WAYS_0, congrArg (fun z => Value.str z t_WAYS_0) (by kernel_rfl)⟩ (.cons ⟨t_WAYS_1, congrArg (fun z => Value.str z t_WAYS_1) (by kernel_rfl)⟩ (.cons ⟨t_WAYS_2, congrArg (fun z => Value.str z t_WAYS_2) (by kernel_rfl)⟩ (.cons ⟨t_WAYS_3, congrArg (fun z => Value.str z t_WAYS_3) (by kernel_rfl)⟩ (.cons ⟨t_WAYS_4, congrArg (fun z => Value.str z t_WAYS_4) (by kernel_rfl)⟩ .nil)))))⟩
    a_BARE := A_BARE
    g_BARE := PySem.W.mg_of X G g_BARE
    d_BARE := gdict_of (es := [⟨h_BARE_0, .str "(" t_BARE_0, .str "open" u_BARE_0⟩, ⟨h_BARE_1, .str ")" t_BARE_1, .str "close" u_BARE_1⟩, ⟨h_BARE_2, .str "end" t_BARE_2, .str "end" u_BARE_2⟩, ⟨h_BARE_3, .str "else" t_BARE_3, .str "else" u_BARE_3⟩, ⟨h_BARE_4, .str "between" t_BARE_4, .str "between" u_BARE_4⟩]) k_BARE ns_BARE (by decide) (.cons ⟨t_BARE_0, u_BARE_0, by rw [eh_BARE_0]; exact ent_eq (by kernel_rfl) (by kernel_rfl)⟩ (.cons ⟨t_BARE_1, u_BARE_1, by rw [eh_BARE_1]; exact ent_eq (by kernel_rfl) (by kernel_rfl)⟩ (.cons ⟨t_BARE_2, u_BARE_2, by rw [eh_BARE_2]; exact ent_eq (by kernel_rfl) (by kernel_rfl)⟩ (.cons ⟨t_BARE_3, u_BARE_3, by rw [eh_BARE_3]; exact ent_eq (by kernel_rfl) (by kernel_rfl)⟩ (.cons ⟨t_BARE_4, u_BARE_4, by rw [eh_BARE_4]; exact ent_eq (by kernel_rfl) (by kernel_rfl)⟩ .nil))))) }
  exact ⟨PySem.W.fnOf "law" "law" (defArgs (stOf .law)) (defBody (stOf .law)) (defScope (stOf .law)) .none kV_law dc_law pm_law an_law cd_law ct_law, fun s v => .of_eq rfl, fun base _ _ => (all_ok l.prog w Y 30 .law).imp (spLaw_imp hlaw)⟩
end K5
namespace K5
open PySem L2 L3
local macro_rules
  | `(tactic| simp only [EV]) => `(tactic| simp only [Res.bind_ok, Res.bind_exc, Res.bind_bad, eThen_ok, bThen_ok, lThen_ok, eThen_bad, bThen_bad, lThen_bad, List.getElem?_cons_zero, List.getElem?_cons_succ, List.getElem?_nil, List.set_cons_zero, List.set_cons_succ, List.map_cons, List.map_nil, List.append_nil, List.nil_append, List.cons_append, if_true, if_false, ite_true, ite_false, reduceIte, Bool.not_true, Bool.not_false, Bool.true_and, Bool.false_and, Bool.and_true, Bool.and_false, Bool.true_or, Bool.false_or, Bool.or_true, Bool.or_false, Bool.not_not, eq_self_iff_true, true_and, and_true, Bool.false_eq_true, reduceCtorEq, List.length_cons, List.length_nil, List.replicate, Nat.sub_self, Nat.zero_add, Option.isSome_some, Option.isSome_none, Nat.reduceAdd, Nat.reduceLeDiff, Int.reduceLT, Int.reduceLE, decide_true, decide_false, szl, Int.reduceNeg, Int.reducePow, Nat.reducePow, Int.reduceAdd, Int.reduceMul, Int.reduceSub, Nat.reduceSub, and_self, Nat.reduceMul, Nat.reduceEqDiff, ev_var, ev_K, ev_c1, ev_c2, ev_cN, ev_nil, ev_cons, ev_and, ev_or, ev_not, ev_ifE, ev_chain, ev_sl, ev_oNone, ev_oSome, ev_cM, ev_call, ev_meth, ev_make, ev_get2, ev_tTru, ev_tCmp, ev_tNot, ev_tAnd, ev_tOr, ev_range1, ev_range2, ev_aSeq, ev_aComp, ev_yes, ev_sNil, ev_sSeq, ev_sRet, ev_sRetN, ev_sDrop, ev_sIf, ev_sSet, ev_sNever, ev_sFor, ev_loop0, ev_gNm, dr_int, dr_bl, dr_str, dr_non, dr_tup, dr_lst, dr_giv, dr_dct, dr_ins, dr_ref0, add_ii, add_ss, add_tt, add_ll, sub_ii, mul_ii, mul_si, pI_ii, neg_i, cmp_ii, is_n, isnot_n, isb, ix_si, ix_ti, ix_li, ix_gi, sl_s, len_s, len_t, len_l, len_g, lst_mk, lstM_mk, tup_mk, okL_mk, newL_mk, int_b, int_i, abs_i, str_i, seqIt_s, seqIt_t, seqIt_l, seqIt_g, find_ss, isStr_s, frz_int, frz_bl, frz_non, frz_str, frz_ins, frzs_nil, frzs_cons, in_ss, notin_ss, tru_b, tru_i, tru_s, isin_s_str, isin_s_int, isin_s_bool, isin_s_list, isin_s_tuple, isin_s_dict, isin_i_str, isin_i_int, isin_i_bool, isin_i_list, isin_i_tuple, isin_i_dict, isin_b_str, isin_b_int, isin_b_bool, isin_b_list, isin_b_tuple, isin_b_dict, isin_n_str, isin_n_int, isin_n_bool, isin_n_list, isin_n_tuple, isin_n_dict, isin_t_str, isin_t_int, isin_t_bool, isin_t_list, isin_t_tuple, isin_t_dict, isin_l_str, isin_l_int, isin_l_bool, isin_l_list, isin_l_tuple, isin_l_dict, isin_g_str, isin_g_int, isin_g_bool, isin_g_list, isin_g_tuple, isin_g_dict, isin_d_str, isin_d_int, isin_d_bool, isin_d_list, isin_d_tuple, isin_d_dict, find3_ss, starts3_ss, starts_ss, indexS_ss, intT_s, min_ii, split_ss, part_ss, inG_s, ixG_s, tuple_l, tuple_t, ev_setIx, sl_l])
  | `(tactic| simp only [EV, $xs,*]) => `(tactic| simp only [Res.bind_ok, Res.bind_exc, Res.bind_bad, eThen_ok, bThen_ok, lThen_ok, eThen_bad, bThen_bad, lThen_bad, List.getElem?_cons_zero, List.getElem?_cons_succ, List.getElem?_nil, List.set_cons_zero, List.set_cons_succ, List.map_cons, List.map_nil, List.append_nil, List.nil_append, List.cons_append, if_true, if_false, ite_true, ite_false, reduceIte, Bool.not_true, Bool.not_false, Bool.true_and, Bool.false_and, Bool.and_true, Bool.and_false, Bool.true_or, Bool.false_or, Bool.or_true, Bool.or_false, Bool.not_not, eq_self_iff_true, true_and, and_true, Bool.false_eq_true, reduceCtorEq, List.length_cons, List.length_nil, List.replicate, Nat.sub_self, Nat.zero_add, Option.isSome_some, Option.isSome_none, Nat.reduceAdd, Nat.reduceLeDiff, Int.reduceLT, Int.reduceLE, decide_true, decide_false, szl, Int.reduceNeg, Int.reducePow, Nat.reducePow, Int.reduceAdd, Int.reduceMul, Int.reduceSub, Nat.reduceSub, and_self, Nat.reduceMul, Nat.reduceEqDiff, ev_var, ev_K, ev_c1, ev_c2, ev_cN, ev_nil, ev_cons, ev_and, ev_or, ev_not, ev_ifE, ev_chain, ev_sl, ev_oNone, ev_oSome, ev_cM, ev_call, ev_meth, ev_make, ev_get2, ev_tTru, ev_tCmp, ev_tNot, ev_tAnd, ev_tOr, ev_range1, ev_range2, ev_aSeq, ev_aComp, ev_yes, ev_sNil, ev_sSeq, ev_sRet, ev_sRetN, ev_sDrop, ev_sIf, ev_sSet, ev_sNever, ev_sFor, ev_loop0, ev_gNm, dr_int, dr_bl, dr_str, dr_non, dr_tup, dr_lst, dr_giv, dr_dct, dr_ins, dr_ref0, add_ii, add_ss, add_tt, add_ll, sub_ii, mul_ii, mul_si, pI_ii, neg_i, cmp_ii, is_n, isnot_n, isb, ix_si, ix_ti, ix_li, ix_gi, sl_s, len_s, len_t, len_l, len_g, lst_mk, lstM_mk, tup_mk, okL_mk, newL_mk, int_b, int_i, abs_i, str_i, seqIt_s, seqIt_t, seqIt_l, seqIt_g, find_ss, isStr_s, frz_int, frz_bl, frz_non, frz_str, frz_ins, frzs_nil, frzs_cons, in_ss, notin_ss, tru_b, tru_i, tru_s, isin_s_str, isin_s_int, isin_s_bool, isin_s_list, isin_s_tuple, isin_s_dict, isin_i_str, isin_i_int, isin_i_bool, isin_i_list, isin_i_tuple, isin_i_dict, isin_b_str, isin_b_int, isin_b_bool, isin_b_list, isin_b_tuple, isin_b_dict, isin_n_str, isin_n_int, isin_n_bool, isin_n_list, isin_n_tuple, isin_n_dict, isin_t_str, isin_t_int, isin_t_bool, isin_t_list, isin_t_tuple, isin_t_dict, isin_l_str, isin_l_int, isin_l_bool, isin_l_list, isin_l_tuple, isin_l_dict, isin_g_str, isin_g_int, isin_g_bool, isin_g_list, isin_g_tuple, isin_g_dict, isin_d_str, isin_d_int, isin_d_bool, isin_d_list, isin_d_tuple, isin_d_dict, find3_ss, starts3_ss, starts_ss, indexS_ss, intT_s, min_ii, split_ss, part_ss, inG_s, ixG_s, tuple_l, tuple_t, ev_setIx, sl_l, $xs,*])
def CW : List (List Nat) := [[97, 115], [98, 101, 116, 119, 101, 101, 110], [98, 111, 100, 121], [101, 108, 115, 101], [101, 110, 100], [102, 111, 114], [105, 102], [105, 110], [112, 105, 101, 99, 101], [117, 115, 101], [119, 105, 116, 104]]
theorem CW_lt : ∀ l ∈ CW, ∀ c ∈ l, c < 1114112 := by decide
theorem CW_tv : tv_COMMAND_WORDS = CW := rfl
theorem AZ_lt : ∀ c ∈ q_c3fcd3, c < 1114112 := by decide
def nameOk (w : List Nat) : Bool := decide (1 ≤ w.length ∧ w.length ≤ 8) && w.all q_c3fcd3.contains && !decide (w ∈ CW)
abbrev Lt (w : List Nat) : Prop := ∀ c ∈ w, c < 1114112
theorem made_loop (C : Fn → List PV → Out) (t : PV) (al : List Nat) (h : List L3.PO) : ∀ (l : List Nat) (o : Option PV), ∃ o', loopS (gNm 2) (w_is_made_of_1 C) (l.map fun c => PV.str [c]) [some t, some (.str al), o] h = if l.all al.contains = true then .nx [some t, some (.str al), o'] h else .rt (.bl false) h
  | [], o => ⟨o, by simp⟩
  | c :: r, o => by
    obtain ⟨o', e⟩ := made_loop C t al h r (some (.str [c]))
    refine ⟨o', ?_⟩
    rw [List.map_cons, ev_loop, List.all_cons]
    cases hc : al.contains c with
    | true =>
      simp only [EV, w_is_made_of_1, inStr_one, hc]
      simpa only [w_is_made_of_1, Bool.true_and] using e
    | false => simp only [EV, w_is_made_of_1, inStr_one, hc]
theorem made (k : Nat) (l al : List Nat) : F (k + 1) .is_made_of [.str l, .str al] = .ok (.bl (l.all al.contains)) := by
  obtain ⟨o', e⟩ := made_loop (F k) (.str l) al [] l none
  show runF (b_is_made_of (F k)) 2 3 [.str l, .str al] = _
  cases q : l.all al.contains with
  | true => simp only [EV, runF, b_is_made_of, e, q, finO]
  | false => simp only [EV, runF, b_is_made_of, e, q, finO]
theorem is_name (k : Nat) (w : List Nat) (hz : w.length ≤ 16777216) (hw : Lt w) : F (k + 2) .is_name [.str w] = .ok (.bl (nameOk w)) := by
  show runF (b_is_name (F (k + 1))) 1 1 [.str w] = _
  have m := made k w q_c3fcd3
  have n := nin_t hw CW_lt
  unfold nameOk
  by_cases h1 : 1 ≤ w.length
  · have d1 : decide ((1 : Int) ≤ (w.length : Int)) = true := decide_eq_true (by omega)
    by_cases h2 : w.length ≤ 8
    · have d2 : decide ((w.length : Int) ≤ 8) = true := decide_eq_true (by omega)
      rw [decide_eq_true (p := 1 ≤ w.length ∧ w.length ≤ 8) ⟨h1, h2⟩]
      cases q : w.all q_c3fcd3.contains with
      | true => simp only [EV, runF, b_is_name, hz, d1, d2, callO_def, m, q, CW_tv, n, finO]
      | false => simp only [EV, runF, b_is_name, hz, d1, d2, callO_def, m, q, finO]
    · have d2 : decide ((w.length : Int) ≤ 8) = false := decide_eq_false (by omega)
      rw [decide_eq_false (p := 1 ≤ w.length ∧ w.length ≤ 8) (fun z => h2 z.2)]
      simp only [EV, runF, b_is_name, hz, d1, d2, finO]
  · have d1 : decide ((1 : Int) ≤ (w.length : Int)) = false := decide_eq_false (by omega)
    rw [decide_eq_false (p := 1 ≤ w.length ∧ w.length ≤ 8) (fun z => h1 z.1)]
    simp only [EV, runF, b_is_name, hz, d1, finO]
theorem isE_filter (w : List Nat) : (w.filter fun c => !q_c3fcd3.contains c).isEmpty = w.all q_c3fcd3.contains := by
  induction w with
  | nil => rfl
  | cons a r ih =>
    rw [List.filter_cons, List.all_cons]
    cases q : q_c3fcd3.contains a with
    | true => simp only [Bool.not_true, Bool.false_eq_true, if_false, Bool.true_and]; exact ih
    | false => simp
theorem l_is_name (k : Nat) (w : List Nat) (hz : w.length < 16777216) (hw : Lt w) : F (k + 1) .l_is_name [.str w] = .ok (.bl (nameOk w)) := by
  show runF (b_l_is_name (F k)) 1 2 [.str w] = _
  have hz' : w.length ≤ 16777216 := by omega
  have n : ∀ h, pIn (.str w) (.lst [.str [97, 115], .str [98, 101, 116, 119, 101, 101, 110], .str [98, 111, 100, 121], .str [101, 108, 115, 101], .str [101, 110, 100], .str [102, 111, 114], .str [105, 102], .str [105, 110], .str [112, 105, 101, 99, 101], .str [117, 115, 101], .str [119, 105, 116, 104]]) h = .ok (.bl (decide (w ∈ CW))) h := fun h => in_l (ls := CW) hw CW_lt h
  have cm : compL (t_l_is_name_1 (F k)) (e_l_is_name_1 (F k)) (capP [] [some (.str w), some (.lst [.str [97, 115], .str [98, 101, 116, 119, 101, 101, 110], .str [98, 111, 100, 121], .str [101, 108, 115, 101], .str [101, 110, 100], .str [102, 111, 114], .str [105, 102], .str [105, 110], .str [112, 105, 101, 99, 101], .str [117, 115, 101], .str [119, 105, 116, 104]])]) (w.map fun c => PV.str [c]) [] = .ok (((w.filter fun c => !q_c3fcd3.contains c).map fun c => [c]).map PV.str) [] := by
    rw [compL_filter (t := fun p => match p with | .str [c] => !q_c3fcd3.contains c | _ => false) (f := fun p => p)]
    · rw [List.map_id'', List.map_map, List.filter_map]
      · rfl
      · intro p; rfl
    · intro p hp
      obtain ⟨c, hc, rfl⟩ := List.mem_map.mp hp
      simp only [EV, t_l_is_name_1, inStr_one]
    · intro p hp
      obtain ⟨c, hc, rfl⟩ := List.mem_map.mp hp
      simp only [EV, e_l_is_name_1]
  have ln : (w.map fun c => PV.str [c]).length < 16777216 := by rw [List.length_map]; exact hz
  have en : ∀ h, pEq (.lst (((w.filter fun c => !q_c3fcd3.contains c).map fun c => [c]).map PV.str)) (.lst []) h = .ok (.bl (w.all q_c3fcd3.contains)) h := fun h => by
    rw [eq_nil _ h, List.isEmpty_map, isE_filter]
    intro l hl c hc
    obtain ⟨x, hx, rfl⟩ := List.mem_map.mp hl
    rw [List.mem_singleton.mp hc]
    exact hw x (List.mem_filter.mp hx).1
  unfold nameOk
  by_cases h1 : 1 ≤ w.length
  · have d1 : decide ((1 : Int) ≤ (w.length : Int)) = true := decide_eq_true (by omega)
    by_cases h2 : w.length ≤ 8
    · have d2 : decide ((w.length : Int) ≤ 8) = true := decide_eq_true (by omega)
      rw [decide_eq_true (p := 1 ≤ w.length ∧ w.length ≤ 8) ⟨h1, h2⟩]
      cases q : decide (w ∈ CW) with
      | true =>
        rw [Bool.not_true, Bool.and_false]
        simp only [EV, runF, b_l_is_name, hz', d1, d2, n, q, finO]
      | false => simp only [EV, runF, b_l_is_name, hz', d1, d2, n, q, cm, ln, en, finO]
    · have d2 : decide ((w.length : Int) ≤ 8) = false := decide_eq_false (by omega)
      rw [decide_eq_false (p := 1 ≤ w.length ∧ w.length ≤ 8) (fun z => h2 z.2)]
      simp only [EV, runF, b_l_is_name, hz', d1, d2, finO]
  · have d1 : decide ((1 : Int) ≤ (w.length : Int)) = false := decide_eq_false (by omega)
    rw [decide_eq_false (p := 1 ≤ w.length ∧ w.length ≤ 8) (fun z => h1 z.1)]
    simp only [EV, runF, b_l_is_name, hz', d1, finO]
theorem pures_str : ∀ ls : List (List Nat), pures (ls.map PV.str) = true
  | [] => rfl
  | a :: r => by rw [List.map_cons, pures, pures_str r]; rfl
def optP : Option (List (List Nat)) → PV
  | some ps => .tup (ps.map PV.str)
  | none => .non
theorem pure_opt (o : Option (List (List Nat))) : (optP o).pure = true := by
  cases o with
  | none => rfl
  | some l => show (PV.tup (l.map PV.str)).pure = true; rw [PV.pure]; exact pures_str l
theorem frz_pure {v : PV} (h : v.pure = true) (hp : List L3.PO) (hl : ∀ l, v ≠ .ref l) : frzV hp v = some (v, hp) := by
  cases v <;> first | exact absurd rfl (hl _) | simp [frzV, h]
theorem dr_opt (o : Option (List (List Nat))) (h : List L3.PO) : derefP h (optP o) = optP o := by cases o <;> rfl
theorem frz_strs (ls : List (List Nat)) (h : List L3.PO) : frzV h (.tup (ls.map PV.str)) = some (.tup (ls.map PV.str), h) := frz_tup h (pures_str ls)
theorem cm_names {te : Ex} {cp : Ev} {h : List L3.PO} (ls : List (List Nat)) (H : ∀ w ∈ ls, te (some (.str w) :: cp) h = .ok (.bl (nameOk w)) h) : compL tYesE te cp (ls.map PV.str) h = .ok ((ls.map nameOk).map PV.bl) h := by
  rw [compL_map (f := fun p => match p with | .str w => .bl (nameOk w) | _ => .non)]
  · rw [List.map_map, List.map_map]; rfl
  · intro p hp
    obtain ⟨w, hw, rfl⟩ := List.mem_map.mp hp
    exact H w hw
theorem all_names (ls : List (List Nat)) (h : List L3.PO) : pAll [.lst ((ls.map nameOk).map PV.bl)] h = .ok (.bl (ls.all nameOk)) h := by
  rw [all_bl, List.all_map]; rfl
abbrev Good (t : List Nat) : Prop := t.length ≤ 10000 ∧ Lt t
theorem Good.part {t y p : List Nat} (g : Good t) (h : p ∈ splitL t y) : Good p := ⟨Nat.le_trans (split_part h) g.1, fun c hc => g.2 c (split_mem h hc)⟩
theorem Good.drop {t : List Nat} (g : Good t) (n : Nat) : Good (t.drop n) := ⟨by rw [List.length_drop]; have := g.1; omega, fun c hc => g.2 c (List.mem_of_mem_drop hc)⟩
theorem Good.take {t : List Nat} (g : Good t) (n : Nat) : Good (t.take n) := ⟨by rw [List.length_take]; have := g.1; omega, fun c hc => g.2 c (List.mem_of_mem_take hc)⟩
theorem g_is_name (k : Nat) {w : List Nat} (g : Good w) : F (k + 2) .is_name [.str w] = .ok (.bl (nameOk w)) := is_name k w (by have := g.1; omega) g.2
theorem g_l_is_name (k : Nat) {w : List Nat} (g : Good w) : F (k + 1) .l_is_name [.str w] = .ok (.bl (nameOk w)) := l_is_name k w (by have := g.1; omega) g.2
theorem is_path (k : Nat) (ls : List (List Nat)) (hl : ls.length < 16777216) (H : ∀ w ∈ ls, Good w) : F (k + 3) .is_path [.tup (ls.map PV.str)] = .ok (.bl (decide (1 ≤ ls.length ∧ ls.length ≤ 4) && ls.all nameOk)) := by
  show runF (b_is_path (F (k + 2))) 1 1 [.tup (ls.map PV.str)] = _
  have cm := cm_names (te := e_is_path_1 (F (k + 2))) (cp := capP [] [some (.tup (ls.map PV.str))]) (h := []) ls fun w hw => by
    simp only [EV, e_is_path_1, callO_def, g_is_name k (H w hw)]
  have ln : (ls.map PV.str).length < 16777216 := by rw [List.length_map]; exact hl
  have lm : (ls.map PV.str).length = ls.length := List.length_map ..
  by_cases h1 : 1 ≤ ls.length
  · have d1 : decide ((1 : Int) ≤ (ls.length : Int)) = true := decide_eq_true (by omega)
    by_cases h2 : ls.length ≤ 4
    · have d2 : decide ((ls.length : Int) ≤ 4) = true := decide_eq_true (by omega)
      rw [decide_eq_true (p := 1 ≤ ls.length ∧ ls.length ≤ 4) ⟨h1, h2⟩]
      simp only [EV, runF, b_is_path, lm, hl, d1, d2, cm, all_names, finO]
    · have d2 : decide ((ls.length : Int) ≤ 4) = false := decide_eq_false (by omega)
      rw [decide_eq_false (p := 1 ≤ ls.length ∧ ls.length ≤ 4) (fun z => h2 z.2)]
      simp only [EV, runF, b_is_path, lm, d1, d2, finO]
  · have d1 : decide ((1 : Int) ≤ (ls.length : Int)) = false := decide_eq_false (by omega)
    rw [decide_eq_false (p := 1 ≤ ls.length ∧ ls.length ≤ 4) (fun z => h1 z.1)]
    simp only [EV, runF, b_is_path, lm, d1, finO]
def pathV (t : List Nat) : Option (List (List Nat)) := if decide ((splitC 46 t).length ≤ 4) && (splitC 46 t).all nameOk then some (splitC 46 t) else none
theorem sp_len (t : List Nat) (c : Nat) : 1 ≤ (splitC c t).length := List.length_pos_iff.mpr (splitC_ne c t)
theorem path_of (k : Nat) {t : List Nat} (g : Good t) : F (k + 4) .path_of [.str t] = .ok (optP (pathV t)) := by
  show runF (b_path_of (F (k + 3))) 1 2 [.str t] = _
  have z := split_len t (y := [46]) (by simp)
  have hz : t.length + 2 ≤ 16777216 := by have := g.1; omega
  have ip := is_path k (splitL t [46]) (by have := g.1; omega) fun w hw => g.part hw
  rw [splitL_one] at ip
  have l1 := sp_len t 46
  unfold pathV
  have e : decide (1 ≤ (splitC 46 t).length ∧ (splitC 46 t).length ≤ 4) = decide ((splitC 46 t).length ≤ 4) := by
    by_cases q : (splitC 46 t).length ≤ 4
    · rw [decide_eq_true ⟨l1, q⟩, decide_eq_true q]
    · rw [decide_eq_false q, decide_eq_false fun z => q z.2]
  rw [e] at ip
  cases q : decide ((splitC 46 t).length ≤ 4) && (splitC 46 t).all nameOk with
  | true =>
    rw [q] at ip
    simp only [EV, runF, b_path_of, hz, splitL_one, ne_eq, reduceCtorEq, not_false_eq_true, callO_def, frz_strs, ip, finO, optP]
  | false =>
    rw [q] at ip
    simp only [EV, runF, b_path_of, hz, splitL_one, ne_eq, reduceCtorEq, not_false_eq_true, callO_def, frz_strs, ip, finO, optP]
theorem l_path (k : Nat) {t : List Nat} (g : Good t) : F (k + 2) .l_path [.str t] = .ok (optP (pathV t)) := by
  show runF (b_l_path (F (k + 1))) 1 2 [.str t] = _
  have z := split_len t (y := [46]) (by simp)
  rw [splitL_one] at z
  have hz : t.length + 2 ≤ 16777216 := by have := g.1; omega
  have H : ∀ w ∈ splitC 46 t, Good w := fun w hw => g.part (y := [46]) (by rw [splitL_one]; exact hw)
  have cm := cm_names (te := e_l_path_1 (F (k + 1))) (cp := capP [] [some (.str t), some (.lst ((splitC 46 t).map PV.str))]) (h := []) (splitC 46 t) fun w hw => by
    simp only [EV, e_l_path_1, callO_def, g_l_is_name k (H w hw)]
  have hl : (splitC 46 t).length < 16777216 := by have := g.1; omega
  have lm : ((splitC 46 t).map PV.str).length = (splitC 46 t).length := List.length_map ..
  unfold pathV
  by_cases q : (splitC 46 t).length ≤ 4
  · have d : decide ((4 : Int) < ((splitC 46 t).length : Int)) = false := decide_eq_false (by omega)
    rw [decide_eq_true q]
    cases q2 : (splitC 46 t).all nameOk with
    | true => simp only [EV, runF, b_l_path, hz, splitL_one, ne_eq, reduceCtorEq, not_false_eq_true, lm, d, hl, cm, all_names, q2, finO, optP, frz_strs]
    | false => simp only [EV, runF, b_l_path, hz, splitL_one, ne_eq, reduceCtorEq, not_false_eq_true, lm, d, hl, cm, all_names, q2, finO, optP, frz_strs]
  · have d : decide ((4 : Int) < ((splitC 46 t).length : Int)) = true := decide_eq_true (by omega)
    rw [decide_eq_false q]
    simp only [EV, runF, b_l_path, hz, splitL_one, ne_eq, reduceCtorEq, not_false_eq_true, lm, d, finO, optP]
def listedL (t : List Nat) : List (List Nat) := if t = [] then [] else splitL t [44, 32]
theorem listed_good {t w : List Nat} (g : Good t) (h : w ∈ listedL t) : Good w := by
  unfold listedL at h
  split at h
  · cases h
  · exact g.part h
theorem listed_len {t : List Nat} : (listedL t).length ≤ t.length + 1 := by
  unfold listedL
  split
  · simp
  · exact split_len t (by simp)
theorem listed (k : Nat) {t : List Nat} (g : Good t) : F (k + 1) .listed [.str t] = .ok (.tup ((listedL t).map PV.str)) := by
  show runF (b_listed (F k)) 1 1 [.str t] = _
  have hz : t.length + 2 ≤ 16777216 := by have := g.1; omega
  have hz1 : t.length ≤ 16777216 := by omega
  unfold listedL
  cases t with
  | nil =>
    simp only [EV, runF, b_listed, List.isEmpty_nil, frz_tup, pures, finO]
    rfl
  | cons a r =>
    simp only [Res.bind_ok, Res.bind_exc, Res.bind_bad, eThen_ok, bThen_ok, lThen_ok, eThen_bad, bThen_bad, lThen_bad, List.getElem?_cons_zero, List.getElem?_cons_succ, List.getElem?_nil, List.set_cons_zero, List.set_cons_succ, List.map_cons, List.map_nil, List.append_nil, List.nil_append, List.cons_append, if_true, if_false, ite_true, ite_false, reduceIte, Bool.not_true, Bool.not_false, Bool.true_and, Bool.false_and, Bool.and_true, Bool.and_false, Bool.true_or, Bool.false_or, Bool.or_true, Bool.or_false, Bool.not_not, eq_self_iff_true, true_and, and_true, Bool.false_eq_true, reduceCtorEq, List.length_cons, List.length_nil, List.replicate, Nat.sub_self, Nat.zero_add, Option.isSome_some, Option.isSome_none, Nat.reduceAdd, Nat.reduceLeDiff, Int.reduceLT, Int.reduceLE, decide_true, decide_false, szl, Int.reduceNeg, Int.reducePow, Nat.reducePow, Int.reduceAdd, Int.reduceMul, Int.reduceSub, Nat.reduceSub, and_self, Nat.reduceMul, Nat.reduceEqDiff, ev_var, ev_K, ev_c1, ev_c2, ev_cN, ev_nil, ev_cons, ev_and, ev_or, ev_not, ev_ifE, ev_chain, ev_sl, ev_oNone, ev_oSome, ev_cM, ev_call, ev_meth, ev_make, ev_get2, ev_tTru, ev_tCmp, ev_tNot, ev_tAnd, ev_tOr, ev_range1, ev_range2, ev_aSeq, ev_aComp, ev_yes, ev_sNil, ev_sSeq, ev_sRet, ev_sRetN, ev_sDrop, ev_sIf, ev_sSet, ev_sNever, ev_sFor, ev_loop0, ev_gNm, dr_int, dr_bl, dr_str, dr_non, dr_tup, dr_lst, dr_giv, dr_dct, dr_ins, dr_ref0, add_ii, add_ss, add_tt, add_ll, sub_ii, mul_ii, mul_si, pI_ii, neg_i, cmp_ii, is_n, isnot_n, isb, ix_si, ix_ti, ix_li, ix_gi, sl_s, len_s, len_t, len_l, len_g, lst_mk, lstM_mk, tup_mk, okL_mk, newL_mk, int_b, int_i, abs_i, str_i, seqIt_s, seqIt_t, seqIt_l, seqIt_g, find_ss, isStr_s, frz_int, frz_bl, frz_non, frz_str, frz_ins, frzs_nil, frzs_cons, in_ss, notin_ss, tru_b, tru_i, tru_s, isin_s_str, isin_s_int, isin_s_bool, isin_s_list, isin_s_tuple, isin_s_dict, isin_i_str, isin_i_int, isin_i_bool, isin_i_list, isin_i_tuple, isin_i_dict, isin_b_str, isin_b_int, isin_b_bool, isin_b_list, isin_b_tuple, isin_b_dict, isin_n_str, isin_n_int, isin_n_bool, isin_n_list, isin_n_tuple, isin_n_dict, isin_t_str, isin_t_int, isin_t_bool, isin_t_list, isin_t_tuple, isin_t_dict, isin_l_str, isin_l_int, isin_l_bool, isin_l_list, isin_l_tuple, isin_l_dict, isin_g_str, isin_g_int, isin_g_bool, isin_g_list, isin_g_tuple, isin_g_dict, isin_d_str, isin_d_int, isin_d_bool, isin_d_list, isin_d_tuple, isin_d_dict, find3_ss, starts3_ss, starts_ss, indexS_ss, intT_s, min_ii, split_ss, part_ss, inG_s, ixG_s, tuple_l, tuple_t, ev_setIx, sl_l, runF, b_listed, List.isEmpty_cons, hz1, finO] at hz hz1 ⊢
    simp only [EV, hz, hz1, ne_eq, reduceCtorEq, not_false_eq_true, frz_strs]
def rowN (t : List Nat) : Option (List (List Nat)) := if (listedL t).all nameOk then some (listedL t) else none
theorem names_of (k : Nat) {t : List Nat} (g : Good t) : F (k + 3) .names_of [.str t] = .ok (optP (rowN t)) := by
  show runF (b_names_of (F (k + 2))) 1 2 [.str t] = _
  have hl : (listedL t).length < 16777216 := by have := listed_len (t := t); have := g.1; omega
  have lm : ((listedL t).map PV.str).length = (listedL t).length := List.length_map ..
  have cm := cm_names (te := e_names_of_1 (F (k + 2))) (cp := capP [] [some (.str t), some (.tup ((listedL t).map PV.str))]) (h := []) (listedL t) fun w hw => by
    simp only [EV, e_names_of_1, callO_def, g_is_name k (listed_good g hw)]
  have ls := listed (k + 1) g
  unfold rowN
  cases q : (listedL t).all nameOk with
  | true => simp only [EV, runF, b_names_of, callO_def, ls, lm, hl, cm, all_names, q, frz_strs, optP, finO]
  | false => simp only [EV, runF, b_names_of, callO_def, ls, lm, hl, cm, all_names, q, frz_strs, optP, finO]
abbrev NonOk (v : PV) : Prop := okD [] v = true ∧ PyData.eqv (toD v) (toD .non) = isNon v
theorem anyN : ∀ {xs : List PV}, (∀ v ∈ xs, NonOk v) → xs.all (okD []) = true ∧ (xs.any fun y => PyData.eqv (toD y) (toD .non)) = xs.any isNon
  | [], _ => ⟨rfl, rfl⟩
  | v :: r, h => by
    have ih := anyN fun z hz => h z (List.mem_cons_of_mem _ hz)
    have hv := h v (by simp)
    exact ⟨by rw [List.all_cons, hv.1, ih.1]; rfl, by rw [List.any_cons, List.any_cons, hv.2, ih.2]⟩
theorem inN_l {xs : List PV} (H : ∀ v ∈ xs, NonOk v) (h : List L3.PO) : pIn .non (.lst xs) h = .ok (.bl (xs.any isNon)) h := by
  have e : pInB .non (.lst xs) h = some (xs.any isNon) := by
    show (if okD [] .non = true ∧ xs.all (okD []) = true then some (xs.any fun y => PyData.eqv (toD y) (toD .non)) else none) = _
    rw [if_pos ⟨rfl, (anyN H).1⟩, (anyN H).2]
  unfold pIn; rw [e]
theorem inN_t {xs : List PV} (H : ∀ v ∈ xs, NonOk v) (h : List L3.PO) : pIn .non (.tup xs) h = .ok (.bl (xs.any isNon)) h := by
  have e : pInB .non (.tup xs) h = some (xs.any isNon) := by
    show (if okD [] .non = true ∧ xs.all (okD []) = true then some (xs.any fun y => PyData.eqv (toD y) (toD .non)) else none) = _
    rw [if_pos ⟨rfl, (anyN H).1⟩, (anyN H).2]
  unfold pIn; rw [e]
theorem non_str {w : List Nat} (g : Lt w) : NonOk (.str w) := ⟨ok_str [] g, rfl⟩
theorem non_non : NonOk .non := ⟨rfl, rfl⟩
theorem non_strs {ls : List (List Nat)} (h : ∀ l ∈ ls, Lt l) : NonOk (.tup (ls.map PV.str)) := by
  refine ⟨?_, rfl⟩
  unfold okD dOf
  have := toDs_strs h
  simp only [toD, PyData.canLay0, PyData.depth, this.1, Bool.true_and, decide_eq_true_eq]
  omega
theorem nameOk_lt {w : List Nat} (h : nameOk w = true) : Lt w := by
  unfold nameOk at h
  simp only [Bool.and_eq_true, List.all_eq_true, List.contains_iff_mem] at h
  exact fun c hc => AZ_lt c (h.1.2 c hc)
theorem pathV_some {t : List Nat} {ps : List (List Nat)} (h : pathV t = some ps) : ps = splitC 46 t ∧ ps.length ≤ 4 ∧ ∀ w ∈ ps, nameOk w = true := by
  unfold pathV at h
  split at h
  · rename_i q
    injection h with h
    simp only [Bool.and_eq_true, decide_eq_true_eq, List.all_eq_true] at q
    rw [← h]
    exact ⟨rfl, q.1, q.2⟩
  · cases h
theorem non_path (t : List Nat) : NonOk (optP (pathV t)) := by
  cases q : pathV t with
  | none => exact non_non
  | some ps => exact non_strs fun l hl => nameOk_lt ((pathV_some q).2.2 l hl)
theorem isNon_opt (o : Option (List (List Nat))) : isNon (optP o) = o.isNone := by cases o <;> rfl
def pathsL (t : List Nat) : List PV := (listedL t).map fun p => optP (pathV p)
def rowPV (t : List Nat) : PV := if (listedL t).any (fun p => (pathV p).isNone) then .non else .tup (pathsL t)
theorem pures_paths (t : List Nat) : pures (pathsL t) = true := by
  unfold pathsL
  induction listedL t with
  | nil => rfl
  | cons a r ih => rw [List.map_cons, pures, ih, pure_opt]; rfl
theorem any_paths (t : List Nat) : (pathsL t).any isNon = (listedL t).any (fun p => (pathV p).isNone) := by
  unfold pathsL
  rw [List.any_map]
  congr 1
  funext p
  exact isNon_opt _
theorem frz_paths (t : List Nat) (h : List L3.PO) : frzV h (.tup (pathsL t)) = some (.tup (pathsL t), h) := frz_tup h (pures_paths t)
theorem dr_row (t : List Nat) (h : List L3.PO) : derefP h (rowPV t) = rowPV t := by
  unfold rowPV
  split <;> rfl
theorem paths_nonok (t : List Nat) : ∀ v ∈ pathsL t, NonOk v := by
  intro v hv
  obtain ⟨p, _, rfl⟩ := List.mem_map.mp hv
  exact non_path p
theorem cm_paths {te : Ex} {cp : Ev} {h : List L3.PO} (ls : List (List Nat)) (H : ∀ w ∈ ls, te (some (.str w) :: cp) h = .ok (optP (pathV w)) h) : compL tYesE te cp (ls.map PV.str) h = .ok (ls.map fun p => optP (pathV p)) h := by
  rw [compL_map (f := fun p => match p with | .str w => optP (pathV w) | _ => .non)]
  · rw [List.map_map]; rfl
  · intro p hp
    obtain ⟨w, hw, rfl⟩ := List.mem_map.mp hp
    exact H w hw
theorem paths_of (k : Nat) {t : List Nat} (g : Good t) : F (k + 5) .paths_of [.str t] = .ok (rowPV t) := by
  show runF (b_paths_of (F (k + 4))) 1 2 [.str t] = _
  have hl : (listedL t).length < 16777216 := by have := listed_len (t := t); have := g.1; omega
  have lm : ((listedL t).map PV.str).length = (listedL t).length := List.length_map ..
  have cm := cm_paths (te := e_paths_of_1 (F (k + 4))) (cp := capP [] [some (.str t), none]) (h := []) (listedL t) fun w hw => by
    simp only [EV, e_paths_of_1, callO_def, path_of k (listed_good g hw)]
  change _ = Res.ok (pathsL t) _ at cm
  have ls := listed (k + 3) g
  have iN := fun h => inN_t (paths_nonok t) h
  rw [any_paths] at iN
  unfold rowPV
  cases q : (listedL t).any (fun p => (pathV p).isNone) with
  | true => simp only [EV, runF, b_paths_of, callO_def, ls, lm, hl, cm, iN, q, finO]
  | false => simp only [EV, runF, b_paths_of, callO_def, ls, lm, hl, cm, iN, q, frz_paths, finO]
theorem l_rowP (k : Nat) {t : List Nat} (g : Good t) : F (k + 3) .l_row [.str t, .bl true] = .ok (rowPV t) := by
  show runF (b_l_row (F (k + 2))) 2 3 [.str t, .bl true] = _
  have e0 := fun h => pEq_ss t [] h g.2 (by simp)
  by_cases h0 : t = []
  · subst h0
    rw [decide_eq_true rfl] at e0
    simp only [EV, runF, b_l_row, e0, finO]
    rfl
  · rw [decide_eq_false h0] at e0
    have hz : t.length + 2 ≤ 16777216 := by have := g.1; omega
    have el : listedL t = splitL t [44, 32] := if_neg h0
    have hl : (listedL t).length < 16777216 := by have := listed_len (t := t); have := g.1; omega
    have lm : ((listedL t).map PV.str).length = (listedL t).length := List.length_map ..
    have cm := cm_paths (te := e_l_row_1 (F (k + 2))) (cp := capP [] [some (.str t), some (.bl true), none]) (h := []) (listedL t) fun w hw => by
      simp only [EV, e_l_row_1, callO_def, l_path k (listed_good g hw)]
    change _ = Res.ok (pathsL t) _ at cm
    have iN := fun h => inN_l (paths_nonok t) h
    rw [any_paths] at iN
    unfold rowPV
    cases q : (listedL t).any (fun p => (pathV p).isNone) with
    | true => simp only [EV, runF, b_l_row, e0, hz, ne_eq, reduceCtorEq, not_false_eq_true, ← el, lm, hl, cm, iN, q, finO]
    | false => simp only [EV, runF, b_l_row, e0, hz, ne_eq, reduceCtorEq, not_false_eq_true, ← el, lm, hl, cm, iN, q, frz_paths, finO]
def nameV (w : List Nat) : PV := if nameOk w then .str w else .non
theorem nameV_ok (ls : List (List Nat)) : (ls.map nameV).any isNon = !ls.all nameOk ∧ (ls.all nameOk = true → ls.map nameV = ls.map PV.str) := by
  induction ls with
  | nil => exact ⟨rfl, fun _ => rfl⟩
  | cons a r ih =>
    rw [List.map_cons, List.any_cons, List.all_cons]
    cases q : nameOk a with
    | true =>
      have e : nameV a = .str a := by unfold nameV; rw [q]; rfl
      rw [e, ih.1, List.map_cons]
      exact ⟨by simp [isNon], fun z => by rw [ih.2 (by simpa using z)]⟩
    | false =>
      have e : nameV a = .non := by unfold nameV; rw [q]; rfl
      rw [e]
      exact ⟨by simp [isNon], fun z => by simp at z⟩
theorem nameV_non (ls : List (List Nat)) : ∀ v ∈ ls.map nameV, NonOk v := by
  intro v hv
  obtain ⟨w, _, rfl⟩ := List.mem_map.mp hv
  cases q : nameOk w with
  | true => rw [show nameV w = .str w by unfold nameV; rw [q]; rfl]; exact non_str (nameOk_lt q)
  | false => rw [show nameV w = .non by unfold nameV; rw [q]; rfl]; exact non_non
theorem l_rowN (k : Nat) {t : List Nat} (g : Good t) : F (k + 2) .l_row [.str t, .bl false] = .ok (optP (rowN t)) := by
  show runF (b_l_row (F (k + 1))) 2 3 [.str t, .bl false] = _
  have e0 := fun h => pEq_ss t [] h g.2 (by simp)
  by_cases h0 : t = []
  · subst h0
    rw [decide_eq_true rfl] at e0
    simp only [EV, runF, b_l_row, e0, finO]
    rfl
  · rw [decide_eq_false h0] at e0
    have hz : t.length + 2 ≤ 16777216 := by have := g.1; omega
    have el : listedL t = splitL t [44, 32] := if_neg h0
    have hl : (listedL t).length < 16777216 := by have := listed_len (t := t); have := g.1; omega
    have lm : ((listedL t).map PV.str).length = (listedL t).length := List.length_map ..
    have cm : compL tYesE (e_l_row_2 (F (k + 1))) (capP [] [some (.str t), some (.bl false), none]) ((listedL t).map PV.str) [] = .ok ((listedL t).map nameV) [] := by
      rw [compL_map (f := fun p => match p with | .str w => nameV w | _ => .non)]
      · rw [List.map_map]; rfl
      · intro p hp
        obtain ⟨w, hw, rfl⟩ := List.mem_map.mp hp
        unfold nameV
        cases q : nameOk w with
        | true => simp only [EV, e_l_row_2, callO_def, g_l_is_name k (listed_good g hw), q]; rfl
        | false => simp only [EV, e_l_row_2, callO_def, g_l_is_name k (listed_good g hw), q]; rfl
    have iN := fun h => inN_l (nameV_non (listedL t)) h
    rw [(nameV_ok (listedL t)).1] at iN
    unfold rowN
    cases q : (listedL t).all nameOk with
    | true =>
      rw [q] at iN
      rw [(nameV_ok (listedL t)).2 q] at iN cm
      simp only [EV, runF, b_l_row, e0, hz, ne_eq, reduceCtorEq, not_false_eq_true, ← el, lm, hl, cm, iN, frz_strs, optP, finO]
    | false =>
      rw [q] at iN
      simp only [EV, runF, b_l_row, e0, hz, ne_eq, reduceCtorEq, not_false_eq_true, ← el, lm, hl, cm, iN, optP, finO]
theorem cut_nn {α : Type} (l : List α) (a b : Nat) (h : a ≤ l.length) : cut l (some (a : Int)) (some (b : Int)) = (l.drop a).take (b - a) := by
  unfold cut
  rw [HT.sIx_nat, HT.sIx_nat, Nat.min_eq_left h]
  rcases Nat.le_total b l.length with q | q
  · rw [Nat.min_eq_left q]
  · rw [Nat.min_eq_right q, List.take_of_length_le (by rw [List.length_drop]; omega), List.take_of_length_le (by rw [List.length_drop]; omega)]
theorem cut_to {α : Type} (l : List α) (b : Nat) : cut l none (some (b : Int)) = l.take b := by
  unfold cut
  rw [HT.sIx_nat, HT.sIx_none, List.drop_zero, Nat.sub_zero]
  rcases Nat.le_total b l.length with q | q
  · rw [Nat.min_eq_left q]
  · rw [Nat.min_eq_right q, List.take_of_length_le (Nat.le_refl _), List.take_of_length_le q]
theorem cut_from {α : Type} (l : List α) (a : Nat) : cut l (some (a : Int)) none = l.drop a := by
  unfold cut
  rw [HT.sIx_nat, HT.sIx_none]
  rcases Nat.le_total a l.length with q | q
  · rw [Nat.min_eq_left q, List.take_of_length_le (by rw [List.length_drop]; omega)]
  · rw [Nat.min_eq_right q, List.drop_length, List.take_nil, List.drop_eq_nil_of_le q]
theorem first_some {y x : List Nat} {i : Nat} (h : firstFrom y x 0 = some i) : i ≤ x.length ∧ x = x.take i ++ y ++ x.drop (i + y.length) ∧ ∀ j, j < i → y.isPrefixOf (x.drop j) = false := by
  unfold firstFrom at h
  rw [List.find?_range_eq_some] at h
  obtain ⟨h1, h2, h3⟩ := h
  rw [List.mem_range] at h2
  simp only [Nat.zero_le, decide_true, Bool.true_and] at h1 h3
  refine ⟨by omega, ?_, fun j hj => by simpa using h3 j hj⟩
  obtain ⟨z, hz⟩ := List.isPrefixOf_iff_prefix.mp h1
  have e : x.drop (i + y.length) = z := by rw [← List.drop_drop, ← hz, List.drop_left]
  rw [e, List.append_assoc, hz, List.take_append_drop]
theorem first_is {y x : List Nat} {i : Nat} (hi : i ≤ x.length) (h1 : y.isPrefixOf (x.drop i) = true) (h2 : ∀ j, j < i → y.isPrefixOf (x.drop j) = false) : firstFrom y x 0 = some i := by
  unfold firstFrom
  rw [List.find?_range_eq_some]
  simp only [Nat.zero_le, decide_true, Bool.true_and]
  exact ⟨h1, List.mem_range.mpr (by omega), fun j hj => by rw [h2 j hj]; rfl⟩
theorem first_app {c : Nat} {y a b : List Nat} (h : c ∉ a) : firstFrom (c :: y) (a ++ (c :: y) ++ b) 0 = some a.length := by
  refine first_is (by simp) ?_ fun j hj => ?_
  · rw [List.append_assoc, List.drop_left]
    exact List.isPrefixOf_iff_prefix.mpr (List.prefix_append _ _)
  · rw [Bool.eq_false_iff]
    intro q
    obtain ⟨z, hz⟩ := List.isPrefixOf_iff_prefix.mp q
    have e : (a ++ (c :: y) ++ b)[j]? = some c := by
      have : ((a ++ (c :: y) ++ b).drop j)[0]? = some c := by rw [← hz]; rfl
      rw [List.getElem?_drop] at this
      simpa using this
    rw [List.append_assoc, List.getElem?_append_left hj] at e
    exact h (List.mem_of_getElem? e)
theorem pre_take (y r : List Nat) : y.isPrefixOf r = decide (r.take y.length = y) := by
  rw [Bool.eq_iff_iff, List.isPrefixOf_iff_prefix, decide_eq_true_eq, List.prefix_iff_eq_take]
  exact eq_comm
def brk (u : List Nat) : Option (List Nat × List Nat × List Nat) := match firstFrom [40] u 0, firstFrom [41] u 0 with
  | some i, some j => if i < j then some (u.take i, (u.drop (i + 1)).take (j - (i + 1)), u.drop (j + 1)) else none
  | _, _ => none
def brkV (u : List Nat) : PV := match brk u with
  | some (a, b, r) => .tup [.str a, .str b, .str r]
  | none => .non
theorem frz3 (a b r : List Nat) (h : List L3.PO) : frzV h (.tup [.str a, .str b, .str r]) = some (.tup [.str a, .str b, .str r], h) := frz_tup h rfl
theorem frz3l (a b r : List Nat) (h : List L3.PO) : frzV h (.lst [.str a, .str b, .str r]) = some (.lst [.str a, .str b, .str r], h) := frz_lst h rfl
theorem bracketed (k : Nat) {u : List Nat} (g : Good u) : F (k + 1) .bracketed [.str u] = .ok (brkV u) := by
  show runF (b_bracketed (F k)) 1 3 [.str u] = _
  have hz : u.length ≤ 16777216 := by have := g.1; omega
  unfold brkV brk
  cases q1 : firstFrom [40] u 0 with
  | none =>
    simp only [EV, runF, b_bracketed, q1, findI, finO]
  | some i =>
    have d1 : decide ((0 : Int) ≤ (i : Int)) = true := decide_eq_true (by omega)
    cases q2 : firstFrom [41] u 0 with
    | none =>
      have d2 : decide ((i : Int) < -1) = false := decide_eq_false (by omega)
      simp only [EV, runF, b_bracketed, q1, q2, findI, d1, d2, finO]
    | some j =>
      by_cases hij : i < j
      · have d2 : decide ((i : Int) < (j : Int)) = true := decide_eq_true (by omega)
        have l1 := (first0 q1).1
        have c1 := cut_to u i
        have c2 := cut_nn u (i + 1) j (by omega)
        have c3 := cut_from u (j + 1)
        rw [Int.natCast_add] at c2 c3
        simp only [Int.cast_ofNat_Int] at c2 c3
        simp only [EV, runF, b_bracketed, q1, q2, findI, d1, d2, hz, c1, c2, c3, hij, frz3, finO]
      · have d2 : decide ((i : Int) < (j : Int)) = false := decide_eq_false (by omega)
        simp only [EV, runF, b_bracketed, q1, q2, findI, d1, d2, hij, finO]
def calV (u beh : List Nat) : PV := match brk u with
  | some (a, b, r) => if nameOk a = true then (if r = [] ∨ r.take 6 = beh then .lst [.str a, .str b, .str r] else .non) else .non
  | none => .non
theorem l_called (k : Nat) {u beh : List Nat} (g : Good u) (hb : beh.length = 6) (hbl : Lt beh) : F (k + 2) .l_called [.str u, .str beh] = .ok (calV u beh) := by
  show runF (b_l_called (F (k + 1))) 2 5 [.str u, .str beh] = _
  have hz : u.length ≤ 16777216 := by have := g.1; omega
  unfold calV brk
  cases q1 : firstFrom [40] u 0 with
  | none =>
    simp only [EV, runF, b_l_called, q1, findI, finO]
  | some i =>
    have d1 : decide ((i : Int) < 0) = false := decide_eq_false (by omega)
    cases q2 : firstFrom [41] u 0 with
    | none =>
      have d2 : decide (-1 < (i : Int)) = true := decide_eq_true (by omega)
      simp only [EV, runF, b_l_called, q1, q2, findI, d1, d2, finO]
    | some j =>
      have ne : i ≠ j := by
        intro e
        have a1 := (first0 q1).2
        have a2 := (first0 q2).2
        rw [e, a2] at a1
        simp at a1
      by_cases hij : i < j
      · have d2 : decide ((j : Int) < (i : Int)) = false := decide_eq_false (by omega)
        have l1 := (first0 q1).1
        have c1 := cut_to u i
        have c2 := cut_nn u (i + 1) j (by omega)
        have c3 := cut_from u (j + 1)
        rw [Int.natCast_add] at c2 c3
        simp only [Int.cast_ofNat_Int] at c2 c3
        have nm := g_l_is_name k (g.take i)
        cases qn : nameOk (u.take i) with
        | false =>
          rw [qn] at nm
          simp only [EV, runF, b_l_called, q1, q2, findI, d1, d2, hz, c1, hij, callO_def, nm, qn, finO]
        | true =>
          rw [qn] at nm
          have gr := g.drop (j + 1)
          have rz : (u.drop (j + 1)).length ≤ 16777216 := by have := gr.1; omega
          have n1 := fun h => pNe_ss (u.drop (j + 1)) [] h gr.2 (by simp)
          have n2 := fun h => pNe_ss ((u.drop (j + 1)).take 6) beh h (gr.take 6).2 hbl
          have c6 : cut (u.drop (j + 1)) none (some (6 : Int)) = (u.drop (j + 1)).take 6 := cut_to (u.drop (j + 1)) 6
          by_cases r0 : u.drop (j + 1) = []
          · rw [decide_eq_true r0] at n1
            simp only [EV, runF, b_l_called, q1, q2, findI, d1, d2, hz, c1, c2, c3, hij, callO_def, nm, qn, n1, finO, frz3l]
            rw [if_pos (Or.inl r0)]
          · rw [decide_eq_false r0] at n1
            by_cases r1 : (u.drop (j + 1)).take 6 = beh
            · rw [decide_eq_true r1] at n2
              simp only [EV, runF, b_l_called, q1, q2, findI, d1, d2, hz, rz, c1, c2, c3, c6, hij, callO_def, nm, qn, n1, n2, hb, Int.cast_ofNat_Int, finO, frz3l]
              rw [if_pos (Or.inr r1)]
            · rw [decide_eq_false r1] at n2
              simp only [EV, runF, b_l_called, q1, q2, findI, d1, d2, hz, rz, c1, c2, c3, c6, hij, callO_def, nm, qn, n1, n2, hb, Int.cast_ofNat_Int, finO]
              rw [if_neg (fun z => z.elim r0 r1)]
      · have d2 : decide ((j : Int) < (i : Int)) = true := decide_eq_true (by omega)
        simp only [EV, runF, b_l_called, q1, q2, findI, d1, d2, hij, finO]
theorem isN_n : isNon .non = true := rfl
theorem isN_t (l : List PV) : isNon (.tup l) = false := rfl
theorem isN_l (l : List PV) : isNon (.lst l) = false := rfl
theorem atI3_0 {α : Type} (a b c : α) : atI [a, b, c] 0 = some a := rfl
theorem atI3_1 {α : Type} (a b c : α) : atI [a, b, c] 1 = some b := rfl
theorem atI3_2 {α : Type} (a b c : α) : atI [a, b, c] 2 = some c := rfl
abbrev wWith : List Nat := [32, 119, 105, 116, 104, 32]
abbrev wBody : List Nat := [32, 98, 111, 100, 121, 32]
theorem brk_good {u a b r : List Nat} (g : Good u) (h : brk u = some (a, b, r)) : Good a ∧ Good b ∧ Good r := by
  unfold brk at h
  split at h
  · split at h
    · injection h with h
      rw [Prod.mk.injEq, Prod.mk.injEq] at h
      obtain ⟨h1, h2, h3⟩ := h
      rw [← h1, ← h2, ← h3]
      exact ⟨g.take _, (g.drop _).take _, g.drop _⟩
    · cases h
  · cases h
theorem pure_row (t : List Nat) : (rowPV t).pure = true := by
  unfold rowPV
  split
  · rfl
  · rw [PV.pure]; exact pures_paths t
theorem frz4 (x a : List Nat) {v w : PV} (hv : v.pure = true) (hw : w.pure = true) (h : List L3.PO) : frzV h (.tup [.str x, .str a, v, w]) = some (.tup [.str x, .str a, v, w], h) := by
  apply frz_tup
  simp [pures, hv, hw, PV.pure]
def useV (u : List Nat) : PV := match brk u with
  | none => .non
  | some (a, b, r) => if nameOk a = true then (if isNon (rowPV b) = true then .non else if r = [] then .tup [.str [117, 115, 101], .str a, rowPV b, .non] else if r.take 6 = wWith then (match rowN (r.drop 6) with | none => .non | some ns => .tup [.str [117, 115, 101], .str a, rowPV b, optP (some ns)]) else .non) else .non
theorem use_command (k : Nat) {u : List Nat} (g : Good u) : F (k + 6) .use_command [brkV u] = .ok (useV u) := by
  show runF (b_use_command (F (k + 5))) 1 3 [brkV u] = _
  unfold brkV useV
  cases q : brk u with
  | none => simp only [EV, runF, b_use_command, isN_n, isN_t, isN_l, finO]
  | some p =>
    obtain ⟨a, b, r⟩ := p
    obtain ⟨ga, gb, gr⟩ := brk_good g q
    have nm := g_is_name (k + 3) ga
    cases qn : nameOk a with
    | false =>
      rw [qn] at nm
      simp only [EV, runF, b_use_command, atI3_0, atI3_1, atI3_2, isN_n, isN_t, isN_l, callO_def, nm, qn, finO]
    | true =>
      rw [qn] at nm
      have po := paths_of k gb
      cases qp : isNon (rowPV b) with
      | true => simp only [EV, runF, b_use_command, atI3_0, atI3_1, atI3_2, isN_n, isN_t, isN_l, callO_def, nm, qn, po, qp, dr_row, finO]
      | false =>
        have n1 := fun h => pEq_ss r [] h gr.2 (by simp)
        have f1 := fun h => frz4 [117, 115, 101] a (pure_row b) (w := .non) rfl h
        by_cases r0 : r = []
        · subst r0
          rw [decide_eq_true rfl] at n1
          simp only [EV, runF, b_use_command, atI3_0, atI3_1, atI3_2, isN_n, isN_t, isN_l, callO_def, nm, qn, po, qp, dr_row, n1, f1, finO]
        · rw [decide_eq_false r0] at n1
          have st : startsL r wWith = decide (r.take 6 = wWith) := by rw [startsL_eq, pre_take]; rfl
          have rz : r.length ≤ 16777216 := by have := gr.1; omega
          have c6 : cut r (some (6 : Int)) none = r.drop 6 := cut_from r 6
          by_cases r1 : r.take 6 = wWith
          · rw [decide_eq_true r1] at st
            have ns := names_of (k + 2) (gr.drop 6)
            cases qq : rowN (r.drop 6) with
            | none =>
              rw [qq] at ns
              simp only [EV, runF, b_use_command, atI3_0, atI3_1, atI3_2, isN_n, isN_t, isN_l, callO_def, nm, qn, po, qp, dr_row, n1, r0, r1, st, rz, Int.cast_ofNat_Int, c6, ns, qq, optP, finO]
            | some l =>
              rw [qq] at ns
              have f2 := fun h => frz4 [117, 115, 101] a (pure_row b) (pure_opt (some l)) h
              simp only [optP] at f2
              simp only [EV, runF, b_use_command, atI3_0, atI3_1, atI3_2, isN_n, isN_t, isN_l, callO_def, nm, qn, po, qp, dr_row, n1, r0, r1, st, rz, Int.cast_ofNat_Int, c6, ns, qq, optP, f2, finO]
          · rw [decide_eq_false r1] at st
            simp only [EV, runF, b_use_command, atI3_0, atI3_1, atI3_2, isN_n, isN_t, isN_l, callO_def, nm, qn, po, qp, dr_row, n1, r0, r1, st, finO]
theorem l_use (k : Nat) {u : List Nat} (g : Good u) : F (k + 4) .l_use [.str u] = .ok (useV u) := by
  show runF (b_l_use (F (k + 3))) 1 4 [.str u] = _
  have ca := l_called (k + 1) g (beh := wWith) rfl (by decide)
  unfold calV at ca
  unfold useV
  cases q : brk u with
  | none =>
    rw [q] at ca
    simp only [EV, runF, b_l_use, callO_def, ca, isN_n, isN_t, isN_l, finO]
  | some p =>
    obtain ⟨a, b, r⟩ := p
    rw [q] at ca
    obtain ⟨ga, gb, gr⟩ := brk_good g q
    cases qn : nameOk a with
    | false =>
      simp only [qn, Bool.false_eq_true, if_false] at ca
      simp only [EV, runF, b_l_use, callO_def, ca, qn, isN_n, isN_t, isN_l, finO]
    | true =>
      simp only [qn, if_true] at ca
      have po := l_rowP k gb
      have n1 := fun h => pNe_ss r [] h gr.2 (by simp)
      by_cases r0 : r = []
      · subst r0
        rw [if_pos (Or.inl rfl)] at ca
        rw [decide_eq_true rfl] at n1
        have f1 := fun h => frz4 [117, 115, 101] a (pure_row b) (w := .non) rfl h
        cases qp : isNon (rowPV b) with
        | true => simp only [EV, runF, b_l_use, atI3_0, atI3_1, atI3_2, callO_def, ca, qn, isN_n, isN_t, isN_l, po, n1, dr_row, qp, finO]
        | false => simp only [EV, runF, b_l_use, atI3_0, atI3_1, atI3_2, callO_def, ca, qn, isN_n, isN_t, isN_l, po, n1, dr_row, qp, f1, finO]
      · rw [decide_eq_false r0] at n1
        have rz : r.length ≤ 16777216 := by have := gr.1; omega
        have c6 : cut r (some (6 : Int)) none = r.drop 6 := cut_from r 6
        by_cases r1 : r.take 6 = wWith
        · rw [if_pos (Or.inr r1)] at ca
          have ns := l_rowN (k + 1) (gr.drop 6)
          cases qp : isNon (rowPV b) with
          | true => simp only [EV, runF, b_l_use, atI3_0, atI3_1, atI3_2, callO_def, ca, qn, isN_n, isN_t, isN_l, po, n1, rz, c6, ns, dr_row, dr_opt, qp, finO]
          | false =>
            cases qq : rowN (r.drop 6) with
            | none =>
              rw [qq] at ns
              simp only [EV, runF, b_l_use, atI3_0, atI3_1, atI3_2, callO_def, ca, qn, isN_n, isN_t, isN_l, po, n1, rz, c6, ns, qq, dr_row, qp, r0, r1, optP, finO]
            | some l =>
              rw [qq] at ns
              have f2 := fun h => frz4 [117, 115, 101] a (pure_row b) (pure_opt (some l)) h
              simp only [optP] at f2
              simp only [EV, runF, b_l_use, atI3_0, atI3_1, atI3_2, callO_def, ca, qn, isN_n, isN_t, isN_l, po, n1, rz, c6, ns, qq, dr_row, qp, r0, r1, optP, f2, finO]
        · rw [if_neg (fun z => z.elim r0 r1)] at ca
          cases qp : isNon (rowPV b) with
          | true => simp only [EV, runF, b_l_use, callO_def, ca, qn, isN_n, isN_t, isN_l, qp, finO]
          | false => simp only [EV, runF, b_l_use, callO_def, ca, qn, isN_n, isN_t, isN_l, qp, r0, r1, finO]
open PySem.NumText (digitsVal AllDigits)
theorem mani {x : List Nat} (h : x ∈ tv_MANIES) : intL x = some ((digitsVal x : Nat) : Int) ∧ x.length ≤ 640 := by
  simp only [tv_MANIES, List.mem_cons, List.not_mem_nil, or_false] at h
  have hd : AllDigits x := by
    rcases h with rfl | rfl | rfl | rfl <;> (unfold AllDigits; decide)
  have hn : x ≠ [] := by rcases h with rfl | rfl | rfl | rfl <;> simp
  have hl : x.length = 1 := by rcases h with rfl | rfl | rfl | rfl <;> rfl
  exact ⟨intL_digits hd hn (by omega), by omega⟩
theorem man_lt : ∀ l ∈ tv_MANIES, ∀ c ∈ l, c < 1114112 := by decide
def pieceV (u : List Nat) : PV := match brk u with
  | none => .non
  | some (a, b, r) => if nameOk a = true then (match rowN b with
    | none => .non
    | some ns => if r = [] then .tup [.str [112, 105, 101, 99, 101], .str a, optP (some ns), .non] else if r.take 6 = wBody ∧ r.drop 6 ∈ tv_MANIES then .tup [.str [112, 105, 101, 99, 101], .str a, optP (some ns), .int ((digitsVal (r.drop 6) : Nat) : Int)] else .non) else .non
theorem piece_command (k : Nat) {u : List Nat} (g : Good u) : F (k + 6) .piece_command [brkV u] = .ok (pieceV u) := by
  show runF (b_piece_command (F (k + 5))) 1 3 [brkV u] = _
  unfold brkV pieceV
  cases q : brk u with
  | none => simp only [EV, runF, b_piece_command, isN_n, finO]
  | some p =>
    obtain ⟨a, b, r⟩ := p
    obtain ⟨ga, gb, gr⟩ := brk_good g q
    have nm := g_is_name (k + 3) ga
    cases qn : nameOk a with
    | false =>
      rw [qn] at nm
      simp only [EV, runF, b_piece_command, atI3_0, atI3_1, atI3_2, isN_n, isN_t, isN_l, callO_def, nm, qn, finO]
    | true =>
      rw [qn] at nm
      have po := names_of (k + 2) gb
      cases qp : rowN b with
      | none =>
        rw [qp] at po
        simp only [optP] at po
        simp only [EV, runF, b_piece_command, atI3_0, atI3_1, atI3_2, isN_n, isN_t, isN_l, callO_def, nm, qn, po, qp, finO]
      | some ns =>
        rw [qp] at po
        have n1 := fun h => pEq_ss r [] h gr.2 (by simp)
        have f1 := fun h => frz4 [112, 105, 101, 99, 101] a (pure_opt (some ns)) (w := .non) rfl h
        simp only [optP] at f1 po
        by_cases r0 : r = []
        · subst r0
          rw [decide_eq_true rfl] at n1
          simp only [EV, runF, b_piece_command, atI3_0, atI3_1, atI3_2, isN_n, isN_t, isN_l, callO_def, nm, qn, po, qp, n1, f1, optP, finO]
        · rw [decide_eq_false r0] at n1
          have st : startsL r wBody = decide (r.take 6 = wBody) := by rw [startsL_eq, pre_take]; rfl
          have rz : r.length ≤ 16777216 := by have := gr.1; omega
          have c6 : cut r (some (6 : Int)) none = r.drop 6 := cut_from r 6
          have ni := fun h => nin_t (gr.drop 6).2 man_lt h
          by_cases r1 : r.take 6 = wBody
          · rw [decide_eq_true r1] at st
            by_cases r2 : r.drop 6 ∈ tv_MANIES
            · rw [decide_eq_true r2] at ni
              obtain ⟨m1, m2⟩ := mani r2
              have f2 := fun h => frz4 [112, 105, 101, 99, 101] a (pure_opt (some ns)) (w := .int ((digitsVal (r.drop 6) : Nat) : Int)) rfl h
              simp only [optP] at f2
              simp only [EV, runF, b_piece_command, atI3_0, atI3_1, atI3_2, isN_n, isN_t, isN_l, callO_def, nm, qn, po, qp, n1, st, rz, Int.cast_ofNat_Int, c6, ni, m1, m2, f2, optP, finO, if_neg r0, if_pos (show r.take 6 = wBody ∧ r.drop 6 ∈ tv_MANIES from ⟨r1, r2⟩)]
            · rw [decide_eq_false r2] at ni
              simp only [EV, runF, b_piece_command, atI3_0, atI3_1, atI3_2, isN_n, isN_t, isN_l, callO_def, nm, qn, po, qp, n1, st, rz, Int.cast_ofNat_Int, c6, ni, optP, finO, if_neg r0, if_neg (show ¬ (r.take 6 = wBody ∧ r.drop 6 ∈ tv_MANIES) from fun z => r2 z.2)]
          · rw [decide_eq_false r1] at st
            simp only [EV, runF, b_piece_command, atI3_0, atI3_1, atI3_2, isN_n, isN_t, isN_l, callO_def, nm, qn, po, qp, n1, st, rz, Int.cast_ofNat_Int, c6, optP, finO, if_neg r0, if_neg (show ¬ (r.take 6 = wBody ∧ r.drop 6 ∈ tv_MANIES) from fun z => r1 z.1)]
abbrev bods : List (List Nat) := [[], [32, 98, 111, 100, 121, 32, 48], [32, 98, 111, 100, 121, 32, 49], [32, 98, 111, 100, 121, 32, 50], [32, 98, 111, 100, 121, 32, 51]]
theorem bods_lt : ∀ l ∈ bods, ∀ c ∈ l, c < 1114112 := by decide
theorem bods_iff {r : List Nat} (h : r ≠ []) (h1 : r.take 6 = wBody) : r ∈ bods ↔ r.drop 6 ∈ tv_MANIES := by
  have e := List.take_append_drop 6 r
  rw [h1] at e
  generalize r.drop 6 = z at e
  subst e
  simp only [bods, wBody, tv_MANIES, List.mem_cons, List.cons_append, List.nil_append, List.cons.injEq, true_and, List.not_mem_nil, or_false, reduceCtorEq, false_or]
theorem l_piece (k : Nat) {u : List Nat} (g : Good u) : F (k + 4) .l_piece [.str u] = .ok (pieceV u) := by
  show runF (b_l_piece (F (k + 3))) 1 3 [.str u] = _
  have ca := l_called (k + 1) g (beh := wBody) rfl (by decide)
  unfold calV at ca
  unfold pieceV
  cases q : brk u with
  | none =>
    rw [q] at ca
    simp only [EV, runF, b_l_piece, callO_def, ca, isN_n, isN_t, isN_l, finO]
  | some p =>
    obtain ⟨a, b, r⟩ := p
    rw [q] at ca
    obtain ⟨ga, gb, gr⟩ := brk_good g q
    cases qn : nameOk a with
    | false =>
      simp only [qn, Bool.false_eq_true, if_false] at ca
      simp only [EV, runF, b_l_piece, callO_def, ca, qn, isN_n, isN_t, isN_l, finO]
    | true =>
      simp only [qn, if_true] at ca
      have po := l_rowN (k + 1) gb
      have n1 := fun h => pEq_ss r [] h gr.2 (by simp)
      have ni : ∀ h, pNotIn (.str r) (.tup [.str [], .str [32, 98, 111, 100, 121, 32, 48], .str [32, 98, 111, 100, 121, 32, 49], .str [32, 98, 111, 100, 121, 32, 50], .str [32, 98, 111, 100, 121, 32, 51]]) h = .ok (.bl (!decide (r ∈ bods))) h := fun h => nin_t gr.2 bods_lt h
      by_cases r0 : r = []
      · subst r0
        rw [if_pos (Or.inl rfl)] at ca
        rw [decide_eq_true rfl] at n1
        rw [decide_eq_true (by simp)] at ni
        cases qp : rowN b with
        | none =>
          rw [qp] at po
          simp only [EV, runF, b_l_piece, atI3_0, atI3_1, atI3_2, callO_def, ca, qn, isN_n, isN_t, isN_l, po, qp, optP, finO]
        | some ns =>
          rw [qp] at po
          have f1 := fun h => frz4 [112, 105, 101, 99, 101] a (pure_opt (some ns)) (w := .non) rfl h
          simp only [optP] at f1
          simp only [EV, runF, b_l_piece, atI3_0, atI3_1, atI3_2, callO_def, ca, qn, isN_n, isN_t, isN_l, po, qp, optP, n1, ni, f1, finO]
      · rw [decide_eq_false r0] at n1
        have rz : r.length ≤ 16777216 := by have := gr.1; omega
        have c6 : cut r (some (6 : Int)) none = r.drop 6 := cut_from r 6
        by_cases r1 : r.take 6 = wBody
        · rw [if_pos (Or.inr r1)] at ca
          cases qp : rowN b with
          | none =>
            rw [qp] at po
            simp only [EV, runF, b_l_piece, atI3_0, atI3_1, atI3_2, callO_def, ca, qn, isN_n, isN_t, isN_l, po, qp, optP, finO]
          | some ns =>
            rw [qp] at po
            by_cases r2 : r.drop 6 ∈ tv_MANIES
            · rw [decide_eq_true ((bods_iff r0 r1).mpr r2)] at ni
              obtain ⟨m1, m2⟩ := mani r2
              have f2 := fun h => frz4 [112, 105, 101, 99, 101] a (pure_opt (some ns)) (w := .int ((digitsVal (r.drop 6) : Nat) : Int)) rfl h
              simp only [optP] at f2
              simp only [EV, runF, b_l_piece, atI3_0, atI3_1, atI3_2, callO_def, ca, qn, isN_n, isN_t, isN_l, po, qp, optP, n1, ni, rz, c6, m1, m2, f2, finO, if_neg r0, if_pos (show r.take 6 = wBody ∧ r.drop 6 ∈ tv_MANIES from ⟨r1, r2⟩)]
            · rw [decide_eq_false (fun z => r2 ((bods_iff r0 r1).mp z))] at ni
              simp only [EV, runF, b_l_piece, atI3_0, atI3_1, atI3_2, callO_def, ca, qn, isN_n, isN_t, isN_l, po, qp, optP, n1, ni, finO, if_neg r0, if_neg (show ¬ (r.take 6 = wBody ∧ r.drop 6 ∈ tv_MANIES) from fun z => r2 z.2)]
        · rw [if_neg (fun z => z.elim r0 r1)] at ca
          simp only [EV, runF, b_l_piece, atI3_0, atI3_1, atI3_2, callO_def, ca, qn, isN_n, isN_t, isN_l, finO]
          cases rowN b with
          | none => rfl
          | some ns =>
            simp only [if_neg r0, if_neg (show ¬ (r.take 6 = wBody ∧ r.drop 6 ∈ tv_MANIES) from fun z => r1 z.1)]
def bodyV (t : List Nat) : PV := match brk t with
  | none => .non
  | some (_, b, r) => if r = [] then (if isNon (rowPV b) = true then .non else .tup [.str [98, 111, 100, 121], rowPV b]) else .non
theorem frz2 (x : List Nat) {v : PV} (hv : v.pure = true) (h : List L3.PO) : frzV h (.tup [.str x, v]) = some (.tup [.str x, v], h) := by
  apply frz_tup
  simp [pures, hv, PV.pure]
theorem body_command (k : Nat) {u : List Nat} (g : Good u) : F (k + 6) .body_command [brkV u] = .ok (bodyV u) := by
  show runF (b_body_command (F (k + 5))) 1 2 [brkV u] = _
  unfold brkV bodyV
  cases q : brk u with
  | none => simp only [EV, runF, b_body_command, isN_n, finO]
  | some p =>
    obtain ⟨a, b, r⟩ := p
    obtain ⟨ga, gb, gr⟩ := brk_good g q
    have n1 := fun h => pNe_ss r [] h gr.2 (by simp)
    have po := paths_of k gb
    have f1 := fun h => frz2 [98, 111, 100, 121] (pure_row b) h
    by_cases r0 : r = []
    · subst r0
      rw [decide_eq_true rfl] at n1
      cases qp : isNon (rowPV b) with
      | true => simp only [EV, runF, b_body_command, atI3_0, atI3_1, atI3_2, isN_n, isN_t, isN_l, callO_def, po, qp, dr_row, n1, finO]
      | false => simp only [EV, runF, b_body_command, atI3_0, atI3_1, atI3_2, isN_n, isN_t, isN_l, callO_def, po, qp, dr_row, n1, f1, finO]
    · rw [decide_eq_false r0] at n1
      simp only [EV, runF, b_body_command, atI3_0, atI3_1, atI3_2, isN_n, isN_t, isN_l, n1, r0, finO]
open PySem.NumText (digitsVal AllDigits)
open PySem.Builtin.Str in
theorem rc_lt (q c : Nat) (hq : q < 1114112) (hc : c < 1114112) : ∀ z ∈ reprChar q c, z < 1114112 := by
  have hx : ∀ w : Nat, ∀ z ∈ List.replicate (w - ((Nat.toDigits 16 c).map Char.toNat).length) 48 ++ (Nat.toDigits 16 c).map Char.toNat, z < 1114112 := by
    intro w z hz
    rcases List.mem_append.mp hz with h | h
    · rw [List.eq_of_mem_replicate h]; decide
    · obtain ⟨ch, _, rfl⟩ := List.mem_map.mp h
      have := ch.valid
      rcases this with h | h <;> (simp only [Char.toNat]; omega)
  unfold reprChar
  dsimp only
  intro z hz
  repeat' split at hz
  all_goals first
    | (simp only [List.mem_cons, List.not_mem_nil, or_false] at hz; rcases hz with rfl | rfl <;> first | assumption | decide)
    | (simp only [List.mem_cons, List.not_mem_nil, or_false] at hz; rcases hz with rfl; assumption)
    | (rcases List.mem_append.mp hz with h | h
       · simp only [List.mem_cons, List.not_mem_nil, or_false] at h
         rcases h with rfl | rfl <;> decide
       · exact hx _ z h)
open PySem.Builtin.Str in
theorem fold_lt (q : Nat) (hq : q < 1114112) : ∀ (l : List Nat) (acc : Array Nat), (∀ c ∈ l, c < 1114112) → (∀ z ∈ acc.toList, z < 1114112) → ∀ z ∈ (l.foldl (fun out c => out ++ (reprChar q c).toArray) acc).toList, z < 1114112
  | [], acc, _, h => h
  | c :: r, acc, hl, h => by
    rw [List.foldl_cons]
    refine fold_lt q hq r _ (fun z hz => hl z (List.mem_cons_of_mem _ hz)) fun z hz => ?_
    rw [Array.toList_append] at hz
    rcases List.mem_append.mp hz with e | e
    · exact h z e
    · exact rc_lt q c hq (hl c (by simp)) z e
theorem rt_lt (x : Str) (hx : ∀ c ∈ x.cps.toList, c < 1114112) : ∀ z ∈ (reprText x).cps.toList, z < 1114112 := by
  intro z hz
  unfold reprText at hz
  have hq : reprQuote x < 1114112 := by unfold reprQuote; split <;> decide
  simp only [Array.toList_push] at hz
  rcases List.mem_append.mp hz with e | e
  · rw [← Array.foldl_toList] at e
    exact fold_lt _ hq x.cps.toList #[reprQuote x] hx (by intro y hy; simp at hy; rw [hy]; exact hq) z e
  · rw [List.mem_singleton.mp e]; exact hq
theorem tt_lt (ts : List Str) (h : ∀ t ∈ ts, ∀ c ∈ t.cps.toList, c < 1114112) : ∀ c ∈ (tupleText ts).cps.toList, c < 1114112 := by
  intro c hc
  unfold tupleText at hc
  rw [PyProof.Rows.mem_cps_append, PyProof.Rows.mem_cps_append, PyProof.Rows.mem_join] at hc
  rcases hc with (hc | hc) | hc
  · rw [PyProof.Rows.signs_lparen] at hc
    rw [List.mem_singleton.mp hc]; decide
  · rcases hc with ⟨t, ht, hc⟩ | ⟨_, hc⟩
    · exact h t ht c hc
    · rw [PyProof.Rows.signs_sep] at hc
      simp at hc
      omega
  · split at hc
    · rw [show ((",)" : String) : Str).cps.toList = [44, 41] by decide] at hc
      simp at hc
      omega
    · rw [show ((")" : String) : Str).cps.toList = [41] by decide] at hc
      simp at hc
      omega
structure Gd (n w : Nat) (v : PV) : Prop where
  pure : v.pure = true
  lay : (toD v).canLay0 = true
  dep : (toD v).depth ≤ n
  wt : (toD v).weight ≤ w
  sh : (toD v).showable = true
  iz : (toD v).intsShort 13 = true
  sg : ∀ c ∈ (toD v).shown.cps.toList, c < 1114112
structure Gds (n w : Nat) (vs : List PV) : Prop where
  pure : pures vs = true
  lay : PyData.canLayAll0 (toDs vs) = true
  dep : PyData.depthAll (toDs vs) ≤ n
  wt : PyData.weightAll (toDs vs) ≤ w
  sh : PyData.showableAll (toDs vs) = true
  iz : PyData.intsShortAll 13 (toDs vs) = true
  sg : ∀ t ∈ PyData.shownAll (toDs vs), ∀ c ∈ t.cps.toList, c < 1114112
theorem gds_nil (n w : Nat) : Gds n w [] := ⟨rfl, by simp [toDs, PyData.canLayAll0], by simp [toDs, PyData.depthAll], by simp [toDs, PyData.weightAll], by simp [toDs, PyData.showableAll], by simp [toDs, PyData.intsShortAll], by simp [toDs, PyData.shownAll]⟩
theorem gds_cons {n w w' : Nat} {v : PV} {vs : List PV} (a : Gd n w v) (b : Gds n w' vs) : Gds n (w + 1 + w') (v :: vs) := by
  obtain ⟨a1, a2, a3, a4, a5, a6, a7⟩ := a
  obtain ⟨b1, b2, b3, b4, b5, b6, b7⟩ := b
  refine ⟨?_, ?_, ?_, ?_, ?_, ?_, ?_⟩
  · simp [pures, a1, b1]
  · simp [toDs, PyData.canLayAll0, a2, b2]
  · simp only [toDs, PyData.depthAll]; omega
  · simp only [toDs, PyData.weightAll]; omega
  · simp [toDs, PyData.showableAll, a5, b5]
  · simp [toDs, PyData.intsShortAll, a6, b6]
  · intro t ht
    simp only [toDs, PyData.shownAll, List.mem_cons] at ht
    rcases ht with rfl | ht
    · exact a7
    · exact b7 t ht
theorem gd_tup {n w : Nat} {vs : List PV} (b : Gds n w vs) : Gd (n + 1) w (.tup vs) := by
  obtain ⟨b1, b2, b3, b4, b5, b6, b7⟩ := b
  refine ⟨?_, ?_, ?_, ?_, ?_, ?_, ?_⟩
  · simp [PV.pure, b1]
  · simp [toD, PyData.canLay0, b2]
  · simp only [toD, PyData.depth]; omega
  · simp only [toD, PyData.weight]; omega
  · simp [toD, PyData.showable, b5]
  · simp [toD, PyData.intsShort, b6]
  · simp only [toD, PyData.shown]; exact tt_lt _ b7
theorem Gd.mono {n n' w w' : Nat} {v : PV} (a : Gd n w v) (h1 : n ≤ n') (h2 : w ≤ w') : Gd n' w' v := ⟨a.pure, a.lay, Nat.le_trans a.dep h1, Nat.le_trans a.wt h2, a.sh, a.iz, a.sg⟩
theorem gd_str {l : List Nat} {w : Nat} (h : Lt l) (hl : l.length ≤ w) : Gd 1 w (.str l) := by
  refine ⟨rfl, ?_, ?_, ?_, ?_, ?_, ?_⟩
  · have := ok_str [] h
    unfold okD at this
    exact ((Bool.and_eq_true _ _).mp this).1
  · simp [toD, PyData.depth]
  · simp only [toD, PyData.weight]
    show (S l).cps.size ≤ w
    have : (S l).cps.size = l.length := S_len l
    omega
  · simp [toD, PyData.showable]
  · simp [toD, PyData.intsShort]
  · simp only [toD, PyData.shown]
    exact rt_lt _ (by rw [S_cps]; exact h)
theorem gd_non : Gd 1 0 .non := ⟨rfl, by simp [toD, PyData.canLay0], by simp [toD, PyData.depth], by simp [toD, PyData.weight], by simp [toD, PyData.showable], by simp [toD, PyData.intsShort], by simp only [toD, PyData.shown]; decide⟩
theorem gds_map {α : Type} {n w : Nat} {f : α → PV} : ∀ {l : List α}, (∀ x ∈ l, Gd n w (f x)) → Gds n (l.length * (w + 1)) (l.map f)
  | [], _ => gds_nil n _
  | a :: r, h => by
    have := gds_cons (h a (by simp)) (gds_map (l := r) fun x hx => h x (List.mem_cons_of_mem _ hx))
    rw [List.map_cons]
    rw [List.length_cons, Nat.add_mul, Nat.one_mul, Nat.add_comm]
    exact this
theorem nameOk_len {w : List Nat} (h : nameOk w = true) : 1 ≤ w.length ∧ w.length ≤ 8 := by
  unfold nameOk at h
  simp only [Bool.and_eq_true, decide_eq_true_eq] at h
  exact h.1.1
theorem nameOk_mem {w : List Nat} (h : nameOk w = true) : ∀ c ∈ w, c ∈ q_c3fcd3 := by
  unfold nameOk at h
  simp only [Bool.and_eq_true, List.all_eq_true, List.contains_iff_mem] at h
  exact h.1.2
theorem gd_name {w : List Nat} (h : nameOk w = true) : Gd 1 8 (.str w) := gd_str (nameOk_lt h) (nameOk_len h).2
theorem gd_path {t : List Nat} {ps : List (List Nat)} (h : pathV t = some ps) : Gd 2 36 (optP (some ps)) := by
  obtain ⟨_, h2, h3⟩ := pathV_some h
  exact (gd_tup (gds_map fun x hx => gd_name (h3 x hx))).mono (Nat.le_refl _) (by omega)
theorem rowN_some {t : List Nat} {ps : List (List Nat)} (h : rowN t = some ps) : ps = listedL t ∧ ∀ w ∈ ps, nameOk w = true := by
  unfold rowN at h
  split at h
  · rename_i q
    injection h with h
    rw [List.all_eq_true] at q
    rw [← h]
    exact ⟨rfl, q⟩
  · cases h
theorem gd_rowN {t : List Nat} {ps : List (List Nat)} (g : Good t) (h : rowN t = some ps) : Gd 2 90009 (optP (some ps)) := by
  obtain ⟨e, h3⟩ := rowN_some h
  have := listed_len (t := t)
  have := g.1
  have l : ps.length ≤ 10001 := by rw [e]; omega
  exact (gd_tup (gds_map fun x hx => gd_name (h3 x hx))).mono (Nat.le_refl _) (by omega)
theorem rowP_some {t : List Nat} (h : isNon (rowPV t) = false) : rowPV t = .tup (pathsL t) ∧ ∀ p ∈ listedL t, (pathV p).isSome = true := by
  unfold rowPV at h ⊢
  cases q : (listedL t).any (fun p => (pathV p).isNone) with
  | true => rw [q] at h; cases h
  | false =>
    refine ⟨rfl, fun p hp => ?_⟩
    rw [List.any_eq_false] at q
    have := q p hp
    cases z : pathV p with
    | none => rw [z] at this; simp at this
    | some _ => rfl
theorem gd_rowP {t : List Nat} (g : Good t) (h : isNon (rowPV t) = false) : Gd 3 370037 (rowPV t) := by
  obtain ⟨e, h3⟩ := rowP_some h
  have := listed_len (t := t)
  have := g.1
  rw [e]
  refine (gd_tup (gds_map (n := 2) (w := 36) fun x hx => ?_)).mono (Nat.le_refl _) (by omega)
  cases z : pathV x with
  | none => have := h3 x hx; rw [z] at this; cases this
  | some ps => exact gd_path z
def OkV (v : PV) : Prop := v = .non ∨ ∃ xs, v = .tup xs ∧ Gd 10 1000000 (.tup xs)
theorem okR_of {v : PV} (g : Gd 10 1000000 v) : okR (toD v) = true := by
  obtain ⟨a1, a2, a3, a4, a5, a6, a7⟩ := g
  have z := PyData.shown_fits (B := 13) (by decide) (by decide) (PyData.leavesShort_of_canLay0 13 (toD v) a2 a6) (by omega)
  unfold okR
  rw [a2, a5, PyData.hasDict_of_canLay _ a2, decide_eq_true z, decide_eq_true (by omega)]
  rfl
theorem ok4 {x a : List Nat} {v w : PV} (hx : Lt x) (hxl : x.length ≤ 8) (ha : nameOk a = true) (hv : Gd 5 400000 v) (hw : Gd 5 400000 w) : OkV (.tup [.str x, .str a, v, w]) := by
  refine .inr ⟨_, rfl, ?_⟩
  exact (gd_tup (gds_cons ((gd_str hx hxl).mono (n' := 5) (w' := 8) (by omega) (by omega)) (gds_cons ((gd_name ha).mono (by omega) (Nat.le_refl _)) (gds_cons hv (gds_cons hw (gds_nil 5 0)))))).mono (by omega) (by omega)
theorem ok3 {x : List Nat} {v w : PV} (hx : Lt x) (hxl : x.length ≤ 8) (hv : Gd 5 400000 v) (hw : Gd 5 400000 w) : OkV (.tup [.str x, v, w]) := by
  refine .inr ⟨_, rfl, ?_⟩
  exact (gd_tup (gds_cons ((gd_str hx hxl).mono (n' := 5) (w' := 8) (by omega) (by omega)) (gds_cons hv (gds_cons hw (gds_nil 5 0))))).mono (by omega) (by omega)
theorem ok2 {x : List Nat} {v : PV} (hx : Lt x) (hxl : x.length ≤ 8) (hv : Gd 5 400000 v) : OkV (.tup [.str x, v]) := by
  refine .inr ⟨_, rfl, ?_⟩
  exact (gd_tup (gds_cons ((gd_str hx hxl).mono (n' := 5) (w' := 8) (by omega) (by omega)) (gds_cons hv (gds_nil 5 0)))).mono (by omega) (by omega)
theorem ok1 {x : List Nat} (hx : Lt x) (hxl : x.length ≤ 8) : OkV (.tup [.str x]) := by
  refine .inr ⟨_, rfl, ?_⟩
  exact (gd_tup (gds_cons ((gd_str hx hxl).mono (n' := 5) (w' := 8) (by omega) (by omega)) (gds_nil 5 0))).mono (by omega) (by omega)
theorem gd_many {x : List Nat} (h : x ∈ tv_MANIES) : Gd 1 10 (.int ((digitsVal x : Nat) : Int)) := by
  simp only [tv_MANIES, List.mem_cons, List.not_mem_nil, or_false] at h
  rcases h with rfl | rfl | rfl | rfl <;> exact ⟨rfl, by decide +kernel, by decide +kernel, by decide +kernel, by decide +kernel, by decide +kernel, by decide +kernel⟩
theorem ok_use {u : List Nat} (g : Good u) : OkV (useV u) := by
  unfold useV
  split
  · exact .inl rfl
  · rename_i a b r q
    obtain ⟨ga, gb, gr⟩ := brk_good g q
    split
    · rename_i hn
      split
      · exact .inl rfl
      · rename_i hp
        rw [Bool.not_eq_true] at hp
        have z := (gd_rowP gb hp).mono (n' := 5) (w' := 400000) (by omega) (by omega)
        split
        · exact ok4 (by decide) (by decide) hn z (gd_non.mono (by omega) (by omega))
        · split
          · split
            · exact .inl rfl
            · rename_i ns e
              exact ok4 (by decide) (by decide) hn z ((gd_rowN (gr.drop 6) e).mono (by omega) (by omega))
          · exact .inl rfl
    · exact .inl rfl
theorem ok_piece {u : List Nat} (g : Good u) : OkV (pieceV u) := by
  unfold pieceV
  split
  · exact .inl rfl
  · rename_i a b r q
    obtain ⟨ga, gb, gr⟩ := brk_good g q
    split
    · rename_i hn
      split
      · exact .inl rfl
      · rename_i ns e
        have z := (gd_rowN gb e).mono (n' := 5) (w' := 400000) (by omega) (by omega)
        split
        · exact ok4 (by decide) (by decide) hn z (gd_non.mono (by omega) (by omega))
        · split
          · rename_i hm
            exact ok4 (by decide) (by decide) hn z ((gd_many hm.2).mono (by omega) (by omega))
          · exact .inl rfl
    · exact .inl rfl
theorem ok_body {u : List Nat} (g : Good u) : OkV (bodyV u) := by
  unfold bodyV
  split
  · exact .inl rfl
  · rename_i a b r q
    obtain ⟨ga, gb, gr⟩ := brk_good g q
    split
    · split
      · exact .inl rfl
      · rename_i hp
        rw [Bool.not_eq_true] at hp
        exact ok2 (by decide) (by decide) ((gd_rowP gb hp).mono (by omega) (by omega))
    · exact .inl rfl
theorem l_same (k : Nat) {v : PV} (h : OkV v) : F (k + 1) .l_same [v, v] = .ok (.bl true) := by
  show runF (b_l_same (F k)) 2 2 [v, v] = _
  rcases h with rfl | ⟨xs, rfl, g⟩
  · simp only [EV, runF, b_l_same, isN_n, finO]
  · have o := okR_of g
    have e := fun h => pEq_ss (toD (.tup xs)).shown.cps.toList (toD (.tup xs)).shown.cps.toList h g.sg g.sg
    have p : ∀ h, pRepr [.tup xs] h = .ok (.str (toD (.tup xs)).shown.cps.toList) h := fun h => by
      show (if okR (toD (.tup xs)) = true then Res.ok (PV.str (toD (.tup xs)).shown.cps.toList) h else .bad) = _
      rw [if_pos o]
    simp only [EV, runF, b_l_same, isN_t, p, e, finO]
abbrev wIn : List Nat := [32, 105, 110, 32]
abbrev wAs : List Nat := [32, 97, 115, 32]
abbrev wPlain : List Nat := [112, 108, 97, 105, 110]
theorem part_lt (x y : List Nat) (i : Nat) (h : firstFrom y x 0 = some i) : partL x y = [x.take i, y, x.drop (i + y.length)] := by rw [partL_eq, h]
theorem part_no (x y : List Nat) (h : firstFrom y x 0 = none) : partL x y = [x, [], []] := by rw [partL_eq, h]
def forV (u : List Nat) : PV := match firstFrom wIn u 0 with
  | some i => if nameOk (u.take i) = true then (match pathV (u.drop (i + 4)) with
    | some p => .tup [.str [102, 111, 114], .str (u.take i), optP (some p)]
    | none => .non) else .non
  | none => .non
theorem frz3n (x a : List Nat) {v : PV} (hv : v.pure = true) (h : List L3.PO) : frzV h (.tup [.str x, .str a, v]) = some (.tup [.str x, .str a, v], h) := by
  apply frz_tup
  simp [pures, hv, PV.pure]
theorem frz3m (x a : List Nat) {v : PV} (hv : v.pure = true) (h : List L3.PO) : frzV h (.tup [.str x, v, .str a]) = some (.tup [.str x, v, .str a], h) := by
  apply frz_tup
  simp [pures, hv, PV.pure]
theorem for_command (k : Nat) {u : List Nat} (g : Good u) : F (k + 5) .for_command [.str u] = .ok (forV u) := by
  show runF (b_for_command (F (k + 4))) 1 3 [.str u] = _
  have hz : u.length ≤ 16777216 := by have := g.1; omega
  unfold forV
  cases q : firstFrom wIn u 0 with
  | none =>
    have e := part_no u wIn q
    have p0 : F (k + 4) .path_of [.str []] = .ok .non := path_of k (t := []) ⟨by simp, fun c hc => by cases hc⟩
    have nm := g_is_name (k + 2) g
    cases qn : nameOk u with
    | true =>
      rw [qn] at nm
      simp only [EV, runF, b_for_command, hz, ne_eq, reduceCtorEq, not_false_eq_true, e, atI3_0, atI3_1, atI3_2, callO_def, p0, nm, isN_n, finO]
    | false =>
      rw [qn] at nm
      simp only [EV, runF, b_for_command, hz, ne_eq, reduceCtorEq, not_false_eq_true, e, atI3_0, atI3_1, atI3_2, callO_def, p0, nm, isN_n, finO]
  | some i =>
    have e := part_lt u wIn i q
    have p0 := path_of k (g.drop (i + 4))
    have nm := g_is_name (k + 2) (g.take i)
    cases qn : nameOk (u.take i) with
    | true =>
      rw [qn] at nm
      cases qp : pathV (u.drop (i + 4)) with
      | none =>
        rw [qp] at p0
        simp only [EV, runF, b_for_command, hz, ne_eq, reduceCtorEq, not_false_eq_true, e, atI3_0, atI3_1, atI3_2, callO_def, p0, nm, qn, qp, optP, isN_n, finO]
      | some p =>
        rw [qp] at p0
        have f := fun h => frz3n [102, 111, 114] (u.take i) (pure_opt (some p)) h
        simp only [optP] at f
        simp only [EV, runF, b_for_command, hz, ne_eq, reduceCtorEq, not_false_eq_true, e, atI3_0, atI3_1, atI3_2, callO_def, p0, nm, qn, qp, optP, isN_t, f, finO]
    | false =>
      rw [qn] at nm
      simp only [EV, runF, b_for_command, hz, ne_eq, reduceCtorEq, not_false_eq_true, e, atI3_0, atI3_1, atI3_2, callO_def, p0, nm, qn, dr_opt, isN_n, finO]
def ifV (u : List Nat) : PV := match pathV u with
  | some p => .tup [.str [105, 102], optP (some p)]
  | none => .non
theorem if_command (k : Nat) {u : List Nat} (g : Good u) : F (k + 5) .if_command [.str u] = .ok (ifV u) := by
  show runF (b_if_command (F (k + 4))) 1 2 [.str u] = _
  have p0 := path_of k g
  unfold ifV
  cases qp : pathV u with
  | none =>
    rw [qp] at p0
    simp only [EV, runF, b_if_command, callO_def, p0, optP, isN_n, finO]
  | some p =>
    rw [qp] at p0
    have f := fun h => frz2 [105, 102] (pure_opt (some p)) h
    simp only [optP] at f
    simp only [EV, runF, b_if_command, callO_def, p0, optP, isN_t, f, finO]
theorem ways_lt : ∀ l ∈ tv_WAYS, ∀ c ∈ l, c < 1114112 := by decide
def placeV (t : List Nat) : PV := match firstFrom wAs t 0 with
  | some i => (match pathV (t.take i) with
    | some p => if t.drop (i + 4) ∈ tv_WAYS then .tup [.str [112, 108, 97, 99, 101], optP (some p), .str (t.drop (i + 4))] else .non
    | none => .non)
  | none => (match pathV t with
    | some p => .tup [.str [112, 108, 97, 99, 101], optP (some p), .str wPlain]
    | none => .non)
theorem place_command (k : Nat) {t : List Nat} (g : Good t) : F (k + 5) .place_command [.str t] = .ok (placeV t) := by
  show runF (b_place_command (F (k + 4))) 1 4 [.str t] = _
  have hz : t.length ≤ 16777216 := by have := g.1; omega
  unfold placeV
  cases q : firstFrom wAs t 0 with
  | none =>
    have e := part_no t wAs q
    have p0 := path_of k g
    have ni : ∀ h, pNotIn (.str wPlain) (.tup (tv_WAYS.map PV.str)) h = .ok (.bl false) h := fun h => by
      rw [nin_t (by decide) ways_lt h]; rfl
    cases qp : pathV t with
    | none =>
      rw [qp] at p0
      simp only [EV, runF, b_place_command, hz, ne_eq, reduceCtorEq, not_false_eq_true, e, atI3_0, atI3_1, atI3_2, callO_def, p0, List.isEmpty_nil, optP, isN_n, finO]
    | some p =>
      rw [qp] at p0
      have f := fun h => frz3m [112, 108, 97, 99, 101] wPlain (pure_opt (some p)) h
      simp only [optP] at f
      simp only [EV, runF, b_place_command, hz, ne_eq, reduceCtorEq, not_false_eq_true, e, atI3_0, atI3_1, atI3_2, callO_def, p0, List.isEmpty_nil, optP, isN_t, ni, f, finO]
  | some i =>
    have e := part_lt t wAs i q
    have p0 := path_of k (g.take i)
    have ni := fun h => nin_t (g.drop (i + 4)).2 ways_lt h
    cases qp : pathV (t.take i) with
    | none =>
      rw [qp] at p0
      simp only [EV, runF, b_place_command, hz, ne_eq, reduceCtorEq, not_false_eq_true, e, atI3_0, atI3_1, atI3_2, callO_def, p0, qp, List.isEmpty_cons, optP, isN_n, finO]
    | some p =>
      rw [qp] at p0
      by_cases hw : t.drop (i + 4) ∈ tv_WAYS
      · rw [decide_eq_true hw] at ni
        have f := fun h => frz3m [112, 108, 97, 99, 101] (t.drop (i + 4)) (pure_opt (some p)) h
        simp only [optP] at f
        simp only [EV, runF, b_place_command, hz, ne_eq, reduceCtorEq, not_false_eq_true, e, atI3_0, atI3_1, atI3_2, callO_def, p0, qp, List.isEmpty_cons, optP, isN_t, ni, f, finO, if_pos hw]
      · rw [decide_eq_false hw] at ni
        simp only [EV, runF, b_place_command, hz, ne_eq, reduceCtorEq, not_false_eq_true, e, atI3_0, atI3_1, atI3_2, callO_def, p0, qp, List.isEmpty_cons, optP, isN_t, ni, finO, if_neg hw]
abbrev wFor : List Nat := [102, 111, 114, 32]
abbrev wIf : List Nat := [105, 102, 32]
abbrev wUse : List Nat := [117, 115, 101, 32]
abbrev wPiece : List Nat := [112, 105, 101, 99, 101, 32]
abbrev wBodyP : List Nat := [98, 111, 100, 121, 40]
def cmdV (t : List Nat) : PV := match lookD dv_BARE t with
  | some l => .tup [.str l]
  | none => if wFor.isPrefixOf t = true then forV (t.drop 4) else if wIf.isPrefixOf t = true then ifV (t.drop 3) else if wUse.isPrefixOf t = true then useV (t.drop 4)
    else if wBodyP.isPrefixOf t = true then bodyV t else if wPiece.isPrefixOf t = true then pieceV (t.drop 6) else placeV t
theorem frz1 (x : List Nat) (h : List L3.PO) : frzV h (.tup [.str x]) = some (.tup [.str x], h) := frz_tup h rfl
theorem frz_brk (u : List Nat) (h : List L3.PO) : frzV h (brkV u) = some (brkV u, h) := by
  unfold brkV
  split
  · exact frz3 _ _ _ h
  · exact frz_non h
theorem OkV.frz {v : PV} (o : OkV v) (h : List L3.PO) : frzV h v = some (v, h) := by
  rcases o with rfl | ⟨xs, rfl, g⟩
  · exact frz_non h
  · exact frz_pure g.pure h (by intro l z; cases z)
theorem ok_for {u : List Nat} : OkV (forV u) := by
  unfold forV
  split
  · split
    · rename_i hn
      split
      · rename_i p e
        exact ok3 (by decide) (by decide) ((gd_name hn).mono (by omega) (by omega)) ((gd_path e).mono (by omega) (by omega))
      · exact .inl rfl
    · exact .inl rfl
  · exact .inl rfl
theorem ok_if {u : List Nat} : OkV (ifV u) := by
  unfold ifV
  split
  · rename_i p e
    exact ok2 (by decide) (by decide) ((gd_path e).mono (by omega) (by omega))
  · exact .inl rfl
theorem ways_len : ∀ l ∈ tv_WAYS, l.length ≤ 8 := by decide
theorem ok_place {t : List Nat} : OkV (placeV t) := by
  unfold placeV
  split
  · split
    · rename_i p e
      split
      · rename_i hw
        exact ok3 (by decide) (by decide) ((gd_path e).mono (by omega) (by omega)) ((gd_str (ways_lt _ hw) (ways_len _ hw)).mono (by omega) (by omega))
      · exact .inl rfl
    · exact .inl rfl
  · split
    · rename_i p e
      exact ok3 (by decide) (by decide) ((gd_path e).mono (by omega) (by omega)) ((gd_str (l := wPlain) (w := 8) (by decide) (by decide)).mono (by omega) (by omega))
    · exact .inl rfl
theorem bare_some {t l : List Nat} (h : lookD dv_BARE t = some l) : (∃ p ∈ dv_BARE, p.1 = t ∧ p.2 = l) := by
  unfold lookD at h
  cases q : dv_BARE.find? fun kv => decide (kv.1 = t) with
  | none => rw [q] at h; cases h
  | some p =>
    rw [q] at h
    have h1 := List.find?_some q
    exact ⟨p, List.mem_of_find?_eq_some q, by simpa using h1, by simpa using h⟩
theorem bare_lt : ∀ p ∈ dv_BARE, (∀ c ∈ p.2, c < 1114112) ∧ p.2.length ≤ 8 := by decide
theorem ok_cmd {t : List Nat} (g : Good t) : OkV (cmdV t) := by
  unfold cmdV
  split
  · rename_i l h
    obtain ⟨p, hp, _, rfl⟩ := bare_some h
    exact ok1 (bare_lt p hp).1 (bare_lt p hp).2
  · split
    · exact ok_for
    · split
      · exact ok_if
      · split
        · exact ok_use (g.drop 4)
        · split
          · exact ok_body g
          · split
            · exact ok_piece (g.drop 6)
            · exact ok_place
theorem command_of (k : Nat) {t : List Nat} (g : Good t) : F (k + 7) .command_of [.str t] = .ok (cmdV t) := by
  show runF (b_command_of (F (k + 6))) 1 1 [.str t] = _
  have hz : t.length ≤ 16777216 := by have := g.1; omega
  have c4 : cut t (some (4 : Int)) none = t.drop 4 := cut_from t 4
  have c3 : cut t (some (3 : Int)) none = t.drop 3 := cut_from t 3
  have c6 : cut t (some (6 : Int)) none = t.drop 6 := cut_from t 6
  have p1 := for_command (k + 1) (g.drop 4)
  have p2 := if_command (k + 1) (g.drop 3)
  have p3 := bracketed (k + 5) (g.drop 4)
  have p4 := use_command k (g.drop 4)
  have p5 := bracketed (k + 5) g
  have p6 := body_command k g
  have p7 := bracketed (k + 5) (g.drop 6)
  have p8 := piece_command k (g.drop 6)
  have p9 := place_command (k + 1) g
  have o := ok_cmd g
  unfold cmdV at o ⊢
  cases q0 : lookD dv_BARE t with
  | some l => simp only [EV, runF, b_command_of, q0, frz1, finO]
  | none =>
    rw [q0] at o
    cases q1 : wFor.isPrefixOf t with
    | true =>
      simp only [q1, if_true] at o
      simp only [EV, runF, b_command_of, q0, startsL_eq, q1, hz, Int.cast_ofNat_Int, c4, callO_def, p1, o.frz, finO]
    | false =>
      cases q2 : wIf.isPrefixOf t with
      | true =>
        simp only [q1, q2, if_true, if_false, Bool.false_eq_true] at o
        simp only [EV, runF, b_command_of, q0, startsL_eq, q1, q2, hz, Int.cast_ofNat_Int, c3, callO_def, p2, o.frz, finO]
      | false =>
        cases q3 : wUse.isPrefixOf t with
        | true =>
          simp only [q1, q2, q3, if_true, if_false, Bool.false_eq_true] at o
          simp only [EV, runF, b_command_of, q0, startsL_eq, q1, q2, q3, hz, Int.cast_ofNat_Int, c4, callO_def, p3, frz_brk, p4, o.frz, finO]
        | false =>
          cases q4 : wBodyP.isPrefixOf t with
          | true =>
            simp only [q1, q2, q3, q4, if_true, if_false, Bool.false_eq_true] at o
            simp only [EV, runF, b_command_of, q0, startsL_eq, q1, q2, q3, q4, hz, Int.cast_ofNat_Int, callO_def, p5, frz_brk, p6, o.frz, finO]
          | false =>
            cases q5 : wPiece.isPrefixOf t with
            | true =>
              simp only [q1, q2, q3, q4, q5, if_true, if_false, Bool.false_eq_true] at o
              simp only [EV, runF, b_command_of, q0, startsL_eq, q1, q2, q3, q4, q5, hz, Int.cast_ofNat_Int, c6, callO_def, p7, frz_brk, p8, o.frz, finO]
            | false =>
              simp only [q1, q2, q3, q4, q5, if_true, if_false, Bool.false_eq_true] at o
              simp only [EV, runF, b_command_of, q0, startsL_eq, q1, q2, q3, q4, q5, hz, callO_def, p9, o.frz, finO]
theorem AZ_no32 : (32 : Nat) ∉ q_c3fcd3 := by decide
theorem AZ_no46 : (46 : Nat) ∉ q_c3fcd3 := by decide
theorem AZ_no41 : (41 : Nat) ∉ q_c3fcd3 := by decide
theorem name_free {w : List Nat} {c : Nat} (h : nameOk w = true) (hc : c ∉ q_c3fcd3) : c ∉ w := fun z => hc (nameOk_mem h c z)
theorem join_inv {y : List Nat} {c : Nat} : ∀ {ls : List (List Nat)}, c ∈ joinL y ls → c ∈ y ∨ ∃ w ∈ ls, c ∈ w
  | [], h => by cases h
  | [x], h => .inr ⟨x, by simp, h⟩
  | x :: z :: r, h => by
    change c ∈ x ++ y ++ joinL y (z :: r) at h
    rcases List.mem_append.mp h with h | h
    · rcases List.mem_append.mp h with h | h
      · exact .inr ⟨x, by simp, h⟩
      · exact .inl h
    · rcases join_inv h with e | ⟨w, hw, e⟩
      · exact .inl e
      · exact .inr ⟨w, List.mem_cons_of_mem _ hw, e⟩
theorem splitC_self (c : Nat) (t : List Nat) : joinL [c] (splitC c t) = t := by rw [← splitL_one, split_join]
theorem splitC_noc (c : Nat) (t : List Nat) : ∀ w ∈ splitC c t, c ∉ w := by
  intro w hw
  rw [← splitL_one] at hw
  exact split_noc t c w hw
theorem path_mem {t : List Nat} {ps : List (List Nat)} (h : pathV t = some ps) : ∀ c ∈ t, c ∈ q_c3fcd3 ∨ c = 46 := by
  obtain ⟨e, _, h3⟩ := pathV_some h
  intro c hc
  rw [← splitC_self 46 t, ← e] at hc
  rcases join_inv hc with z | ⟨w, hw, z⟩
  · exact .inr (List.mem_singleton.mp z)
  · exact .inl (nameOk_mem (h3 w hw) c z)
theorem path_free {t : List Nat} {ps : List (List Nat)} {c : Nat} (h : pathV t = some ps) (h1 : c ∉ q_c3fcd3) (h2 : c ≠ 46) : c ∉ t := fun z => (path_mem h c z).elim h1 h2
theorem row_free {t : List Nat} (h : isNon (rowPV t) = false) : (41 : Nat) ∉ t := by
  intro z
  have hs := (rowP_some h).2
  unfold listedL at hs
  split at hs
  · rename_i e; rw [e] at z; cases z
  · rw [← split_join t [44, 32]] at z
    rcases join_inv z with z | ⟨w, hw, z⟩
    · simp at z
    · have := hs w hw
      cases q : pathV w with
      | none => rw [q] at this; cases this
      | some ps => exact path_free q AZ_no41 (by decide) z
def forW : List (List Nat) → PV
  | [a, b, c] => if b = [105, 110] then (if nameOk a = true then (match pathV c with
    | some p => .tup [.str [102, 111, 114], .str a, optP (some p)]
    | none => .non) else .non) else .non
  | _ => .non
theorem forV_eq (u : List Nat) : forV u = forW (splitC 32 u) := by
  by_cases hx : ∃ a c p, u = a ++ wIn ++ c ∧ nameOk a = true ∧ pathV c = some p
  · obtain ⟨a, c, p, rfl, ha, hc⟩ := hx
    have na := name_free ha AZ_no32
    have nc := path_free hc AZ_no32 (by decide)
    have f := first_app (c := 32) (y := [105, 110, 32]) (b := c) na
    have s : splitC 32 (a ++ wIn ++ c) = [a, [105, 110], c] := by
      rw [List.append_assoc]
      show splitC 32 (a ++ 32 :: ([105, 110] ++ 32 :: c)) = _
      rw [splitC_cons _ na, splitC_cons _ (by decide), splitC_free nc]
    have t1 : (a ++ wIn ++ c).take a.length = a := by rw [List.append_assoc, List.take_left]
    have t2 : (a ++ wIn ++ c).drop (a.length + 4) = c := by
      rw [show a.length + 4 = (a ++ wIn).length by simp, List.drop_left]
    unfold forV
    rw [show firstFrom wIn (a ++ wIn ++ c) 0 = some a.length from f, s]
    simp only [t1, t2, ha, hc, forW, if_true]
  · have e1 : forV u = .non := by
      unfold forV
      split
      · rename_i i q
        split
        · rename_i hn
          split
          · rename_i p hp
            exact absurd ⟨_, _, p, (first_some q).2.1, hn, hp⟩ hx
          · rfl
        · rfl
      · rfl
    rw [e1]
    have j := splitC_self 32 u
    unfold forW
    split
    · rename_i a b c q
      rw [q] at j
      split
      · rename_i hb
        split
        · rename_i hn
          split
          · rename_i p hp
            refine absurd ⟨a, c, p, ?_, hn, hp⟩ hx
            rw [← j, hb]
            show a ++ [32] ++ ([105, 110] ++ [32] ++ c) = _
            simp
          · rfl
        · rfl
      · rfl
    · rfl
theorem forW_ne {l : List (List Nat)} (h : l.length ≠ 3) : forW l = .non := by
  unfold forW
  split
  · simp at h
  · rfl
def ifW : List (List Nat) → PV
  | [c] => (match pathV c with
    | some p => .tup [.str [105, 102], optP (some p)]
    | none => .non)
  | _ => .non
theorem ifV_eq (u : List Nat) : ifV u = ifW (splitC 32 u) := by
  have j := splitC_self 32 u
  cases q : pathV u with
  | some p =>
    have s := splitC_free (path_free q AZ_no32 (by decide))
    rw [s]
    simp only [ifV, ifW, q]
  | none =>
    have e1 : ifV u = .non := by unfold ifV; rw [q]
    rw [e1]
    unfold ifW
    split
    · rename_i c s
      rw [s] at j
      change c = u at j
      rw [j, q]
    · rfl
theorem ifW_ne {l : List (List Nat)} (h : l.length ≠ 1) : ifW l = .non := by
  unfold ifW
  split
  · simp at h
  · rfl
def placeW : List (List Nat) → PV
  | [a] => (match pathV a with
    | some p => .tup [.str [112, 108, 97, 99, 101], optP (some p), .str wPlain]
    | none => .non)
  | [a, b, c] => if b = [97, 115] then (match pathV a with
    | some p => if c ∈ tv_WAYS then .tup [.str [112, 108, 97, 99, 101], optP (some p), .str c] else .non
    | none => .non) else .non
  | _ => .non
theorem ways_free : ∀ l ∈ tv_WAYS, (32 : Nat) ∉ l := by decide
theorem placeV_eq (t : List Nat) : placeV t = placeW (splitC 32 t) := by
  have j := splitC_self 32 t
  by_cases hx : ∃ a c p, t = a ++ wAs ++ c ∧ pathV a = some p ∧ c ∈ tv_WAYS
  · obtain ⟨a, c, p, rfl, ha, hc⟩ := hx
    have na := path_free ha AZ_no32 (by decide)
    have nc := ways_free c hc
    have f := first_app (c := 32) (y := [97, 115, 32]) (b := c) na
    have s : splitC 32 (a ++ wAs ++ c) = [a, [97, 115], c] := by
      rw [List.append_assoc]
      show splitC 32 (a ++ 32 :: ([97, 115] ++ 32 :: c)) = _
      rw [splitC_cons _ na, splitC_cons _ (by decide), splitC_free nc]
    have t1 : (a ++ wAs ++ c).take a.length = a := by rw [List.append_assoc, List.take_left]
    have t2 : (a ++ wAs ++ c).drop (a.length + 4) = c := by
      rw [show a.length + 4 = (a ++ wAs).length by simp, List.drop_left]
    unfold placeV
    rw [show firstFrom wAs (a ++ wAs ++ c) 0 = some a.length from f, s]
    simp only [t1, t2, ha, placeW, if_true, if_pos hc]
  · cases q : pathV t with
    | some p =>
      have n32 := path_free q AZ_no32 (by decide)
      have f : firstFrom wAs t 0 = none := by
        cases z : firstFrom wAs t 0 with
        | none => rfl
        | some i =>
          exfalso
          apply n32
          rw [(first_some z).2.1]
          simp
      rw [splitC_free n32]
      simp only [placeV, placeW, f, q]
    | none =>
      have e1 : placeV t = .non := by
        unfold placeV
        split
        · rename_i i z
          split
          · rename_i p hp
            split
            · rename_i hw
              exact absurd ⟨_, _, p, (first_some z).2.1, hp, hw⟩ hx
            · rfl
          · rfl
        · rw [q]
      rw [e1]
      unfold placeW
      split
      · rename_i a s
        rw [s] at j
        change a = t at j
        rw [j, q]
      · rename_i a b c s
        rw [s] at j
        split
        · rename_i hb
          split
          · rename_i p hp
            split
            · rename_i hw
              refine absurd ⟨a, c, p, ?_, hp, hw⟩ hx
              rw [← j, hb]
              show a ++ [32] ++ ([97, 115] ++ [32] ++ c) = _
              simp
            · rfl
          · rfl
        · rfl
      · rfl
theorem bodyV_yes {b : List Nat} (h : isNon (rowPV b) = false) : bodyV (wBodyP ++ (b ++ [41])) = .tup [.str [98, 111, 100, 121], rowPV b] := by
  have n41 : (41 : Nat) ∉ wBodyP ++ b := by
    intro z
    rcases List.mem_append.mp z with z | z
    · revert z; decide
    · exact row_free h z
  have f1 : firstFrom [40] (wBodyP ++ (b ++ [41])) 0 = some 4 := by
    have := first_app (c := 40) (y := []) (a := [98, 111, 100, 121]) (b := b ++ [41]) (by decide)
    exact this
  have f2 : firstFrom [41] (wBodyP ++ (b ++ [41])) 0 = some (wBodyP ++ b).length := by
    have := first_app (c := 41) (y := []) (a := wBodyP ++ b) (b := []) n41
    rw [List.append_nil, List.append_assoc] at this
    exact this
  have hl : (wBodyP ++ b).length = 5 + b.length := by simp; omega
  unfold bodyV brk
  rw [f1, f2]
  simp only [hl, if_pos (show 4 < 5 + b.length by omega)]
  have d1 : (wBodyP ++ (b ++ [41])).drop (4 + 1) = b ++ [41] := rfl
  have d2 : (b ++ [41]).take (5 + b.length - (4 + 1)) = b := by rw [show 5 + b.length - (4 + 1) = b.length by omega, List.take_left]
  have d3 : (wBodyP ++ (b ++ [41])).drop (5 + b.length + 1) = [] := List.drop_eq_nil_of_le (by simp; omega)
  rw [d1, d2, d3, h]
  simp
theorem bodyV_no {u : List Nat} (h : ∀ b, u = b ++ [41] → isNon (rowPV b) = true) : bodyV (wBodyP ++ u) = .non := by
  have f1 : firstFrom [40] (wBodyP ++ u) 0 = some 4 := by
    have := first_app (c := 40) (y := []) (a := [98, 111, 100, 121]) (b := u) (by decide)
    exact this
  unfold bodyV brk
  rw [f1]
  cases f2 : firstFrom [41] (wBodyP ++ u) 0 with
  | none => rfl
  | some j =>
    by_cases hj : 4 < j
    · simp only [hj, if_true]
      split
      · rename_i r0
        have e := (first_some f2).2.1
        simp only [List.length_cons, List.length_nil, Nat.zero_add] at e
        rw [r0, List.append_nil] at e
        obtain ⟨m, rfl⟩ : ∃ m, j = 5 + m := ⟨j - 5, by omega⟩
        have d1 : (wBodyP ++ u).drop (4 + 1) = u := rfl
        have d2 : (wBodyP ++ u).take (5 + m) = wBodyP ++ u.take m := by
          rw [show 5 + m = wBodyP.length + m from rfl, List.take_length_add_append]
        rw [d2, List.append_assoc] at e
        have e2 := List.append_cancel_left e
        rw [d1, show 5 + m - (4 + 1) = m by omega, h (u.take m) e2]
        rfl
      · rfl
    · simp only [hj, if_false]
abbrev DD : List (PK × PV) := [(.inr [40], .str [111, 112, 101, 110]), (.inr [41], .str [99, 108, 111, 115, 101])]
theorem DD_eq : cDict [((cK (.str [40])), (cK (.str [111, 112, 101, 110]))), ((cK (.str [41])), (cK (.str [99, 108, 111, 115, 101])))] = fun ρ h => .ok (.dct DD) h := rfl
abbrev BR : List (List Nat) := [[40], [41], [101, 110, 100], [101, 108, 115, 101], [98, 101, 116, 119, 101, 101, 110]]
theorem BR_lt : ∀ l ∈ BR, ∀ c ∈ l, c < 1114112 := by decide
theorem bare_mem {t l : List Nat} (h : lookD dv_BARE t = some l) : t ∈ BR ∧ (valP DD (.inr t) = some (.str l) ∨ (valP DD (.inr t) = none ∧ t = l)) := by
  obtain ⟨p, hp, h1, h2⟩ := bare_some h
  subst h1 h2
  simp only [dv_BARE, List.mem_cons, List.not_mem_nil, or_false] at hp
  rcases hp with rfl | rfl | rfl | rfl | rfl
  · exact ⟨by decide, .inl rfl⟩
  · exact ⟨by decide, .inl rfl⟩
  · exact ⟨by decide, .inr ⟨rfl, rfl⟩⟩
  · exact ⟨by decide, .inr ⟨rfl, rfl⟩⟩
  · exact ⟨by decide, .inr ⟨rfl, rfl⟩⟩
theorem bare_none {t : List Nat} (h : lookD dv_BARE t = none) : t ∉ BR := by
  intro z
  simp only [BR, List.mem_cons, List.not_mem_nil, or_false] at z
  rcases z with rfl | rfl | rfl | rfl | rfl <;> exact absurd h (by decide)
theorem atI_c0 {α : Type} (a : α) (r : List α) : atI (a :: r) 0 = some a := by
  rw [atI_getD a (Int.le_refl 0) (by simp only [List.length_cons]; omega)]; rfl
theorem atI_c1 {α : Type} (a b : α) (r : List α) : atI (a :: b :: r) 1 = some b := by
  rw [atI_getD a (by decide) (by simp only [List.length_cons]; omega)]; rfl
theorem atI_c2 {α : Type} (a b c : α) (r : List α) : atI (a :: b :: c :: r) 2 = some c := by
  rw [atI_getD a (by decide) (by simp only [List.length_cons]; omega)]; rfl
theorem atI_c3 {α : Type} (a b c d : α) (r : List α) : atI (a :: b :: c :: d :: r) 3 = some d := by
  rw [atI_getD a (by decide) (by simp only [List.length_cons]; omega)]; rfl
theorem atI_last {α : Type} (b : List α) (z : α) : atI (b ++ [z]) (-1) = some z := by
  unfold atI ixN
  rw [if_neg (by decide), if_pos (by rw [List.length_append, List.length_singleton]; omega)]
  rw [show ((-1 : Int) + ((b ++ [z]).length : Int)).toNat = b.length by rw [List.length_append, List.length_singleton]; omega]
  simp
theorem cut_body (b : List Nat) (z : Nat) : cut (wBodyP ++ (b ++ [z])) (some 5) (some (-1)) = b := by
  unfold cut
  have e1 : HT.sIx (wBodyP ++ (b ++ [z])).length 0 (some 5) = 5 := by
    have := HT.sIx_nat (wBodyP ++ (b ++ [z])).length 0 5
    rw [show ((5 : Nat) : Int) = 5 from rfl] at this
    rw [this]; simp
  have e2 : HT.sIx (wBodyP ++ (b ++ [z])).length (wBodyP ++ (b ++ [z])).length (some (-1)) = 5 + b.length := by
    unfold HT.sIx
    simp only [List.length_append, List.length_cons, List.length_nil]
    split <;> omega
  rw [e1, e2, show (wBodyP ++ (b ++ [z])).drop 5 = b ++ [z] from rfl, show 5 + b.length - 5 = b.length by omega, List.take_left]
theorem words_of {t : List Nat} {w0 : List Nat} {rest : List (List Nat)} (h : splitC 32 t = w0 :: rest) (hr : rest ≠ []) : ∃ u, t = w0 ++ 32 :: u ∧ splitC 32 u = rest := by
  have j := splitC_self 32 t
  have n := splitC_noc 32 t
  rw [h] at j n
  refine ⟨joinL [32] rest, ?_, splitC_join hr fun w hw => n w (List.mem_cons_of_mem _ hw)⟩
  cases rest with
  | nil => exact absurd rfl hr
  | cons a r =>
    rw [← j]
    show w0 ++ [32] ++ joinL [32] (a :: r) = _
    simp
theorem word_of {t : List Nat} {w0 : List Nat} (h : splitC 32 t = [w0]) : t = w0 := by
  have j := splitC_self 32 t
  rw [h] at j
  exact j.symm
theorem not_pre {w t w0 : List Nat} {rest : List (List Nat)} (h : splitC 32 t = w0 :: rest) (hn : w0 ≠ w) (h32 : (32 : Nat) ∉ w) : (w ++ [32]).isPrefixOf t = false := by
  rw [Bool.eq_false_iff]
  intro z
  obtain ⟨u, hu⟩ := List.isPrefixOf_iff_prefix.mp z
  rw [← hu, List.append_assoc, List.singleton_append, splitC_cons _ h32] at h
  injection h with h1 h2
  exact hn h1.symm
theorem l_command (k : Nat) {t : List Nat} (g : Good t) : F (k + 5) .l_command [.str t] = .ok (cmdV t) := by
  show runF (b_l_command (F (k + 4))) 1 4 [.str t] = _
  have hz : t.length + 2 ≤ 16777216 := by have := g.1; omega
  have hz1 : t.length ≤ 16777216 := by omega
  have hin : ∀ h, pIn (.str t) (.tup [.str [40], .str [41], .str [101, 110, 100], .str [101, 108, 115, 101], .str [98, 101, 116, 119, 101, 101, 110]]) h = .ok (.bl (decide (t ∈ BR))) h := fun h => in_t g.2 BR_lt h
  cases q0 : lookD dv_BARE t with
  | some l =>
    obtain ⟨m, e⟩ := bare_mem q0
    rw [decide_eq_true m] at hin
    unfold cmdV
    rw [q0]
    rcases e with e | ⟨e, rfl⟩
    · simp only [EV, runF, b_l_command, hz, splitL_one, ne_eq, reduceCtorEq, not_false_eq_true, hin, DD_eq, dcR, keyOf, e, frz1, finO]
    · simp only [EV, runF, b_l_command, hz, splitL_one, ne_eq, reduceCtorEq, not_false_eq_true, hin, DD_eq, dcR, keyOf, e, frz1, finO]
  | none =>
    have m := bare_none q0
    rw [decide_eq_false m] at hin
    have gw : ∀ w ∈ splitC 32 t, Good w := fun w hw => g.part (y := [32]) (by rw [splitL_one]; exact hw)
    obtain ⟨w0, rest, hs⟩ : ∃ w0 rest, splitC 32 t = w0 :: rest := by
      cases q : splitC 32 t with
      | nil => exact absurd q (splitC_ne 32 t)
      | cons a r => exact ⟨a, r, rfl⟩
    rw [hs] at gw
    have g0 := gw w0 (by simp)
    have i0 := atI_c0 (PV.str w0) (rest.map PV.str)
    have e1 := fun h => pEq_ss w0 [102, 111, 114] h g0.2 (by decide)
    have e2 := fun h => pEq_ss w0 [105, 102] h g0.2 (by decide)
    have e3 := fun h => pEq_ss w0 [117, 115, 101] h g0.2 (by decide)
    have e4 := fun h => pEq_ss w0 [112, 105, 101, 99, 101] h g0.2 (by decide)
    have lm : (rest.map PV.str).length = rest.length := List.length_map ..
    by_cases h1 : w0 = [102, 111, 114]
    · rw [decide_eq_true h1] at e1
      by_cases hl : rest.length = 3
      · obtain ⟨a, b, c, rfl⟩ : ∃ a b c, rest = [a, b, c] := by
          match rest, hl with
          | [a, b, c], _ => exact ⟨a, b, c, rfl⟩
        obtain ⟨u, hu, hv⟩ := words_of hs (by simp)
        have ga := gw a (by simp)
        have gb := gw b (by simp)
        have gc := gw c (by simp)
        have ev : cmdV t = forW [a, b, c] := by
          rw [← hv, ← forV_eq]
          unfold cmdV
          rw [q0, hu, h1]
          rfl
        have n4 : ∀ h, pNe (.int ((0 + 1 + 1 + 1 + 1 : Nat) : Int)) (.int 4) h = .ok (.bl false) h := fun h => by rw [pNe_ii]; rfl
        have nb := fun h => pNe_ss b [105, 110] h gb.2 (by decide)
        have nm := g_l_is_name (k + 3) ga
        have pc := l_path (k + 2) gc
        rw [ev]
        unfold forW
        simp only [Nat.reduceAdd] at n4
        by_cases hb : b = [105, 110]
        · rw [decide_eq_true hb] at nb
          cases qn : nameOk a with
          | false =>
            rw [qn] at nm
            simp only [EV, runF, b_l_command, hz, splitL_one, ne_eq, reduceCtorEq, not_false_eq_true, hin, hs, atI_c0, atI_c1, atI_c2, atI_c3, e1, n4, nb, nm, callO_def, qn, ite_self, finO]
          | true =>
            rw [qn] at nm
            cases qp : pathV c with
            | none =>
              rw [qp] at pc
              simp only [EV, runF, b_l_command, hz, splitL_one, ne_eq, reduceCtorEq, not_false_eq_true, hin, hs, atI_c0, atI_c1, atI_c2, atI_c3, e1, n4, nb, nm, callO_def, qn, qp, pc, optP, isN_n, ite_self, finO]
            | some p =>
              rw [qp] at pc
              have f := fun h => frz3n [102, 111, 114] a (pure_opt (some p)) h
              simp only [optP] at f
              simp only [EV, runF, b_l_command, hz, splitL_one, ne_eq, reduceCtorEq, not_false_eq_true, hin, hs, atI_c0, atI_c1, atI_c2, atI_c3, e1, n4, nb, nm, callO_def, qn, qp, pc, optP, isN_t, f, if_pos hb, finO]
        · rw [decide_eq_false hb] at nb
          simp only [EV, runF, b_l_command, hz, splitL_one, ne_eq, reduceCtorEq, not_false_eq_true, hin, hs, atI_c0, atI_c1, atI_c2, atI_c3, e1, n4, nb, if_neg hb, finO]
      · have n4 : ∀ h, pNe (.int ((rest.length + 1 : Nat) : Int)) (.int 4) h = .ok (.bl true) h := fun h => by
          rw [pNe_ii, decide_eq_false (by omega)]; rfl
        have ev : cmdV t = .non := by
          cases rest with
          | nil =>
            rw [word_of hs, h1]
            rfl
          | cons a r =>
            obtain ⟨u, hu, hv⟩ := words_of hs (by simp)
            have : cmdV t = forV u := by
              unfold cmdV
              rw [q0, hu, h1]
              rfl
            rw [this, forV_eq, hv, forW_ne hl]
        rw [ev]
        simp only [EV, runF, b_l_command, hz, splitL_one, ne_eq, reduceCtorEq, not_false_eq_true, hin, hs, i0, e1, lm, n4, finO]
    · rw [decide_eq_false h1] at e1
      have np1 : wFor.isPrefixOf t = false := not_pre hs h1 (by decide)
      by_cases h2 : w0 = [105, 102]
      · rw [decide_eq_true h2] at e2
        by_cases hl : rest.length = 1
        · obtain ⟨c, rfl⟩ : ∃ c, rest = [c] := by
            match rest, hl with
            | [c], _ => exact ⟨c, rfl⟩
          obtain ⟨u, hu, hv⟩ := words_of hs (by simp)
          have gc := gw c (by simp)
          have ev : cmdV t = ifW [c] := by
            rw [← hv, ← ifV_eq]
            unfold cmdV
            rw [q0, np1, hu, h2]
            rfl
          have n2 : ∀ h, pNe (.int ((0 + 1 + 1 : Nat) : Int)) (.int 2) h = .ok (.bl false) h := fun h => by rw [pNe_ii]; rfl
          have pc := l_path (k + 2) gc
          rw [ev]
          unfold ifW
          simp only [Nat.reduceAdd] at n2
          cases qp : pathV c with
          | none =>
            rw [qp] at pc
            simp only [EV, runF, b_l_command, hz, splitL_one, ne_eq, reduceCtorEq, not_false_eq_true, hin, hs, atI_c0, atI_c1, e1, e2, n2, callO_def, qp, pc, optP, isN_n, finO]
          | some p =>
            rw [qp] at pc
            have f := fun h => frz2 [105, 102] (pure_opt (some p)) h
            simp only [optP] at f
            simp only [EV, runF, b_l_command, hz, splitL_one, ne_eq, reduceCtorEq, not_false_eq_true, hin, hs, atI_c0, atI_c1, e1, e2, n2, callO_def, qp, pc, optP, isN_t, f, finO]
        · have n2 : ∀ h, pNe (.int ((rest.length + 1 : Nat) : Int)) (.int 2) h = .ok (.bl true) h := fun h => by
            rw [pNe_ii, decide_eq_false (by omega)]; rfl
          have ev : cmdV t = .non := by
            cases rest with
            | nil =>
              rw [word_of hs, h2]
              rfl
            | cons a r =>
              obtain ⟨u, hu, hv⟩ := words_of hs (by simp)
              have : cmdV t = ifV u := by
                unfold cmdV
                rw [q0, np1, hu, h2]
                rfl
              rw [this, ifV_eq, hv, ifW_ne hl]
          rw [ev]
          simp only [EV, runF, b_l_command, hz, splitL_one, ne_eq, reduceCtorEq, not_false_eq_true, hin, hs, i0, e1, e2, lm, n2, finO]
      · rw [decide_eq_false h2] at e2
        have np2 : wIf.isPrefixOf t = false := not_pre hs h2 (by decide)
        by_cases h3 : w0 = [117, 115, 101]
        · rw [decide_eq_true h3] at e3
          have c4 : cut t (some (4 : Int)) none = t.drop 4 := cut_from t 4
          have us := l_use k (g.drop 4)
          have ev : cmdV t = useV (t.drop 4) := by
            cases rest with
            | nil =>
              rw [word_of hs, h3]
              rfl
            | cons a r =>
              obtain ⟨u, hu, hv⟩ := words_of hs (by simp)
              unfold cmdV
              rw [q0, np1, np2, hu, h3]
              rfl
          have f := (ok_use (g.drop 4)).frz
          rw [ev]
          simp only [EV, runF, b_l_command, hz, hz1, splitL_one, ne_eq, reduceCtorEq, not_false_eq_true, hin, hs, i0, e1, e2, e3, c4, callO_def, us, f, finO]
        · rw [decide_eq_false h3] at e3
          have np3 : wUse.isPrefixOf t = false := not_pre hs h3 (by decide)
          by_cases h4 : w0 = [112, 105, 101, 99, 101]
          · rw [decide_eq_true h4] at e4
            have c6 : cut t (some (6 : Int)) none = t.drop 6 := cut_from t 6
            have us := l_piece k (g.drop 6)
            have ev : cmdV t = pieceV (t.drop 6) := by
              cases rest with
              | nil =>
                rw [word_of hs, h4]
                rfl
              | cons a r =>
                obtain ⟨u, hu, hv⟩ := words_of hs (by simp)
                unfold cmdV
                rw [q0, np1, np2, np3, hu, h4]
                rfl
            have f := (ok_piece (g.drop 6)).frz
            rw [ev]
            simp only [EV, runF, b_l_command, hz, hz1, splitL_one, ne_eq, reduceCtorEq, not_false_eq_true, hin, hs, i0, e1, e2, e3, e4, c6, callO_def, us, f, finO]
          · rw [decide_eq_false h4] at e4
            have np4 : wPiece.isPrefixOf t = false := not_pre hs h4 (by decide)
            have c5 : cut t none (some (5 : Int)) = t.take 5 := cut_to t 5
            have e5 := fun h => pEq_ss (t.take 5) wBodyP h (g.take 5).2 (by decide)
            have pb : wBodyP.isPrefixOf t = decide (t.take 5 = wBodyP) := pre_take wBodyP t
            by_cases h5 : t.take 5 = wBodyP
            · rw [decide_eq_true h5] at e5 pb
              have ev : cmdV t = bodyV t := by
                unfold cmdV
                rw [q0, np1, np2, np3, pb]
                rfl
              obtain ⟨u, hu⟩ : ∃ u, t = wBodyP ++ u := ⟨t.drop 5, by rw [← h5, List.take_append_drop]⟩
              rw [ev]
              rcases List.eq_nil_or_concat u with hn | ⟨b, z, hb⟩
              · subst hn
                rw [List.append_nil] at hu
                subst hu
                rw [show bodyV wBodyP = .non from rfl]
                have cr : cut wBodyP (some (5 : Int)) (some (-1)) = [] := rfl
                have pr := l_rowP (k + 1) (t := []) ⟨by simp, fun c hc => by cases hc⟩
                have il : atI wBodyP (-1) = some 40 := rfl
                have nl : ∀ h, pNe (.str [40]) (.str [41]) h = .ok (.bl true) h := fun h => by rw [pNe_ss _ _ h (by decide) (by decide)]; rfl
                simp only [EV, runF, b_l_command, splitL_one, ne_eq, reduceCtorEq, not_false_eq_true, hin, hs, i0, e1, e2, e3, e4, c5, e5, cr, callO_def, pr, il, nl, finO]
              · rw [List.concat_eq_append] at hb
                subst hb
                have cr : cut t (some (5 : Int)) (some (-1)) = b := by rw [hu]; exact cut_body b z
                have il : atI t (-1) = some z := by rw [hu, ← List.append_assoc]; exact atI_last _ z
                have gz : Lt [z] := fun c hc => g.2 c (by rw [List.mem_singleton.mp hc, hu]; simp)
                have nl := fun h => pNe_ss [z] [41] h gz (by decide)
                have gb : Good b := by
                  refine ⟨?_, fun c hc => g.2 c (by rw [hu]; simp [hc])⟩
                  have := g.1
                  rw [hu] at this
                  simp at this
                  omega
                have pr := l_rowP (k + 1) gb
                by_cases h6 : z = 41
                · subst h6
                  rw [decide_eq_true rfl] at nl
                  cases qp : isNon (rowPV b) with
                  | true =>
                    have bv : bodyV t = .non := by
                      rw [hu]
                      exact bodyV_no fun b' hb' => by rw [← (List.append_inj' hb' rfl).1]; exact qp
                    rw [bv]
                    simp only [EV, runF, b_l_command, hz, hz1, splitL_one, ne_eq, reduceCtorEq, not_false_eq_true, hin, hs, i0, e1, e2, e3, e4, c5, e5, cr, callO_def, pr, il, nl, qp, dr_row, finO]
                  | false =>
                    have f := fun h => frz2 [98, 111, 100, 121] (pure_row b) h
                    have bv : bodyV t = .tup [.str [98, 111, 100, 121], rowPV b] := by rw [hu]; exact bodyV_yes qp
                    rw [bv]
                    simp only [EV, runF, b_l_command, hz, hz1, splitL_one, ne_eq, reduceCtorEq, not_false_eq_true, hin, hs, i0, e1, e2, e3, e4, c5, e5, cr, callO_def, pr, il, nl, qp, dr_row, f, finO]
                · have nl2 : ∀ h, pNe (.str [z]) (.str [41]) h = .ok (.bl true) h := fun h => by rw [nl h, decide_eq_false (by simpa using h6)]; rfl
                  have bv : bodyV t = .non := by
                    rw [hu]
                    refine bodyV_no fun b' hb' => ?_
                    have := (List.append_inj' hb' rfl).2
                    injection this with this
                    exact absurd this h6
                  rw [bv]
                  simp only [EV, runF, b_l_command, hz, hz1, splitL_one, ne_eq, reduceCtorEq, not_false_eq_true, hin, hs, i0, e1, e2, e3, e4, c5, e5, cr, callO_def, pr, il, nl2, finO]
            · rw [decide_eq_false h5] at e5 pb
              have ev : cmdV t = placeW (w0 :: rest) := by
                rw [← hs, ← placeV_eq]
                unfold cmdV
                rw [q0, np1, np2, np3, pb, np4]
                rfl
              rw [ev]
              have p0 := l_path (k + 2) g0
              match hr : rest with
              | [] =>
                have q1 : ∀ h, pEq (.int ((0 + 1 : Nat) : Int)) (.int 1) h = .ok (.bl true) h := fun h => by rw [pEq_ii]; rfl
                have n3 : ∀ h, pNe (.int ((0 + 1 + 1 + 1 : Nat) : Int)) (.int 3) h = .ok (.bl false) h := fun h => by rw [pNe_ii]; rfl
                have na : ∀ h, pNe (.str [97, 115]) (.str [97, 115]) h = .ok (.bl false) h := fun h => by rw [pNe_ss _ _ h (by decide) (by decide)]; rfl
                have ni : ∀ h, pNotIn (.str wPlain) (.tup [.str [119, 111, 114, 100], .str [110, 117, 109, 98, 101, 114], .str [113, 117, 111, 116, 101, 100], .str [112, 108, 97, 105, 110], .str [108, 105, 110, 101]]) h = .ok (.bl false) h := fun h => by
                  rw [show pNotIn (.str wPlain) (.tup [.str [119, 111, 114, 100], .str [110, 117, 109, 98, 101, 114], .str [113, 117, 111, 116, 101, 100], .str [112, 108, 97, 105, 110], .str [108, 105, 110, 101]]) h = .ok (.bl (!decide (wPlain ∈ tv_WAYS))) h from nin_t (by decide) ways_lt h]; rfl
                simp only [Nat.reduceAdd] at q1 n3
                unfold placeW
                cases qp : pathV w0 with
                | none =>
                  rw [qp] at p0
                  simp only [EV, runF, b_l_command, hz, hz1, splitL_one, ne_eq, reduceCtorEq, not_false_eq_true, hin, hs, atI_c0, atI_c1, atI_c2, e1, e2, e3, e4, c5, e5, q1, n3, na, callO_def, p0, optP, isN_n, qp, finO]
                | some p =>
                  rw [qp] at p0
                  have f := fun h => frz3m [112, 108, 97, 99, 101] wPlain (pure_opt (some p)) h
                  simp only [optP] at f
                  simp only [EV, runF, b_l_command, hz, hz1, splitL_one, ne_eq, reduceCtorEq, not_false_eq_true, hin, hs, atI_c0, atI_c1, atI_c2, e1, e2, e3, e4, c5, e5, q1, n3, na, callO_def, p0, optP, isN_t, qp, ni, f, finO]
              | [b, c] =>
                have gb := gw b (by simp)
                have gc := gw c (by simp)
                have q1 : ∀ h, pEq (.int ((0 + 1 + 1 + 1 : Nat) : Int)) (.int 1) h = .ok (.bl false) h := fun h => by rw [pEq_ii]; rfl
                have n3 : ∀ h, pNe (.int ((0 + 1 + 1 + 1 : Nat) : Int)) (.int 3) h = .ok (.bl false) h := fun h => by rw [pNe_ii]; rfl
                have na := fun h => pNe_ss b [97, 115] h gb.2 (by decide)
                have ni : ∀ h, pNotIn (.str c) (.tup [.str [119, 111, 114, 100], .str [110, 117, 109, 98, 101, 114], .str [113, 117, 111, 116, 101, 100], .str [112, 108, 97, 105, 110], .str [108, 105, 110, 101]]) h = .ok (.bl (!decide (c ∈ tv_WAYS))) h := fun h => nin_t gc.2 ways_lt h
                simp only [Nat.reduceAdd] at q1 n3
                unfold placeW
                by_cases hb : b = [97, 115]
                · rw [decide_eq_true hb] at na
                  cases qp : pathV w0 with
                  | none =>
                    rw [qp] at p0
                    simp only [EV, runF, b_l_command, hz, hz1, splitL_one, ne_eq, reduceCtorEq, not_false_eq_true, hin, hs, atI_c0, atI_c1, atI_c2, e1, e2, e3, e4, c5, e5, q1, n3, na, callO_def, p0, optP, isN_n, qp, ite_self, finO]
                  | some p =>
                    rw [qp] at p0
                    by_cases hw : c ∈ tv_WAYS
                    · rw [decide_eq_true hw] at ni
                      have f := fun h => frz3m [112, 108, 97, 99, 101] c (pure_opt (some p)) h
                      simp only [optP] at f
                      simp only [EV, runF, b_l_command, hz, hz1, splitL_one, ne_eq, reduceCtorEq, not_false_eq_true, hin, hs, atI_c0, atI_c1, atI_c2, e1, e2, e3, e4, c5, e5, q1, n3, na, callO_def, p0, optP, isN_t, qp, ni, f, if_pos hb, if_pos hw, finO]
                    · rw [decide_eq_false hw] at ni
                      simp only [EV, runF, b_l_command, hz, hz1, splitL_one, ne_eq, reduceCtorEq, not_false_eq_true, hin, hs, atI_c0, atI_c1, atI_c2, e1, e2, e3, e4, c5, e5, q1, n3, na, callO_def, p0, optP, isN_t, qp, ni, if_pos hb, if_neg hw, finO]
                · rw [decide_eq_false hb] at na
                  simp only [EV, runF, b_l_command, hz, hz1, splitL_one, ne_eq, reduceCtorEq, not_false_eq_true, hin, hs, atI_c0, atI_c1, atI_c2, e1, e2, e3, e4, c5, e5, q1, n3, na, callO_def, p0, if_neg hb, finO]
              | [b] =>
                have q1 : ∀ h, pEq (.int ((0 + 1 + 1 : Nat) : Int)) (.int 1) h = .ok (.bl false) h := fun h => by rw [pEq_ii]; rfl
                have n3 : ∀ h, pNe (.int ((0 + 1 + 1 : Nat) : Int)) (.int 3) h = .ok (.bl true) h := fun h => by rw [pNe_ii]; rfl
                simp only [Nat.reduceAdd] at q1 n3
                simp only [EV, runF, b_l_command, hz, hz1, splitL_one, ne_eq, reduceCtorEq, not_false_eq_true, hin, hs, atI_c0, atI_c1, atI_c2, e1, e2, e3, e4, c5, e5, q1, n3, callO_def, p0, placeW, finO]
              | b :: c :: d :: r =>
                have q1 : ∀ h, pEq (.int ((r.length + 1 + 1 + 1 + 1 : Nat) : Int)) (.int 1) h = .ok (.bl false) h := fun h => by rw [pEq_ii, decide_eq_false (by omega)]
                have n3 : ∀ h, pNe (.int ((r.length + 1 + 1 + 1 + 1 : Nat) : Int)) (.int 3) h = .ok (.bl true) h := fun h => by rw [pNe_ii, decide_eq_false (by omega)]; rfl
                have lr : (r.map PV.str).length = r.length := List.length_map ..
                simp only [EV, runF, b_l_command, hz, hz1, splitL_one, ne_eq, reduceCtorEq, not_false_eq_true, hin, hs, atI_c0, atI_c1, atI_c2, e1, e2, e3, e4, c5, e5, lr, q1, n3, callO_def, p0, placeW, finO]
theorem mem_seen {f : Nat → List Nat} : ∀ {n i : Nat}, i < n → f i ∈ seenK f n
  | 0, i, h => by omega
  | n + 1, i, h => by
    show f i ∈ addK (seenK f n) (f n)
    rw [mem_addK]
    rcases Nat.lt_or_ge i n with q | q
    · exact .inl (mem_seen q)
    · exact .inr (by rw [show i = n by omega])
theorem seen_full {f : Nat → List Nat} : ∀ {n : Nat}, n ≤ (seenK f n).length → ∀ i j, i < j → j < n → f i ≠ f j
  | 0, _, _, _, _, h => by omega
  | n + 1, h, i, j, hij, hj => by
    change n + 1 ≤ (addK (seenK f n) (f n)).length at h
    rw [len_addK] at h
    have l := len_seenK f n
    split at h
    · omega
    · rename_i hn
      rcases Nat.lt_or_ge j n with q | q
      · exact seen_full (by omega) i j hij q
      · intro e
        have : j = n := by omega
        subst this
        rw [← e] at hn
        exact hn (mem_seen hij)
theorem setN_far {a b : List (List Nat)} (h : a.length + b.length ≤ setN (a ++ b)) : ∀ w ∈ a, w ∉ b := by
  intro w hw hb
  obtain ⟨i, hi, rfl⟩ := List.mem_iff_getElem.mp hw
  obtain ⟨j, hj, e⟩ := List.mem_iff_getElem.mp hb
  unfold setN at h
  rw [List.length_append] at h
  have := seen_full h i (a.length + j) (by omega) (by omega)
  apply this
  rw [List.getD_eq_getElem?_getD, List.getD_eq_getElem?_getD, List.getElem?_append_left hi, List.getElem?_append_right (by omega), List.getElem?_eq_getElem hi, show a.length + j - a.length = j by omega, List.getElem?_eq_getElem hj, e]
theorem dr_last (F0 X : List PV) (r : List L3.PO) : derefP (.lst F0 :: (r ++ [.lst X])) (.ref (r.length + 1)) = .ref (r.length + 1) := by
  unfold derefP
  simp
theorem dr_first (F0 : List PV) (r : List L3.PO) : derefP (.lst F0 :: r) (.ref 0) = .ref 0 := rfl
theorem live_last (F0 X : List PV) (r : List L3.PO) : liveL (.lst F0 :: (r ++ [.lst X])) (.ref (r.length + 1)) = some (r.length + 1, X) := by
  unfold liveL
  simp
theorem set_last (F0 X Y : List PV) (r : List L3.PO) : (L3.PO.lst F0 :: (r ++ [.lst X])).set (r.length + 1) (.lst Y) = .lst F0 :: (r ++ [.lst Y]) := by
  simp
theorem sl_last (F0 X : List PV) (r : List L3.PO) (lo hi : Option Int) : pSl (.ref (r.length + 1)) lo hi (.lst F0 :: (r ++ [.lst X])) = .ok (.lst (cut X lo hi)) (.lst F0 :: (r ++ [.lst X])) := by
  unfold pSl lsR lsM
  simp
theorem let_len : ∀ {X : List (List Nat)}, (∀ x ∈ X, ∃ c, c ∈ q_c3fcd3 ∧ x = [c]) → X.flatten.length = X.length ∧ (∀ c ∈ X.flatten, c ∈ q_c3fcd3) ∧ (X.map (fun l => l.length)).sum = X.length
  | [], _ => ⟨rfl, (fun _ h => by cases h), rfl⟩
  | x :: r, h => by
    obtain ⟨c, hc, rfl⟩ := h x (by simp)
    obtain ⟨h1, h2, h3⟩ := let_len (X := r) fun y hy => h y (List.mem_cons_of_mem _ hy)
    refine ⟨by simp [h1], ?_, by simp [h3]; omega⟩
    intro z hz
    rw [List.flatten_cons] at hz
    rcases List.mem_append.mp hz with e | e
    · rw [List.mem_singleton.mp e]; exact hc
    · exact h2 z e
theorem AZ_len : q_c3fcd3.length = 26 := by decide
theorem az_at (i : Int) : ∃ c, c ∈ q_c3fcd3 ∧ atI q_c3fcd3 (i % 26) = some c := by
  have h1 : 0 ≤ i % 26 := Int.emod_nonneg _ (by decide)
  have h2 : i % 26 < 26 := Int.emod_lt_of_pos _ (by decide)
  refine ⟨q_c3fcd3.getD (i % 26).toNat 0, getD_mem (by rw [AZ_len]; omega), atI_getD 0 h1 (by rw [AZ_len]; exact h2)⟩
theorem cm_exists {te : Ex} {cp : Ev} : ∀ {xs : List PV}, (∀ p ∈ xs, ∃ c, c ∈ q_c3fcd3 ∧ ∀ h, te (some p :: cp) h = .ok (.str [c]) h) → ∃ X : List (List Nat), X.length = xs.length ∧ (∀ x ∈ X, ∃ c, c ∈ q_c3fcd3 ∧ x = [c]) ∧ ∀ h, compL tYesE te cp xs h = .ok (X.map PV.str) h
  | [], _ => ⟨[], rfl, (fun _ h => by cases h), fun _ => rfl⟩
  | p :: r, h => by
    obtain ⟨c, hc, e⟩ := h p (by simp)
    obtain ⟨X, h1, h2, h3⟩ := cm_exists (xs := r) fun y hy => h y (List.mem_cons_of_mem _ hy)
    refine ⟨[c] :: X, by simp [h1], ?_, fun hp => ?_⟩
    · intro x hx
      rcases List.mem_cons.mp hx with e | e
      · exact ⟨c, hc, e⟩
      · exact h2 x e
    · show (tYesE (some p :: cp) hp).bind _ = _
      simp only [EV, e hp, h3 hp]
def NW (w : List Nat) : Prop := 1 ≤ w.length ∧ w.length ≤ 8 ∧ ∀ c ∈ w, c ∈ q_c3fcd3
theorem name_step (C : Fn → List PV → Out) (n at_ : Int) (k : Nat) (hat : 0 ≤ at_ ∧ at_ ≤ 7) (fs : List (List Nat)) (hf : fs.length ≤ 100) (r : List L3.PO) (o5 : Option PV) :
    ∃ o' w r', NW w ∧ w_l_names_2 C [some (.int n), some (.str q_c3fcd3), some (.int at_), some (.ref 0), some (.int (k : Int)), o5, none] (.lst (fs.map PV.str) :: r) = .nx [some (.int n), some (.str q_c3fcd3), some (.int at_), some (.ref 0), some (.int (k : Int)), o', none] (.lst ((fs ++ [w]).map PV.str) :: r') := by
  have n2 : n % 2 = 0 ∨ n % 2 = 1 := by omega
  have mm1 : ∀ x : Int, mulC 5 x = true := fun x => mulC_l rfl
  have mm2 : ∀ x : Int, mulC 3 x = true := fun x => mulC_l rfl
  have mm3 : ∀ x : Int, mulC x (1 - n % 2) = true := fun x => mulC_r (by rcases n2 with e | e <;> rw [e] <;> rfl)
  have mm4 : ∀ x : Int, mulC 7 x = true := fun x => mulC_l rfl
  have al : q_c3fcd3.length ≤ 16777216 := by decide
  obtain ⟨X, hX, hXm, cm⟩ := cm_exists (te := e_l_names_1 C) (cp := [some (.str q_c3fcd3), some (.int n), some (.int (k : Int))]) (xs := (List.range 8).map fun i => PV.int (0 + (i : Nat))) (fun p hp => by
    obtain ⟨j, hj, rfl⟩ := List.mem_map.mp hp
    obtain ⟨c, hc, e⟩ := az_at (n / 128 + 5 * (0 + (j : Int)) + 3 * ((k : Int) / 8) * (1 - n % 2))
    refine ⟨c, hc, fun h => ?_⟩
    simp only [EV, e_l_names_1, mm1, mm2, mm3, e, al])
  rw [List.length_map, List.length_range] at hX
  have b8 : bel 4611686018427387904 8 = true := rfl
  have l8 : ((List.range (Int.toNat 8)).map fun i => PV.int (0 + (i : Nat))).length < 16777216 := by simp
  have fz : (fs.map PV.str).length < 16777216 := by rw [List.length_map]; omega
  have cm' : ∀ h, compL tYesE (e_l_names_1 C) (capP [1, 0, 4] [some (.int n), some (.str q_c3fcd3), some (.int at_), some (.ref 0), some (.int (k : Int)), o5, none]) ((List.range (Int.toNat 8)).map fun i => PV.int (0 + (i : Nat))) h = .ok (X.map PV.str) h := cm
  have e0 := fun h => pEq_ii (n % 2) 1 h
  have hd : decide (0 < 8 - at_) = true := decide_eq_true (by omega)
  rcases n2 with hn | hn
  · rw [decide_eq_false (by omega)] at e0
    have h1 : 0 ≤ (k : Int) % 8 := Int.emod_nonneg _ (by decide)
    have h2 : (k : Int) % 8 < 8 := Int.emod_lt_of_pos _ (by decide)
    have a0 : ∀ x y : PV, atI [x, y] (n % 2) = some x := fun x y => by rw [hn]; rfl
    obtain ⟨m, hm⟩ : ∃ m : Nat, 1 + (k : Int) % 8 = (m : Int) := ⟨(1 + (k : Int) % 8).toNat, by omega⟩
    have cu := cut_to (X.map PV.str) m
    rw [← List.map_take] at cu
    have hXt : ∀ x ∈ X.take m, ∃ c, c ∈ q_c3fcd3 ∧ x = [c] := fun x hx => hXm x (List.mem_of_mem_take hx)
    obtain ⟨t1, t2, t3⟩ := let_len hXt
    have tl : (X.take m).length = m := by rw [List.length_take]; omega
    have jn := fun h => pJoin_l (ls := X.take m) (h := h) (by rw [t3]; omega)
    refine ⟨some (.ref (r.length + 1)), (X.take m).flatten, r ++ [.lst (X.map PV.str)], ⟨by omega, by omega, t2⟩, ?_⟩
    simp only [EV, w_l_names_2, b8, l8, cm', e0, a0, hm, hd, dr_last, dr_first, sl_last, cu, jn, isLst0, app0, fz]
    rw [List.map_append]; rfl
  · rw [decide_eq_true (by omega)] at e0
    have h1 : 0 ≤ n / 16 % (8 - at_) := Int.emod_nonneg _ (by omega)
    have h2 : n / 16 % (8 - at_) < 8 - at_ := Int.emod_lt_of_pos _ (by omega)
    have a0 : ∀ x y : PV, atI [x, y] (n % 2) = some y := fun x y => by rw [hn]; rfl
    obtain ⟨m, hm⟩ : ∃ m : Nat, at_ + 1 + n / 16 % (8 - at_) = (m : Int) := ⟨(at_ + 1 + n / 16 % (8 - at_)).toNat, by omega⟩
    obtain ⟨c, hc, ec⟩ := az_at (n / 128 + 7 * (k : Int) + 1)
    have hix : ixN (X.map PV.str).length at_ = some at_.toNat := by
      unfold ixN
      rw [if_pos hat.1, if_pos (by rw [List.length_map]; omega)]
    have sx : ∀ (ρ : Ev), setIxR (.str [c]) (.ref (r.length + 1)) (.int at_) ρ (.lst (fs.map PV.str) :: (r ++ [.lst (X.map PV.str)])) = .nx ρ (.lst (fs.map PV.str) :: (r ++ [.lst ((X.set at_.toNat [c]).map PV.str)])) := fun ρ => by
      unfold setIxR
      rw [live_last]
      simp only [hix]
      rw [set_last, List.map_set]
    have hYm : ∀ x ∈ X.set at_.toNat [c], ∃ c, c ∈ q_c3fcd3 ∧ x = [c] := fun x hx => by
      rcases List.mem_or_eq_of_mem_set hx with e | e
      · exact hXm x e
      · exact ⟨c, hc, e⟩
    have cu := cut_to ((X.set at_.toNat [c]).map PV.str) m
    rw [← List.map_take] at cu
    have hXt : ∀ x ∈ (X.set at_.toNat [c]).take m, ∃ c, c ∈ q_c3fcd3 ∧ x = [c] := fun x hx => hYm x (List.mem_of_mem_take hx)
    obtain ⟨t1, t2, t3⟩ := let_len hXt
    have tl : ((X.set at_.toNat [c]).take m).length = m := by rw [List.length_take, List.length_set]; omega
    have jn := fun h => pJoin_l (ls := (X.set at_.toNat [c]).take m) (h := h) (by rw [t3]; omega)
    refine ⟨some (.ref (r.length + 1)), ((X.set at_.toNat [c]).take m).flatten, r ++ [.lst ((X.set at_.toNat [c]).map PV.str)], ⟨by omega, by omega, t2⟩, ?_⟩
    simp only [EV, w_l_names_2, b8, l8, cm', e0, a0, hm, hd, mm4, ec, al, dr_last, dr_first, sx, sl_last, cu, jn, isLst0, app0, fz]
    rw [List.map_append]; rfl
abbrev cs : List Nat := [44, 32]
open PySem.StrLaws PySem.Builtin PySem.Builtin.Str in
theorem far_sub (x : Str) (a b : Nat) (hn : ∀ k, a ≤ k → k < b → ¬ At x (S cs) x.length k) : ∀ j, cs.isPrefixOf ((strSub x a b).cps.toList.drop j) = false := by
  intro j
  rw [Bool.eq_false_iff]
  intro z
  obtain ⟨r, hr⟩ := List.isPrefixOf_iff_prefix.mp z
  rw [strSub_toList] at hr
  have hl : 2 ≤ (((x.cps.toList.drop a).take (b - a)).drop j).length := by rw [← hr]; simp
  rw [List.length_drop, List.length_take, List.length_drop] at hl
  have hs : x.length = x.cps.toList.length := rfl
  refine hn (a + j) (by omega) (by omega) ⟨?_, ?_⟩
  · rw [S_len]; show a + j + 2 ≤ _; omega
  · rw [subAt_eq, beq_iff_eq, S_len, S_cps]
    rw [List.drop_take, List.drop_drop] at hr
    have h2 : ((x.cps.toList.drop (a + j)).take (b - a - j)).take 2 = [44, 32] := by rw [← hr]; rfl
    rw [List.take_take, Nat.min_eq_left (by omega)] at h2
    exact h2
open PySem.StrLaws PySem.Builtin PySem.Builtin.Str in
theorem far_parts (x : Str) : ∀ (cuts : List Nat) (a f : Nat), ChainG x (S cs) x.length a cuts f → (∀ k, f ≤ k → ¬ At x (S cs) x.length k) → ∀ p ∈ partsFrom x (S cs).length a cuts, ∀ j, cs.isPrefixOf (p.cps.toList.drop j) = false
  | [], a, f, h, hn, p, hp => by
    have e : f = a := h
    subst e
    rw [List.mem_singleton.mp hp]
    exact far_sub x f x.length fun k h1 _ => hn k h1
  | d :: r, a, f, h, hn, p, hp => by
    rcases List.mem_cons.mp hp with rfl | hp'
    · exact far_sub x a d h.2.2.1
    · exact far_parts x r _ f h.2.2.2 hn p hp'
open PySem.StrLaws PySem.Builtin PySem.Builtin.Str in
theorem split_far (t : List Nat) : ∀ p ∈ splitL t cs, ∀ j, cs.isPrefixOf (p.drop j) = false := by
  intro p hp
  obtain ⟨z, hz, rfl⟩ := List.mem_map.mp hp
  obtain ⟨f, hG, hn⟩ := occ_tight (S t) (S cs) (by rw [S_len]; decide)
  unfold Txt.split at hz
  split at hz
  · rename_i hc
    rw [List.mem_singleton.mp hz]
    rw [Bool.or_eq_true, decide_eq_true_eq, decide_eq_true_eq] at hc
    rcases hc with h | h
    · intro j
      rw [Bool.eq_false_iff]
      intro y
      have := (List.isPrefixOf_iff_prefix.mp y).length_le
      rw [S_len, S_len] at h
      rw [S_cps, List.length_drop] at this
      simp at this h
      omega
    · exfalso
      have k1 : Builtin.Str.strKind (S cs) = 1 := by unfold Builtin.Str.strKind; rw [if_pos (by rw [← Array.all_toList, S_cps]; decide)]
      have k2 : 1 ≤ Builtin.Str.strKind (S t) := by unfold Builtin.Str.strKind; split <;> (try split) <;> omega
      omega
  · split at hz
    · rename_i he
      rw [List.mem_singleton.mp hz]
      have e0 : occurrences (S t) (S cs) 0 (S t).length ((S t).length + 1) = [] := List.isEmpty_iff.mp he
      rw [e0] at hG
      have ef : f = 0 := hG
      subst ef
      rw [← sub_whole (S t)]
      exact far_sub (S t) 0 _ fun k h1 _ => hn k h1
    · rw [partsBetween_eq] at hz
      exact far_parts (S t) _ 0 f hG hn z hz
theorem join_cs (a b : List Nat) (r : List (List Nat)) : joinL cs (a :: b :: r) = a ++ 44 :: 32 :: joinL cs (b :: r) := by
  show a ++ cs ++ joinL cs (b :: r) = _
  simp
theorem join_unique : ∀ {ps ls : List (List Nat)}, ps ≠ [] → ls ≠ [] → (∀ p ∈ ps, ∀ j, cs.isPrefixOf (p.drop j) = false) → (∀ l ∈ ls, 44 ∉ l) → joinL cs ps = joinL cs ls → ps = ls
  | [], _, h, _, _, _, _ => absurd rfl h
  | _ :: _, [], _, h, _, _, _ => absurd rfl h
  | [p], [l], _, _, _, _, e => by
    have e : p = l := e
    rw [e]
  | [p], l :: m :: r, _, _, hp, _, e => by
    exfalso
    rw [join_cs] at e
    have e : p = l ++ 44 :: 32 :: joinL cs (m :: r) := e
    have := hp p (by simp) l.length
    rw [e, List.drop_left] at this
    cases this
  | p :: q :: r, [l], _, _, _, hl, e => by
    exfalso
    rw [join_cs] at e
    have e : p ++ 44 :: 32 :: joinL cs (q :: r) = l := e
    exact hl l (by simp) (by rw [← e]; simp)
  | p :: q :: r, l :: m :: s, _, _, hp, hl, e => by
    rw [join_cs, join_cs] at e
    have ih := fun (z : joinL cs (q :: r) = joinL cs (m :: s)) => join_unique (by simp) (by simp) (fun x hx => hp x (List.mem_cons_of_mem _ hx)) (fun x hx => hl x (List.mem_cons_of_mem _ hx)) z
    rcases List.append_eq_append_iff.mp e with ⟨a', h1, h2⟩ | ⟨c', h1, h2⟩
    · cases a' with
      | nil =>
        rw [List.append_nil] at h1
        injection h2 with _ h2
        injection h2 with _ h2
        rw [h1, ih h2]
      | cons x y =>
        exfalso
        injection h2 with h2 _
        exact hl l (by simp) (by rw [h1, ← h2]; simp)
    · cases c' with
      | nil =>
        rw [List.append_nil] at h1
        injection h2 with _ h2
        injection h2 with _ h2
        rw [h1, ih h2.symm]
      | cons x y =>
        exfalso
        cases y with
        | nil =>
          injection h2 with _ h2
          injection h2 with h2 _
          cases h2
        | cons y z =>
          injection h2 with h3 h2
          injection h2 with h4 _
          have := hp p (by simp) l.length
          rw [h1, List.drop_left, ← h3, ← h4] at this
          cases this
theorem listed_join {ls : List (List Nat)} (h : ∀ l ∈ ls, 44 ∉ l ∧ l ≠ []) : listedL (joinL cs ls) = ls := by
  unfold listedL
  cases ls with
  | nil => rfl
  | cons a r =>
    have ne : joinL cs (a :: r) ≠ [] := by
      intro z
      have ha := (h a (by simp)).2
      cases r with
      | nil => exact ha z
      | cons b r =>
        rw [join_cs] at z
        have := congrArg List.length z
        simp at this
    rw [if_neg ne]
    exact join_unique (split_ne _ _) (by simp) (split_far _) (fun l hl => (h l hl).1) (split_join _ _)
theorem name_loop (C : Fn → List PV → Out) (n at_ : Int) (hat : 0 ≤ at_ ∧ at_ ≤ 7) : ∀ (ks : List Nat) (fs : List (List Nat)) (r : List L3.PO) (o4 o5 : Option PV), fs.length + ks.length ≤ 100 → (∀ w ∈ fs, NW w) →
    ∃ (o4' o5' : Option PV) (fs' : List (List Nat)) (r' : List L3.PO), loopS (gNm 4) (w_l_names_2 C) (ks.map fun i => PV.int (0 + (i : Nat))) [some (.int n), some (.str q_c3fcd3), some (.int at_), some (.ref 0), o4, o5, none] (.lst (fs.map PV.str) :: r) = .nx [some (.int n), some (.str q_c3fcd3), some (.int at_), some (.ref 0), o4', o5', none] (.lst (fs'.map PV.str) :: r') ∧ fs'.length = fs.length + ks.length ∧ ∀ w ∈ fs', NW w
  | [], fs, r, o4, o5, _, h => ⟨o4, o5, fs, r, rfl, rfl, h⟩
  | k :: ks, fs, r, o4, o5, hl, h => by
    rw [List.length_cons] at hl
    obtain ⟨o', w, r1, hw, e⟩ := name_step C n at_ k hat fs (by omega) r o5
    obtain ⟨p4, p5, fs', r', e2, l2, h2⟩ := name_loop C n at_ hat ks (fs ++ [w]) r1 (some (.int (k : Int))) o' (by rw [List.length_append, List.length_singleton]; omega) (fun x hx => by
      rcases List.mem_append.mp hx with q | q
      · exact h x q
      · rw [List.mem_singleton.mp q]; exact hw)
    refine ⟨p4, p5, fs', r', ?_, by rw [l2, List.length_append, List.length_singleton, List.length_cons]; omega, h2⟩
    rw [List.map_cons, ev_loop]
    simp only [ev_gNm, List.set_cons_zero, List.set_cons_succ, Int.zero_add, e]
    simp only [Int.zero_add] at e2
    exact e2
abbrev NB : List (List Nat) := [[97], [98], [97, 98], [98, 97], [105, 116, 101, 109], [105, 116, 101, 109, 115], [99], [120], [120, 121], [121], [114, 111, 119], [114, 111, 119, 115]]
theorem add_ref0 (a b : List PV) (r : List L3.PO) : pAdd (.ref 0) (.lst b) (.lst a :: r) = if a.length + b.length ≤ sizeLine then .ok (.lst (a ++ b)) (.lst a :: r) else .bad := rfl
theorem strs_of : ∀ ls : List (List Nat), strsOf (ls.map PV.str) = some ls
  | [] => rfl
  | a :: r => by rw [List.map_cons, strsOf, strs_of r]; rfl
theorem lenset_l (ls : List (List Nat)) (h : List L3.PO) (hl : ls.length < 4000) : pLenSet (.lst (ls.map PV.str)) h = .ok (.int (setN ls : Nat)) h := by
  show (match strsOf (ls.map PV.str) with | some ls => if ls.length + 1 < scanBound then Res.ok (PV.int (setN ls : Nat)) h else .bad | none => .bad) = _
  rw [strs_of]
  have : scanBound = 4096 := rfl
  simp only [this]
  rw [if_pos (by omega)]
theorem l_names (k : Nat) (n : Int) : ∃ nm : List (List Nat), F (k + 1) .l_names [.int n] = .ok (.lst (nm.map PV.str)) ∧ nm.length = 12 ∧ ∀ w ∈ nm, nameOk w = true := by
  have h1 : 0 ≤ n / 2 % 8 := Int.emod_nonneg _ (by decide)
  have h2 : n / 2 % 8 < 8 := Int.emod_lt_of_pos _ (by decide)
  obtain ⟨o4, o5, fs, r, e, hl, hf⟩ := name_loop (F k) n (n / 2 % 8) ⟨h1, by omega⟩ (List.range 12) [] [] none none (by simp) (fun w hw => by cases hw)
  simp only [List.length_range, List.length_nil, Nat.zero_add] at hl
  have b12 : bel 4611686018427387904 12 = true := rfl
  have e' : loopS (gNm 4) (w_l_names_2 (F k)) ((List.range (Int.toNat 12)).map fun i => PV.int (0 + (i : Nat))) [some (.int n), some (.str q_c3fcd3), some (.int (n / 2 % 8)), some (.ref 0), none, none, none] [.lst []] = _ := e
  have lm : (fs.map PV.str).length = 12 := by rw [List.length_map, hl]
  have ls := fun h => lenset_l (fs ++ CW) h (by rw [List.length_append, hl]; decide)
  have ls' : ∀ h, pLenSet (.lst (fs.map PV.str ++ [.str [97, 115], .str [98, 101, 116, 119, 101, 101, 110], .str [98, 111, 100, 121], .str [101, 108, 115, 101], .str [101, 110, 100], .str [102, 111, 114], .str [105, 102], .str [105, 110], .str [112, 105, 101, 99, 101], .str [117, 115, 101], .str [119, 105, 116, 104]])) h = .ok (.int (setN (fs ++ CW) : Nat)) h := fun h => by
    have := ls h
    rw [List.map_append] at this
    exact this
  by_cases q : setN (fs ++ CW) < 23
  · have d : decide (((setN (fs ++ CW) : Nat) : Int) < 23) = true := decide_eq_true (by omega)
    have fz : ∀ h, frzV h (.lst (NB.map PV.str)) = some (.lst (NB.map PV.str), h) := fun h => frz_lst h (pures_str NB)
    simp only [List.map_cons, List.map_nil] at fz
    refine ⟨NB, ?_, rfl, by decide⟩
    show runF (b_l_names (F k)) 1 7 [.int n] = _
    simp only [EV, runF, b_l_names, b12, e', add_ref0, lm, ls', d, dr_first, fz, finO]
  · have d : decide (((setN (fs ++ CW) : Nat) : Int) < 23) = false := decide_eq_false (by omega)
    refine ⟨fs, ?_, hl, fun w hw => ?_⟩
    · show runF (b_l_names (F k)) 1 7 [.int n] = _
      have fz : frzV (.lst (fs.map PV.str) :: r) (.ref 0) = some (.lst (fs.map PV.str), (.froz (.lst (fs.map PV.str))) :: r) := by
        show (if pures (fs.map PV.str) = true then some (PV.lst (fs.map PV.str), (L3.PO.lst (fs.map PV.str) :: r).set 0 (.froz (.lst (fs.map PV.str)))) else none) = _
        rw [if_pos (pures_str fs)]; rfl
      simp only [EV, runF, b_l_names, b12, e', add_ref0, lm, ls', d, dr_first, fz, finO]
    · have hw1 := hf w hw
      have hw2 : w ∉ CW := setN_far (a := fs) (b := CW) (by rw [hl]; show 12 + 11 ≤ _; omega) w hw
      unfold nameOk
      rw [decide_eq_true ⟨hw1.1, hw1.2.1⟩, decide_eq_false hw2, List.all_eq_true.mpr fun c hc => List.contains_iff_mem.mpr (hw1.2.2 c hc)]
      rfl
def cellA (ns : List Int) (j : Nat) : Int := ns.getD j 0
theorem cell_at (k : Nat) (ns : List Int) (j : Nat) : F (k + 1) .l_cell_at [.giv (ns.map PV.int), .int j] = .ok (.int (cellA ns j)) := by
  show runF (b_l_cell_at (F k)) 2 2 [.giv (ns.map PV.int), .int j] = _
  by_cases q : j < ns.length
  · have e : atI (ns.map PV.int) (j : Int) = some (.int (cellA ns j)) := by
      refine atI_at (by omega) ?_
      unfold cellA
      simp [q]
    have q' : decide ((j : Int) < ((ns.map PV.int).length : Int)) = true := by simpa using q
    simp only [EV, runF, b_l_cell_at, q', e, finO]
  · have q' : decide ((j : Int) < ((ns.map PV.int).length : Int)) = false := by simpa using q
    have e : cellA ns j = 0 := by unfold cellA; rw [List.getD_eq_getElem?_getD, List.getElem?_eq_none (by omega)]; rfl
    simp only [EV, runF, b_l_cell_at, q', e, finO]
def mix (c j : Int) : Int := (c + 31 * j * j + 7) * 48271 % 2147483647
theorem mixed (k : Nat) (c : Int) (j : Nat) (hj : j ≤ 1000000) : F (k + 1) .l_mixed [.int c, .int j] = .ok (.int (mix c j)) := by
  show runF (b_l_mixed (F k)) 2 2 [.int c, .int j] = _
  have m1 : mulC 31 (j : Int) = true := mulC_l rfl
  have m2 : mulC (31 * (j : Int)) (j : Int) = true := mulC_r (bel_iff.mpr (by omega))
  have m3 : ∀ x : Int, mulC x 48271 = true := fun x => mulC_r rfl
  simp only [EV, runF, b_l_mixed, m1, m2, m3, finO, decide_true, Int.reduceLT]
  rfl
abbrev Nms (nm : List (List Nat)) : Prop := nm.length = 12 ∧ ∀ w ∈ nm, nameOk w = true
theorem nm_at {nm : List (List Nat)} (h : Nms nm) (i : Int) : ∃ w, nameOk w = true ∧ atI (nm.map PV.str) (i % 12) = some (.str w) := by
  have h1 : 0 ≤ i % 12 := Int.emod_nonneg _ (by decide)
  have h2 : i % 12 < 12 := Int.emod_lt_of_pos _ (by decide)
  refine ⟨nm.getD (i % 12).toNat [], h.2 _ (getD_mem (by rw [h.1]; omega)), ?_⟩
  refine atI_at h1 ?_
  rw [List.getElem?_map, List.getD_eq_getElem?_getD, List.getElem?_eq_getElem (by rw [h.1]; omega)]
  rfl
theorem cm_ex {P : List Nat → Prop} {te : Ex} {cp : Ev} : ∀ {xs : List PV}, (∀ p ∈ xs, ∃ w, P w ∧ ∀ h, te (some p :: cp) h = .ok (.str w) h) → ∃ X : List (List Nat), X.length = xs.length ∧ (∀ x ∈ X, P x) ∧ ∀ h, compL tYesE te cp xs h = .ok (X.map PV.str) h
  | [], _ => ⟨[], rfl, (fun _ h => by cases h), fun _ => rfl⟩
  | p :: r, h => by
    obtain ⟨c, hc, e⟩ := h p (by simp)
    obtain ⟨X, h1, h2, h3⟩ := cm_ex (xs := r) fun y hy => h y (List.mem_cons_of_mem _ hy)
    refine ⟨c :: X, by simp [h1], ?_, fun hp => ?_⟩
    · intro x hx
      rcases List.mem_cons.mp hx with e | e
      · rw [e]; exact hc
      · exact h2 x e
    · show (tYesE (some p :: cp) hp).bind _ = _
      simp only [EV, e hp, h3 hp]
theorem sum_bound {n : Nat} : ∀ {ls : List (List Nat)}, (∀ l ∈ ls, l.length ≤ n) → (ls.map (fun l => l.length)).sum ≤ ls.length * n
  | [], _ => by simp
  | a :: r, h => by
    have h1 := h a (by simp)
    have h2 := sum_bound (ls := r) fun l hl => h l (List.mem_cons_of_mem _ hl)
    rw [List.map_cons, List.sum_cons, List.length_cons, Nat.add_mul, Nat.one_mul]
    omega
theorem join_len (y : List Nat) : ∀ ls : List (List Nat), (joinL y ls).length ≤ (ls.map (fun l => l.length)).sum + ls.length * y.length
  | [] => by simp [joinL]
  | [x] => by simp [joinL]
  | x :: z :: r => by
    have ih := join_len y (z :: r)
    show (x ++ y ++ joinL y (z :: r)).length ≤ _
    rw [List.length_append, List.length_append, List.map_cons, List.sum_cons, List.length_cons, Nat.add_mul, Nat.one_mul]
    omega
def PT (t : List Nat) : Prop := (∃ ps, pathV t = some ps) ∧ t.length ≤ 36 ∧ t ≠ []
theorem path_by (k : Nat) {nm : List (List Nat)} (h : Nms nm) (n : Int) : ∃ t, PT t ∧ F (k + 1) .l_path_by [.lst (nm.map PV.str), .int n] = .ok (.str t) := by
  have h1 : 0 ≤ n % 4 := Int.emod_nonneg _ (by decide)
  have h2 : n % 4 < 4 := Int.emod_lt_of_pos _ (by decide)
  obtain ⟨m, hm⟩ : ∃ m : Nat, 1 + n % 4 = (m : Int) := ⟨(1 + n % 4).toNat, by omega⟩
  have mm : ∀ x : Int, mulC 12 x = true := fun x => mulC_l rfl
  obtain ⟨X, hX, hXm, cm⟩ := cm_ex (P := fun w => nameOk w = true) (te := e_l_path_by_1 (F k)) (cp := [some (.lst (nm.map PV.str)), some (.int n)]) (xs := (List.range m).map fun i => PV.int (0 + (i : Nat))) (fun p hp => by
    obtain ⟨j, hj, rfl⟩ := List.mem_map.mp hp
    have hj := List.mem_range.mp hj
    obtain ⟨w, hw, e⟩ := nm_at h (n / 4 / (1 + 12 * (0 + (j : Int))))
    have d : decide (0 < 1 + 12 * (0 + (j : Int)) ∧ 1 + 12 * (0 + (j : Int)) < 1073741824) = true := decide_eq_true (by omega)
    refine ⟨w, hw, fun hp => ?_⟩
    simp only [EV, e_l_path_by_1, mm, d, e])
  rw [List.length_map, List.length_range] at hX
  have b : bel 4611686018427387904 (m : Int) = true := bel_iff.mpr (by omega)
  have lr : ((List.range m).map fun i => PV.int (0 + (i : Nat))).length < 16777216 := by rw [List.length_map, List.length_range]; omega
  have sb := sum_bound (n := 8) (ls := X) fun l hl => (nameOk_len (hXm l hl)).2
  have jl := join_len [46] X
  simp only [List.length_cons, List.length_nil] at jl
  have jn := fun hp => pJoin_of (sep := [46]) (q := .lst (X.map PV.str)) (ls := X) (h := hp) rfl (by simp only [List.length_cons, List.length_nil]; omega)
  have cm' : ∀ hp, compL tYesE (e_l_path_by_1 (F k)) (capP [0, 1] [some (.lst (nm.map PV.str)), some (.int n)]) ((List.range m).map fun i => PV.int (0 + (i : Nat))) hp = .ok (X.map PV.str) hp := cm
  have ne : X ≠ [] := by intro z; rw [z] at hX; simp at hX; omega
  have sp : splitC 46 (joinL [46] X) = X := splitC_join ne fun w hw => name_free (hXm w hw) AZ_no46
  refine ⟨joinL [46] X, ⟨⟨X, ?_⟩, by omega, ?_⟩, ?_⟩
  · unfold pathV
    rw [sp, decide_eq_true (by omega), List.all_eq_true.mpr hXm]
    rfl
  · intro z
    rw [z] at sp
    change [[]] = X at sp
    have := nameOk_len (hXm [] (by rw [← sp]; simp))
    simp at this
  · show runF (b_l_path_by (F k)) 2 2 [.lst (nm.map PV.str), .int n] = _
    simp only [EV, runF, b_l_path_by, hm, b, Int.toNat_natCast, lr, cm', jn, finO]
theorem brk_is {a b r : List Nat} (h1 : (40 : Nat) ∉ a) (h2 : (41 : Nat) ∉ a) (h3 : (41 : Nat) ∉ b) : brk (a ++ 40 :: (b ++ 41 :: r)) = some (a, b, r) := by
  have f1 : firstFrom [40] (a ++ 40 :: (b ++ 41 :: r)) 0 = some a.length := by
    have := first_app (c := 40) (y := []) (a := a) (b := b ++ 41 :: r) h1
    rw [List.append_assoc] at this
    exact this
  have f2 : firstFrom [41] (a ++ 40 :: (b ++ 41 :: r)) 0 = some (a.length + 1 + b.length) := by
    have := first_app (c := 41) (y := []) (a := a ++ 40 :: b) (b := r) (by
      intro z
      rcases List.mem_append.mp z with z | z
      · exact h2 z
      · rcases List.mem_cons.mp z with z | z
        · cases z
        · exact h3 z)
    rw [List.append_assoc, List.append_assoc] at this
    rw [show a.length + 1 + b.length = (a ++ 40 :: b).length by simp; omega]
    exact this
  unfold brk
  rw [f1, f2]
  simp only [if_pos (show a.length < a.length + 1 + b.length by omega)]
  have d1 : (a ++ 40 :: (b ++ 41 :: r)).take a.length = a := List.take_left
  have d2 : (a ++ 40 :: (b ++ 41 :: r)).drop (a.length + 1) = b ++ 41 :: r := by
    rw [← List.drop_drop, List.drop_left]; rfl
  have d3 : (b ++ 41 :: r).take (a.length + 1 + b.length - (a.length + 1)) = b := by
    rw [show a.length + 1 + b.length - (a.length + 1) = b.length by omega, List.take_left]
  have d4 : (a ++ 40 :: (b ++ 41 :: r)).drop (a.length + 1 + b.length + 1) = r := by
    rw [show a.length + 1 + b.length + 1 = (a.length + 1) + (b.length + 1) by omega, ← List.drop_drop, d2, ← List.drop_drop, List.drop_left]; rfl
  rw [d1, d2, d3, d4]
def RP (t : List Nat) : Prop := isNon (rowPV t) = false ∧ t.length ≤ 240 ∧ Lt t
def RN (t : List Nat) : Prop := (∃ ns, rowN t = some ns) ∧ t.length ≤ 240 ∧ Lt t
theorem PT.lt {t : List Nat} (h : PT t) : Lt t := by
  obtain ⟨⟨ps, hp⟩, _⟩ := h
  intro c hc
  rcases path_mem hp c hc with z | z
  · exact AZ_lt c z
  · omega
theorem AZ_no44 : (44 : Nat) ∉ q_c3fcd3 := by decide
theorem AZ_no40 : (40 : Nat) ∉ q_c3fcd3 := by decide
theorem PT.free {t : List Nat} (h : PT t) {c : Nat} (h1 : c ∉ q_c3fcd3) (h2 : c ≠ 46) : c ∉ t := by
  obtain ⟨⟨ps, hp⟩, _⟩ := h
  exact path_free hp h1 h2
theorem join_lt {y : List Nat} (hy : Lt y) {ls : List (List Nat)} (h : ∀ l ∈ ls, Lt l) : Lt (joinL y ls) := by
  intro c hc
  rcases join_inv hc with z | ⟨w, hw, z⟩
  · exact hy c z
  · exact h w hw c z
theorem rp_of {ls : List (List Nat)} (hl : ls.length ≤ 6) (h : ∀ l ∈ ls, PT l) : RP (joinL cs ls) := by
  have e := listed_join (ls := ls) fun l hl => ⟨(h l hl).free AZ_no44 (by decide), (h l hl).2.2⟩
  refine ⟨?_, ?_, join_lt (by decide) fun l hl => (h l hl).lt⟩
  · unfold rowPV
    rw [e, if_neg]
    · rfl
    · intro z
      obtain ⟨l, hl, q⟩ := List.any_eq_true.mp z
      obtain ⟨⟨ps, hp⟩, _⟩ := h l hl
      rw [hp] at q
      cases q
  · have a := join_len cs ls
    have b := sum_bound (n := 36) fun l hl => (h l hl).2.1
    simp only [List.length_cons, List.length_nil] at a
    omega
theorem rn_of {ls : List (List Nat)} (hl : ls.length ≤ 6) (h : ∀ l ∈ ls, nameOk l = true) : RN (joinL cs ls) := by
  have e := listed_join (ls := ls) fun l hl => ⟨name_free (h l hl) AZ_no44, fun z => by have := nameOk_len (h l hl); rw [z] at this; simp at this⟩
  refine ⟨⟨ls, ?_⟩, ?_, join_lt (by decide) fun l hl => nameOk_lt (h l hl)⟩
  · unfold rowN
    rw [e, List.all_eq_true.mpr h]
    rfl
  · have a := join_len cs ls
    have b := sum_bound (n := 8) fun l hl => (nameOk_len (h l hl)).2
    simp only [List.length_cons, List.length_nil] at a
    omega
theorem rn_free {t : List Nat} (h : RN t) : (41 : Nat) ∉ t := by
  obtain ⟨⟨ns, hn⟩, _⟩ := h
  obtain ⟨e, hs⟩ := rowN_some hn
  rw [e] at hs
  intro z
  unfold listedL at hs
  split at hs
  · rename_i e; rw [e] at z; cases z
  · rw [← split_join t [44, 32]] at z
    rcases join_inv z with z | ⟨w, hw, z⟩
    · simp at z
    · exact name_free (hs w hw) AZ_no41 z
abbrev Cm (t : List Nat) : Prop := isNon (cmdV t) = false
theorem cm_bare {t l : List Nat} (h : lookD dv_BARE t = some l) : Cm t := by unfold Cm cmdV; rw [h]; rfl
theorem cm_for {a p : List Nat} (ha : nameOk a = true) (hp : PT p) : Cm (wFor ++ (a ++ (wIn ++ p))) := by
  cases q : lookD dv_BARE (wFor ++ (a ++ (wIn ++ p))) with
  | some l => exact cm_bare q
  | none =>
    obtain ⟨⟨ps, hps⟩, _⟩ := hp
    have e : cmdV (wFor ++ (a ++ (wIn ++ p))) = forV (a ++ (wIn ++ p)) := by unfold cmdV; rw [q]; rfl
    have s : splitC 32 (a ++ (wIn ++ p)) = [a, [105, 110], p] := by
      show splitC 32 (a ++ 32 :: ([105, 110] ++ 32 :: p)) = _
      rw [splitC_cons _ (name_free ha AZ_no32), splitC_cons _ (by decide), splitC_free (path_free hps AZ_no32 (by decide))]
    unfold Cm
    rw [e, forV_eq, s]
    simp only [forW, if_true, ha, hps]
    rfl
theorem cm_if {p : List Nat} (hp : PT p) : Cm (wIf ++ p) := by
  cases q : lookD dv_BARE (wIf ++ p) with
  | some l => exact cm_bare q
  | none =>
    obtain ⟨⟨ps, hps⟩, _⟩ := hp
    have e : cmdV (wIf ++ p) = ifV p := by unfold cmdV; rw [q]; rfl
    unfold Cm
    rw [e]
    unfold ifV
    rw [hps]
    rfl
theorem no_pre {w t : List Nat} {c : Nat} (hc : c ∈ w) (h : c ∉ t) : w.isPrefixOf t = false := by
  rw [Bool.eq_false_iff]
  intro z
  exact h ((List.isPrefixOf_iff_prefix.mp z).subset hc)
theorem cm_path {p : List Nat} (hp : PT p) : Cm p := by
  cases q : lookD dv_BARE p with
  | some l => exact cm_bare q
  | none =>
    have n32 := hp.free AZ_no32 (by decide)
    have n40 := hp.free AZ_no40 (by decide)
    obtain ⟨⟨ps, hps⟩, _⟩ := hp
    have e : cmdV p = placeV p := by
      unfold cmdV
      rw [q, no_pre (w := wFor) (c := 32) (by decide) n32, no_pre (w := wIf) (c := 32) (by decide) n32, no_pre (w := wUse) (c := 32) (by decide) n32, no_pre (w := wBodyP) (c := 40) (by decide) n40, no_pre (w := wPiece) (c := 32) (by decide) n32]
      rfl
    unfold Cm
    rw [e, placeV_eq, splitC_free n32]
    simp only [placeW, hps]
    rfl
theorem cm_place {p w : List Nat} (hp : PT p) (hw : w ∈ tv_WAYS) : Cm (p ++ (wAs ++ w)) := by
  cases q : lookD dv_BARE (p ++ (wAs ++ w)) with
  | some l => exact cm_bare q
  | none =>
    have n32 := hp.free AZ_no32 (by decide)
    have n40 := hp.free AZ_no40 (by decide)
    obtain ⟨⟨ps, hps⟩, _⟩ := hp
    have s : splitC 32 (p ++ (wAs ++ w)) = [p, [97, 115], w] := by
      show splitC 32 (p ++ 32 :: ([97, 115] ++ 32 :: w)) = _
      rw [splitC_cons _ n32, splitC_cons _ (by decide), splitC_free (ways_free w hw)]
    have w40 : ∀ l ∈ tv_WAYS, (40 : Nat) ∉ l := by decide
    have m40 : (40 : Nat) ∉ p ++ (wAs ++ w) := by
      intro z
      rcases List.mem_append.mp z with z | z
      · exact n40 z
      · rcases List.mem_append.mp z with z | z
        · revert z; decide
        · exact w40 w hw z
    have nf : ∀ x, pathV x = none → p ≠ x := fun x hx z => by rw [z, hx] at hps; cases hps
    have e : cmdV (p ++ (wAs ++ w)) = placeV (p ++ (wAs ++ w)) := by
      unfold cmdV
      rw [q, show wFor.isPrefixOf (p ++ (wAs ++ w)) = false from not_pre (w := [102, 111, 114]) s (nf _ rfl) (by decide), show wIf.isPrefixOf (p ++ (wAs ++ w)) = false from not_pre (w := [105, 102]) s (nf _ rfl) (by decide), show wUse.isPrefixOf (p ++ (wAs ++ w)) = false from not_pre (w := [117, 115, 101]) s (nf _ rfl) (by decide), no_pre (w := wBodyP) (c := 40) (by decide) m40, show wPiece.isPrefixOf (p ++ (wAs ++ w)) = false from not_pre (w := [112, 105, 101, 99, 101]) s (nf _ rfl) (by decide)]
      rfl
    unfold Cm
    rw [e, placeV_eq, s]
    simp only [placeW, hps, if_true, if_pos hw]
    rfl
theorem use_is {u : List Nat} (q : lookD dv_BARE (wUse ++ u) = none) : cmdV (wUse ++ u) = useV u := by unfold cmdV; rw [q]; rfl
theorem piece_is {u : List Nat} (q : lookD dv_BARE (wPiece ++ u) = none) : cmdV (wPiece ++ u) = pieceV u := by unfold cmdV; rw [q]; rfl
theorem cm_use {a b : List Nat} (ha : nameOk a = true) (hb : RP b) : Cm (wUse ++ (a ++ 40 :: (b ++ [41]))) := by
  cases q : lookD dv_BARE (wUse ++ (a ++ 40 :: (b ++ [41]))) with
  | some l => exact cm_bare q
  | none =>
    unfold Cm
    rw [use_is q]
    unfold useV
    rw [brk_is (name_free ha AZ_no40) (name_free ha AZ_no41) (row_free hb.1)]
    simp only [ha, hb.1, if_true, Bool.false_eq_true, if_false]
    rfl
theorem cm_use2 {a b c : List Nat} (ha : nameOk a = true) (hb : RP b) (hc : RN c) : Cm (wUse ++ (a ++ 40 :: (b ++ 41 :: (wWith ++ c)))) := by
  cases q : lookD dv_BARE (wUse ++ (a ++ 40 :: (b ++ 41 :: (wWith ++ c)))) with
  | some l => exact cm_bare q
  | none =>
    obtain ⟨⟨ns, hn⟩, _⟩ := hc
    unfold Cm
    rw [use_is q]
    unfold useV
    rw [brk_is (name_free ha AZ_no40) (name_free ha AZ_no41) (row_free hb.1)]
    have t6 : (wWith ++ c).take 6 = wWith := List.take_left (l₁ := wWith)
    have d6 : (wWith ++ c).drop 6 = c := List.drop_left (l₁ := wWith)
    simp only [ha, hb.1, if_true, Bool.false_eq_true, if_false, t6, d6, hn, if_neg (show ¬ (wWith ++ c = []) by simp)]
    rfl
theorem cm_body {b : List Nat} (hb : RP b) : Cm (wBodyP ++ (b ++ [41])) := by
  cases q : lookD dv_BARE (wBodyP ++ (b ++ [41])) with
  | some l => exact cm_bare q
  | none =>
    have e : cmdV (wBodyP ++ (b ++ [41])) = bodyV (wBodyP ++ (b ++ [41])) := by unfold cmdV; rw [q]; rfl
    unfold Cm
    rw [e, bodyV_yes hb.1]
    rfl
theorem cm_piece {a b : List Nat} (ha : nameOk a = true) (hb : RN b) : Cm (wPiece ++ (a ++ 40 :: (b ++ [41]))) := by
  cases q : lookD dv_BARE (wPiece ++ (a ++ 40 :: (b ++ [41]))) with
  | some l => exact cm_bare q
  | none =>
    have f := rn_free hb
    obtain ⟨⟨ns, hn⟩, _⟩ := hb
    unfold Cm
    rw [piece_is q]
    unfold pieceV
    rw [brk_is (name_free ha AZ_no40) (name_free ha AZ_no41) f]
    simp only [ha, hn, if_true]
    rfl
theorem cm_piece2 {a b d : List Nat} (ha : nameOk a = true) (hb : RN b) (hd : d ∈ tv_MANIES) : Cm (wPiece ++ (a ++ 40 :: (b ++ 41 :: (wBody ++ d)))) := by
  cases q : lookD dv_BARE (wPiece ++ (a ++ 40 :: (b ++ 41 :: (wBody ++ d)))) with
  | some l => exact cm_bare q
  | none =>
    have f := rn_free hb
    obtain ⟨⟨ns, hn⟩, _⟩ := hb
    unfold Cm
    rw [piece_is q]
    unfold pieceV
    rw [brk_is (name_free ha AZ_no40) (name_free ha AZ_no41) f]
    have t6 : (wBody ++ d).take 6 = wBody := List.take_left (l₁ := wBody)
    have d6 : (wBody ++ d).drop 6 = d := List.drop_left (l₁ := wBody)
    simp only [ha, hn, if_true, t6, d6, if_neg (show ¬ (wBody ++ d = []) by simp), hd, and_self]
    rfl
theorem add_ok (a b : List Nat) (h : List L3.PO) (hz : a.length + b.length ≤ 16777216) : pAdd (.str a) (.str b) h = .ok (.str (a ++ b)) h := by
  rw [add_ss, if_pos (by rw [szl]; exact hz)]
theorem at14 {Q : PV → Prop} {a0 a1 a2 a3 a4 a5 a6 a7 a8 a9 a10 a11 a12 a13 : PV} (n : Int) (q0 : Q a0) (q1 : Q a1) (q2 : Q a2) (q3 : Q a3) (q4 : Q a4) (q5 : Q a5) (q6 : Q a6) (q7 : Q a7) (q8 : Q a8) (q9 : Q a9) (q10 : Q a10) (q11 : Q a11) (q12 : Q a12) (q13 : Q a13) : ∃ v, Q v ∧ atI [a0, a1, a2, a3, a4, a5, a6, a7, a8, a9, a10, a11, a12, a13] (n % 14) = some v := by
  have h1 : 0 ≤ n % 14 := Int.emod_nonneg _ (by decide)
  have h2 : n % 14 < 14 := Int.emod_lt_of_pos _ (by decide)
  generalize n % 14 = i at *
  obtain ⟨m, rfl⟩ : ∃ m : Nat, i = (m : Int) := ⟨i.toNat, by omega⟩
  match m, h2 with
  | 0, _ => exact ⟨_, q0, rfl⟩
  | 1, _ => exact ⟨_, q1, rfl⟩
  | 2, _ => exact ⟨_, q2, rfl⟩
  | 3, _ => exact ⟨_, q3, rfl⟩
  | 4, _ => exact ⟨_, q4, rfl⟩
  | 5, _ => exact ⟨_, q5, rfl⟩
  | 6, _ => exact ⟨_, q6, rfl⟩
  | 7, _ => exact ⟨_, q7, rfl⟩
  | 8, _ => exact ⟨_, q8, rfl⟩
  | 9, _ => exact ⟨_, q9, rfl⟩
  | 10, _ => exact ⟨_, q10, rfl⟩
  | 11, _ => exact ⟨_, q11, rfl⟩
  | 12, _ => exact ⟨_, q12, rfl⟩
  | 13, _ => exact ⟨_, q13, rfl⟩
  | m + 14, h => omega
theorem way_at (i : Int) : ∃ w, w ∈ tv_WAYS ∧ atI [PV.str [119, 111, 114, 100], .str [110, 117, 109, 98, 101, 114], .str [113, 117, 111, 116, 101, 100], .str [112, 108, 97, 105, 110], .str [108, 105, 110, 101]] (i % 5) = some (.str w) := by
  have h1 : 0 ≤ i % 5 := Int.emod_nonneg _ (by decide)
  have h2 : i % 5 < 5 := Int.emod_lt_of_pos _ (by decide)
  refine ⟨tv_WAYS.getD (i % 5).toNat [], getD_mem (by show _ < 5; omega), ?_⟩
  refine atI_at h1 ?_
  generalize e : (i % 5).toNat = m
  have hm : m < 5 := by omega
  match m, hm with
  | 0, _ => rfl
  | 1, _ => rfl
  | 2, _ => rfl
  | 3, _ => rfl
  | 4, _ => rfl
theorem dig_at (i : Int) : ∃ c, [c] ∈ tv_MANIES ∧ atI [48, 49, 50, 51] (i % 4) = some c := by
  have h1 : 0 ≤ i % 4 := Int.emod_nonneg _ (by decide)
  have h2 : i % 4 < 4 := Int.emod_lt_of_pos _ (by decide)
  have : i % 4 = 0 ∨ i % 4 = 1 ∨ i % 4 = 2 ∨ i % 4 = 3 := by omega
  rcases this with e | e | e | e <;> rw [e]
  · exact ⟨48, by decide, rfl⟩
  · exact ⟨49, by decide, rfl⟩
  · exact ⟨50, by decide, rfl⟩
  · exact ⟨51, by decide, rfl⟩
theorem frz_nm (nm : List (List Nat)) (h : List L3.PO) : frzV h (.lst (nm.map PV.str)) = some (.lst (nm.map PV.str), h) := frz_lst h (pures_str nm)
def TQ (v : PV) : Prop := ∃ t, v = .str t ∧ Cm t ∧ t.length ≤ 600 ∧ Lt t
theorem tq {t s : List Nat} (e : t = s) (c : Cm s) (l : s.length ≤ 600) (z : Lt s) : TQ (.str t) := ⟨t, rfl, by rw [e]; exact c, by rw [e]; exact l, by rw [e]; exact z⟩
theorem lt_app {a b : List Nat} (ha : Lt a) (hb : Lt b) : Lt (a ++ b) := fun c hc => (List.mem_append.mp hc).elim (ha c) (hb c)
theorem lt_cons {a : Nat} {b : List Nat} (ha : a < 1114112) (hb : Lt b) : Lt (a :: b) := fun c hc => (List.mem_cons.mp hc).elim (fun e => e ▸ ha) (hb c)
theorem text_by (k : Nat) {nm : List (List Nat)} (h : Nms nm) (n : Int) : ∃ t, F (k + 2) .l_text_by [.lst (nm.map PV.str), .int n] = .ok (.str t) ∧ Cm t ∧ t.length ≤ 600 ∧ Lt t := by
  obtain ⟨p, hp, ep⟩ := path_by k h (n / 11)
  have a1 : 0 ≤ n / 13 % 6 := Int.emod_nonneg _ (by decide)
  have a2 : n / 13 % 6 < 6 := Int.emod_lt_of_pos _ (by decide)
  have a3 : 0 ≤ n / 17 % 6 := Int.emod_nonneg _ (by decide)
  have a4 : n / 17 % 6 < 6 := Int.emod_lt_of_pos _ (by decide)
  obtain ⟨m1, hm1⟩ : ∃ m : Nat, n / 13 % 6 = (m : Int) := ⟨(n / 13 % 6).toNat, by omega⟩
  obtain ⟨m2, hm2⟩ : ∃ m : Nat, n / 17 % 6 = (m : Int) := ⟨(n / 17 % 6).toNat, by omega⟩
  obtain ⟨X, hX, hXm, cmX⟩ := cm_ex (P := PT) (te := e_l_text_by_1 (F (k + 1))) (cp := [some (.lst (nm.map PV.str)), some (.int n)]) (xs := (List.range m1).map fun i => PV.int (0 + (i : Nat))) (fun q hq => by
    obtain ⟨j, hj, rfl⟩ := List.mem_map.mp hq
    have hj := List.mem_range.mp hj
    have mx := mixed k n j (by omega)
    obtain ⟨w, hw, e⟩ := path_by k h (mix n j / 3)
    refine ⟨w, hw, fun hp => ?_⟩
    simp only [EV, e_l_text_by_1, Int.zero_add, callO_def, mx, frz_nm, e])
  obtain ⟨Y, hY, hYm, cmY⟩ := cm_ex (P := fun w => nameOk w = true) (te := e_l_text_by_2 (F (k + 1))) (cp := [some (.lst (nm.map PV.str)), some (.int n)]) (xs := (List.range m2).map fun i => PV.int (0 + (i : Nat))) (fun q hq => by
    obtain ⟨j, hj, rfl⟩ := List.mem_map.mp hq
    have hj := List.mem_range.mp hj
    have mx := mixed k n (9 + j) (by omega)
    rw [Int.natCast_add] at mx
    simp only [Int.cast_ofNat_Int] at mx
    obtain ⟨w, hw, e⟩ := nm_at h (mix n (9 + (j : Int)) / 3)
    refine ⟨w, hw, fun hp => ?_⟩
    simp only [EV, e_l_text_by_2, Int.zero_add, callO_def, mx, e])
  rw [List.length_map, List.length_range] at hX hY
  obtain ⟨w, hw, ew⟩ := nm_at h (n / 19)
  obtain ⟨v, hv, ev⟩ := way_at (n / 23)
  obtain ⟨d, hd, ed⟩ := dig_at (n / 29)
  have bX : bel 4611686018427387904 (m1 : Int) = true := bel_iff.mpr (by omega)
  have bY : bel 4611686018427387904 (m2 : Int) = true := bel_iff.mpr (by omega)
  have lX : ((List.range m1).map fun i => PV.int (0 + (i : Nat))).length < 16777216 := by rw [List.length_map, List.length_range]; omega
  have lY : ((List.range m2).map fun i => PV.int (0 + (i : Nat))).length < 16777216 := by rw [List.length_map, List.length_range]; omega
  have rX := rp_of (ls := X) (by omega) hXm
  have rY := rn_of (ls := Y) (by omega) hYm
  have sX := sum_bound (n := 36) (ls := X) fun l hl => (hXm l hl).2.1
  have sY := sum_bound (n := 8) (ls := Y) fun l hl => (nameOk_len (hYm l hl)).2
  have jX := fun hp => pJoin_of (sep := cs) (q := .lst (X.map PV.str)) (ls := X) (h := hp) rfl (by simp only [List.length_cons, List.length_nil]; omega)
  have jY := fun hp => pJoin_of (sep := cs) (q := .lst (Y.map PV.str)) (ls := Y) (h := hp) rfl (by simp only [List.length_cons, List.length_nil]; omega)
  generalize joinL cs X = x at *
  generalize joinL cs Y = y at *
  have cX : ∀ o2 o3 o4 o5 o6 o7 o8 hp, compL tYesE (e_l_text_by_1 (F (k + 1))) (capP [0, 1] [some (.lst (nm.map PV.str)), some (.int n), o2, o3, o4, o5, o6, o7, o8]) ((List.range m1).map fun i => PV.int (0 + (i : Nat))) hp = .ok (X.map PV.str) hp := fun _ _ _ _ _ _ _ => cmX
  have cY : ∀ o2 o3 o4 o5 o6 o7 o8 hp, compL tYesE (e_l_text_by_2 (F (k + 1))) (capP [0, 1] [some (.lst (nm.map PV.str)), some (.int n), o2, o3, o4, o5, o6, o7, o8]) ((List.range m2).map fun i => PV.int (0 + (i : Nat))) hp = .ok (Y.map PV.str) hp := fun _ _ _ _ _ _ _ => cmY
  have hpl := hp.2.1
  have hwl := nameOk_len hw
  have hvl := ways_len v hv
  have hxl := rX.2.1
  have hyl := rY.2.1
  have lp := hp.lt
  have lw := nameOk_lt hw
  have lv := ways_lt v hv
  have lx := rX.2.2
  have ly := rY.2.2
  have ld : Lt [d] := man_lt _ hd
  have c40 : (40 : Nat) < 1114112 := by decide
  have c41 : (41 : Nat) < 1114112 := by decide
  obtain ⟨vv, ⟨t, rfl, h1, h2, h3⟩, e14⟩ := at14 (Q := TQ) (a0 := .str [40]) (a1 := .str [41]) (a2 := .str [101, 110, 100]) (a3 := .str [101, 108, 115, 101]) (a4 := .str [98, 101, 116, 119, 101, 101, 110])
    (a5 := .str p) (a6 := .str (p ++ [32, 97, 115, 32] ++ v)) (a7 := .str (102 :: 111 :: 114 :: 32 :: (w ++ [32, 105, 110, 32] ++ p))) (a8 := .str (105 :: 102 :: 32 :: p))
    (a9 := .str (117 :: 115 :: 101 :: 32 :: (w ++ [40] ++ x ++ [41]))) (a10 := .str (117 :: 115 :: 101 :: 32 :: (w ++ [40] ++ x ++ [41] ++ [32, 119, 105, 116, 104, 32] ++ y)))
    (a11 := .str (98 :: 111 :: 100 :: 121 :: 40 :: (x ++ [41]))) (a12 := .str (112 :: 105 :: 101 :: 99 :: 101 :: 32 :: (w ++ [40] ++ y ++ [41])))
    (a13 := .str (112 :: 105 :: 101 :: 99 :: 101 :: 32 :: (w ++ [40] ++ y ++ [41, 32, 98, 111, 100, 121, 32] ++ [d]))) n
    (tq rfl (cm_bare (l := [111, 112, 101, 110]) rfl) (by decide) (by decide)) (tq rfl (cm_bare (l := [99, 108, 111, 115, 101]) rfl) (by decide) (by decide)) (tq rfl (cm_bare (l := [101, 110, 100]) rfl) (by decide) (by decide)) (tq rfl (cm_bare (l := [101, 108, 115, 101]) rfl) (by decide) (by decide)) (tq rfl (cm_bare (l := [98, 101, 116, 119, 101, 101, 110]) rfl) (by decide) (by decide))
    (tq rfl (cm_path hp) (by omega) lp)
    (tq (List.append_assoc ..) (cm_place hp hv) (by simp only [List.length_append, List.length_cons, List.length_nil]; omega) (lt_app lp (lt_app (by decide) lv)))
    (tq (by simp) (cm_for hw hp) (by simp only [List.length_append, List.length_cons, List.length_nil]; omega) (lt_app (by decide) (lt_app lw (lt_app (by decide) lp))))
    (tq (by simp) (cm_if hp) (by simp only [List.length_append, List.length_cons, List.length_nil]; omega) (lt_app (by decide) lp))
    (tq (by simp) (cm_use hw rX) (by simp only [List.length_append, List.length_cons, List.length_nil]; omega) (lt_app (by decide) (lt_app lw (lt_cons c40 (lt_app lx (by decide))))))
    (tq (by simp) (cm_use2 hw rX rY) (by simp only [List.length_append, List.length_cons, List.length_nil]; omega) (lt_app (by decide) (lt_app lw (lt_cons c40 (lt_app lx (lt_cons c41 (lt_app (by decide) ly)))))))
    (tq (by simp) (cm_body rX) (by simp only [List.length_append, List.length_cons, List.length_nil]; omega) (lt_app (by decide) (lt_app lx (by decide))))
    (tq (by simp) (cm_piece hw rY) (by simp only [List.length_append, List.length_cons, List.length_nil]; omega) (lt_app (by decide) (lt_app lw (lt_cons c40 (lt_app ly (by decide))))))
    (tq (by simp) (cm_piece2 hw rY hd) (by simp only [List.length_append, List.length_cons, List.length_nil]; omega) (lt_app (by decide) (lt_app lw (lt_cons c40 (lt_app ly (lt_cons c41 (lt_app (by decide) ld)))))))
  refine ⟨t, ?_, h1, h2, h3⟩
  show runF (b_l_text_by (F (k + 1))) 2 9 [.lst (nm.map PV.str), .int n] = _
  simp (disch := (simp only [List.length_append, List.length_cons, List.length_nil]; omega)) only [Res.bind_ok, Res.bind_exc, Res.bind_bad, eThen_ok, bThen_ok, lThen_ok, eThen_bad, bThen_bad, lThen_bad, List.getElem?_cons_zero, List.getElem?_cons_succ, List.getElem?_nil, List.set_cons_zero, List.set_cons_succ, List.map_cons, List.map_nil, List.append_nil, List.nil_append, List.cons_append, if_true, if_false, ite_true, ite_false, reduceIte, Bool.not_true, Bool.not_false, Bool.true_and, Bool.false_and, Bool.and_true, Bool.and_false, Bool.true_or, Bool.false_or, Bool.or_true, Bool.or_false, Bool.not_not, eq_self_iff_true, true_and, and_true, Bool.false_eq_true, reduceCtorEq, List.length_cons, List.length_nil, List.replicate, Nat.sub_self, Nat.zero_add, Option.isSome_some, Option.isSome_none, Nat.reduceAdd, Nat.reduceLeDiff, Int.reduceLT, Int.reduceLE, decide_true, decide_false, szl, Int.reduceNeg, Int.reducePow, Nat.reducePow, Int.reduceAdd, Int.reduceMul, Int.reduceSub, Nat.reduceSub, and_self, Nat.reduceMul, Nat.reduceEqDiff, ev_var, ev_K, ev_c1, ev_c2, ev_cN, ev_nil, ev_cons, ev_and, ev_or, ev_not, ev_ifE, ev_chain, ev_sl, ev_oNone, ev_oSome, ev_cM, ev_call, ev_meth, ev_make, ev_get2, ev_tTru, ev_tCmp, ev_tNot, ev_tAnd, ev_tOr, ev_range1, ev_range2, ev_aSeq, ev_aComp, ev_yes, ev_sNil, ev_sSeq, ev_sRet, ev_sRetN, ev_sDrop, ev_sIf, ev_sSet, ev_sNever, ev_sFor, ev_loop0, ev_gNm, dr_int, dr_bl, dr_str, dr_non, dr_tup, dr_lst, dr_giv, dr_dct, dr_ins, dr_ref0, add_ii, add_tt, add_ll, sub_ii, mul_ii, mul_si, pI_ii, neg_i, cmp_ii, is_n, isnot_n, isb, ix_si, ix_ti, ix_li, ix_gi, sl_s, len_s, len_t, len_l, len_g, lst_mk, lstM_mk, tup_mk, okL_mk, newL_mk, int_b, int_i, abs_i, str_i, seqIt_s, seqIt_t, seqIt_l, seqIt_g, find_ss, isStr_s, frz_int, frz_bl, frz_non, frz_str, frz_ins, frzs_nil, frzs_cons, in_ss, notin_ss, tru_b, tru_i, tru_s, isin_s_str, isin_s_int, isin_s_bool, isin_s_list, isin_s_tuple, isin_s_dict, isin_i_str, isin_i_int, isin_i_bool, isin_i_list, isin_i_tuple, isin_i_dict, isin_b_str, isin_b_int, isin_b_bool, isin_b_list, isin_b_tuple, isin_b_dict, isin_n_str, isin_n_int, isin_n_bool, isin_n_list, isin_n_tuple, isin_n_dict, isin_t_str, isin_t_int, isin_t_bool, isin_t_list, isin_t_tuple, isin_t_dict, isin_l_str, isin_l_int, isin_l_bool, isin_l_list, isin_l_tuple, isin_l_dict, isin_g_str, isin_g_int, isin_g_bool, isin_g_list, isin_g_tuple, isin_g_dict, isin_d_str, isin_d_int, isin_d_bool, isin_d_list, isin_d_tuple, isin_d_dict, find3_ss, starts3_ss, starts_ss, indexS_ss, intT_s, min_ii, split_ss, part_ss, inG_s, ixG_s, tuple_l, tuple_t, ev_setIx, sl_l, runF, b_l_text_by, callO_def, frz_nm, ep, hm1, hm2, Int.toNat_natCast, bX, bY, lX, lY, cX, cY, jX, jY, ew, ev, ed, add_ok, e14, finO]
theorem sg_at (i : Int) : ∃ c, c < 1114112 ∧ atI q_217402 (i % 93) = some c := by
  have h1 : 0 ≤ i % 93 := Int.emod_nonneg _ (by decide)
  have h2 : i % 93 < 93 := Int.emod_lt_of_pos _ (by decide)
  have hl : q_217402.length = 93 := by decide
  have hc : ∀ c ∈ q_217402, c < 1114112 := by decide
  refine ⟨q_217402.getD (i % 93).toNat 0, hc _ (getD_mem (by rw [hl]; omega)), atI_getD 0 h1 (by rw [hl]; exact h2)⟩
theorem sh_at (i : Int) : ∃ c, c < 1114112 ∧ atI [32, 46, 44, 40, 41, 48, 49, 50, 51, 97] (i % 10) = some c := by
  have h1 : 0 ≤ i % 10 := Int.emod_nonneg _ (by decide)
  have h2 : i % 10 < 10 := Int.emod_lt_of_pos _ (by decide)
  have hc : ∀ c ∈ [32, 46, 44, 40, 41, 48, 49, 50, 51, 97], c < 1114112 := by decide
  refine ⟨[32, 46, 44, 40, 41, 48, 49, 50, 51, 97].getD (i % 10).toNat 0, hc _ (getD_mem (by show _ < 10; omega)), atI_getD 0 h1 (by show _ < (10 : Int); exact h2)⟩
theorem at2 {a b : PV} (n : Int) : ∃ v, (v = a ∨ v = b) ∧ atI [a, b] (n % 2) = some v := by
  have : n % 2 = 0 ∨ n % 2 = 1 := by omega
  rcases this with e | e <;> rw [e]
  · exact ⟨a, .inl rfl, rfl⟩
  · exact ⟨b, .inr rfl, rfl⟩
abbrev OT : List (List Nat) := [[97, 115], [98, 101, 116, 119, 101, 101, 110], [98, 111, 100, 121], [101, 108, 115, 101], [101, 110, 100], [102, 111, 114], [105, 102], [105, 110], [112, 105, 101, 99, 101], [117, 115, 101], [119, 105, 116, 104], []]
theorem ot_at (i : Int) : ∃ w, w.length ≤ 8 ∧ Lt w ∧ atI (OT.map PV.str) (i % 12) = some (.str w) := by
  have h1 : 0 ≤ i % 12 := Int.emod_nonneg _ (by decide)
  have h2 : i % 12 < 12 := Int.emod_lt_of_pos _ (by decide)
  have hc : ∀ c ∈ OT, c.length ≤ 8 ∧ Lt c := by decide
  have hm : OT.getD (i % 12).toNat [] ∈ OT := getD_mem (by show _ < 12; omega)
  refine ⟨OT.getD (i % 12).toNat [], (hc _ hm).1, (hc _ hm).2, ?_⟩
  refine atI_at h1 ?_
  rw [List.getElem?_map, List.getD_eq_getElem?_getD, List.getElem?_eq_getElem (by show _ < 12; omega)]
  rfl
theorem sum_join {y : List Nat} : ∀ ls : List (List Nat), (ls.map (fun l => l.length)).sum ≤ (joinL y ls).length
  | [] => by simp [joinL]
  | [x] => by simp [joinL]
  | x :: z :: r => by
    have ih := sum_join (y := y) (z :: r)
    show _ ≤ (x ++ y ++ joinL y (z :: r)).length
    rw [List.length_append, List.length_append, List.map_cons, List.sum_cons]
    omega
theorem sum_cut (ls : List (List Nat)) (m : Nat) : ((ls.take m).map (fun l => l.length)).sum + ((ls.drop (m + 1)).map (fun l => l.length)).sum ≤ (ls.map (fun l => l.length)).sum := by
  have e : ls.map (fun l => l.length) = (ls.take m).map (fun l => l.length) ++ ((ls.drop m).take 1).map (fun l => l.length) ++ (ls.drop (m + 1)).map (fun l => l.length) := by
    rw [← List.map_append, ← List.map_append]
    congr 1
    rw [List.append_assoc, ← List.drop_drop, List.take_append_drop, List.take_append_drop]
  rw [e, List.sum_append, List.sum_append]
  omega
theorem bent_words {t : List Nat} (ht : t.length ≤ 600) (hl : Lt t) (m : Nat) {mid : List (List Nat)} (hm : mid.length ≤ 2) (hml : ∀ l ∈ mid, l.length ≤ 600 ∧ Lt l) :
    (∀ h, pJoin (.str [32]) [.lst (((splitC 32 t).take m ++ mid ++ (splitC 32 t).drop (m + 1)).map PV.str)] h = .ok (.str (joinL [32] ((splitC 32 t).take m ++ mid ++ (splitC 32 t).drop (m + 1)))) h) ∧ Good (joinL [32] ((splitC 32 t).take m ++ mid ++ (splitC 32 t).drop (m + 1))) := by
  have s1 := sum_join (y := [32]) (splitC 32 t)
  rw [splitC_self] at s1
  have s2 := sum_cut (splitC 32 t) m
  have s3 := sum_bound (n := 600) fun l hl => (hml l hl).1
  have l0 : (splitC 32 t).length ≤ t.length + 1 := by rw [← splitL_one]; exact split_len t (by simp)
  have l1 : ((splitC 32 t).take m).length ≤ t.length + 1 := by rw [List.length_take]; omega
  have l2 : ((splitC 32 t).drop (m + 1)).length ≤ t.length + 1 := by rw [List.length_drop]; omega
  have tot : (((splitC 32 t).take m ++ mid ++ (splitC 32 t).drop (m + 1)).map (fun l => l.length)).sum ≤ 1800 := by
    rw [List.map_append, List.map_append, List.sum_append, List.sum_append]; omega
  have cnt : ((splitC 32 t).take m ++ mid ++ (splitC 32 t).drop (m + 1)).length ≤ 1300 := by
    rw [List.length_append, List.length_append]; omega
  refine ⟨fun h => pJoin_of (ls := (splitC 32 t).take m ++ mid ++ (splitC 32 t).drop (m + 1)) rfl (by simp only [List.length_cons, List.length_nil]; omega), ?_, ?_⟩
  · have := join_len [32] ((splitC 32 t).take m ++ mid ++ (splitC 32 t).drop (m + 1))
    simp only [List.length_cons, List.length_nil] at this
    omega
  · refine join_lt (by decide) fun l hl' => ?_
    have gw : ∀ w ∈ splitC 32 t, Lt w := fun w hw c hc => hl c (split_mem (y := [32]) (by rw [splitL_one]; exact hw) hc)
    rcases List.mem_append.mp hl' with h | h
    · rcases List.mem_append.mp h with h | h
      · exact gw l (List.mem_of_mem_take h)
      · exact (hml l h).2
    · exact gw l (List.mem_of_mem_drop h)
theorem mul_li (xs : List PV) (k : Int) (h : List L3.PO) (hk : bel 9223372036854775808 k = true) (hx : xs.length * k.toNat ≤ sizeLine) : pMul (.lst xs) (.int k) h = .ok (.lst (repL xs k)) h := by
  show (if bel 9223372036854775808 k = true ∧ xs.length * k.toNat ≤ sizeLine then Res.ok (PV.lst (repL xs k)) h else .bad) = _
  rw [if_pos ⟨hk, hx⟩]
theorem l_bent (k : Nat) {t : List Nat} (ht : t.length ≤ 600) (hl : Lt t) (n : Int) : ∃ s, F (k + 1) .l_bent [.str t, .int n] = .ok (.str s) ∧ Good s := by
  obtain ⟨c1, hc1, e1⟩ := sg_at (n / 16)
  obtain ⟨c2, hc2, e2⟩ := sh_at (n / 16)
  obtain ⟨v, hv, e3⟩ := at2 (a := .str [c1]) (b := .str [c2]) (n / 8)
  obtain ⟨c, rfl, hc⟩ : ∃ c, v = .str [c] ∧ c < 1114112 := by
    rcases hv with rfl | rfl
    · exact ⟨c1, rfl, hc1⟩
    · exact ⟨c2, rfl, hc2⟩
  have lc : Lt [c] := fun z hz => by rw [List.mem_singleton.mp hz]; exact hc
  have hz : t.length ≤ 16777216 := by omega
  have hz2 : t.length + 2 ≤ 16777216 := by omega
  have d1 : decide (0 < (t.length : Int) + 1) = true := decide_eq_true (by omega)
  have a1 : 0 ≤ n / 2048 % ((t.length : Int) + 1) := Int.emod_nonneg _ (by omega)
  have a2 : n / 2048 % ((t.length : Int) + 1) < (t.length : Int) + 1 := Int.emod_lt_of_pos _ (by omega)
  obtain ⟨m, hm⟩ : ∃ m : Nat, n / 2048 % ((t.length : Int) + 1) = (m : Int) := ⟨(n / 2048 % ((t.length : Int) + 1)).toNat, by omega⟩
  have q1 : q_217402.length ≤ 16777216 := by decide
  have k1 := cut_to t m
  have k2 := cut_from t m
  have k3 := cut_from t (m + 1)
  rw [Int.natCast_add] at k3
  simp only [Int.cast_ofNat_Int] at k3
  have g : Good t := ⟨by omega, hl⟩
  have b1 : (t.take m).length ≤ 600 := by rw [List.length_take]; omega
  have b2 : (t.drop m).length ≤ 600 := by rw [List.length_drop]; omega
  have b3 : (t.drop (m + 1)).length ≤ 600 := by rw [List.length_drop]; omega
  have f0 := fun h => pEq_ii (n % 5) 0 h
  have f1 := fun h => pEq_ii (n % 5) 1 h
  have f2 := fun h => pEq_ii (n % 5) 2 h
  have f3 := fun h => pEq_ii (n % 5) 3 h
  by_cases h0 : n % 5 = 0
  · rw [decide_eq_true h0] at f0
    refine ⟨t.take m ++ [c] ++ t.drop m, ?_, by simp only [List.length_append, List.length_cons, List.length_nil]; omega, lt_app (lt_app (g.take m).2 lc) (g.drop m).2⟩
    show runF (b_l_bent (F k)) 2 9 [.str t, .int n] = _
    simp (disch := (first | omega | (simp only [List.length_append, List.length_cons, List.length_nil]; omega))) only [Res.bind_ok, Res.bind_exc, Res.bind_bad, eThen_ok, bThen_ok, lThen_ok, eThen_bad, bThen_bad, lThen_bad, List.getElem?_cons_zero, List.getElem?_cons_succ, List.getElem?_nil, List.set_cons_zero, List.set_cons_succ, List.map_cons, List.map_nil, List.append_nil, List.nil_append, List.cons_append, if_true, if_false, ite_true, ite_false, reduceIte, Bool.not_true, Bool.not_false, Bool.true_and, Bool.false_and, Bool.and_true, Bool.and_false, Bool.true_or, Bool.false_or, Bool.or_true, Bool.or_false, Bool.not_not, eq_self_iff_true, true_and, and_true, Bool.false_eq_true, reduceCtorEq, List.length_cons, List.length_nil, List.replicate, Nat.sub_self, Nat.zero_add, Option.isSome_some, Option.isSome_none, Nat.reduceAdd, Nat.reduceLeDiff, Int.reduceLT, Int.reduceLE, decide_true, decide_false, szl, Int.reduceNeg, Int.reducePow, Nat.reducePow, Int.reduceAdd, Int.reduceMul, Int.reduceSub, Nat.reduceSub, and_self, Nat.reduceMul, Nat.reduceEqDiff, ev_var, ev_K, ev_c1, ev_c2, ev_cN, ev_nil, ev_cons, ev_and, ev_or, ev_not, ev_ifE, ev_chain, ev_sl, ev_oNone, ev_oSome, ev_cM, ev_call, ev_meth, ev_make, ev_get2, ev_tTru, ev_tCmp, ev_tNot, ev_tAnd, ev_tOr, ev_range1, ev_range2, ev_aSeq, ev_aComp, ev_yes, ev_sNil, ev_sSeq, ev_sRet, ev_sRetN, ev_sDrop, ev_sIf, ev_sSet, ev_sNever, ev_sFor, ev_loop0, ev_gNm, dr_int, dr_bl, dr_str, dr_non, dr_tup, dr_lst, dr_giv, dr_dct, dr_ins, dr_ref0, add_ii, add_tt, add_ll, sub_ii, mul_ii, mul_si, pI_ii, neg_i, cmp_ii, is_n, isnot_n, isb, ix_si, ix_ti, ix_li, ix_gi, sl_s, len_s, len_t, len_l, len_g, lst_mk, lstM_mk, tup_mk, okL_mk, newL_mk, int_b, int_i, abs_i, str_i, seqIt_s, seqIt_t, seqIt_l, seqIt_g, find_ss, isStr_s, frz_int, frz_bl, frz_non, frz_str, frz_ins, frzs_nil, frzs_cons, in_ss, notin_ss, tru_b, tru_i, tru_s, isin_s_str, isin_s_int, isin_s_bool, isin_s_list, isin_s_tuple, isin_s_dict, isin_i_str, isin_i_int, isin_i_bool, isin_i_list, isin_i_tuple, isin_i_dict, isin_b_str, isin_b_int, isin_b_bool, isin_b_list, isin_b_tuple, isin_b_dict, isin_n_str, isin_n_int, isin_n_bool, isin_n_list, isin_n_tuple, isin_n_dict, isin_t_str, isin_t_int, isin_t_bool, isin_t_list, isin_t_tuple, isin_t_dict, isin_l_str, isin_l_int, isin_l_bool, isin_l_list, isin_l_tuple, isin_l_dict, isin_g_str, isin_g_int, isin_g_bool, isin_g_list, isin_g_tuple, isin_g_dict, isin_d_str, isin_d_int, isin_d_bool, isin_d_list, isin_d_tuple, isin_d_dict, find3_ss, starts3_ss, starts_ss, indexS_ss, intT_s, min_ii, split_ss, part_ss, inG_s, ixG_s, tuple_l, tuple_t, ev_setIx, sl_l, runF, b_l_bent, e1, e2, e3, q1, hz, d1, hm, f0, k1, k2, add_ok, finO]
  · rw [decide_eq_false h0] at f0
    by_cases h1 : n % 5 = 1
    · rw [decide_eq_true h1] at f1
      refine ⟨t.take m ++ t.drop (m + 1), ?_, by simp only [List.length_append, List.length_cons, List.length_nil]; omega, lt_app (g.take m).2 (g.drop (m + 1)).2⟩
      show runF (b_l_bent (F k)) 2 9 [.str t, .int n] = _
      simp (disch := (first | omega | (simp only [List.length_append, List.length_cons, List.length_nil]; omega))) only [Res.bind_ok, Res.bind_exc, Res.bind_bad, eThen_ok, bThen_ok, lThen_ok, eThen_bad, bThen_bad, lThen_bad, List.getElem?_cons_zero, List.getElem?_cons_succ, List.getElem?_nil, List.set_cons_zero, List.set_cons_succ, List.map_cons, List.map_nil, List.append_nil, List.nil_append, List.cons_append, if_true, if_false, ite_true, ite_false, reduceIte, Bool.not_true, Bool.not_false, Bool.true_and, Bool.false_and, Bool.and_true, Bool.and_false, Bool.true_or, Bool.false_or, Bool.or_true, Bool.or_false, Bool.not_not, eq_self_iff_true, true_and, and_true, Bool.false_eq_true, reduceCtorEq, List.length_cons, List.length_nil, List.replicate, Nat.sub_self, Nat.zero_add, Option.isSome_some, Option.isSome_none, Nat.reduceAdd, Nat.reduceLeDiff, Int.reduceLT, Int.reduceLE, decide_true, decide_false, szl, Int.reduceNeg, Int.reducePow, Nat.reducePow, Int.reduceAdd, Int.reduceMul, Int.reduceSub, Nat.reduceSub, and_self, Nat.reduceMul, Nat.reduceEqDiff, ev_var, ev_K, ev_c1, ev_c2, ev_cN, ev_nil, ev_cons, ev_and, ev_or, ev_not, ev_ifE, ev_chain, ev_sl, ev_oNone, ev_oSome, ev_cM, ev_call, ev_meth, ev_make, ev_get2, ev_tTru, ev_tCmp, ev_tNot, ev_tAnd, ev_tOr, ev_range1, ev_range2, ev_aSeq, ev_aComp, ev_yes, ev_sNil, ev_sSeq, ev_sRet, ev_sRetN, ev_sDrop, ev_sIf, ev_sSet, ev_sNever, ev_sFor, ev_loop0, ev_gNm, dr_int, dr_bl, dr_str, dr_non, dr_tup, dr_lst, dr_giv, dr_dct, dr_ins, dr_ref0, add_ii, add_tt, add_ll, sub_ii, mul_ii, mul_si, pI_ii, neg_i, cmp_ii, is_n, isnot_n, isb, ix_si, ix_ti, ix_li, ix_gi, sl_s, len_s, len_t, len_l, len_g, lst_mk, lstM_mk, tup_mk, okL_mk, newL_mk, int_b, int_i, abs_i, str_i, seqIt_s, seqIt_t, seqIt_l, seqIt_g, find_ss, isStr_s, frz_int, frz_bl, frz_non, frz_str, frz_ins, frzs_nil, frzs_cons, in_ss, notin_ss, tru_b, tru_i, tru_s, isin_s_str, isin_s_int, isin_s_bool, isin_s_list, isin_s_tuple, isin_s_dict, isin_i_str, isin_i_int, isin_i_bool, isin_i_list, isin_i_tuple, isin_i_dict, isin_b_str, isin_b_int, isin_b_bool, isin_b_list, isin_b_tuple, isin_b_dict, isin_n_str, isin_n_int, isin_n_bool, isin_n_list, isin_n_tuple, isin_n_dict, isin_t_str, isin_t_int, isin_t_bool, isin_t_list, isin_t_tuple, isin_t_dict, isin_l_str, isin_l_int, isin_l_bool, isin_l_list, isin_l_tuple, isin_l_dict, isin_g_str, isin_g_int, isin_g_bool, isin_g_list, isin_g_tuple, isin_g_dict, isin_d_str, isin_d_int, isin_d_bool, isin_d_list, isin_d_tuple, isin_d_dict, find3_ss, starts3_ss, starts_ss, indexS_ss, intT_s, min_ii, split_ss, part_ss, inG_s, ixG_s, tuple_l, tuple_t, ev_setIx, sl_l, runF, b_l_bent, e1, e2, e3, q1, hz, d1, hm, f0, f1, k1, k3, add_ok, finO]
    · rw [decide_eq_false h1] at f1
      by_cases h2 : n % 5 = 2
      · rw [decide_eq_true h2] at f2
        refine ⟨t.take m ++ [c] ++ t.drop (m + 1), ?_, by simp only [List.length_append, List.length_cons, List.length_nil]; omega, lt_app (lt_app (g.take m).2 lc) (g.drop (m + 1)).2⟩
        show runF (b_l_bent (F k)) 2 9 [.str t, .int n] = _
        simp (disch := (first | omega | (simp only [List.length_append, List.length_cons, List.length_nil]; omega))) only [Res.bind_ok, Res.bind_exc, Res.bind_bad, eThen_ok, bThen_ok, lThen_ok, eThen_bad, bThen_bad, lThen_bad, List.getElem?_cons_zero, List.getElem?_cons_succ, List.getElem?_nil, List.set_cons_zero, List.set_cons_succ, List.map_cons, List.map_nil, List.append_nil, List.nil_append, List.cons_append, if_true, if_false, ite_true, ite_false, reduceIte, Bool.not_true, Bool.not_false, Bool.true_and, Bool.false_and, Bool.and_true, Bool.and_false, Bool.true_or, Bool.false_or, Bool.or_true, Bool.or_false, Bool.not_not, eq_self_iff_true, true_and, and_true, Bool.false_eq_true, reduceCtorEq, List.length_cons, List.length_nil, List.replicate, Nat.sub_self, Nat.zero_add, Option.isSome_some, Option.isSome_none, Nat.reduceAdd, Nat.reduceLeDiff, Int.reduceLT, Int.reduceLE, decide_true, decide_false, szl, Int.reduceNeg, Int.reducePow, Nat.reducePow, Int.reduceAdd, Int.reduceMul, Int.reduceSub, Nat.reduceSub, and_self, Nat.reduceMul, Nat.reduceEqDiff, ev_var, ev_K, ev_c1, ev_c2, ev_cN, ev_nil, ev_cons, ev_and, ev_or, ev_not, ev_ifE, ev_chain, ev_sl, ev_oNone, ev_oSome, ev_cM, ev_call, ev_meth, ev_make, ev_get2, ev_tTru, ev_tCmp, ev_tNot, ev_tAnd, ev_tOr, ev_range1, ev_range2, ev_aSeq, ev_aComp, ev_yes, ev_sNil, ev_sSeq, ev_sRet, ev_sRetN, ev_sDrop, ev_sIf, ev_sSet, ev_sNever, ev_sFor, ev_loop0, ev_gNm, dr_int, dr_bl, dr_str, dr_non, dr_tup, dr_lst, dr_giv, dr_dct, dr_ins, dr_ref0, add_ii, add_tt, add_ll, sub_ii, mul_ii, mul_si, pI_ii, neg_i, cmp_ii, is_n, isnot_n, isb, ix_si, ix_ti, ix_li, ix_gi, sl_s, len_s, len_t, len_l, len_g, lst_mk, lstM_mk, tup_mk, okL_mk, newL_mk, int_b, int_i, abs_i, str_i, seqIt_s, seqIt_t, seqIt_l, seqIt_g, find_ss, isStr_s, frz_int, frz_bl, frz_non, frz_str, frz_ins, frzs_nil, frzs_cons, in_ss, notin_ss, tru_b, tru_i, tru_s, isin_s_str, isin_s_int, isin_s_bool, isin_s_list, isin_s_tuple, isin_s_dict, isin_i_str, isin_i_int, isin_i_bool, isin_i_list, isin_i_tuple, isin_i_dict, isin_b_str, isin_b_int, isin_b_bool, isin_b_list, isin_b_tuple, isin_b_dict, isin_n_str, isin_n_int, isin_n_bool, isin_n_list, isin_n_tuple, isin_n_dict, isin_t_str, isin_t_int, isin_t_bool, isin_t_list, isin_t_tuple, isin_t_dict, isin_l_str, isin_l_int, isin_l_bool, isin_l_list, isin_l_tuple, isin_l_dict, isin_g_str, isin_g_int, isin_g_bool, isin_g_list, isin_g_tuple, isin_g_dict, isin_d_str, isin_d_int, isin_d_bool, isin_d_list, isin_d_tuple, isin_d_dict, find3_ss, starts3_ss, starts_ss, indexS_ss, intT_s, min_ii, split_ss, part_ss, inG_s, ixG_s, tuple_l, tuple_t, ev_setIx, sl_l, runF, b_l_bent, e1, e2, e3, q1, hz, d1, hm, f0, f1, f2, k1, k3, add_ok, finO]
      · rw [decide_eq_false h2] at f2
        have ls := sp_len t 32
        have lz : (splitC 32 t).length ≤ t.length + 1 := by rw [← splitL_one]; exact split_len t (by simp)
        have lm : ((splitC 32 t).map PV.str).length = (splitC 32 t).length := List.length_map ..
        have d2 : decide (0 < ((splitC 32 t).length : Int)) = true := decide_eq_true (by omega)
        have a3 : 0 ≤ n / 2048 % ((splitC 32 t).length : Int) := Int.emod_nonneg _ (by omega)
        have a4 : n / 2048 % ((splitC 32 t).length : Int) < ((splitC 32 t).length : Int) := Int.emod_lt_of_pos _ (by omega)
        obtain ⟨j, hj⟩ : ∃ j : Nat, n / 2048 % ((splitC 32 t).length : Int) = (j : Int) := ⟨(n / 2048 % ((splitC 32 t).length : Int)).toNat, by omega⟩
        obtain ⟨w, hw1, hw2, ew⟩ := ot_at (n / 16)
        simp only [List.map_cons, List.map_nil] at ew
        have i1 := cut_to ((splitC 32 t).map PV.str) j
        have i2 := cut_from ((splitC 32 t).map PV.str) (j + 1)
        rw [Int.natCast_add] at i2
        simp only [Int.cast_ofNat_Int] at i2
        rw [← List.map_take] at i1
        rw [← List.map_drop] at i2
        have n1 : (((splitC 32 t).take j).map PV.str).length ≤ 601 := by rw [List.length_map, List.length_take]; omega
        have n2 : (((splitC 32 t).drop (j + 1)).map PV.str).length ≤ 601 := by rw [List.length_map, List.length_drop]; omega
        by_cases h3 : n % 5 = 3
        · rw [decide_eq_true h3] at f3
          have a5 : 0 ≤ n / 8 % 3 := Int.emod_nonneg _ (by decide)
          have a6 : n / 8 % 3 < 3 := Int.emod_lt_of_pos _ (by decide)
          obtain ⟨r, hr⟩ : ∃ r : Nat, n / 8 % 3 = (r : Int) := ⟨(n / 8 % 3).toNat, by omega⟩
          have ej : atI ((splitC 32 t).map PV.str) (j : Int) = some (.str ((splitC 32 t)[j]'(by omega))) := by
            refine atI_at (by omega) ?_
            rw [Int.toNat_natCast, List.getElem?_map, List.getElem?_eq_getElem (by omega)]
            rfl
          have gj : Good ((splitC 32 t)[j]'(by omega)) := g.part (y := [32]) (by rw [splitL_one]; exact List.getElem_mem _)
          have lj : ((splitC 32 t)[j]'(by omega)).length ≤ 600 := Nat.le_trans (split_part (y := [32]) (x := t) (by rw [splitL_one]; exact List.getElem_mem _)) ht
          generalize (splitC 32 t)[j]'(by omega) = wj at *
          have mu := fun h => mul_li [.str wj] (r : Int) h (bel_iff.mpr (by omega)) (by rw [szl]; simp only [List.length_cons, List.length_nil, Int.toNat_natCast]; omega)
          have rp : repL [PV.str wj] (r : Int) = (List.replicate r wj).map PV.str := by
            unfold repL
            rw [Int.toNat_natCast, List.flatten_replicate_singleton, List.map_replicate]
          rw [rp] at mu
          obtain ⟨jn, gd⟩ := bent_words ht hl j (mid := List.replicate r wj) (by rw [List.length_replicate]; omega) (fun l hl => by rw [List.eq_of_mem_replicate hl]; exact ⟨lj, gj.2⟩)
          refine ⟨_, ?_, gd⟩
          have n3 : ((List.replicate r wj).map PV.str).length ≤ 2 := by rw [List.length_map, List.length_replicate]; omega
          have z1 : (((splitC 32 t).take j).map PV.str).length + ((List.replicate r wj).map PV.str).length ≤ 16777216 := by omega
          have z2 : (((splitC 32 t).take j).map PV.str ++ (List.replicate r wj).map PV.str).length + (((splitC 32 t).drop (j + 1)).map PV.str).length ≤ 16777216 := by rw [List.length_append]; omega
          simp only [List.map_append] at jn
          show runF (b_l_bent (F k)) 2 9 [.str t, .int n] = _
          simp only [EV, runF, b_l_bent, e1, e2, e3, q1, hz, hz2, d1, hm, f0, f1, f2, f3, splitL_one, ne_eq, reduceCtorEq, not_false_eq_true, lm, d2, hj, ew, ej, hr, mu, i1, i2, z1, z2, jn, finO]
        · rw [decide_eq_false h3] at f3
          obtain ⟨jn, gd⟩ := bent_words ht hl j (mid := [w]) (by simp) (fun l hl => by rw [List.mem_singleton.mp hl]; exact ⟨by omega, hw2⟩)
          refine ⟨_, ?_, gd⟩
          have z1 : (((splitC 32 t).take j).map PV.str).length + 1 ≤ 16777216 := by omega
          have z2 : (((splitC 32 t).take j).map PV.str ++ [PV.str w]).length + (((splitC 32 t).drop (j + 1)).map PV.str).length ≤ 16777216 := by rw [List.length_append]; simp only [List.length_cons, List.length_nil]; omega
          simp only [List.map_append, List.map_cons, List.map_nil] at jn
          show runF (b_l_bent (F k)) 2 9 [.str t, .int n] = _
          simp only [EV, runF, b_l_bent, e1, e2, e3, q1, hz, hz2, d1, hm, f0, f1, f2, f3, splitL_one, ne_eq, reduceCtorEq, not_false_eq_true, lm, d2, hj, ew, i1, i2, z1, z2, jn, finO]
theorem pures_int : ∀ ns : List Int, pures (ns.map PV.int) = true
  | [] => rfl
  | a :: r => by rw [List.map_cons, pures, pures_int r]; rfl
theorem frz_cells (ns : List Int) (h : List L3.PO) : frzV h (.giv (ns.map PV.int)) = some (.giv (ns.map PV.int), h) := frz_giv h (pures_int ns)
theorem OkV.dr {v : PV} (o : OkV v) (h : List L3.PO) : derefP h v = v := by
  rcases o with rfl | ⟨xs, rfl, g⟩ <;> rfl
theorem cell_p (ns : List Int) (a b : Nat) : F 29 .l_cell_at [.giv (ns.map PV.int), .int ((a : Int) + (b : Int))] = .ok (.int (cellA ns (a + b))) := by
  have := cell_at 28 ns (a + b)
  rw [Int.natCast_add] at this
  exact this
theorem mixed_p (c : Int) (a b : Nat) (h : a + b ≤ 1000) : F 29 .l_mixed [.int c, .int ((a : Int) + (b : Int))] = .ok (.int (mix c ((a : Int) + (b : Int)))) := by
  have := mixed 28 c (a + b) (by omega)
  rw [Int.natCast_add] at this
  exact this
theorem inner (ns : List Int) (k j : Nat) (hk : k ≤ 20) (hj : j ≤ 20) {t : List Nat} (ht : t.length ≤ 600) (hl : Lt t) (o1 o3 o5 o7 : Option PV) : ∃ o, w_law_1 (F 29) [some (.giv (ns.map PV.int)), o1, some (.int (k : Int)), o3, some (.str t), o5, some (.int (j : Int)), o7] [] = .nx [some (.giv (ns.map PV.int)), o1, some (.int (k : Int)), o3, some (.str t), o5, some (.int (j : Int)), o] [] := by
  have c1 := cell_p ns 15 k
  have c2 := mixed_p (cellA ns (15 + k)) 3 j (by omega)
  simp only [Int.cast_ofNat_Int] at c1 c2
  obtain ⟨s, es, gs⟩ := l_bent 28 ht hl (mix (cellA ns (15 + k)) (3 + (j : Int)))
  have e1 := command_of 22 gs
  have e2 := l_command 24 gs
  have o := ok_cmd gs
  have e3 := l_same 28 o
  refine ⟨some (.str s), ?_⟩
  simp only [Nat.reduceAdd] at es e1 e2 e3
  simp only [EV, w_law_1, callO_def, frz_cells, c1, c2, es, e1, e2, o.frz, e3]
theorem outer (ns : List Int) {nm : List (List Nat)} (h : Nms nm) (k : Nat) (hk : k ≤ 20) (o3 o4 o5 o6 o7 : Option PV) : ∃ p3 p4 p5 p6 p7, w_law_2 (F 29) [some (.giv (ns.map PV.int)), some (.lst (nm.map PV.str)), some (.int (k : Int)), o3, o4, o5, o6, o7] [] = .nx [some (.giv (ns.map PV.int)), some (.lst (nm.map PV.str)), some (.int (k : Int)), p3, p4, p5, p6, p7] [] := by
  have c1 := cell_p ns 1 k
  simp only [Int.cast_ofNat_Int] at c1
  have c2 := mixed 28 (cellA ns (1 + k)) k (by omega)
  have m14 : ∀ x : Int, mulC x 14 = true := fun x => mulC_r rfl
  obtain ⟨t, et, ct, tl, tt⟩ := text_by 27 h (mix (cellA ns (1 + k)) k / 14 * 14 + (k : Int))
  have g : Good t := ⟨by omega, tt⟩
  have e1 := command_of 22 g
  have e2 := l_command 24 g
  have o := ok_cmd g
  have e3 := l_same 28 o
  obtain ⟨q7, i0⟩ := inner ns k 0 hk (by omega) tl tt (some (.lst (nm.map PV.str))) (some (.int (mix (cellA ns (1 + k)) k / 14 * 14 + (k : Int)))) (some (cmdV t)) o7
  obtain ⟨r7, i1⟩ := inner ns k 1 hk (by omega) tl tt (some (.lst (nm.map PV.str))) (some (.int (mix (cellA ns (1 + k)) k / 14 * 14 + (k : Int)))) (some (cmdV t)) q7
  have b2 : bel 4611686018427387904 2 = true := rfl
  have r2 : ((List.range (Int.toNat 2)).map fun i => PV.int (0 + (i : Nat))) = [.int ((0 : Nat) : Int), .int ((1 : Nat) : Int)] := rfl
  unfold Cm at ct
  refine ⟨some (.int (mix (cellA ns (1 + k)) k / 14 * 14 + (k : Int))), some (.str t), some (cmdV t), some (.int ((1 : Nat) : Int)), r7, ?_⟩
  simp only [Nat.reduceAdd] at c2 et e1 e2 e3
  simp only [EV, w_law_2, callO_def, frz_cells, frz_nm, c1, c2, m14, et, e1, e2, o.frz, o.dr, ct, e3, b2, r2, ev_loop, i0, i1]
theorem outs (ns : List Int) {nm : List (List Nat)} (h : Nms nm) : ∀ (ks : List Nat), (∀ k ∈ ks, k ≤ 20) → ∀ o2 o3 o4 o5 o6 o7, ∃ p2 p3 p4 p5 p6 p7, loopS (gNm 2) (w_law_2 (F 29)) (ks.map fun i => PV.int (0 + (i : Nat))) [some (.giv (ns.map PV.int)), some (.lst (nm.map PV.str)), o2, o3, o4, o5, o6, o7] [] = .nx [some (.giv (ns.map PV.int)), some (.lst (nm.map PV.str)), p2, p3, p4, p5, p6, p7] []
  | [], _, o2, o3, o4, o5, o6, o7 => ⟨o2, o3, o4, o5, o6, o7, rfl⟩
  | k :: ks, hk, o2, o3, o4, o5, o6, o7 => by
    obtain ⟨p3, p4, p5, p6, p7, e⟩ := outer ns h k (hk k (by simp)) o3 o4 o5 o6 o7
    obtain ⟨r2, r3, r4, r5, r6, r7, e2⟩ := outs ns h ks (fun x hx => hk x (List.mem_cons_of_mem _ hx)) (some (.int (k : Int))) p3 p4 p5 p6 p7
    refine ⟨r2, r3, r4, r5, r6, r7, ?_⟩
    rw [List.map_cons, ev_loop]
    simp only [ev_gNm, List.set_cons_zero, List.set_cons_succ, Int.zero_add, e]
    simp only [Int.zero_add] at e2
    exact e2
theorem law_true : ∀ ns : List Int, ns.length ≤ 63 → F 30 .law [.giv (ns.map PV.int)] = .ok (.bl true) := by
  intro ns _
  obtain ⟨nm, en, hn⟩ := l_names 28 (mix (cellA ns 0) 0)
  have c1 : F 29 .l_cell_at [.giv (ns.map PV.int), .int 0] = .ok (.int (cellA ns 0)) := cell_at 28 ns 0
  have c2 : F 29 .l_mixed [.int (cellA ns 0), .int 0] = .ok (.int (mix (cellA ns 0) 0)) := mixed 28 (cellA ns 0) 0 (by omega)
  obtain ⟨p2, p3, p4, p5, p6, p7, e⟩ := outs ns hn (List.range 14) (fun k hk => by have := List.mem_range.mp hk; omega) none none none none none none
  have e' : loopS (gNm 2) (w_law_2 (F 29)) ((List.range (Int.toNat 14)).map fun i => PV.int (0 + (i : Nat))) [some (.giv (ns.map PV.int)), some (.lst (nm.map PV.str)), none, none, none, none, none, none] [] = _ := e
  simp only [Nat.reduceAdd] at en
  have b14 : bel 4611686018427387904 14 = true := rfl
  show runF (b_law (F 29)) 1 8 [.giv (ns.map PV.int)] = _
  simp only [EV, runF, b_law, callO_def, frz_cells, c1, c2, en, b14, e', finO]
end K5
def PySem.W.Fast.tw9109194280318778944 : Unit := ()
def PySem.W.Fast.tw544319255056934669 : Unit := ()
def PySem.W.Fast.tw17762921395171078238 : Unit := ()
def PySem.W.Fast.tw15810237627079544352 : Unit := ()
def PySem.W.Fast.tw15127633024585071650 : Unit := ()
def PySem.W.Fast.tw14697750541295893823 : Unit := ()
def PySem.W.Fast.tw1299626657871529816 : Unit := ()
def PySem.W.Fast.tw8046246073636117249 : Unit := ()
def PySem.W.Fast.tw4339595841953817095 : Unit := ()
def PySem.W.Fast.tw11970945754538109163 : Unit := ()
def PySem.W.Fast.tw2170409679438246902 : Unit := ()
def PySem.W.Fast.tw3362152820870920904 : Unit := ()
def PySem.W.Fast.tw7633749704470651313 : Unit := ()
def PySem.W.Fast.tw599429223897651474 : Unit := ()
def PySem.W.Fast.tw14941219790562234989 : Unit := ()
def PySem.W.Fast.tw3618625506153258710 : Unit := ()
def PySem.W.Fast.tw5093503671840544490 : Unit := ()
def PySem.W.Fast.tw14356446557417911006 : Unit := ()
def PySem.W.Fast.tw16185440595455810366 : Unit := ()
def PySem.W.Fast.tw9550149713938054049 : Unit := ()
def PySem.W.Fast.tw8684720849059689028 : Unit := ()
def PySem.W.Fast.tw11321643639541654232 : Unit := ()
def PySem.W.Fast.tw16271040251111577820 : Unit := ()
def PySem.W.Fast.tw4252277845885333998 : Unit := ()
def PySem.W.Fast.tw10608835360614482563 : Unit := ()
def PySem.W.Fast.tw3007203789113849819 : Unit := ()
def PySem.W.Fast.tw4588952312361756532 : Unit := ()
def PySem.W.Fast.tw3353777401474429590 : Unit := ()
def PySem.W.Fast.tw3267923967419042955 : Unit := ()
def PySem.W.Fast.tw5203043293586896865 : Unit := ()
def PySem.W.Fast.tw9833717021355350005 : Unit := ()
def PySem.W.Fast.tw10913762362582622921 : Unit := ()
def PySem.W.Fast.tw13715259649920300803 : Unit := ()
def PySem.W.Fast.tw12220741132692189299 : Unit := ()
def PySem.W.Fast.tw1071158772967790924 : Unit := ()
def PySem.W.Fast.tw3299911895684032152 : Unit := ()
def PySem.W.Fast.tw16080144328423847362 : Unit := ()
def PySem.W.Fast.tw11889145585469289229 : Unit := ()
def PySem.W.Fast.tw2905965002800836278 : Unit := ()
def PySem.W.Fast.tw17536375921098880232 : Unit := ()
def PySem.W.Fast.tw14975565570377243329 : Unit := ()
def PySem.W.Fast.tw9426119533470796658 : Unit := ()
def PySem.W.Fast.tw15802720757008920054 : Unit := ()
def PySem.W.Fast.tw6006704001193465557 : Unit := ()
def PySem.W.Fast.tw2375132327849438168 : Unit := ()
def PySem.W.Fast.tw18317309325960105969 : Unit := ()
def PySem.W.Fast.tw6351661207902916353 : Unit := ()
def PySem.W.Fast.tw4173669416449319167 : Unit := ()
def PySem.W.Fast.tw3708995705561071813 : Unit := ()
def PySem.W.Fast.tw7330214775950704052 : Unit := ()
def PySem.W.Fast.tw13132067016104087655 : Unit := ()
def PySem.W.Fast.tw2310430154650386734 : Unit := ()
def PySem.W.Fast.tw2163153102931214198 : Unit := ()
def PySem.W.Fast.tw12025067533226817679 : Unit := ()
def PySem.W.Fast.tw7256339391601590245 : Unit := ()
def PySem.W.Fast.tw9349511739531088206 : Unit := ()
def PySem.W.Fast.tw13496584924688917710 : Unit := ()
def PySem.W.Fast.tw6484657405921382506 : Unit := ()
def PySem.W.Fast.tw4200351076065605797 : Unit := ()
def PySem.W.Fast.tw6133741146590005300 : Unit := ()
def PySem.W.Fast.tw834445471058701840 : Unit := ()
def PySem.W.Fast.tw11076644159386442612 : Unit := ()
def PySem.W.Fast.tw14909482744226246041 : Unit := ()
def PySem.W.Fast.tw17539971075926050797 : Unit := ()
def PySem.W.Fast.tw1544750793315792879 : Unit := ()
def PySem.W.Fast.tw15751123281711937503 : Unit := ()
def PySem.W.Fast.tw6212756953945738457 : Unit := ()
open PySem PySem.W PyProof.Rows
set_option maxRecDepth 100000 in
set_option maxHeartbeats 0 in
theorem PySem.Challenge.cw_formsmith_k05_commands_holds : PySem.Challenge.rw_formsmith_k05_commands.Holds := by
  w_on; o_law; k_head; (case hw => w_witness2)
  k_fill
  refine L3.law_walk (l := PySem.Challenge.rw_formsmith_k05_commands) (k := 30) (x := "_law_script") rfl rfl ⟨rfl, by decide, by decide, rfl⟩ (fun w h Y => PySem.W.kIn_of Y) ?F
  case F =>
    intro w mg fa h KX G hmg
    refine' K5.all_mk K5.law_true KX G hmg ?a_law ?l_law ?c_law ?k_law ?a_l_names ?l_l_names ?c_l_names ?k_l_names ?a_l_mixed ?l_l_mixed ?c_l_mixed ?k_l_mixed ?a_l_text_by ?l_l_text_by ?c_l_text_by ?k_l_text_by ?a_command_of ?l_command_of ?c_command_of ?k_command_of ?a_l_cell_at ?l_l_cell_at ?c_l_cell_at ?k_l_cell_at ?a_l_bent ?l_l_bent ?c_l_bent ?k_l_bent ?a_l_same ?l_l_same ?c_l_same ?k_l_same ?a_l_command ?l_l_command ?c_l_command ?k_l_command ?a_l_path_by ?l_l_path_by ?c_l_path_by ?k_l_path_by ?a_place_command ?l_place_command ?c_place_command ?k_place_command ?a_for_command ?l_for_command ?c_for_command ?k_for_command ?a_if_command ?l_if_command ?c_if_command ?k_if_command ?a_use_command ?l_use_command ?c_use_command ?k_use_command ?a_body_command ?l_body_command ?c_body_command ?k_body_command ?a_piece_command ?l_piece_command ?c_piece_command ?k_piece_command ?a_bracketed ?l_bracketed ?c_bracketed ?k_bracketed ?a_l_path ?l_l_path ?c_l_path ?k_l_path ?a_l_use ?l_l_use ?c_l_use ?k_l_use ?a_l_piece ?l_l_piece ?c_l_piece ?k_l_piece ?a_l_row ?l_l_row ?c_l_row ?k_l_row ?a_l_is_name ?l_l_is_name ?c_l_is_name ?k_l_is_name ?a_path_of ?l_path_of ?c_path_of ?k_path_of ?a_is_name ?l_is_name ?c_is_name ?k_is_name ?a_paths_of ?l_paths_of ?c_paths_of ?k_paths_of ?a_names_of ?l_names_of ?c_names_of ?k_names_of ?a_l_called ?l_l_called ?c_l_called ?k_l_called ?a_is_path ?l_is_path ?c_is_path ?k_is_path ?a_is_made_of ?l_is_made_of ?c_is_made_of ?k_is_made_of ?a_listed ?l_listed ?c_listed ?k_listed ?g_MOST_LETTERS ?g_MOST_NAMES ?g_SMALL_LETTERS ?g_COMMAND_WORDS ?k_COMMAND_WORDS ?g_MANIES ?k_MANIES ?g_WAYS ?k_WAYS ?g_BARE ?k_BARE ?eh_BARE_0 ?eh_BARE_1 ?eh_BARE_2 ?eh_BARE_3 ?eh_BARE_4 ?ns_BARE ?n_all ?n_int ?n_isinstance ?n_len ?n_range ?n_repr ?n_set ?n_str ?n_tuple
    (case a_law => k_is)
    (case l_law => k_is)
    (case c_law => k_is)
    (case k_law => k_is)
    (case a_l_names => k_is)
    (case l_l_names => k_is)
    (case c_l_names => k_is)
    (case k_l_names => k_is)
    (case a_l_mixed => k_is)
    (case l_l_mixed => k_is)
    (case c_l_mixed => k_is)
    (case k_l_mixed => k_is)
    (case a_l_text_by => k_is)
    (case l_l_text_by => k_is)
    (case c_l_text_by => k_is)
    (case k_l_text_by => k_is)
    (case a_command_of => k_is)
    (case l_command_of => k_is)
    (case c_command_of => k_is)
    (case k_command_of => k_is)
    (case a_l_cell_at => k_is)
    (case l_l_cell_at => k_is)
    (case c_l_cell_at => k_is)
    (case k_l_cell_at => k_is)
    (case a_l_bent => k_is)
    (case l_l_bent => k_is)
    (case c_l_bent => k_is)
    (case k_l_bent => k_is)
    (case a_l_same => k_is)
    (case l_l_same => k_is)
    (case c_l_same => k_is)
    (case k_l_same => k_is)
    (case a_l_command => k_is)
    (case l_l_command => k_is)
    (case c_l_command => k_is)
    (case k_l_command => k_is)
    (case a_l_path_by => k_is)
    (case l_l_path_by => k_is)
    (case c_l_path_by => k_is)
    (case k_l_path_by => k_is)
    (case a_place_command => k_is)
    (case l_place_command => k_is)
    (case c_place_command => k_is)
    (case k_place_command => k_is)
    (case a_for_command => k_is)
    (case l_for_command => k_is)
    (case c_for_command => k_is)
    (case k_for_command => k_is)
    (case a_if_command => k_is)
    (case l_if_command => k_is)
    (case c_if_command => k_is)
    (case k_if_command => k_is)
    (case a_use_command => k_is)
    (case l_use_command => k_is)
    (case c_use_command => k_is)
    (case k_use_command => k_is)
    (case a_body_command => k_is)
    (case l_body_command => k_is)
    (case c_body_command => k_is)
    (case k_body_command => k_is)
    (case a_piece_command => k_is)
    (case l_piece_command => k_is)
    (case c_piece_command => k_is)
    (case k_piece_command => k_is)
    (case a_bracketed => k_is)
    (case l_bracketed => k_is)
    (case c_bracketed => k_is)
    (case k_bracketed => k_is)
    (case a_l_path => k_is)
    (case l_l_path => k_is)
    (case c_l_path => k_is)
    (case k_l_path => k_is)
    (case a_l_use => k_is)
    (case l_l_use => k_is)
    (case c_l_use => k_is)
    (case k_l_use => k_is)
    (case a_l_piece => k_is)
    (case l_l_piece => k_is)
    (case c_l_piece => k_is)
    (case k_l_piece => k_is)
    (case a_l_row => k_is)
    (case l_l_row => k_is)
    (case c_l_row => k_is)
    (case k_l_row => k_is)
    (case a_l_is_name => k_is)
    (case l_l_is_name => k_is)
    (case c_l_is_name => k_is)
    (case k_l_is_name => k_is)
    (case a_path_of => k_is)
    (case l_path_of => k_is)
    (case c_path_of => k_is)
    (case k_path_of => k_is)
    (case a_is_name => k_is)
    (case l_is_name => k_is)
    (case c_is_name => k_is)
    (case k_is_name => k_is)
    (case a_paths_of => k_is)
    (case l_paths_of => k_is)
    (case c_paths_of => k_is)
    (case k_paths_of => k_is)
    (case a_names_of => k_is)
    (case l_names_of => k_is)
    (case c_names_of => k_is)
    (case k_names_of => k_is)
    (case a_l_called => k_is)
    (case l_l_called => k_is)
    (case c_l_called => k_is)
    (case k_l_called => k_is)
    (case a_is_path => k_is)
    (case l_is_path => k_is)
    (case c_is_path => k_is)
    (case k_is_path => k_is)
    (case a_is_made_of => k_is)
    (case l_is_made_of => k_is)
    (case c_is_made_of => k_is)
    (case k_is_made_of => k_is)
    (case a_listed => k_is)
    (case l_listed => k_is)
    (case c_listed => k_is)
    (case k_listed => k_is)
    (case g_MOST_LETTERS => k_is)
    (case g_MOST_NAMES => k_is)
    (case g_SMALL_LETTERS => k_is)
    (case g_COMMAND_WORDS => k_is)
    (case k_COMMAND_WORDS => k_is)
    (case g_MANIES => k_is)
    (case k_MANIES => k_is)
    (case g_WAYS => k_is)
    (case k_WAYS => k_is)
    (case g_BARE => k_is)
    (case k_BARE => k_is)
    (case eh_BARE_0 => first | rfl | kernel_rfl)
    (case eh_BARE_1 => first | rfl | kernel_rfl)
    (case eh_BARE_2 => first | rfl | kernel_rfl)
    (case eh_BARE_3 => first | rfl | kernel_rfl)
    (case eh_BARE_4 => first | rfl | kernel_rfl)
    (case ns_BARE => first | rfl | kernel_rfl)
    (case n_all => k_is)
    (case n_int => k_is)
    (case n_isinstance => k_is)
    (case n_len => k_is)
    (case n_range => k_is)
    (case n_repr => k_is)
    (case n_set => k_is)
    (case n_str => k_is)
    (case n_tuple => k_is)
