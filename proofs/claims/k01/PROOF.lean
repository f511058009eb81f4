import PyProof.Rows.All
import Wide.All
import OpenK.AllK
import Wide.FinOn
import Lean
import PyProof.EqAt
import PyProof.EqKinds
import PyProof.TupleCall
import KE.KTryMore
import PyProof.ExcAttrAll.ValueError
import PyProof.ExcClass3
import PyProof.InstStoreFacts
import PySem.Challenge.RW_formsmith_k01_ways_of_coding
noncomputable section
set_option Elab.async false
set_option linter.all false
set_option maxRecDepth 100000
namespace L2
open PySem PySem.Spec PyProof.Rows
abbrev Key := Sum Int Str
def keyIs : Key → Value → Bool
  | .inl k, v => Value.isInt k v
  | .inr x, v => Value.isStrOf x v
def keyH (w : World) : Key → Int
  | .inl k => hashInt k
  | .inr x => hashStr w x
theorem keyIs_shape : ∀ {k : Key} {v : Value}, keyIs k v = true → (∃ i t, k = Sum.inl i ∧ v = Value.int i t) ∨ (∃ x t, k = Sum.inr x ∧ v = Value.str x t)
  | .inl i, v, h => by
    obtain ⟨t, e⟩ := Value.isInt_shape (k := i) (v := v) h
    exact .inl ⟨i, t, rfl, e⟩
  | .inr x, v, h => by
    obtain ⟨t, e⟩ := Value.isStrOf_shape (x := x) (v := v) h
    exact .inr ⟨x, t, rfl, e⟩
theorem keyIs_int (i : Int) (t : Tok) : keyIs (.inl i) (.int i t) = true := by simp [keyIs, Value.isInt]
theorem keyIs_str (x : Str) (t : Tok) : keyIs (.inr x) (.str x t) = true := by simp [keyIs, Value.isStrOf]
theorem key_ll (a b : Int) : decide ((Sum.inl a : Key) = Sum.inl b) = (a == b) := by
  by_cases e : a = b
  · subst e; simp
  · have h : ¬ (Sum.inl a : Key) = Sum.inl b := fun q => e (Sum.inl.inj q)
    rw [decide_eq_false h]
    exact (beq_eq_false_iff_ne.mpr e).symm
theorem key_rr (a b : Str) : decide ((Sum.inr a : Key) = Sum.inr b) = decide (a = b) := by
  by_cases e : a = b
  · subst e; simp
  · have h : ¬ (Sum.inr a : Key) = Sum.inr b := fun q => e (Sum.inr.inj q)
    rw [decide_eq_false h, decide_eq_false e]
theorem key_lr (a : Int) (b : Str) : decide ((Sum.inl a : Key) = Sum.inr b) = false := decide_eq_false (fun q => nomatch q)
theorem key_rl (a : Str) (b : Int) : decide ((Sum.inr a : Key) = Sum.inl b) = false := decide_eq_false (fun q => nomatch q)
def mixKind (prog : Program) (w : World) : PySem.KeyKind prog w Key where
  is := keyIs
  hash := keyH w
  inj := fun v a b ha hb => by
    rcases keyIs_shape ha with ⟨i, t, rfl, rfl⟩ | ⟨x, t, rfl, rfl⟩
    · rcases keyIs_shape hb with ⟨j, u, rfl, e⟩ | ⟨y, u, rfl, e⟩
      · injection e with e1 _; rw [e1]
      · exact nomatch e
    · rcases keyIs_shape hb with ⟨j, u, rfl, e⟩ | ⟨y, u, rfl, e⟩
      · exact nomatch e
      · injection e with e1 _; rw [e1]
  byValue := fun k v h => by
    rcases keyIs_shape h with ⟨i, t, rfl, rfl⟩ | ⟨x, t, rfl, rfl⟩ <;> rfl
  pyHash := fun hv h => by
    rcases keyIs_shape hv with ⟨i, t, rfl, rfl⟩ | ⟨x, t, rfl, rfl⟩
    · exact wpAny_pyHash_int h
    · exact wpAny_pyHash_str h
  eqBool := fun hu hv h => by
    rcases keyIs_shape hu with ⟨i, t, rfl, rfl⟩ | ⟨x, t, rfl, rfl⟩
    · rcases keyIs_shape hv with ⟨j, u, rfl, rfl⟩ | ⟨y, u, rfl, rfl⟩
      · rw [key_ll] at h; exact wpAny_eqBool_int h
      · rw [key_lr] at h; exact SeqAt.EqAt.int_str i t y u _ _ _ _ h
    · rcases keyIs_shape hv with ⟨j, u, rfl, rfl⟩ | ⟨y, u, rfl, rfl⟩
      · rw [key_rl] at h; exact SeqAt.EqAt.str_int x t j u _ _ _ _ h
      · rw [key_rr] at h; exact wpAny_eqBool_str h
  «strs» := fun k x t v h => by
    rcases keyIs_shape h with ⟨i, u, rfl, e⟩ | ⟨y, u, rfl, e⟩
    · exact nomatch e
    · injection e with e1 _
      subst e1
      cases v <;> rfl
theorem mixKind_int (prog : Program) (w : World) (i : Int) (t : Tok) : (mixKind prog w).is (.inl i) (.int i t) = true := keyIs_int i t
theorem mixKind_str (prog : Program) (w : World) (x : Str) (t : Tok) : (mixKind prog w).is (.inr x) (.str x t) = true := keyIs_str x t
end L2
namespace L2
open PySem PySem.Spec PyProof.Rows
inductive V where
  | non | bl (b : Bool) | int (i : Int) | str (x : Str) | byt (b : Array UInt8) | flt (b : UInt64) | ref (a : Addr) | ty (n : String)
  deriving DecidableEq
def RelV : V → Value → Prop
  | .non, u => u = Value.none
  | .bl b, u => u = Value.bool b
  | .int i, u => ∃ t, u = Value.int i t
  | .str x, u => ∃ t, u = Value.str x t
  | .byt b, u => ∃ t, u = Value.bytes b t
  | .flt b, u => ∃ t, u = Value.float b t
  | .ref a, u => u = Value.ref a
  | .ty n, u => u = Value.type n
abbrev Vals : List V → List Value → Prop := Paired RelV
theorem Vals.length {xs : List V} {us : List Value} (r : Vals xs us) : xs.length = us.length := Paired.length r
theorem Vals.get : ∀ {xs : List V} {us : List Value} {i : Nat} {x : V}, Vals xs us → xs[i]? = some x → ∃ u, us[i]? = some u ∧ RelV x u
  | _, _, _, _, .nil, e => by simp at e
  | _, _, 0, _, .cons r _, e => by simp at e; subst e; exact ⟨_, rfl, r⟩
  | _, _, i + 1, x, .cons _ t, e => by
    obtain ⟨u, h1, h2⟩ := Vals.get (i := i) (x := x) t (by simpa using e)
    exact ⟨u, by simpa using h1, h2⟩
theorem Vals.set {x : V} {u : Value} (r : RelV x u) : ∀ {xs : List V} {us : List Value} (i : Nat), Vals xs us → Vals (xs.set i x) (us.set i u)
  | _, _, _, .nil => .nil
  | _, _, 0, .cons _ t => .cons r t
  | _, _, i + 1, .cons q t => .cons q (Vals.set r i t)
theorem Vals.append : ∀ {xs ys : List V} {us ws : List Value}, Vals xs us → Vals ys ws → Vals (xs ++ ys) (us ++ ws)
  | _, _, _, _, .nil, s => s
  | _, _, _, _, .cons r t, s => .cons r (Vals.append t s)
theorem Vals.take : ∀ {xs : List V} {us : List Value} (n : Nat), Vals xs us → Vals (xs.take n) (us.take n)
  | _, _, 0, _ => .nil
  | _, _, _ + 1, .nil => .nil
  | _, _, n + 1, .cons r t => .cons r (Vals.take n t)
theorem Vals.drop : ∀ {xs : List V} {us : List Value} (n : Nat), Vals xs us → Vals (xs.drop n) (us.drop n)
  | _, _, 0, r => r
  | _, _, _ + 1, .nil => .nil
  | _, _, n + 1, .cons _ t => Vals.drop n t
theorem Vals.none_of : ∀ {xs : List V} {us : List Value} {i : Nat}, Vals xs us → xs[i]? = none → us[i]? = none := fun {xs us i} r e => by
  have h1 := r.length
  have h2 : xs.length ≤ i := List.getElem?_eq_none_iff.mp e
  exact List.getElem?_eq_none_iff.mpr (by omega)
def RelO : Option V → Option Value → Prop
  | some v, some u => RelV v u
  | none, none => True
  | _, _ => False
def KV {κ : Type} : List (κ × V) → List (κ × Value) → Prop := Paired fun (p : κ × V) (q : κ × Value) => p.1 = q.1 ∧ RelV p.2 q.2
def kV : Key → V
  | .inl i => .int i
  | .inr x => .str x
inductive HO where
  /-- a list -/
  | lst (xs : List V)
  /-- a tuple (never changes) -/
  | tup (xs : List V)
  /-- a dict whose keys are ints and texts; one whose keys are tuples of ints and texts (the empty one is both) -/
  | dK (kvs : List (Key × V)) | dT (kvs : List (List Key × V))
  /-- a set of ints: its members, its size -/
  | set (S : Int → Bool) (n : Nat)
  /-- an instance of the class at C, its dict at dx, its attributes -/
  | ins (C dx : Addr) (fs : List (Str × V))
  /-- the dict of the instance at x -/
  | own (x : Addr)
  /-- the dict of an exception -/
  | xd (fs : List (Str × V))
  /-- a bound method, f of x -/
  | met (f x : Addr)
  /-- a range object lo, lo + 1, .. below hi -/
  | rng (lo hi : Int)
  /-- a thing that is known to the object (the script; a dict while a loop walks it): read, never written while it is so -/
  | frz (o : Obj) (u : HO)
  /-- a code object's table -/
  | tbl (ps : Array Value)
  /-- any other thing, by what is true of its one object (a def of one's own: SetO a S n := HO.ext fun h => ..) -/
  | ext (φ : Heap → Prop)
abbrev Hp := Addr → Option HO
def upd (H : Hp) (a : Addr) (o : HO) : Hp := fun b => if b = a then some o else H b
theorem upd_same {H : Hp} {a : Addr} {o : HO} : upd H a o a = some o := by unfold upd; rw [if_pos rfl]
theorem upd_ne {H : Hp} {a b : Addr} {o : HO} (h : b ≠ a) : upd H a o b = H b := by unfold upd; rw [if_neg h]
theorem upd_upd {H : Hp} {a : Addr} {o u : HO} : upd (upd H a o) a u = upd H a u := by
  funext b; unfold upd; split <;> rfl
theorem ne_of_none {H : Hp} {a b : Addr} {o : HO} (h : H a = some o) (h' : H b = none) : a ≠ b := by
  intro e; subst e; rw [h] at h'; cases h'
section
variable (P : Program) (w : World)
def ObjOk (H : Hp) (h : Heap) (a : Addr) : HO → Prop
  | .lst xs => xs.length ≤ sizeLine ∧ ∃ (its : List Value) (n : Nat), Vals xs its ∧ h.get? a = some { cls := .type "list", data := .seq its.toArray n }
  | .tup xs => xs.length ≤ sizeLine ∧ ∃ its : List Value, Vals xs its ∧ IsTup h a its.toArray
  | .dK kvs => kvs.length ≤ sizeLine ∧ (a == sysModules) = false ∧ ∃ vs, KV kvs vs ∧ h.DictOf (mixKind P w) a vs
  | .dT kvs => kvs.length ≤ sizeLine ∧ (a == sysModules) = false ∧ ∃ xs : List (List Key × Addr × Value),
      Paired (fun (p : List Key × V) (q : List Key × Addr × Value) => p.1 = q.1 ∧ H q.2.1 = some (.tup (p.1.map kV)) ∧ RelV p.2 q.2.2) kvs xs ∧
      ∃ o es ep, h.get? a = some o ∧ o.ExactDict ∧ o.data = .dict es ep ∧ es.toList = xs.map (entryOfKey (tupleKind (mixKind P w))) ∧ (xs.map (·.1)).Nodup
  | .set S n => h.SetOf (intKind P w) a S n
  | .ins C dx fs => H dx = some (.own a) ∧ fs.length ≤ 1000 ∧ dx ≠ a ∧ h.get? a = some (PySem.W.instObj C dx) ∧
      ∃ mA, h.Ns1 dx mA ∧ (∀ f, RelO (fs.lookup f) (mA f)) ∧ PySem.Within mA (fs.map (·.1))
  | .own _ => ∃ o, h.get? a = some o
  | .xd fs => ∃ mA, h.Ns1 a mA ∧ ∀ f, RelO (fs.lookup f) (mA f)
  | .rng lo hi => ∃ t u v, h.get? a = some { cls := .type "range", data := .fields #[.int lo t, .int hi u, .int 1 v] }
  | .frz o u => h.get? a = some o ∧ ObjOk H h a u
  | .tbl ps => h.get? a = some { cls := .none, data := .fields ps }
  | .met f x => h.get? a = some (PySem.W.methodObj (.ref f) (.ref x))
  | .ext φ => φ h ∧ (∃ o, h.get? a = some o) ∧ ∀ h1 h2 : Heap, φ h1 → (∀ o, h1.get? a = some o → h2.get? a = some o) → φ h2
def HOk (H : Hp) (h : Heap) : Prop := ∀ a o, H a = some o → ObjOk P w H h a o
end
section
variable {P : Program} {w : World} {H H' : Hp} {h h' : Heap} {a : Addr} {o : HO}
theorem ObjOk.lt (x : ObjOk P w H h a o) : a < h.objs.size := by
  cases o with
  | lst xs => obtain ⟨_, _, _, _, e⟩ := x; exact Heap.lt_size e
  | tup xs => obtain ⟨_, _, _, p⟩ := x; exact p.lt
  | dK kvs => obtain ⟨_, _, _, _, o, _, _, e, _⟩ := x; exact Heap.lt_size e
  | dT kvs => obtain ⟨_, _, _, _, o, _, _, e, _⟩ := x; exact Heap.lt_size e
  | set S n => obtain ⟨o, _, _, _, e, _⟩ := x; exact Heap.lt_size e
  | ins C dx fs => obtain ⟨_, _, _, e, _⟩ := x; exact Heap.lt_size e
  | own y => obtain ⟨_, e⟩ := x; exact Heap.lt_size e
  | xd fs => obtain ⟨_, ⟨_, _, _, e, _⟩, _⟩ := x; exact Heap.lt_size e
  | rng lo hi => obtain ⟨_, _, _, e⟩ := x; exact Heap.lt_size e
  | frz ob u => obtain ⟨e, _⟩ := x; exact Heap.lt_size e
  | tbl ps => exact Heap.lt_size (show h.get? a = some _ from x)
  | met f y => exact Heap.lt_size (show h.get? a = some _ from x)
  | ext φ => obtain ⟨_, ⟨_, e⟩, _⟩ := x; exact Heap.lt_size e
theorem Paired.mapP {α β : Type} {F G : α → β → Prop} : ∀ {l₁ : List α} {l₂ : List β}, Paired F l₁ l₂ → (∀ a b, F a b → G a b) → Paired G l₁ l₂
  | _, _, .nil, _ => .nil
  | _, _, .cons r t, f => .cons (f _ _ r) (Paired.mapP t f)
theorem ObjOk.stay (x : ObjOk P w H h a o) (k : ∀ b u, (b = a ∨ H b = some (.own a)) → h.get? b = some u → h'.get? b = some u)
    (ho : ∀ b, H b = some (.own a) → H' b = some (.own a)) (ht : ∀ b xs, H b = some (.tup xs) → H' b = some (.tup xs)) : ObjOk P w H' h' a o := by
  induction o with
  | lst xs => obtain ⟨z, its, n, r, e⟩ := x; exact ⟨z, its, n, r, k _ _ (.inl rfl) e⟩
  | tup xs => obtain ⟨z, its, r, ob, e, c⟩ := x; exact ⟨z, its, r, ob, k _ _ (.inl rfl) e, c⟩
  | dK kvs => obtain ⟨z, y, vs, r, ob, es, ep, e, c⟩ := x; exact ⟨z, y, vs, r, ob, es, ep, k _ _ (.inl rfl) e, c⟩
  | dT kvs =>
    obtain ⟨z, y, xs, r, ob, es, ep, e, c⟩ := x
    exact ⟨z, y, xs, Paired.mapP r fun p q z => ⟨z.1, ht _ _ z.2.1, z.2.2⟩, ob, es, ep, k _ _ (.inl rfl) e, c⟩
  | set S n => obtain ⟨ob, es, ep, t, e, c⟩ := x; exact ⟨ob, es, ep, t, k _ _ (.inl rfl) e, c⟩
  | ins C dx fs =>
    obtain ⟨d, z, ne, e, mA, ⟨od, es, ep, e2, c⟩, r⟩ := x
    exact ⟨ho _ d, z, ne, k _ _ (.inl rfl) e, mA, ⟨od, es, ep, k _ _ (.inr d) e2, c⟩, r⟩
  | own y => obtain ⟨ob, e⟩ := x; exact ⟨ob, k _ _ (.inl rfl) e⟩
  | xd fs => obtain ⟨mA, ⟨od, es, ep, e, c⟩, r⟩ := x; exact ⟨mA, ⟨od, es, ep, k _ _ (.inl rfl) e, c⟩, r⟩
  | rng lo hi => obtain ⟨t, u, v, e⟩ := x; exact ⟨t, u, v, k _ _ (.inl rfl) e⟩
  | frz ob u ih => obtain ⟨e, q⟩ := x; exact ⟨k _ _ (.inl rfl) e, ih q⟩
  | tbl ps =>
    have e : h.get? a = some { cls := .none, data := .fields ps } := x
    show h'.get? a = some { cls := .none, data := .fields ps }
    exact k a _ (.inl rfl) e
  | met f y =>
    have e : h.get? a = some (PySem.W.methodObj (.ref f) (.ref y)) := x
    show h'.get? a = some (PySem.W.methodObj (.ref f) (.ref y))
    exact k a _ (.inl rfl) e
  | ext φ => obtain ⟨p, ⟨o, e⟩, st⟩ := x; exact ⟨st _ _ p fun o q => k _ _ (.inl rfl) q, ⟨o, k _ _ (.inl rfl) e⟩, st⟩
theorem HOk.lt (x : HOk P w H h) (e : H a = some o) : a < h.objs.size := (x a o e).lt
theorem HOk.fresh (x : HOk P w H h) (e : h.objs.size ≤ a) : H a = none := by
  cases q : H a with
  | none => rfl
  | some u => exact absurd (Nat.lt_of_lt_of_le (x.lt q) e) (Nat.lt_irrefl _)
theorem HOk.kept (x : HOk P w H h) (k : ∀ b u, h.get? b = some u → h'.get? b = some u) : HOk P w H h' := fun a o e =>
  (x a o e).stay (fun b u _ q => k b u q) (fun _ q => q) fun _ _ q => q
theorem HOk.laid (x : HOk P w H h) (k : ∀ b u, h.get? b = some u → h'.get? b = some u) (hp : h.objs.size ≤ a) (new : ObjOk P w (upd H a o) h' a o) : HOk P w (upd H a o) h' := fun b u e => by
  have hn := x.fresh hp
  by_cases hb : b = a
  · subst hb; rw [upd_same] at e; cases e; exact new
  · rw [upd_ne hb] at e
    exact (x b u e).stay (fun c v _ q => k c v q) (fun c q => by rw [upd_ne (ne_of_none q hn)]; exact q) fun c xs q => by rw [upd_ne (ne_of_none q hn)]; exact q
end
def Rd (H : Hp) (a : Addr) (u : HO) : Prop := H a = some u ∨ ∃ o, H a = some (.frz o u)
theorem Rd.of {H : Hp} {a : Addr} {u : HO} (h : H a = some u) : Rd H a u := .inl h
theorem Rd.ok {P : Program} {w : World} {H : Hp} {h : Heap} {a : Addr} {u : HO} (r : Rd H a u) (x : HOk P w H h) : ObjOk P w H h a u := by
  rcases r with r | ⟨o, r⟩
  · exact x a u r
  · obtain ⟨_, q⟩ := x a _ r
    exact q
def Mut : Option HO → Prop
  | some (.lst _) => True
  | some (.dK _) => True
  | some (.dT _) => True
  | some (.set _ _) => True
  | some (.ins _ _ _) => True
  | some (.ext _) => True
  | _ => False
section
variable {P : Program} {w : World} {H : Hp} {h h' : Heap} {x e : Addr} {o' : HO}
theorem HOk.write (ok : HOk P w H h) (mu : Mut (H x)) (he : e = x ∨ H e = some (.own x)) (k : ∀ b u, b ≠ e → h.get? b = some u → h'.get? b = some u) (heo : ∃ u, h'.get? e = some u)
    (new : ObjOk P w (upd H x o') h' x o') : HOk P w (upd H x o') h' := fun b u q => by
  have nown : ∀ c y, H c = some (.own y) → c ≠ x := fun c y r z => by subst z; rw [r] at mu; exact mu
  have ntup : ∀ c xs, H c = some (.tup xs) → c ≠ x := fun c xs r z => by subst z; rw [r] at mu; exact mu
  by_cases hb : b = x
  · subst hb; rw [upd_same] at q; cases q; exact new
  · rw [upd_ne hb] at q
    by_cases hbe : b = e
    · have q' : H b = some (.own x) := by
        rcases he with z | z
        · exact absurd (hbe.trans z) hb
        · rw [hbe]; exact z
      rw [q] at q'; cases q'
      obtain ⟨v, hv⟩ := heo
      exact ⟨v, by rw [hbe]; exact hv⟩
    · refine (ok b u q).stay (fun c v hc r => k c v ?_ r) (fun c r => by rw [upd_ne (nown c b r)]; exact r) fun c xs r => by rw [upd_ne (ntup c xs r)]; exact r
      rcases hc with rfl | hc
      · exact hbe
      · rintro rfl
        rcases he with z | z
        · exact nown c b hc z
        · rw [hc] at z; cases z; exact hb rfl
end
structure Un (fs ex : List Addr) (H H' : Hp) (h h' : Heap) : Prop where
  keep : ∀ b o, h.get? b = some o → H b = none → b ∉ fs → b ∉ ex → h'.get? b = some o
  slot : ∀ b o, h.get? b = some o → H b = none → b ∈ fs → b ∉ ex → ∃ sl, h'.get? b = some { o with slots := sl }
  free : ∀ b o, h.get? b = some o → H b = none → b ∉ ex → H' b = none
  there : ∀ b o, h.get? b = some o → b ∉ ex → ∃ o', h'.get? b = some o'
  tups : ∀ b xs, H b = some (.tup xs) → H' b = some (.tup xs)
  frzs : ∀ b o u, H b = some (.frz o u) → H' b = some (.frz o u)
  tbls : ∀ b ps, H b = some (.tbl ps) → ∃ more, H' b = some (.tbl (ps ++ more))
section
variable {fs fs' ex ex' : List Addr} {H H1 H2 : Hp} {h h1 h2 h' : Heap} {a x e : Addr} {o : HO}
theorem Un.any (u : Un fs ex H H1 h h1) {b : Addr} {ob : Obj} (q : h.get? b = some ob) (n : H b = none) (hx : b ∉ ex) : ∃ sl, h1.get? b = some { ob with slots := sl } := by
  by_cases hb : b ∈ fs
  · exact u.slot b ob q n hb hx
  · exact ⟨ob.slots, u.keep b ob q n hb hx⟩
theorem Un.trans (a : Un fs ex H H1 h h1) (b : Un fs ex H1 H2 h1 h2) : Un fs ex H H2 h h2 where
  keep := fun c ob q n hc hx => b.keep c ob (a.keep c ob q n hc hx) (a.free c ob q n hx) hc hx
  slot := fun c ob q n hc hx => by
    obtain ⟨sl, e1⟩ := a.slot c ob q n hc hx
    obtain ⟨sl', e2⟩ := b.slot c _ e1 (a.free c ob q n hx) hc hx
    exact ⟨sl', e2⟩
  free := fun c ob q n hx => by
    obtain ⟨o', e1⟩ := a.there c ob q hx
    exact b.free c o' e1 (a.free c ob q n hx) hx
  there := fun c ob q hx => by
    obtain ⟨o', e1⟩ := a.there c ob q hx
    exact b.there c o' e1 hx
  tups := fun c xs q => b.tups c xs (a.tups c xs q)
  frzs := fun c ob xs q => b.frzs c ob xs (a.frzs c ob xs q)
  tbls := fun c ps q => by
    obtain ⟨m1, e1⟩ := a.tbls c ps q
    obtain ⟨m2, e2⟩ := b.tbls c _ e1
    exact ⟨m1 ++ m2, by rw [e2, Array.append_assoc]⟩
theorem Un.kept (k : ∀ b u, h.get? b = some u → h'.get? b = some u) : Un fs ex H H h h' :=
  ⟨fun b ob q _ _ _ => k b ob q, fun b ob q _ _ _ => ⟨ob.slots, k b ob q⟩, fun _ _ _ n _ => n, fun b ob q _ => ⟨ob, k b ob q⟩, fun _ _ q => q, fun _ _ _ q => q, fun _ ps q => ⟨#[], by rw [q]; simp⟩⟩
theorem Un.refl : Un fs ex H H h h := Un.kept fun _ _ q => q
theorem Un.laid (k : ∀ b u, h.get? b = some u → h'.get? b = some u) (hp : h.objs.size ≤ a) (hn : H a = none) : Un fs ex H (upd H a o) h h' where
  keep := fun b u q _ _ _ => k b u q
  slot := fun b u q _ _ _ => ⟨u.slots, k b u q⟩
  free := fun b u q n _ => by rw [upd_ne (Nat.ne_of_lt (Nat.lt_of_lt_of_le (Heap.lt_size q) hp))]; exact n
  there := fun b u q _ => ⟨u, k b u q⟩
  tups := fun b xs q => by rw [upd_ne (ne_of_none q hn)]; exact q
  frzs := fun b u xs q => by rw [upd_ne (ne_of_none q hn)]; exact q
  tbls := fun b ps q => ⟨#[], by rw [upd_ne (ne_of_none q hn), q]; simp⟩
theorem Un.write (mu : Mut (H x)) (he : e = x ∨ H e = some (.own x)) (k : ∀ b u, b ≠ e → h.get? b = some u → h'.get? b = some u) (heo : ∃ u, h'.get? e = some u) : Un fs ex H (upd H x o) h h' := by
  have hx : ∀ b, H b = none → b ≠ x := fun b n z => by subst z; rw [n] at mu; exact mu
  have hb : ∀ b, H b = none → b ≠ e := fun b n z => by
    subst z
    rcases he with r | r
    · exact hx b n r
    · rw [n] at r; cases r
  have hm : ∀ b u, H b = some u → ¬ Mut (some u) → b ≠ x := fun b u q nm z => by subst z; rw [q] at mu; exact nm mu
  refine ⟨fun b u q n _ _ => k b u (hb b n) q, fun b u q n _ _ => ⟨u.slots, k b u (hb b n) q⟩, fun b u q n _ => by rw [upd_ne (hx b n)]; exact n, fun b u q _ => ?_,
    fun b xs q => by rw [upd_ne (hm b _ q fun z => z)]; exact q, fun b u xs q => by rw [upd_ne (hm b _ q fun z => z)]; exact q, fun b ps q => ⟨#[], by rw [upd_ne (hm b _ q fun z => z), q]; simp⟩⟩
  by_cases hbe : b = e
  · subst hbe; exact heo
  · exact ⟨u, k b u hbe q⟩
theorem Un.mono (u : Un fs ex H H1 h h1) (hs : ∀ b ∈ fs, b ∈ fs') (hx : ∀ b ∈ ex, b ∈ ex') : Un fs' ex' H H1 h h1 :=
  ⟨fun b ob q n hb he => u.keep b ob q n (fun z => hb (hs b z)) fun z => he (hx b z), fun _ _ q n _ he => u.any q n fun z => he (hx _ z), fun b ob q n he => u.free b ob q n fun z => he (hx b z), fun b ob q he => u.there b ob q fun z => he (hx b z), u.tups, u.frzs, u.tbls⟩
end
def trk (h : Heap) (H : Hp) : List Addr := (List.range h.objs.size).filter fun a => (H a).isSome
def hidT (h : Heap) (H : Hp) : Heap := PySem.W.hideAll h (trk h H)
theorem hidT_size (h : Heap) (H : Hp) : (hidT h H).objs.size = h.objs.size := PySem.W.hideAll_size _ _
theorem hidT_get {h : Heap} {H : Hp} {b : Addr} {o : Obj} (e : h.get? b = some o) (n : H b = none) : (hidT h H).get? b = some o :=
  PySem.W.hideAll_get _ e fun hm => by
    have q : (H b).isSome = true := (List.mem_filter.mp hm).2
    rw [n] at q; simp at q
theorem of_hidT {h : Heap} {H : Hp} {b : Addr} {o : Obj} (e : (hidT h H).get? b = some o) : h.get? b = some o ∧ H b = none := by
  have e' : h.get? b = some o := PySem.W.of_hideAll (trk h H) e
  refine ⟨e', ?_⟩
  cases q : H b with
  | none => rfl
  | some x =>
    have hm : b ∈ trk h H := List.mem_filter.mpr ⟨List.mem_range.mpr (Heap.lt_size e'), by simp [q]⟩
    have z : (hidT h H).get? b = none := PySem.W.hideAll_none (trk h H) hm
    rw [z] at e; cases e
def allNews (g h : Heap) (L : Addr) : List (Addr × Obj) := (List.range h.objs.size).filterMap fun a => if a = L ∨ (g.get? a).isSome = true then none else (h.get? a).map fun o => (a, o)
def rest (g h : Heap) (L d : Addr) : List (Addr × Obj) := (allNews g h L).filter fun p => decide (p.1 ≠ d)
end L2
namespace L2
open PySem PySem.Spec PyProof.Rows
structure Mod (K : PySem.W.Frag) (mg : Str → Option Value) (base : Heap) : Prop where
  kin : K.In base
  glob : base.Ns mainGlobals mg
  blt : ∃ mb, base.Ns builtinsNs mb ∧ ∀ x : Str, x ≠ "__name__" → mb x = bootBuiltins x
  nolimit : base.NoLimit
structure Cx where
  prog : Program
  w : World
  K : PySem.W.Frag
  mg : Str → Option Value
  base : Heap
  A : Around
  N : List Str
  s₀ : Shared
  H₀ : Hp
  env : Env
  outer : List Env
  stack : List Env
  ex : List Addr
  fn : Str → Bool
  calm : Bool
  pn : List (Addr × Obj)
  xe : Value → Shared → Prop
def frs (l : List Env) : List Addr := l.filterMap (·.frame)
abbrev Cx.fs (X : Cx) : List Addr := frs X.outer
def Vis (sc : Scope) (x : Str) : Prop := sc.names.lookup x = some .local ∨ sc.names.lookup x = some .cell ∨ sc.names.lookup x = some .free
def Loc (sc : Scope) (x : Str) : Prop := sc.names.lookup x = some .local ∨ sc.names.lookup x = some .cell
def Look (env : Env) (h : Heap) (m : Str → Option Value) (x : Str) (u : Value) : Prop :=
  (env.kindOf x = some .local ∧ m x = some u) ∨ ((env.kindOf x = some .cell ∨ env.kindOf x = some .free) ∧ ∃ c, env.cells.lookup x = some c ∧ h.IsCell c (some u))
structure Cx.Ok (X : Cx) : Prop where
  mod : Mod X.K X.mg X.base
  kind : X.env.scope.kind = .function
  glob : X.env.globals = mainGlobals
  blt : X.env.builtins = builtinsNs
  above : X.s₀.heap.objs.size ≤ X.env.locals
  inj : ∀ x y c, X.env.cells.lookup x = some c → X.env.cells.lookup y = some c → x = y
  has : ∀ x, (X.env.kindOf x = some .cell ∨ X.env.kindOf x = some .free) → ∃ c, X.env.cells.lookup x = some c
  cab : ∀ x c, X.fn x = true → X.env.cells.lookup x = some c → X.s₀.heap.objs.size ≤ c
  hd : X.calm = true → X.A.handled = none
  frames : X.A.frames = some X.stack
  stk : X.stack = X.outer ∨ (X.stack = X.env :: X.outer ∧ X.env.frame = some X.env.locals)
  exf : ∀ b ∈ X.ex, b ≠ X.env.locals ∧ ∀ x c, X.env.cells.lookup x = some c → c ≠ b
  bs : ∀ b o, X.base.get? b = some o → X.s₀.heap.get? b = some o ∧ X.H₀ b = none
  bsz : X.base.objs.size ≤ X.s₀.heap.objs.size
  noex : ∀ b o, X.base.get? b = some o → b ∉ X.ex
  exfs : ∀ b ∈ X.ex, b ∉ X.fs
  funs : X.s₀.heap.FunFrames X.base X.outer
  frf : ∀ b ∈ X.fs, X.H₀ b = none
structure Inv (X : Cx) (pins : List (Addr × Obj)) (σ : List (Option V)) (H : Hp) (s : Shared) : Prop where
  ok : X.Ok
  os : s.os = X.s₀.os
  bare : AllBare s.gens
  base : Un X.fs X.ex X.H₀ H X.s₀.heap s.heap
  loc : ∃ m, s.heap.Ns X.env.locals m ∧ ∀ (i : Nat) (x : Str) (v : V), X.N[i]? = some x → σ[i]? = some (some v) → Vis X.env.scope x → ∃ u, RelV v u ∧ Look X.env s.heap m x u
  cell : ∀ x c, X.env.cells.lookup x = some c → ∃ v, s.heap.IsCell c v
  free : H X.env.locals = none
  freeC : ∀ x c, X.env.cells.lookup x = some c → H c = none
  pin : ∀ p ∈ X.pn ++ pins, s.heap.get? p.1 = some p.2 ∧ H p.1 = none ∧ p.1 ≠ X.env.locals ∧ p.1 ∉ X.fs ∧ ∀ v, p.2.data ≠ .cell v
  hok : HOk X.prog X.w H s.heap
  len : σ.length = X.N.length
section
variable {X : Cx} {pins : List (Addr × Obj)} {σ : List (Option V)} {H H' : Hp} {s : Shared} {h' : Heap}
theorem Cx.Ok.nofr (ok : X.Ok) {b : Addr} {o : Obj} (e : X.base.get? b = some o) : b ∉ X.fs := fun hb => by
  have := (ok.funs.mem hb).1
  rw [e] at this; cases this
theorem Inv.bs (I : Inv X pins σ H s) : ∀ b o, X.base.get? b = some o → s.heap.get? b = some o ∧ H b = none := fun b o e =>
  ⟨I.base.keep b o (I.ok.bs b o e).1 (I.ok.bs b o e).2 (I.ok.nofr e) (I.ok.noex b o e), I.base.free b o (I.ok.bs b o e).1 (I.ok.bs b o e).2 (I.ok.noex b o e)⟩
theorem Inv.bk (I : Inv X pins σ H s) : ∀ b o, X.base.get? b = some o → s.heap.get? b = some o := fun b o e => (I.bs b o e).1
theorem Inv.mod (I : Inv X pins σ H s) : Mod X.K X.mg X.base := I.ok.mod
theorem Inv.kIn (I : Inv X pins σ H s) : X.K.In s.heap := I.ok.mod.kin.keeps I.bk
theorem Inv.nolimit (I : Inv X pins σ H s) : s.heap.NoLimit := I.ok.mod.nolimit.keeps I.bk
theorem Inv.fr (I : Inv X pins σ H s) : ∃ m, Fr X.base X.env.locals s.heap m :=
  let ⟨m, hn, _⟩ := I.loc
  ⟨m, hn, I.bk, Nat.le_trans I.ok.bsz I.ok.above⟩
theorem Inv.lt (I : Inv X pins σ H s) : X.env.locals < s.heap.objs.size := let ⟨_, hn, _⟩ := I.loc; hn.lt
theorem Inv.sz (I : Inv X pins σ H s) : X.s₀.heap.objs.size ≤ s.heap.objs.size := Nat.le_trans I.ok.above (Nat.le_of_lt I.lt)
theorem Inv.nofs (I : Inv X pins σ H s) {a : Addr} (h : s.heap.objs.size ≤ a) : a ∉ X.fs := fun hb => by
  obtain ⟨_, o, ho, _⟩ := I.ok.funs.mem hb
  exact absurd (Nat.lt_of_lt_of_le (Heap.lt_size ho) (Nat.le_trans I.sz h)) (Nat.lt_irrefl _)
theorem Inv.cne (I : Inv X pins σ H s) : ∀ x c, X.env.cells.lookup x = some c → c ≠ X.env.locals := fun x c e z => by
  obtain ⟨v, o, ho, hd⟩ := I.cell x c e
  obtain ⟨m, ⟨o', es, ep, ho', hd', _⟩, _⟩ := I.loc
  rw [z, ho'] at ho; cases ho; rw [hd'] at hd; cases hd
theorem Inv.funs (I : Inv X pins σ H s) : s.heap.FunFrames X.base X.outer := by
  have all : ∀ (l : List Env), (∀ b ∈ frs l, b ∈ X.fs) → X.s₀.heap.FunFrames X.base l → s.heap.FunFrames X.base l := by
    intro l
    induction l with
    | nil => intro _ _; trivial
    | cons env r ih =>
      intro hs hl
      obtain ⟨hk, ⟨L, o, hf, hn, ho, hd⟩, hr⟩ := hl
      have hL : L ∈ X.fs := hs L (by unfold frs; rw [List.filterMap_cons, hf]; exact List.mem_cons_self)
      obtain ⟨sl, e⟩ := I.base.slot L o ho (I.ok.frf L hL) hL fun z => I.ok.exfs L z hL
      exact ⟨hk, ⟨L, _, hf, hn, e, hd⟩, ih (fun b hb => hs b (by unfold frs; rw [List.filterMap_cons, hf]; exact List.mem_cons_of_mem _ hb)) hr⟩
  exact all X.outer (fun _ hb => hb) I.ok.funs
theorem Inv.stack (I : Inv X pins σ H s) : s.heap.FunFrames X.base X.stack := by
  rcases I.ok.stk with e | ⟨e, hf⟩
  · rw [e]; exact I.funs
  · rw [e]
    obtain ⟨m, hn, _⟩ := I.loc
    refine .cons (by rw [I.ok.kind]; decide) hf hn ?_ I.funs
    exact Heap.get?_none_of_le (Nat.le_trans I.ok.bsz I.ok.above)
theorem Inv.stkSub (I : Inv X pins σ H s) : ∀ b ∈ frs X.stack, b ∈ X.env.locals :: X.fs := fun b hb => by
  rcases I.ok.stk with e | ⟨e, hf⟩
  · rw [e] at hb; exact List.mem_cons_of_mem _ hb
  · rw [e] at hb
    unfold frs at hb
    rw [List.filterMap_cons, hf] at hb
    exact hb
theorem Inv.stkFree (I : Inv X pins σ H s) : ∀ b ∈ frs X.stack, H b = none := fun b hb => by
  rcases List.mem_cons.mp (I.stkSub b hb) with e | hb
  · rw [e]; exact I.free
  · obtain ⟨_, o, ho, _⟩ := I.ok.funs.mem hb
    exact I.base.free b o ho (I.ok.frf b hb) fun z => I.ok.exfs b z hb
theorem Inv.step {g' : Array GenState} {t' : Nat} {d' : Drawn} {ch : List Addr} (I : Inv X pins σ H s)
    (hch : ∀ b ∈ ch, (b ∈ X.ex ∨ X.s₀.heap.objs.size ≤ b) ∧ b ≠ X.env.locals ∧ (∀ x c, X.env.cells.lookup x = some c → c ≠ b) ∧ ∀ p ∈ X.pn ++ pins, p.1 ≠ b)
    (keep : ∀ b o, b ≠ X.env.locals → b ∉ X.fs → b ∉ ch → s.heap.get? b = some o → H b = none → h'.get? b = some o)
    (slot : ∀ b o, b ≠ X.env.locals → b ∈ X.fs → b ∉ ch → s.heap.get? b = some o → H b = none → ∃ sl, h'.get? b = some { o with slots := sl }) (free : ∀ b o, b ∉ ch → s.heap.get? b = some o → H b = none → H' b = none)
    (there : ∀ b o, b ∉ ch → s.heap.get? b = some o → ∃ o', h'.get? b = some o')
    (tups : ∀ b xs, H b = some (.tup xs) → H' b = some (.tup xs)) (frzs : ∀ b o u, H b = some (.frz o u) → H' b = some (.frz o u)) (tbls : ∀ b ps, H b = some (.tbl ps) → ∃ more, H' b = some (.tbl (ps ++ more)))
    (ns : ∀ m, s.heap.Ns X.env.locals m → h'.Ns X.env.locals m) (hok : HOk X.prog X.w H' h') (hg : AllBare g') :
    Inv X pins σ H' { s with heap := h', gens := g', drawn := d', toks := t' } := by
  have neL : ∀ b o, X.s₀.heap.get? b = some o → b ≠ X.env.locals := fun b o e => Nat.ne_of_lt (Nat.lt_of_lt_of_le (Heap.lt_size e) I.ok.above)
  have neC : ∀ b o, X.s₀.heap.get? b = some o → b ∉ X.ex → b ∉ ch := fun b o e hx hb => by
    rcases (hch b hb).1 with z | z
    · exact hx z
    · exact absurd (Nat.lt_of_lt_of_le (Heap.lt_size e) z) (Nat.lt_irrefl _)
  have cellK : ∀ x c, X.env.cells.lookup x = some c → ∀ v, s.heap.IsCell c v → h'.IsCell c v := fun x c e v ⟨o, ho, hd⟩ => by
    have nch : c ∉ ch := fun z => (hch c z).2.2.1 x c e rfl
    by_cases hc : c ∈ X.fs
    · obtain ⟨sl, q⟩ := slot c o (I.cne x c e) hc nch ho (I.freeC x c e)
      exact ⟨_, q, hd⟩
    · exact ⟨o, keep c o (I.cne x c e) hc nch ho (I.freeC x c e), hd⟩
  refine ⟨I.ok, I.os, hg, ⟨fun b o e n hb hx => ?_, fun b o e n hb hx => ?_, fun b o e n hx => ?_, fun b o e hx => ?_, fun b xs e => tups b xs (I.base.tups b xs e), fun b o xs e => frzs b o xs (I.base.frzs b o xs e), fun b ps e => ?_⟩, ?_, fun x c e => ?_, ?_, fun x c e => ?_, fun p hp => ?_, hok, I.len⟩
  · exact keep b o (neL b o e) hb (neC b o e hx) (I.base.keep b o e n hb hx) (I.base.free b o e n hx)
  · obtain ⟨sl, e1⟩ := I.base.slot b o e n hb hx
    obtain ⟨sl', e2⟩ := slot b _ (neL b o e) hb (neC b o e hx) e1 (I.base.free b o e n hx)
    exact ⟨sl', e2⟩
  · obtain ⟨o', e1⟩ := I.base.there b o e hx
    exact free b o' (neC b o e hx) e1 (I.base.free b o e n hx)
  · obtain ⟨o', e1⟩ := I.base.there b o e hx
    exact there b o' (neC b o e hx) e1
  · obtain ⟨m1, e1⟩ := I.base.tbls b ps e
    obtain ⟨m2, e2⟩ := tbls b _ e1
    exact ⟨m1 ++ m2, by rw [e2, Array.append_assoc]⟩
  · obtain ⟨m, hn, hl⟩ := I.loc
    refine ⟨m, ns m hn, fun i x v e1 e2 e3 => ?_⟩
    obtain ⟨u, r, l⟩ := hl i x v e1 e2 e3
    refine ⟨u, r, ?_⟩
    rcases l with l | ⟨k, c, e, z⟩
    · exact .inl l
    · exact .inr ⟨k, c, e, cellK x c e _ z⟩
  · obtain ⟨v, z⟩ := I.cell x c e
    exact ⟨v, cellK x c e v z⟩
  · obtain ⟨m, ⟨o, _, _, ho, _⟩, _⟩ := I.loc
    exact free _ o (fun z => (hch _ z).2.1 rfl) ho I.free
  · obtain ⟨v, o, ho, hd⟩ := I.cell x c e
    exact free c o (fun z => (hch c z).2.2.1 x c e rfl) ho (I.freeC x c e)
  · obtain ⟨e, n, ne, nf, d⟩ := I.pin p hp
    have nch : p.1 ∉ ch := fun z => (hch p.1 z).2.2.2 p hp rfl
    exact ⟨keep p.1 p.2 ne nf nch e n, free p.1 p.2 nch e n, ne, nf, d⟩
theorem Inv.un {t' : Nat} (I : Inv X pins σ H s) (u : Un X.fs [] H H' s.heap h') (hok : HOk X.prog X.w H' h') : Inv X pins σ H' { s with heap := h', toks := t' } := by
  obtain ⟨m, ⟨o, es, ep, ho, r⟩, _⟩ := id I.loc
  obtain ⟨sl, hL⟩ := u.any ho I.free (by simp)
  exact I.step (g' := s.gens) (d' := s.drawn) (ch := []) (fun _ z => nomatch z) (fun b o _ hb _ e n => u.keep b o e n hb (by simp)) (fun b o _ hb _ e n => u.slot b o e n hb (by simp)) (fun b o _ e n => u.free b o e n (by simp)) (fun b o _ e => u.there b o e (by simp)) u.tups u.frzs u.tbls (fun m' hm => by
    obtain ⟨o', es', ep', ho', r'⟩ := hm
    rw [ho] at ho'; cases ho'
    exact ⟨_, es', ep', hL, r'⟩) hok I.bare
theorem Inv.call {g' : Array GenState} {t' : Nat} {d' : Drawn} {ch : List Addr} (I : Inv X pins σ H s) (u : Un (frs X.stack) ch H H' s.heap h') (hok : HOk X.prog X.w H' h') (hg : AllBare g')
    (hch : ∀ b ∈ ch, (b ∈ X.ex ∨ X.s₀.heap.objs.size ≤ b) ∧ b ≠ X.env.locals ∧ (∀ x c, X.env.cells.lookup x = some c → c ≠ b) ∧ ∀ p ∈ X.pn ++ pins, p.1 ≠ b) :
    Inv X pins σ H' { s with heap := h', gens := g', drawn := d', toks := t' } := by
  obtain ⟨m, ⟨o, es, ep, ho, r⟩, _⟩ := id I.loc
  obtain ⟨sl, hL⟩ := u.any ho I.free fun z => (hch _ z).2.1 rfl
  exact I.step (ch := ch) hch (fun b o hL hb hc e n => u.keep b o e n (fun z => (List.mem_cons.mp (I.stkSub b z)).elim hL hb) hc) (fun b o _ _ hc e n => u.any e n hc) (fun b o hc e n => u.free b o e n hc) (fun b o hc e => u.there b o e hc) u.tups u.frzs u.tbls (fun m' hm => by
    obtain ⟨o', es', ep', ho', r'⟩ := hm
    rw [ho] at ho'; cases ho'
    exact ⟨_, es', ep', hL, r'⟩) hok hg
theorem Inv.turned {t' : Nat} {it : Addr} (I : Inv X pins σ H s) (k : ∀ b o, b ≠ it → s.heap.get? b = some o → h'.get? b = some o) (hn : H it = none) (hL : it ≠ X.env.locals)
    (h1 : it ∈ X.ex ∨ X.s₀.heap.objs.size ≤ it) (h2 : ∀ x c, X.env.cells.lookup x = some c → c ≠ it) (h3 : ∀ p ∈ X.pn ++ pins, p.1 ≠ it) : Inv X pins σ H { s with heap := h', toks := t' } := by
  have nit : ∀ b u, H b = some u → b ≠ it := fun b u e z => by rw [z, hn] at e; cases e
  refine I.step (g' := s.gens) (d' := s.drawn) (ch := [it]) (fun b hb => ?_) (fun b o _ _ hc e _ => k b o (fun z => hc (by simp [z])) e) (fun b o _ _ hc e _ => ⟨o.slots, k b o (fun z => hc (by simp [z])) e⟩) (fun _ _ _ _ n => n)
    (fun b o hc e => ⟨o, k b o (fun z => hc (by simp [z])) e⟩) (fun _ _ e => e) (fun _ _ _ e => e) (fun b ps e => ⟨#[], by rw [e]; simp⟩) (fun m hm => ?_) (fun b u e => ?_) I.bare
  · have e : b = it := by simpa using hb
    subst e
    exact ⟨h1, hL, h2, h3⟩
  · obtain ⟨o, es, ep, ho, r⟩ := hm
    exact ⟨o, es, ep, k _ o (Ne.symm hL) ho, r⟩
  · refine (I.hok b u e).stay (fun c v hc q => k c v ?_ q) (fun _ q => q) fun _ _ q => q
    rcases hc with z | z
    · rw [z]; exact nit b u e
    · exact nit c _ z
theorem Inv.tok (I : Inv X pins σ H s) (t : Nat) : Inv X pins σ H { s with toks := t } := I.un (h' := s.heap) (t' := t) Un.refl I.hok
theorem Inv.kept {t' : Nat} (I : Inv X pins σ H s) (k : ∀ b u, s.heap.get? b = some u → h'.get? b = some u) : Inv X pins σ H { s with heap := h', toks := t' } := I.un (Un.kept k) (I.hok.kept k)
theorem Inv.laid {a : Addr} {o : HO} {t' : Nat} (I : Inv X pins σ H s) (k : ∀ b u, s.heap.get? b = some u → h'.get? b = some u) (hp : s.heap.objs.size ≤ a) (new : ObjOk X.prog X.w (upd H a o) h' a o) :
    Inv X pins σ (upd H a o) { s with heap := h', toks := t' } := I.un (Un.laid k hp (I.hok.fresh hp)) (I.hok.laid k hp new)
theorem Inv.write {x e : Addr} {o : HO} {t' : Nat} (I : Inv X pins σ H s) (mu : Mut (H x)) (he : e = x ∨ H e = some (.own x)) (k : ∀ b u, b ≠ e → s.heap.get? b = some u → h'.get? b = some u) (heo : ∃ u, h'.get? e = some u)
    (new : ObjOk X.prog X.w (upd H x o) h' x o) : Inv X pins σ (upd H x o) { s with heap := h', toks := t' } := I.un (Un.write mu he k heo) (I.hok.write mu he k heo new)
theorem Inv.weak {σ' : List (Option V)} (I : Inv X pins σ H s) (hl : σ'.length = σ.length) (w : ∀ (i : Nat) v, σ'[i]? = some (some v) → σ[i]? = some (some v)) : Inv X pins σ' H s :=
  ⟨I.ok, I.os, I.bare, I.base, let ⟨m, hn, hl'⟩ := I.loc; ⟨m, hn, fun i x v e1 e2 e3 => hl' i x v e1 (w i v e2) e3⟩, I.cell, I.free, I.freeC, I.pin, I.hok, hl.trans I.len⟩
theorem Inv.pins_of {pins' : List (Addr × Obj)} (I : Inv X pins σ H s) (h : ∀ p ∈ pins', s.heap.get? p.1 = some p.2 ∧ H p.1 = none ∧ p.1 ≠ X.env.locals ∧ p.1 ∉ X.fs ∧ ∀ v, p.2.data ≠ .cell v) : Inv X pins' σ H s :=
  ⟨I.ok, I.os, I.bare, I.base, I.loc, I.cell, I.free, I.freeC, fun p hp => (List.mem_append.mp hp).elim (fun z => I.pin p (List.mem_append_left _ z)) (h p), I.hok, I.len⟩
theorem nodup_ix {N : List Str} (hN : N.Nodup) {i j : Nat} {x : Str} (a : N[i]? = some x) (b : N[j]? = some x) : i = j := by
  obtain ⟨h1, e1⟩ := List.getElem?_eq_some_iff.mp a
  obtain ⟨h2, e2⟩ := List.getElem?_eq_some_iff.mp b
  exact (List.getElem_inj hN).mp (e1.trans e2.symm)
theorem store_ok2 {M : Model} {A : Around} {E : Value → Shared → Prop} {i : Nat} {x : Str} {v : V} {u : Value} {Q : Unit → Shared → Prop} (I : Inv X pins σ H s) (hN : X.N.Nodup) (hi : X.N[i]? = some x) (hx : Loc X.env.scope x) (r : RelV v u)
    (h : ∀ s', Inv X pins (σ.set i (some v)) H s' → (∃ a, Heap.SameBut a s.heap s'.heap ∧ (a = X.env.locals ∨ X.env.cells.lookup x = some a)) → Q () s') (hf : X.fn x = true ∨ X.env.scope.names.lookup x = some .local := by first | exact .inl rfl | exact .inr rfl | assumption) : wpAny M A (storeName X.env x u) Q E s := by
  obtain ⟨m, hn, hl⟩ := id I.loc
  have hcls : (X.env.scope.kind == .class || (X.env.scope.kind == .module && X.env.locals != X.env.globals)) = false := by rw [I.ok.kind]; rfl
  have hiσ : i < σ.length := by rw [I.len]; exact (List.getElem?_eq_some_iff.mp hi).1
  have cne := I.cne
  have tracked : ∀ {a : Addr} {h' : Heap}, (∃ o, s.heap.get? a = some o ∧ H a = none) → Heap.SameBut a s.heap h' → HOk X.prog X.w H h' := fun {a h'} ha hs b ob e => by
    obtain ⟨_, _, hfree⟩ := ha
    refine (I.hok b ob e).stay (fun c w' hc q => (hs.2 c ?_).trans q) (fun _ q => q) fun _ _ q => q
    rintro rfl
    rcases hc with rfl | hc
    · rw [hfree] at e; cases e
    · rw [hfree] at hc; cases hc
  rcases hx with hk | hk
  · refine wpAny_storeName_local hk hn (fun h' hn' hs => ?_) hcls
    obtain ⟨oL, _, _, hoL, _⟩ := id hn
    refine h _ ⟨I.ok, I.os, I.bare, ⟨fun b o e n hb hx => ?_, fun b o e n hb hx => ?_, I.base.free, fun b o e hx => ?_, I.base.tups, I.base.frzs, I.base.tbls⟩, ⟨_, hn', fun j y v' e1 e2 e3 => ?_⟩, fun y c e => ?_, I.free, I.freeC, fun p hp => ?_, tracked ⟨oL, hoL, I.free⟩ hs, by simpa using I.len⟩ ⟨_, hs, .inl rfl⟩
    · exact (hs.2 b (Nat.ne_of_lt (Nat.lt_of_lt_of_le (Heap.lt_size e) I.ok.above))).trans (I.base.keep b o e n hb hx)
    · obtain ⟨sl, e1⟩ := I.base.slot b o e n hb hx
      exact ⟨sl, (hs.2 b (Nat.ne_of_lt (Nat.lt_of_lt_of_le (Heap.lt_size e) I.ok.above))).trans e1⟩
    · obtain ⟨o', e1⟩ := I.base.there b o e hx
      exact ⟨o', (hs.2 b (Nat.ne_of_lt (Nat.lt_of_lt_of_le (Heap.lt_size e) I.ok.above))).trans e1⟩
    · by_cases hj : j = i
      · subst hj
        rw [hi] at e1; cases e1
        rw [List.getElem?_set_self hiσ] at e2
        cases e2
        exact ⟨u, r, .inl ⟨hk, by simp⟩⟩
      · rw [List.getElem?_set_ne (Ne.symm hj)] at e2
        obtain ⟨u', r', q⟩ := hl j y v' e1 e2 e3
        refine ⟨u', r', ?_⟩
        rcases q with ⟨k, e⟩ | ⟨k, c, e, z⟩
        · refine .inl ⟨k, ?_⟩
          have : y ≠ x := fun e => hj (nodup_ix hN e1 (e ▸ hi))
          simp [this, e]
        · exact .inr ⟨k, c, e, z.sameBut hs (cne y c e)⟩
    · obtain ⟨w', z⟩ := I.cell y c e
      exact ⟨w', z.sameBut hs (cne y c e)⟩
    · obtain ⟨e, n, ne, nf, d⟩ := I.pin p hp
      exact ⟨(hs.2 p.1 ne).trans e, n, ne, nf, d⟩
  · have hfn : X.fn x = true := by
      rcases hf with z | z
      · exact z
      · rw [z] at hk; cases hk
    obtain ⟨c, hc⟩ := I.ok.has x (.inl hk)
    obtain ⟨w', z⟩ := I.cell x c hc
    refine wpAny_storeName_cell I.ok.kind hk hc z (fun h' hc' hs => ?_)
    obtain ⟨oc, hoc, hocd⟩ := id z
    refine h { s with heap := h' } ⟨I.ok, I.os, I.bare, ⟨fun b o e n hb hx => ?_, fun b o e n hb hx => ?_, I.base.free, fun b o e hx => ?_, I.base.tups, I.base.frzs, I.base.tbls⟩, ⟨m, hn.sameBut hs (Ne.symm (cne x c hc)), fun j y v' e1 e2 e3 => ?_⟩, fun y c' e => ?_, I.free, I.freeC, fun p hp => ?_, tracked ⟨oc, hoc, I.freeC x c hc⟩ hs, by simpa using I.len⟩ ⟨c, hs, .inr hc⟩
    · exact (hs.2 b (Nat.ne_of_lt (Nat.lt_of_lt_of_le (Heap.lt_size e) (I.ok.cab x c hfn hc)))).trans (I.base.keep b o e n hb hx)
    · obtain ⟨sl, e1⟩ := I.base.slot b o e n hb hx
      exact ⟨sl, (hs.2 b (Nat.ne_of_lt (Nat.lt_of_lt_of_le (Heap.lt_size e) (I.ok.cab x c hfn hc)))).trans e1⟩
    · obtain ⟨o', e1⟩ := I.base.there b o e hx
      exact ⟨o', (hs.2 b (Nat.ne_of_lt (Nat.lt_of_lt_of_le (Heap.lt_size e) (I.ok.cab x c hfn hc)))).trans e1⟩
    · by_cases hj : j = i
      · subst hj
        rw [hi] at e1; cases e1
        rw [List.getElem?_set_self hiσ] at e2
        cases e2
        exact ⟨u, r, .inr ⟨.inl hk, c, hc, hc'⟩⟩
      · rw [List.getElem?_set_ne (Ne.symm hj)] at e2
        obtain ⟨u', r', q⟩ := hl j y v' e1 e2 e3
        refine ⟨u', r', ?_⟩
        rcases q with q | ⟨k, c', e, z'⟩
        · exact .inl q
        · refine .inr ⟨k, c', e, z'.sameBut hs ?_⟩
          rintro rfl
          exact hj (nodup_ix hN e1 (I.ok.inj _ _ _ e hc ▸ hi))
    · by_cases hcc : c' = c
      · subst hcc; exact ⟨_, hc'⟩
      · obtain ⟨w2, z2⟩ := I.cell y c' e
        exact ⟨w2, z2.sameBut hs hcc⟩
    · obtain ⟨e, n, ne, nf, d⟩ := I.pin p hp
      refine ⟨(hs.2 p.1 ?_).trans e, n, ne, nf, d⟩
      intro q
      rw [q, hoc] at e
      have q' : oc = p.2 := Option.some.inj e
      exact d w' (by rw [← q']; exact hocd)
theorem store_ok {M : Model} {A : Around} {E : Value → Shared → Prop} {i : Nat} {x : Str} {v : V} {u : Value} {Q : Unit → Shared → Prop} (I : Inv X pins σ H s) (hN : X.N.Nodup) (hi : X.N[i]? = some x) (hx : Loc X.env.scope x) (r : RelV v u)
    (h : ∀ s', Inv X pins (σ.set i (some v)) H s' → Q () s') (hf : X.fn x = true ∨ X.env.scope.names.lookup x = some .local := by first | exact .inl rfl | exact .inr rfl | assumption) : wpAny M A (storeName X.env x u) Q E s :=
  store_ok2 I hN hi hx r (fun s' I' _ => h s' I') hf
theorem Inv.call' {s' : Shared} {ch : List Addr} (I : Inv X pins σ H s) (ho : s'.os = s.os) (u : Un (frs X.stack) ch H H' s.heap s'.heap) (hok : HOk X.prog X.w H' s'.heap) (hg : AllBare s'.gens)
    (hch : ∀ b ∈ ch, (b ∈ X.ex ∨ X.s₀.heap.objs.size ≤ b) ∧ b ≠ X.env.locals ∧ (∀ x c, X.env.cells.lookup x = some c → c ≠ b) ∧ ∀ p ∈ X.pn ++ pins, p.1 ≠ b) : Inv X pins σ H' s' := by
  obtain ⟨h', g', d', t', o'⟩ := s'
  have e : o' = s.os := ho
  subst e
  exact I.call (g' := g') (t' := t') (d' := d') u hok hg hch
end
abbrev XK := Value → Option Addr → Hp → Prop
abbrev St := List (Option V)
abbrev VK := V → Hp → Prop
abbrev TE := St → Hp → VK → Prop
abbrev TT := St → Hp → (Bool → Hp → Prop) → Prop
abbrev TA := St → Hp → (List V → Hp → Prop) → Prop
structure Ends where
  nx : St → Hp → Prop
  rt : VK
  bk : St → Hp → Prop := fun _ _ => False
  ct : St → Hp → Prop := fun _ _ => False
abbrev TS := Ends → St → Hp → Prop
def EP (X : Cx) (pins : List (Addr × Obj)) (σ : St) (Q : VK) (u : Value) (s' : Shared) : Prop := ∃ v H', Inv X pins σ H' s' ∧ RelV v u ∧ Q v H'
def TP (X : Cx) (pins : List (Addr × Obj)) (σ : St) (Q : Bool → Hp → Prop) (b : Bool) (s' : Shared) : Prop := ∃ H', Inv X pins σ H' s' ∧ Q b H'
def AP (X : Cx) (pins : List (Addr × Obj)) (σ : St) (Q : List V → Hp → Prop) (us : List Value) (s' : Shared) : Prop := ∃ vs H', Inv X pins σ H' s' ∧ Vals vs us ∧ Q vs H'
def SP (X : Cx) (pins : List (Addr × Obj)) (D : Ends) (f : Flow) (s' : Shared) : Prop :=
  match f with
  | .next => ∃ σ' H', Inv X pins σ' H' s' ∧ D.nx σ' H'
  | .brk => ∃ σ' H', Inv X pins σ' H' s' ∧ D.bk σ' H'
  | .cont => ∃ σ' H', Inv X pins σ' H' s' ∧ D.ct σ' H'
  | .ret u => ∃ v σ' H', Inv X pins σ' H' s' ∧ RelV v u ∧ D.rt v H'
def PE (X : Cx) (e : Expr) (t : TE) : Prop :=
  ∀ (pins : List (Addr × Obj)) (s : Shared) (σ : St) (H : Hp) (Q : VK), Inv X pins σ H s → t σ H Q → wpAny (model X.prog X.w) X.A (eval e X.env) (EP X pins σ Q) X.xe s
def PT (X : Cx) (e : Expr) (t : TT) : Prop :=
  ∀ (pins : List (Addr × Obj)) (s : Shared) (σ : St) (H : Hp) (Q : Bool → Hp → Prop), Inv X pins σ H s → t σ H Q → wpAny (model X.prog X.w) X.A (isTrue e X.env (eval e X.env)) (TP X pins σ Q) X.xe s
def PW (X : Cx) (e : Expr) (t : TT) : Prop :=
  ∀ (whole : Sem Value) (pins : List (Addr × Obj)) (s : Shared) (σ : St) (H : Hp) (Q : Bool → Hp → Prop), Inv X pins σ H s → t σ H Q → wpAny (model X.prog X.w) X.A (isTrue e X.env whole) (TP X pins σ Q) X.xe s
theorem PW.pt {X : Cx} {e : Expr} {t : TT} (h : PW X e t) : PT X e t := h _
def PA (X : Cx) (es : List Expr) (t : TA) : Prop :=
  ∀ (pos : Pos) (pins : List (Addr × Obj)) (s : Shared) (σ : St) (H : Hp) (Q : List V → Hp → Prop), Inv X pins σ H s → t σ H Q → wpAny (model X.prog X.w) X.A (spliced (backTo pos (starEach es X.env))) (AP X pins σ Q) X.xe s
def PS (X : Cx) (st : Stmt) (t : TS) : Prop :=
  ∀ (pins : List (Addr × Obj)) (s : Shared) (σ : St) (H : Hp) (D : Ends), Inv X pins σ H s → t D σ H → wpAny (model X.prog X.w) X.A (exec st X.env) (SP X pins D) X.xe s
def PSs (X : Cx) (st : List Stmt) (t : TS) : Prop :=
  ∀ (pins : List (Addr × Obj)) (s : Shared) (σ : St) (H : Hp) (D : Ends), Inv X pins σ H s → t D σ H → wpAny (model X.prog X.w) X.A (execs st X.env) (SP X pins D) X.xe s
theorem thn {α : Type} {t : Sem α} {Q Q' : α → Shared → Prop} {M : Model} {A : Around} {E : Value → Shared → Prop} {s : Shared} (h : wpAny M A t Q E s) (hQ : ∀ a s, Q a s → Q' a s) : wpAny M A t Q' E s := wpAny_mono h hQ fun _ _ x => x
end L2
namespace L2
open PySem PySem.Spec PyProof.Rows
section
variable {X : Cx}
def tVar (i : Nat) : TE := fun σ H Q => ∃ v, σ[i]? = some (some v) ∧ Q v H
def tC (v : V) : TE := fun _ H Q => Q v H
theorem pe_var {i : Nat} {x : Str} {pos : Pos} (hN : X.N[i]? = some x) (hv : Vis X.env.scope x) (hd : (x == ("__debug__" : Str)) = false := by decide) (hcd : (x == ("__classdict__" : Str)) = false := by decide) : PE X (.Name x pos) (tVar i) := by
  intro pins s σ H Q I h
  obtain ⟨v, e, h⟩ := h
  obtain ⟨m, hn, hl⟩ := I.loc
  obtain ⟨u, r, l⟩ := hl i x v hN e hv
  have fin : EP X pins σ Q u s := ⟨v, H, I, r, h⟩
  rcases l with ⟨hk, hm⟩ | ⟨hk, c, hc, hcell⟩
  · exact wpAny_Name (wpAny_loadName_local I.ok.kind hk hn hm fin) hd
  · rcases hk with hk | hk
    · exact wpAny_Name (wpAny_loadName_cell I.ok.kind hk hc hcell fin) hd
    · exact wpAny_Name (wpAny_loadName_free I.ok.kind hk hc hcell fin hcd) hd
theorem pe_int {i j pos} : PE X (.Constant (.int i) j pos) (tC (.int i)) := fun _ _ _ H _ I h => wpAny_Constant_int ⟨.int i, H, I.tok _, ⟨_, rfl⟩, h⟩
theorem pe_bl {b j pos} : PE X (.Constant (.bool b) j pos) (tC (.bl b)) := fun _ _ _ H _ I h => Constant_bool ⟨.bl b, H, I, rfl, h⟩
theorem pe_non {j pos} : PE X (.Constant .none j pos) (tC .non) := fun _ _ _ H _ I h => Constant_none ⟨.non, H, I, rfl, h⟩
theorem pe_str {x j pos} : PE X (.Constant (.str x) j pos) (tC (.str x)) := fun _ _ _ H _ I h => Calls.Constant_str ⟨.str x, H, I.tok _, ⟨_, rfl⟩, h⟩
def Gl (X : Cx) (x : Str) : Prop := X.env.kindOf x = some .globalImplicit
theorem ld_glob {E : Value → Shared → Prop} {pins : List (Addr × Obj)} {s : Shared} {σ : St} {H : Hp} {x : Str} {u : Value} {pos : Pos} {Q : Value → Shared → Prop} (I : Inv X pins σ H s) (hg : Gl X x) (hm : X.mg x = some u) (h : Q u s)
    (hd : (x == ("__debug__" : Str)) = false := by decide) : wpAny (model X.prog X.w) X.A (eval (.Name x pos) X.env) Q E s :=
  Calls.Name_function_global I.ok.kind hg (Calls.loadGlobal_global (by rw [I.ok.glob]; exact I.mod.glob.keeps I.bk) hm h) hd
theorem ld_blt {E : Value → Shared → Prop} {pins : List (Addr × Obj)} {s : Shared} {σ : St} {H : Hp} {x : Str} {u : Value} {pos : Pos} {Q : Value → Shared → Prop} (I : Inv X pins σ H s) (hg : Gl X x) (hm : X.mg x = none) (hv : bootBuiltins x = some u) (h : Q u s)
    (hn : x ≠ "__name__" := by decide) (hd : (x == ("__debug__" : Str)) = false := by decide) : wpAny (model X.prog X.w) X.A (eval (.Name x pos) X.env) Q E s := by
  obtain ⟨mb, h1, h2⟩ := I.mod.blt
  exact Calls.Name_function_global I.ok.kind hg (Calls.loadGlobal_builtin (by rw [I.ok.glob]; exact I.mod.glob.keeps I.bk) hm (by rw [I.ok.blt]; exact h1.keeps I.bk) ((h2 x hn).trans hv) h) hd
theorem pe_glob {x : Str} {v : V} {u : Value} {pos : Pos} (hg : Gl X x) (hm : X.mg x = some u) (r : RelV v u) (hd : (x == ("__debug__" : Str)) = false := by decide) : PE X (.Name x pos) (tC v) :=
  fun _ _ _ H _ I h => ld_glob I hg hm ⟨v, H, I, r, h⟩ hd
theorem pe_bltn {x : Str} {v : V} {u : Value} {pos : Pos} (hg : Gl X x) (hm : X.mg x = none) (hv : bootBuiltins x = some u) (r : RelV v u) (hn : x ≠ "__name__" := by decide) (hd : (x == ("__debug__" : Str)) = false := by decide) : PE X (.Name x pos) (tC v) :=
  fun _ _ _ H _ I h => ld_blt I hg hm hv ⟨v, H, I, r, h⟩ hn hd
variable {a b : Expr} {ta tb : TE} {pos : Pos}
variable {tA tB' : TT} {rest : List Expr}
def tOr (t u : TT) : TT := fun σ H Q => t σ H fun c H1 => if c = true then Q true H1 else u σ H1 Q
def tNot (t : TT) : TT := fun σ H Q => t σ H fun c H1 => Q (!c) H1
theorem pw_or1 (ha : PT X a tA) : PW X (.BoolOp .Or [a] pos) tA := by
  intro wh pins s σ H Q I h
  refine isTrue_or (thn (ha pins s σ H Q I h) fun c s1 e => ?_)
  cases c with
  | false => exact isTrue_or_nil e
  | true => exact e
theorem pw_or (ha : PT X a tA) (hb : PW X (.BoolOp .Or (b :: rest) pos) tB') : PW X (.BoolOp .Or (a :: b :: rest) pos) (tOr tA tB') := by
  intro wh pins s σ H Q I h
  refine isTrue_or (thn (ha pins s σ H _ I h) fun c s1 ⟨H1, I1, q1⟩ => ?_)
  cases c with
  | true => exact ⟨H1, I1, q1⟩
  | false => exact hb wh pins s1 σ H1 Q I1 q1
theorem pt_not (ha : PT X a tA) : PT X (.UnaryOp .Not a pos) (tNot tA) := by
  intro pins s σ H Q I h
  exact isTrue_not (ha pins s σ H (fun c H1 => Q (!c) H1) I h)
def tAndV (ta tb : TE) : TE := fun σ H Q => ta σ H fun x H1 => ∃ c, x = .bl c ∧ if c = true then tb σ H1 Q else Q (.bl false) H1
def tNotV (ta : TE) : TE := fun σ H Q => ta σ H fun x H1 => ∃ c, x = .bl c ∧ Q (.bl (!c)) H1
theorem pe_one {op} {t : TE} (h : PE X a t) : PE X (.BoolOp op [a] pos) t := fun pins s σ H Q I hw => BoolOp_one (h pins s σ H Q I hw)
theorem pe_and (ha : PE X a ta) (hb : PE X (.BoolOp .And (b :: rest) pos) tb) : PE X (.BoolOp .And (a :: b :: rest) pos) (tAndV ta tb) := by
  intro pins s σ H Q I h
  refine BoolOp_and (thn (ha pins s σ H _ I h) fun v s1 ⟨x, H1, I1, r1, q1⟩ => ?_)
  obtain ⟨c, rfl, q1⟩ := q1
  cases r1
  refine wpAny_truthy_bool ?_
  cases c with
  | true => exact hb pins s1 σ H1 Q I1 q1
  | false => exact ⟨.bl false, H1, I1, rfl, q1⟩
theorem pe_not (ha : PE X a ta) : PE X (.UnaryOp .Not a pos) (tNotV ta) := by
  intro pins s σ H Q I h
  refine UnaryOp_ (thn (ha pins s σ H _ I h) fun v s1 ⟨x, H1, I1, r1, q1⟩ => ?_)
  obtain ⟨c, rfl, q1⟩ := q1
  cases r1
  exact not_of (wpAny_truthy_bool ⟨.bl (!c), H1, I1, rfl, q1⟩)
def tIf (t : TT) (ta tb : TE) : TE := fun σ H Q => t σ H fun c H1 => if c = true then ta σ H1 Q else tb σ H1 Q
theorem pe_ifExp {c : Expr} (hc : PT X c tA) (ha : PE X a ta) (hb : PE X b tb) : PE X (.IfExp c a b pos) (tIf tA ta tb) := by
  intro pins s σ H Q I h
  refine wpAny_IfExp (thn (hc pins s σ H _ I h) fun d s1 ⟨H1, I1, q1⟩ => ?_)
  cases d with
  | true => exact ha pins s1 σ H1 Q I1 q1
  | false => exact hb pins s1 σ H1 Q I1 q1
end
end L2
namespace L2
open PySem PySem.Spec PyProof.Rows
def SqL (K : PySem.W.Frag) (H : Hp) (a : Addr) (xs : List V) : Prop :=
  Rd H a (.lst xs) ∨
    ∃ (o : Obj) (its : Array Value) (n : Nat), K.lookup a = some o ∧ o.cls = .type "list" ∧ o.dict = none ∧ o.data = .seq its n ∧ its.size ≤ sizeLine ∧ Vals xs its.toList
def SqT (K : PySem.W.Frag) (H : Hp) (a : Addr) (xs : List V) : Prop :=
  Rd H a (.tup xs) ∨
    ∃ (o : Obj) (its : Array Value) (n : Nat), K.lookup a = some o ∧ o.cls = .type "tuple" ∧ o.data = .seq its n ∧ its.size ≤ sizeLine ∧ Vals xs its.toList
def absV : Value → Option V
  | .none => some .non
  | .bool b => some (.bl b)
  | .int i _ => some (.int i)
  | .str x _ => some (.str x)
  | .bytes b _ => some (.byt b)
  | .float b _ => some (.flt b)
  | .ref a => some (.ref a)
  | .type n => some (.ty n)
  | _ => none
theorem RelV.abs {x : V} {u : Value} (r : RelV x u) : absV u = some x := by
  cases x with
  | non => cases r; rfl
  | bl _ => cases r; rfl
  | int _ => obtain ⟨t, rfl⟩ := r; rfl
  | str _ => obtain ⟨t, rfl⟩ := r; rfl
  | byt _ => obtain ⟨t, rfl⟩ := r; rfl
  | flt _ => obtain ⟨t, rfl⟩ := r; rfl
  | ref _ => cases r; rfl
  | ty _ => cases r; rfl
theorem RelV.inj {x y : V} {u : Value} (r : RelV x u) (q : RelV y u) : x = y := Option.some.inj (r.abs.symm.trans q.abs)
theorem Vals.inj : ∀ {xs ys : List V} {us : List Value}, Vals xs us → Vals ys us → xs = ys
  | _, _, _, .nil, .nil => rfl
  | _, _, _, .cons r t, .cons r' t' => by rw [r.inj r', Vals.inj t t']
section
variable {X : Cx} {pins : List (Addr × Obj)} {σ : St} {H : Hp} {s : Shared} {a : Addr} {xs ys : List V}
theorem SqL.of {K : PySem.W.Frag} (h : H a = some (.lst xs)) : SqL K H a xs := .inl (.inl h)
theorem SqT.of {K : PySem.W.Frag} (h : H a = some (.tup xs)) : SqT K H a xs := .inl (.inl h)
theorem Inv.list (I : Inv X pins σ H s) (h : SqL X.K H a xs) : ∃ its : List Value, Vals xs its ∧ PlainL s.heap a its.toArray ∧ xs.length ≤ sizeLine := by
  rcases h with h | ⟨o, its, n, hk, hc, hd, hs, hz, r⟩
  · obtain ⟨z, its, n, r, e⟩ := h.ok I.hok
    exact ⟨its, r, ⟨_, n, e, rfl, rfl, rfl⟩, z⟩
  · refine ⟨its.toList, r, ⟨o, n, I.kIn a o hk, hc, hd, by simpa using hs⟩, ?_⟩
    have e := r.length
    simp only [Array.length_toList] at e
    omega
theorem Inv.tuple (I : Inv X pins σ H s) (h : SqT X.K H a xs) : ∃ its : List Value, Vals xs its ∧ IsTup s.heap a its.toArray ∧ xs.length ≤ sizeLine := by
  rcases h with h | ⟨o, its, n, hk, hc, hs, hz, r⟩
  · obtain ⟨z, its, r, p⟩ := h.ok I.hok
    exact ⟨its, r, p, z⟩
  · refine ⟨its.toList, r, ⟨o, I.kIn a o hk, hc, n, by simpa using hs⟩, ?_⟩
    have e := r.length
    simp only [Array.length_toList] at e
    omega
theorem Inv.list_inj (I : Inv X pins σ H s) (h : SqL X.K H a xs) (h' : SqL X.K H a ys) : xs = ys := by
  obtain ⟨its, r, ⟨o, n, e, _, _, d⟩, _⟩ := I.list h
  obtain ⟨its', r', ⟨o', n', e', _, _, d'⟩, _⟩ := I.list h'
  rw [e] at e'; cases e'
  rw [d] at d'
  injection d' with d1 _
  have : its = its' := by simpa using congrArg Array.toList d1
  subst this
  exact r.inj r'
theorem Inv.tuple_inj (I : Inv X pins σ H s) (h : SqT X.K H a xs) (h' : SqT X.K H a ys) : xs = ys := by
  obtain ⟨its, r, ⟨o, e, _, n, d⟩, _⟩ := I.tuple h
  obtain ⟨its', r', ⟨o', e', _, n', d'⟩, _⟩ := I.tuple h'
  rw [e] at e'; cases e'
  rw [d] at d'
  injection d' with d1 _
  have : its = its' := by simpa using congrArg Array.toList d1
  subst this
  exact r.inj r'
end
abbrev Cx.wish (X : Cx) (E : Value → Shared → Prop) : Cx := { X with xe := E }
abbrev Cx.nox (X : Cx) : Cx := X.wish fun _ _ => False
theorem Cx.Ok.wish {X : Cx} (ok : X.Ok) (E : Value → Shared → Prop) : (X.wish E).Ok :=
  ⟨ok.mod, ok.kind, ok.glob, ok.blt, ok.above, ok.inj, ok.has, ok.cab, ok.hd, ok.frames, ok.stk, ok.exf, ok.bs, ok.bsz, ok.noex, ok.exfs, ok.funs, ok.frf⟩
theorem Cx.Ok.unwish {X : Cx} {E : Value → Shared → Prop} (ok : (X.wish E).Ok) : X.Ok :=
  ⟨ok.mod, ok.kind, ok.glob, ok.blt, ok.above, ok.inj, ok.has, ok.cab, ok.hd, ok.frames, ok.stk, ok.exf, ok.bs, ok.bsz, ok.noex, ok.exfs, ok.funs, ok.frf⟩
section
variable {X : Cx} {pins : List (Addr × Obj)} {σ : St} {H : Hp} {s : Shared} {E : Value → Shared → Prop}
theorem Inv.wish (I : Inv X pins σ H s) (E : Value → Shared → Prop) : Inv (X.wish E) pins σ H s := ⟨I.ok.wish E, I.os, I.bare, I.base, I.loc, I.cell, I.free, I.freeC, I.pin, I.hok, I.len⟩
theorem Inv.unwish (I : Inv (X.wish E) pins σ H s) : Inv X pins σ H s := ⟨I.ok.unwish, I.os, I.bare, I.base, I.loc, I.cell, I.free, I.freeC, I.pin, I.hok, I.len⟩
theorem SP.unwish {D : Ends} {f : Flow} {s' : Shared} (h : SP (X.wish E) pins D f s') : SP X pins D f s' := by
  cases f with
  | next => obtain ⟨σ', H', I, q⟩ := h; exact ⟨σ', H', I.unwish, q⟩
  | brk => obtain ⟨σ', H', I, q⟩ := h; exact ⟨σ', H', I.unwish, q⟩
  | cont => obtain ⟨σ', H', I, q⟩ := h; exact ⟨σ', H', I.unwish, q⟩
  | ret u => obtain ⟨v, σ', H', I, r, q⟩ := h; exact ⟨v, σ', H', I.unwish, r, q⟩
theorem PE.nox {e : Expr} {t : TE} (h : PE X.nox e t) : PE X e t := fun pins s σ H Q I hw =>
  wpAny_mono (h pins s σ H Q (I.wish _) hw) (fun _ _ ⟨v, H', I', r, q⟩ => ⟨v, H', I'.unwish, r, q⟩) fun _ _ z => False.elim z
theorem PT.nox {e : Expr} {t : TT} (h : PT X.nox e t) : PT X e t := fun pins s σ H Q I hw =>
  wpAny_mono (h pins s σ H Q (I.wish _) hw) (fun _ _ ⟨H', I', q⟩ => ⟨H', I'.unwish, q⟩) fun _ _ z => False.elim z
theorem PSs.nox {st : List Stmt} {t : TS} (h : PSs X.nox st t) : PSs X st t := fun pins s σ H D I hw =>
  wpAny_mono (h pins s σ H D (I.wish _) hw) (fun _ _ q => q.unwish) fun _ _ z => False.elim z
end
section
variable {X : Cx} {st : Stmt} {rest : List Stmt} {t u : TS} {e : Expr} {te : TE} {pos : Pos}
def tNext : TS := fun D σ H => D.nx σ H
def tSeq (t u : TS) : TS := fun D σ H => t { D with nx := u D } σ H
theorem pss_nil : PSs X [] tNext := fun _ _ σ H _ I h => wpAny_execs_nil ⟨σ, H, I, h⟩
theorem pss_cons (h1 : PS X st t) (h2 : PSs X rest u) : PSs X (st :: rest) (tSeq t u) := by
  intro pins s σ H D I h
  refine wpAny_execs_cons (thn (h1 pins s σ H { D with nx := u D } I h) fun f s1 q => ?_)
  cases f with
  | next =>
    obtain ⟨σ', H', I', q⟩ := q
    exact h2 pins s1 σ' H' D I' q
  | ret v => exact q
  | brk => exact q
  | cont => exact q
theorem pss_one (h1 : PS X st t) : PSs X [st] t := by
  intro pins s σ H D I h
  refine wpAny_execs_cons (thn (h1 pins s σ H D I h) fun f s1 q => ?_)
  cases f with
  | next => exact wpAny_execs_nil q
  | ret v => exact q
  | brk => exact q
  | cont => exact q
theorem Inv.quiet {pins : List (Addr × Obj)} {σ : St} {H : Hp} {s : Shared} (I : Inv X pins σ H s) : interactive X.env = false := by simp [interactive, I.ok.kind]
def tDrop (te : TE) : TS := fun D σ H => te σ H fun _ H1 => D.nx σ H1
theorem ps_expr (he : PE X e te) (hs : swapsWith e none pos.line X.env = pure false := by rfl) : PS X (.Expr e pos) (tDrop te) := by
  intro pins s σ H D I h
  exact wpAny_Expr_any (thn (he pins s σ H _ I h) fun v s1 ⟨x, H1, I1, r1, q1⟩ => ⟨σ, H1, I1, q1⟩) I.quiet hs
def tRet (te : TE) : TS := fun D σ H => te σ H D.rt
theorem ps_ret (he : PE X e te) : PS X (.Return (some e) pos) (tRet te) := by
  intro pins s σ H D I h
  exact wpAny_Return_some (thn (he pins s σ H _ I h) fun v s1 ⟨x, H1, I1, r1, q1⟩ => ⟨x, σ, H1, I1, r1, q1⟩)
def tIfS (c : TT) (t u : TS) : TS := fun D σ H => c σ H fun b H1 => if b = true then t D σ H1 else u D σ H1
theorem ps_if {c : Expr} {a b : List Stmt} {tc : TT} (hc : PT X c tc) (ha : PSs X a t) (hb : PSs X b u) : PS X (.If c a b pos) (tIfS tc t u) := by
  intro pins s σ H D I h
  refine wpAny_If (thn (hc pins s σ H _ I h) fun d s1 ⟨H1, I1, q1⟩ => ?_)
  cases d with
  | true => exact ha pins s1 σ H1 D I1 q1
  | false => exact hb pins s1 σ H1 D I1 q1
def tNever : TS := fun _ _ _ => False
theorem ps_never : PS X st tNever := fun _ _ _ _ _ _ h => h.elim
end
abbrev TG := V → St → Hp → (St → Hp → Prop) → Prop
def PG (X : Cx) (target : Expr) (t : TG) : Prop :=
  ∀ (pins : List (Addr × Obj)) (s : Shared) (σ : St) (H : Hp) (v : V) (u : Value) (Q : St → Hp → Prop), Inv X pins σ H s → RelV v u → t v σ H Q →
    wpAny (model X.prog X.w) X.A (assign target X.env u) (fun _ s' => ∃ σ' H', Inv X pins σ' H' s' ∧ Q σ' H') X.xe s
section
variable {X : Cx} {pos : Pos}
def gName (i : Nat) : TG := fun v σ H Q => Q (σ.set i (some v)) H
theorem pg_name {i : Nat} {x : Str} (hN : X.N.Nodup) (hi : X.N[i]? = some x) (hx : Loc X.env.scope x) (hf : X.fn x = true ∨ X.env.scope.names.lookup x = some .local := by first | exact .inl rfl | exact .inr rfl | assumption) : PG X (.Name x pos) (gName i) := by
  intro pins s σ H v u Q I r h
  exact wpAny_assign_Name (store_ok I hN hi hx r (fun s' I' => ⟨_, H, I', h⟩) hf)
def tAsg (te : TE) (g : TG) : TS := fun D σ H => te σ H fun x H1 => g x σ H1 D.nx
theorem ps_set {i : Nat} {x : Str} {e : Expr} {te : TE} {pos' : Pos} (hN : X.N.Nodup) (hi : X.N[i]? = some x) (hx : Loc X.env.scope x) (he : PE X e te) (hs : swapsWith e (some (.Name x pos')) pos.line X.env = pure false := by rfl) (hf : X.fn x = true ∨ X.env.scope.names.lookup x = some .local := by first | exact .inl rfl | exact .inr rfl | assumption) :
    PS X (.Assign [.Name x pos'] e pos) (tAsg te (gName i)) := by
  intro pins s σ H D I h
  refine wpAny_Assign_Name (thn (he pins s σ H _ I h) fun v s1 ⟨y, H1, I1, r1, q1⟩ => ?_) hs
  exact store_ok I1 hN hi hx r1 (fun s2 I2 => ⟨_, H1, I2, q1⟩) hf
end
section
variable {X : Cx} {pos : Pos}
end
structure It where
  go : Nat → Hp → Prop
  yld : Nat → Hp → V → Hp → Prop
  stop : Nat → Hp → Prop
def FpOk (X : Cx) (pins : List (Addr × Obj)) (H : Hp) (b : Addr) : Prop :=
  H b = none ∧ b ≠ X.env.locals ∧ b ∉ X.fs ∧ (b ∈ X.ex ∨ X.s₀.heap.objs.size ≤ b) ∧ (∀ x c, X.env.cells.lookup x = some c → c ≠ b) ∧ ∀ p ∈ X.pn ++ pins, p.1 ≠ b
theorem Inv.fpOk {X : Cx} {pins : List (Addr × Obj)} {σ : St} {H H' : Hp} {s : Shared} {b : Addr} (I : Inv X pins σ H s) (hb : s.heap.objs.size ≤ b) (hn : H' b = none) : FpOk X pins H' b := by
  refine ⟨hn, Nat.ne_of_gt (Nat.lt_of_lt_of_le I.lt hb), I.nofs hb, .inr (Nat.le_trans I.sz hb), fun x c e z => ?_, fun p hp z => ?_⟩
  · obtain ⟨v, q⟩ := I.cell x c e
    exact absurd (Nat.lt_of_lt_of_le q.lt (by rw [z]; exact hb)) (Nat.lt_irrefl _)
  · exact absurd (Nat.lt_of_lt_of_le (Heap.lt_size (I.pin p hp).1) (by rw [z]; exact hb)) (Nat.lt_irrefl _)
structure Turn (P : Program) (w : World) (K : PySem.W.Frag) (tg : Expr) (J : It) (fp : List Addr) (it : Addr) (tn : Nat → Heap → Prop) : Prop where
  mem : it ∈ fp
  obj : ∀ i h, tn i h → ∀ b ∈ fp, ∃ o, h.get? b = some o ∧ ∀ v, o.data ≠ .cell v
  keep : ∀ i h h', tn i h → (∀ b ∈ fp, ∀ o, h.get? b = some o → h'.get? b = some o) → tn i h'
  item : ∀ (X : Cx), X.prog = P → X.w = w → X.K = K → X.calm = true → ∀ (i : Nat) (pins : List (Addr × Obj)) (s : Shared) (σ : St) (H : Hp) (E : Value → Shared → Prop), Inv X pins σ H s → (∀ b ∈ fp, FpOk X pins H b) → tn i s.heap → J.go i H →
    wpAny (model P w) X.A (pyNext (.ref it)) (fun r s1 => ∃ u, r = some u ∧
      wpAny (model P w) X.A (letOwnedTupleGo tg (.ref it) u) (fun _ s2 => ∃ x H', Inv X pins σ H' s2 ∧ RelV x u ∧ J.yld i H x H' ∧ tn (i + 1) s2.heap ∧ ∀ b ∈ fp, H' b = none) E s1) E s
  done : ∀ (X : Cx), X.prog = P → X.w = w → X.K = K → X.calm = true → ∀ (i : Nat) (pins : List (Addr × Obj)) (s : Shared) (σ : St) (H : Hp) (E : Value → Shared → Prop), Inv X pins σ H s → (∀ b ∈ fp, FpOk X pins H b) → tn i s.heap → J.stop i H →
    wpAny (model P w) X.A (pyNext (.ref it)) (fun r s1 => r = none ∧ Inv X pins σ H s1) E s
  self : ∀ (A : Around) (i : Nat) (s : Shared) (Q : Value → Shared → Prop) (E : Value → Shared → Prop), tn i s.heap → Q (.ref it) s → wpAny (model P w) A (pyIter (.ref it)) Q E s
abbrev TI := St → Hp → (It → Hp → Prop) → Prop
def PIE (X : Cx) (pins : List (Addr × Obj)) (σ : St) (tg : Expr) (R : It → Hp → Prop) (itv : Value) (s2 : Shared) : Prop :=
  ∃ (it : Addr) (fp : List Addr) (tn : Nat → Heap → Prop) (J : It) (H' : Hp), itv = .ref it ∧ Inv X pins σ H' s2 ∧ Turn X.prog X.w X.K tg J fp it tn ∧ tn 0 s2.heap ∧ (∀ b ∈ fp, FpOk X pins H' b) ∧ R J H'
def PI (X : Cx) (tg iter : Expr) (wi : TI) : Prop :=
  ∀ (pins : List (Addr × Obj)) (s : Shared) (σ : St) (H : Hp) (R : It → Hp → Prop), Inv X pins σ H s → wi σ H R →
    wpAny (model X.prog X.w) X.A (eval iter X.env) (fun v s1 => wpAny (model X.prog X.w) X.A (pyIter v) (PIE X pins σ tg R) X.xe s1) X.xe s
theorem go_of {M : Model} {A : Around} {E : Value → Shared → Prop} {s : Shared} {tg : Expr} {it : Addr} {u : Value} {o : Obj} {n : String} {vs : Array Value} {Q : Unit → Shared → Prop} (ho : s.heap.get? it = some o) (hc : o.cls = .type n) (hd : o.data = .fields vs)
    (hn : ["enumerate", "zip", "dict_itemiterator", "dict_reverseitemiterator", "odict_iterator", "itertools.zip_longest", "itertools.pairwise"].contains n = false) (hQ : Q () s) : wpAny M A (letOwnedTupleGo tg (.ref it) u) Q E s := by
  unfold letOwnedTupleGo
  cases tg <;> first
    | exact wpAny_pure hQ
    | (cases u <;> first
        | exact wpAny_pure hQ
        | (refine wpAny_bind (wpAny_load ho ?_)
           rw [hc, hd]
           show wpAny M A (if (["enumerate", "zip", "dict_itemiterator", "dict_reverseitemiterator", "odict_iterator", "itertools.zip_longest", "itertools.pairwise"].contains n && vs[0]? == some (rawInt _)) = true then _ else _) Q E s
           rw [if_neg (by intro h; rw [hn, Bool.false_and] at h; cases h)]
           exact wpAny_pure hQ))
def Itl (K : PySem.W.Frag) (a : Addr) : It :=
  ⟨fun i H => ∃ xs x, SqL K H a xs ∧ xs[i]? = some x, fun i H x H' => H' = H ∧ ∀ xs, SqL K H a xs → xs[i]? = some x, fun i H => ∃ xs, SqL K H a xs ∧ xs.length ≤ i⟩
def Itt (K : PySem.W.Frag) (a : Addr) : It :=
  ⟨fun i H => ∃ xs x, SqT K H a xs ∧ xs[i]? = some x, fun i H x H' => H' = H ∧ ∀ xs, SqT K H a xs → xs[i]? = some x, fun i H => ∃ xs, SqT K H a xs ∧ xs.length ≤ i⟩
def Itr (lo : Int) (n : Nat) : It := ⟨fun i _ => i < n, fun i H x H' => H' = H ∧ x = .int (lo + i), fun i _ => n ≤ i⟩
theorem turn_list {P : Program} {w : World} {K : PySem.W.Frag} {tg : Expr} (a it : Addr) : Turn P w K tg (Itl K a) [it] it (fun i h => h.IsListIter it a i) where
  mem := by simp
  obj := fun i h st b hb => by
    have e : b = it := by simpa using hb
    subst e
    obtain ⟨o, e, c, d⟩ := st
    exact ⟨o, e, fun v z => by rw [d] at z; cases z⟩
  keep := fun i h h' st k => st.at fun o e => k it (by simp) o e
  item := by
    intro X hP hw hK hc i pins s σ H E I hf st hg
    subst hP hw hK
    obtain ⟨xs, x, hq, hx⟩ := hg
    obtain ⟨its, rv, p, hz⟩ := I.list hq
    obtain ⟨u, hu, ru⟩ := rv.get hx
    obtain ⟨f0, f1, f2, f3, f4, f5⟩ := hf it (by simp)
    refine wpAny_pyNext_list_item st p.isList (x := u) (by simpa using hu) fun h' st' sb => ?_
    have I1 : Inv X pins σ H { s with heap := h' } := I.turned (t' := s.toks) (fun b o hb e => (sb.2 b hb).trans e) f0 f1 f3 f4 f5
    obtain ⟨o, e, c, d⟩ := id st'
    exact ⟨u, rfl, go_of (s := { s with heap := h' }) e c d (by decide) ⟨x, H, I1, ru, ⟨rfl, fun ys hy => by rw [I.list_inj hy hq]; exact hx⟩, st', fun b hb => (hf b hb).1⟩⟩
  done := by
    intro X hP hw hK hc i pins s σ H E I hf st hg
    subst hP hw hK
    obtain ⟨xs, hq, hx⟩ := hg
    obtain ⟨its, rv, p, hz⟩ := I.list hq
    obtain ⟨f0, f1, f2, f3, f4, f5⟩ := hf it (by simp)
    have hl := rv.length
    exact wpAny_pyNext_list_end (I.ok.hd hc) st p.isList (by simp; omega) fun h' eb => ⟨rfl, I.turned (t' := s.toks) (fun b o hb e => eb b o hb e) f0 f1 f3 f4 f5⟩
  self := fun _ _ _ _ _ st h => wpAny_pyIter_listiter st h
theorem turn_tuple {P : Program} {w : World} {K : PySem.W.Frag} {tg : Expr} (a it : Addr) : Turn P w K tg (Itt K a) [it] it (fun i h => h.IsTupleIter it a i) where
  mem := by simp
  obj := fun i h st b hb => by
    have e : b = it := by simpa using hb
    subst e
    obtain ⟨o, e, c, d⟩ := st
    exact ⟨o, e, fun v z => by rw [d] at z; cases z⟩
  keep := fun i h h' st k => st.at fun o e => k it (by simp) o e
  item := by
    intro X hP hw hK hc i pins s σ H E I hf st hg
    subst hP hw hK
    obtain ⟨xs, x, hq, hx⟩ := hg
    obtain ⟨its, rv, p, hz⟩ := I.tuple hq
    obtain ⟨u, hu, ru⟩ := rv.get hx
    obtain ⟨f0, f1, f2, f3, f4, f5⟩ := hf it (by simp)
    refine wpAny_pyNext_tuple_item st (show s.heap.IsTuple a its.toArray from p) (x := u) (by simpa using hu) fun h' st' sb => ?_
    have I1 : Inv X pins σ H { s with heap := h' } := I.turned (t' := s.toks) (fun b o hb e => (sb.2 b hb).trans e) f0 f1 f3 f4 f5
    obtain ⟨o, e, c, d⟩ := id st'
    exact ⟨u, rfl, go_of (s := { s with heap := h' }) e c d (by decide) ⟨x, H, I1, ru, ⟨rfl, fun ys hy => by rw [I.tuple_inj hy hq]; exact hx⟩, st', fun b hb => (hf b hb).1⟩⟩
  done := by
    intro X hP hw hK hc i pins s σ H E I hf st hg
    subst hP hw hK
    obtain ⟨xs, hq, hx⟩ := hg
    obtain ⟨its, rv, p, hz⟩ := I.tuple hq
    obtain ⟨f0, f1, f2, f3, f4, f5⟩ := hf it (by simp)
    have hl := rv.length
    exact wpAny_pyNext_tuple_end (I.ok.hd hc) st (show s.heap.IsTuple a its.toArray from p) (by simp; omega) fun h' eb => ⟨rfl, I.turned (t' := s.toks) (fun b o hb e => eb b o hb e) f0 f1 f3 f4 f5⟩
  self := fun _ _ _ _ _ st h => wpAny_pyIter_tupleiter st h
theorem turn_range {P : Program} {w : World} {K : PySem.W.Frag} {tg : Expr} (it : Addr) (lo : Int) (n : Nat) : Turn P w K tg (Itr lo n) [it] it (fun i h => IsRangeIter h it (lo + (i : Nat) * 1) ((n : Int) - (i : Nat)) 1) where
  mem := by simp
  obj := fun i h st b hb => by
    have e : b = it := by simpa using hb
    subst e
    exact ⟨_, st, fun v z => by
      have z' : Data.fields _ = Data.cell v := z
      cases z'⟩
  keep := fun i h h' st k => k it (by simp) _ st
  item := by
    intro X hP hw hK hc i pins s σ H E I hf st hg
    subst hP hw hK
    obtain ⟨f0, f1, f2, f3, f4, f5⟩ := hf it (by simp)
    have W := Walks.range (prog := X.prog) (w := X.w) (I.ok.hd hc) it lo 1 n
    refine W.item i s _ _ hg st fun v h' tk hv st' kk => ?_
    obtain ⟨t, rfl⟩ := hv
    have I1 : Inv X pins σ H { s with heap := h', toks := tk } := I.turned (fun b o hb e => kk b o (by simpa using hb) e) f0 f1 f3 f4 f5
    refine ⟨_, rfl, go_of (s := { s with heap := h', toks := tk }) (n := "range_iterator") st' rfl rfl (by decide) ⟨.int (lo + i), H, I1, ⟨t, ?_⟩, ⟨rfl, rfl⟩, st', fun b hb => (hf b hb).1⟩⟩
    rw [Int.mul_one]
  done := by
    intro X hP hw hK hc i pins s σ H E I hf st hg
    subst hP hw hK
    obtain ⟨f0, f1, f2, f3, f4, f5⟩ := hf it (by simp)
    exact wpAny_pyNext_range_end (I.ok.hd hc) st (by have : n ≤ i := hg; omega) fun h' eb => ⟨rfl, I.turned (t' := s.toks) (fun b o hb e => eb b o hb e) f0 f1 f3 f4 f5⟩
  self := fun _ _ _ _ _ st h => wpAny_pyIter_rangeiter st h
end L2
namespace L2
open PySem PySem.Spec PyProof.Rows
section
variable {X : Cx} {tg : Expr}
def iList (K : PySem.W.Frag) (tl : TE) : TI := fun σ H R => tl σ H fun x H1 => ∃ a, x = .ref a ∧ (∃ xs, SqL K H1 a xs) ∧ R (Itl K a) H1
def iTup (K : PySem.W.Frag) (tl : TE) : TI := fun σ H R => tl σ H fun x H1 => ∃ a, x = .ref a ∧ (∃ xs, SqT K H1 a xs) ∧ R (Itt K a) H1
theorem pi_list {l : Expr} {tl : TE} (hl : PE X l tl) : PI X tg l (iList X.K tl) := by
  intro pins s σ H R I h
  refine thn (hl pins s σ H _ I h) fun v s1 ⟨x, H1, I1, r1, q1⟩ => ?_
  obtain ⟨a, e, ⟨xs, hq⟩, q⟩ := q1
  subst e
  cases r1
  obtain ⟨its, rv, p, hz⟩ := I1.list hq
  refine wpAny_pyIter_list p.isList ?_
  refine ⟨s1.heap.objs.size, [s1.heap.objs.size], _, _, H1, rfl, I1.kept (t' := s1.toks) fun b o e => Heap.get?_push_of_some _ e, turn_list a _, ⟨_, Heap.get?_push_size _ rfl, rfl, rfl⟩, fun b hb => ?_, q⟩
  have e : b = s1.heap.objs.size := by simpa using hb
  subst e
  exact I1.fpOk (Nat.le_refl _) (I1.hok.fresh (Nat.le_refl _))
theorem pi_tup {l : Expr} {tl : TE} (hl : PE X l tl) : PI X tg l (iTup X.K tl) := by
  intro pins s σ H R I h
  refine thn (hl pins s σ H _ I h) fun v s1 ⟨x, H1, I1, r1, q1⟩ => ?_
  obtain ⟨a, e, ⟨xs, hq⟩, q⟩ := q1
  subst e
  cases r1
  obtain ⟨its, rv, p, hz⟩ := I1.tuple hq
  refine wpAny_pyIter_tuple (show s1.heap.IsTuple a its.toArray from p) ?_
  refine ⟨s1.heap.objs.size, [s1.heap.objs.size], _, _, H1, rfl, I1.kept (t' := s1.toks) fun b o e => Heap.get?_push_of_some _ e, turn_tuple a _, ⟨_, Heap.get?_push_size _ rfl, rfl, rfl⟩, fun b hb => ?_, q⟩
  have e : b = s1.heap.objs.size := by simpa using hb
  subst e
  exact I1.fpOk (Nat.le_refl _) (I1.hok.fresh (Nat.le_refl _))
theorem range_it {pins : List (Addr × Obj)} {σ : St} {H : Hp} {s : Shared} {R : It → Hp → Prop} {E : Value → Shared → Prop} {lo hi : Int} {t u v : Tok} {tk : Nat} (I : Inv X pins σ H s) (h1 : -(2 ^ 62) ≤ lo) (h2 : lo < 2 ^ 62) (h3 : -(2 ^ 62) ≤ hi) (h4 : hi < 2 ^ 62)
    (q : R (Itr lo (hi - lo).toNat) H) : wpAny (model X.prog X.w) X.A (pyIter (.ref s.heap.objs.size)) (PIE X pins σ tg R) E { s with heap := s.heap.push { cls := .type "range", data := .fields #[.int lo t, .int hi u, .int 1 v] }, toks := tk } := by
  refine wpAny_pyIter_range (IsRange.new ..) (small_one h1 h2 h3 h4) ?_
  have I1 : Inv X pins σ H { s with heap := s.heap.push { cls := .type "range", data := .fields #[.int lo t, .int hi u, .int 1 v] }, toks := tk } := I.kept fun b o e => Heap.get?_push_of_some _ e
  refine ⟨(s.heap.push { cls := .type "range", data := .fields #[.int lo t, .int hi u, .int 1 v] }).objs.size, [(s.heap.push { cls := .type "range", data := .fields #[.int lo t, .int hi u, .int 1 v] }).objs.size], _, _, H, rfl,
    I1.kept (t' := tk) fun b o e => Heap.get?_push_of_some _ e, turn_range _ lo (hi - lo).toNat, ?_, fun b hb => ?_, q⟩
  · have e1 : lo + ((0 : Nat) : Int) * 1 = lo := by simp
    have e2 : (((hi - lo).toNat : Nat) : Int) - ((0 : Nat) : Int) = Builtin.Range.rangeSize lo hi 1 := by rw [rangeSize_one]; split <;> omega
    show IsRangeIter _ _ (lo + ((0 : Nat) : Int) * 1) ((((hi - lo).toNat : Nat) : Int) - ((0 : Nat) : Int)) 1
    rw [e1, e2]
    exact Heap.get?_push_size _ rfl
  · have e : b = (s.heap.push { cls := .type "range", data := .fields #[.int lo t, .int hi u, .int 1 v] }).objs.size := by simpa using hb
    subst e
    exact I1.fpOk (Nat.le_refl _) (I1.hok.fresh (Nat.le_refl _))
def iRng1 (ta : TA) : TI := fun σ H R => ta σ H fun vs H1 => ∃ j : Int, vs = [.int j] ∧ -(2 ^ 62) ≤ j ∧ j < 2 ^ 62 ∧ R (Itr 0 j.toNat) H1
theorem pi_range1 {a : Expr} {ta : TA} {p pos : Pos} (hg : Gl X "range") (hm : X.mg "range" = none) (ha : PA X [a] ta) (hs : starEach [a] X.env = [(false, eval a X.env)] := by rfl) : PI X tg (.Call (.Name "range" p) [a] [] pos) (iRng1 ta) := by
  intro pins s σ H R I h
  refine Call_ (ld_blt I hg hm boot_range (PyProof.Rows.callWith_type1 (thn (ha pos pins s σ H _ I h) fun us s1 ⟨vs, H1, I1, r1, q1⟩ => ?_) hs rfl))
  obtain ⟨j, e, q1, q2, q⟩ := q1
  subst e
  cases r1 with
  | cons r rr =>
    cases rr
    obtain ⟨t, rfl⟩ := r
    exact call_range_1 (range_it I1 (by omega) (by omega) q1 q2 (by simpa using q))
def tFor (wi : TI) (g : TG) (tb : TS) : TS := fun D σ H => wi σ H fun J H1 => ∃ W : Nat → Nat → St → Hp → Prop, (∃ m, W 0 m σ H1) ∧ ∀ i m σ H, W i m σ H →
  (J.stop i H ∧ D.nx σ H) ∨ (J.go i H ∧ ∃ N : St → Hp → Prop, (∀ σ' H', N σ' H' → ∃ m', m' < m ∧ W (i + 1) m' σ' H') ∧ ∀ x H', J.yld i H x H' → g x σ H' fun σ2 H2 => tb { D with nx := N, ct := N, bk := D.nx } σ2 H2)
def pinsAt (fp : List Addr) (h : Heap) : List (Addr × Obj) := fp.filterMap fun b => (h.get? b).map fun o => (b, o)
theorem mem_pinsAt {fp : List Addr} {h : Heap} {b : Addr} {o : Obj} (hb : b ∈ fp) (e : h.get? b = some o) : (b, o) ∈ pinsAt fp h := List.mem_filterMap.mpr ⟨b, hb, by rw [e]; rfl⟩
theorem of_pinsAt {fp : List Addr} {h : Heap} {p : Addr × Obj} (hp : p ∈ pinsAt fp h) : p.1 ∈ fp ∧ h.get? p.1 = some p.2 := by
  obtain ⟨b, hb, e⟩ := List.mem_filterMap.mp hp
  cases q : h.get? b with
  | none => rw [q] at e; cases e
  | some o =>
    rw [q] at e
    have e' : (b, o) = p := Option.some.inj e
    subst e'
    exact ⟨hb, q⟩
theorem Inv.pinned {pins : List (Addr × Obj)} {σ : St} {H : Hp} {s : Shared} {fp : List Addr} (I : Inv X pins σ H s) (hf : ∀ b ∈ fp, FpOk X pins H b) (ho : ∀ b ∈ fp, ∃ o, s.heap.get? b = some o ∧ ∀ v, o.data ≠ .cell v) : Inv X (pins ++ pinsAt fp s.heap) σ H s :=
  I.pins_of fun p hp => (List.mem_append.mp hp).elim (fun z => I.pin p (List.mem_append_right _ z)) fun z => by
    obtain ⟨hb, e⟩ := of_pinsAt z
    obtain ⟨f0, f1, f2, _⟩ := hf p.1 hb
    obtain ⟨o, e', d⟩ := ho p.1 hb
    rw [e] at e'; cases e'
    exact ⟨e, f0, f1, f2, d⟩
theorem Inv.unpinned {pins pl : List (Addr × Obj)} {σ : St} {H : Hp} {s : Shared} (I : Inv X (pins ++ pl) σ H s) : Inv X pins σ H s := I.pins_of fun p hp => I.pin p (List.mem_append_right _ (List.mem_append_left _ hp))
theorem ps_for {iter : Expr} {body : List Stmt} {wi : TI} {g : TG} {tb : TS} {pos : Pos} (hp : PassesOwn (model X.prog X.w) X.A X.env X.xe) (hc : X.calm = true) (hi : PI X tg iter wi) (hg : PG X tg g) (hb : PSs X body tb)
    (hs : ∀ x, foldedSetIterable iter X.env x = pure x := by intro _; rfl) : PS X (.For tg iter body [] pos) (tFor wi g tb) := by
  intro pins s σ H D I h
  refine wpAny_For (thn (hi pins s σ H _ I h) fun v s1 h1 => thn h1 fun itv s2 h2 => ?_) hs
  obtain ⟨it, fp, tn, J, H2, e, I2, T, st2, f2, W, ⟨m0, w0⟩, turn⟩ := h2
  subst e
  -- what stays true of the iterator's objects through the loop
  have stat : ∀ {H' : Hp}, (∀ b ∈ fp, H' b = none) → ∀ b ∈ fp, FpOk X pins H' b := fun hn b hb => ⟨hn b hb, (f2 b hb).2⟩
  refine codeAny_forLoop_any (fun n s' => ∃ i σ' H', Inv X pins σ' H' s' ∧ tn i s'.heap ∧ (∀ b ∈ fp, H' b = none) ∧ W i n σ' H') ?_ m0 ⟨0, σ, H2, I2, st2, fun b hb => (f2 b hb).1, w0⟩
  rintro n s3 ⟨i, σ3, H3, I3, st3, fr3, w3⟩
  rcases turn i n σ3 H3 w3 with ⟨stop, qn⟩ | ⟨go, N, hN, step⟩
  · refine wpAny_passesOwn hp (thn (T.done X rfl rfl rfl hc i pins s3 σ3 H3 X.xe I3 (stat fr3) st3 stop) fun r s4 ⟨hr, I4⟩ => ?_)
    subst hr
    exact wpAny_execs_nil ⟨σ3, H3, I4, qn⟩
  · refine wpAny_passesOwn hp (thn (T.item X rfl rfl rfl hc i pins s3 σ3 H3 X.xe I3 (stat fr3) st3 go) fun r s4 ⟨u, hr, h4⟩ => ?_)
    subst hr
    refine wpAny_passesOwn hp (thn h4 fun _ s5 ⟨x, H5, I5, r5, y5, st5, fr5⟩ => ?_)
    have I5' := I5.pinned (stat fr5) (T.obj _ _ st5)
    refine wpAny_passesOwn hp (thn (hg _ s5 σ3 H5 x u _ I5' r5 (step x H5 y5)) fun _ s6 ⟨σ6, H6, I6, q6⟩ => ?_)
    refine wpAny_passesOwn hp (thn (hb _ s6 σ6 H6 _ I6 q6) fun f s7 q7 => ?_)
    have again : ∀ {σ7 : St} {H7 : Hp}, Inv X (pins ++ pinsAt fp s5.heap) σ7 H7 s7 → N σ7 H7 → ∃ m, m < n ∧ ∃ i σ' H', Inv X pins σ' H' s7 ∧ tn i s7.heap ∧ (∀ b ∈ fp, H' b = none) ∧ W i m σ' H' := fun {σ7 H7} I7 n7 => by
      obtain ⟨m', hm, w7⟩ := hN σ7 H7 n7
      refine ⟨m', hm, i + 1, σ7, H7, I7.unpinned, T.keep _ _ _ st5 fun b hb o e => (I7.pin (b, o) (List.mem_append_right _ (List.mem_append_right _ (mem_pinsAt hb e)))).1, fun b hb => ?_, w7⟩
      obtain ⟨o, e, d⟩ := T.obj _ _ st5 b hb
      exact (I7.pin (b, o) (List.mem_append_right _ (List.mem_append_right _ (mem_pinsAt hb e)))).2.1
    cases f with
    | next => obtain ⟨σ7, H7, I7, n7⟩ := q7; exact again I7 n7
    | cont => obtain ⟨σ7, H7, I7, n7⟩ := q7; exact again I7 n7
    | brk => obtain ⟨σ7, H7, I7, q7⟩ := q7; exact ⟨σ7, H7, I7.unpinned, q7⟩
    | ret v => obtain ⟨x7, σ7, H7, I7, r7, q7⟩ := q7; exact ⟨x7, σ7, H7, I7.unpinned, r7, q7⟩
end
end L2
namespace L2
open PySem PySem.Spec PyProof.Rows
abbrev R2 := V → V → Hp → VK → Prop
def OpR (X : Cx) (f : Value → Value → Sem Value) (r : R2) : Prop :=
  ∀ (pins : List (Addr × Obj)) (s : Shared) (σ : St) (H : Hp) (x y : V) (v u : Value) (Q : VK), Inv X pins σ H s → RelV x v → RelV y u → r x y H Q →
    wpAny (model X.prog X.w) X.A (f v u) (EP X pins σ Q) X.xe s
def UnR (X : Cx) (f : Value → Sem Value) (r : V → Hp → VK → Prop) : Prop :=
  ∀ (pins : List (Addr × Obj)) (s : Shared) (σ : St) (H : Hp) (x : V) (v : Value) (Q : VK), Inv X pins σ H s → RelV x v → r x H Q →
    wpAny (model X.prog X.w) X.A (f v) (EP X pins σ Q) X.xe s
def CallR (X : Cx) (f : Value) (r : List V → Hp → VK → Prop) : Prop :=
  ∀ (pins : List (Addr × Obj)) (s : Shared) (σ : St) (H : Hp) (xs : List V) (us : List Value) (Q : VK), Inv X pins σ H s → Vals xs us → r xs H Q →
    wpAny (model X.prog X.w) X.A (call f us) (EP X pins σ Q) X.xe s
def TruR (X : Cx) (r : V → Hp → (Bool → Hp → Prop) → Prop) : Prop :=
  ∀ (pins : List (Addr × Obj)) (s : Shared) (σ : St) (H : Hp) (x : V) (v : Value) (Q : Bool → Hp → Prop), Inv X pins σ H s → RelV x v → r x H Q →
    wpAny (model X.prog X.w) X.A (truthy v) (TP X pins σ Q) X.xe s
def tOp (r : R2) (ta tb : TE) : TE := fun σ H Q => ta σ H fun x H1 => tb σ H1 fun y H2 => r x y H2 Q
def tUn (r : V → Hp → VK → Prop) (ta : TE) : TE := fun σ H Q => ta σ H fun x H1 => r x H1 Q
def rI (C : Int → Int → Prop) (g : Int → Int → V) : R2 := fun x y H Q => ∃ i j, x = .int i ∧ y = .int j ∧ C i j ∧ Q (g i j) H
def rI0 (g : Int → Int → V) : R2 := fun x y H Q => ∃ i j, x = .int i ∧ y = .int j ∧ Q (g i j) H
def rU (g : Int → V) : V → Hp → VK → Prop := fun x H Q => ∃ i, x = .int i ∧ Q (g i) H
section
variable {X : Cx} {a b c : Expr} {ta tb tc : TE} {pos : Pos}
theorem binT (ha : PE X a ta) (hb : PE X b tb) {pins : List (Addr × Obj)} {s : Shared} {σ : St} {H : Hp} {R : V → V → Hp → Prop} (I : Inv X pins σ H s)
    (h : ta σ H fun x H1 => tb σ H1 fun y H2 => R x y H2) {Q : Value → Shared → Prop} {f : Value → Value → Sem Value}
    (hf : ∀ v u s2 x y H2, Inv X pins σ H2 s2 → RelV x v → RelV y u → R x y H2 → wpAny (model X.prog X.w) X.A (f v u) Q X.xe s2) :
    wpAny (model X.prog X.w) X.A (eval a X.env) (fun v s₁ => wpAny (model X.prog X.w) X.A (eval b X.env) (fun u s₂ => wpAny (model X.prog X.w) X.A (f v u) Q X.xe s₂) X.xe s₁) X.xe s := by
  refine thn (ha pins s σ H _ I h) fun v s1 ⟨x, H1, I1, r1, q1⟩ => ?_
  refine thn (hb pins s1 σ H1 _ I1 q1) fun u s2 ⟨y, H2, I2, r2, q2⟩ => ?_
  exact hf v u s2 x y H2 I2 r1 r2 q2
theorem pe_op {op : Operator} {r : R2} (ho : OpR X (binaryOp op) r) (ha : PE X a ta) (hb : PE X b tb) : PE X (.BinOp a op b pos) (tOp r ta tb) := by
  intro pins s σ H Q I h
  exact wpAny_BinOp (binT ha hb I h fun v u s2 x y H2 I2 rx ry q => ho pins s2 σ H2 x y v u Q I2 rx ry q)
theorem pe_un {op : UnaryOp} {r : V → Hp → VK → Prop} (ho : UnR X (unaryOp op) r) (ha : PE X a ta) : PE X (.UnaryOp op a pos) (tUn r ta) := by
  intro pins s σ H Q I h
  exact UnaryOp_ (thn (ha pins s σ H _ I h) fun v s1 ⟨x, H1, I1, r1, q1⟩ => ho pins s1 σ H1 x v Q I1 r1 q1)
theorem opI {f : Value → Value → Sem Value} {C : Int → Int → Prop} {g : Int → Int → Int}
    (rule : ∀ (i j : Int) (t u : Tok) (s : Shared) (Q : Value → Shared → Prop) (E : Value → Shared → Prop), C i j → Q (.int (g i j) s.toks) { s with toks := s.toks + 1 } → wpAny (model X.prog X.w) X.A (f (.int i t) (.int j u)) Q E s) :
    OpR X f (rI C fun i j => .int (g i j)) := by
  intro pins s σ H x y v u Q I rx ry h
  obtain ⟨i, j, rfl, rfl, hc, q⟩ := h
  obtain ⟨t, rfl⟩ := rx
  obtain ⟨t', rfl⟩ := ry
  exact rule i j t t' s _ _ hc ⟨.int (g i j), H, I.tok _, ⟨_, rfl⟩, q⟩
theorem opI0 {f : Value → Value → Sem Value} {g : Int → Int → Int}
    (rule : ∀ (i j : Int) (t u : Tok) (s : Shared) (Q : Value → Shared → Prop) (E : Value → Shared → Prop), Q (.int (g i j) s.toks) { s with toks := s.toks + 1 } → wpAny (model X.prog X.w) X.A (f (.int i t) (.int j u)) Q E s) :
    OpR X f (rI0 fun i j => .int (g i j)) := by
  intro pins s σ H x y v u Q I rx ry h
  obtain ⟨i, j, rfl, rfl, q⟩ := h
  obtain ⟨t, rfl⟩ := rx
  obtain ⟨t', rfl⟩ := ry
  exact rule i j t t' s _ _ ⟨.int (g i j), H, I.tok _, ⟨_, rfl⟩, q⟩
theorem opB0 {f : Value → Value → Sem Value} {g : Int → Int → Bool}
    (rule : ∀ (i j : Int) (t u : Tok) (s : Shared) (Q : Value → Shared → Prop) (E : Value → Shared → Prop), Q (.bool (g i j)) s → wpAny (model X.prog X.w) X.A (f (.int i t) (.int j u)) Q E s) :
    OpR X f (rI0 fun i j => .bl (g i j)) := by
  intro pins s σ H x y v u Q I rx ry h
  obtain ⟨i, j, rfl, rfl, q⟩ := h
  obtain ⟨t, rfl⟩ := rx
  obtain ⟨t', rfl⟩ := ry
  exact rule i j t t' s _ _ ⟨.bl (g i j), H, I, rfl, q⟩
def CDiv (i j : Int) : Prop := 0 < j ∧ j < 1073741824
def CPow (i j : Int) : Prop := 0 ≤ j ∧ j ≤ 1000000 ∧ i.natAbs < 2 ^ 64
def CMul (i j : Int) : Prop := (-(2 ^ 64) < i ∧ i < 2 ^ 64) ∨ (-(2 ^ 64) < j ∧ j < 2 ^ 64)
theorem CMul.ok {i j : Int} (h : CMul i j) : IntMulOk i j := by
  rcases h with ⟨h1, h2⟩ | ⟨h1, h2⟩
  · exact .of_left (intBits_le_64 h1 h2)
  · exact .of_right (intBits_le_64 h1 h2)
theorem op_add : OpR X (binaryOp .Add) (rI0 fun i j => .int (i + j)) := opI0 fun _ _ _ _ _ _ _ q => add_int q
theorem op_sub : OpR X (binaryOp .Sub) (rI0 fun i j => .int (i - j)) := opI0 fun _ _ _ _ _ _ _ q => sub_int q
theorem op_mul : OpR X (binaryOp .Mult) (rI CMul fun i j => .int (i * j)) := opI fun _ _ _ _ _ _ _ hc q => mul_int q hc.ok
theorem op_fdiv : OpR X (binaryOp .FloorDiv) (rI CDiv fun i j => .int (i / j)) := opI fun i j _ _ _ _ _ hc q => by
  have h1 : (0 : Int) < j := hc.1
  have h2 : j < 1073741824 := hc.2
  exact floordiv_int (by omega) (by rw [Int.fdiv_eq_ediv_of_nonneg i (by omega)]; exact q) (.inl (PyProof.noPylong_small (by omega)))
theorem op_mod : OpR X (binaryOp .Mod) (rI (fun _ j => 0 < j) fun i j => .int (i % j)) := opI fun i j _ _ _ _ _ hc q => by
  have h1 : (0 : Int) < j := hc
  exact mod_int' (by omega) (by rw [Int.fmod_eq_emod_of_nonneg i (by omega)]; exact q)
theorem op_pow : OpR X (binaryOp .Pow) (rI CPow fun i j => .int (i ^ j.toNat)) := opI fun _ _ _ _ _ _ _ hc q => pow_int_small hc.1 hc.2.1 hc.2.2 q
theorem unI {f : Value → Sem Value} {g : Int → Int}
    (rule : ∀ (i : Int) (t : Tok) (s : Shared) (Q : Value → Shared → Prop) (E : Value → Shared → Prop), Q (.int (g i) s.toks) { s with toks := s.toks + 1 } → wpAny (model X.prog X.w) X.A (f (.int i t)) Q E s) :
    UnR X f (rU fun i => .int (g i)) := by
  intro pins s σ H x v Q I rx h
  obtain ⟨i, rfl, q⟩ := h
  obtain ⟨t, rfl⟩ := rx
  exact rule i t s _ _ ⟨.int (g i), H, I.tok _, ⟨_, rfl⟩, q⟩
theorem un_neg : UnR X (unaryOp .USub) (rU fun i => .int (-i)) := unI fun _ _ _ _ _ q => neg_int q
theorem op_add_ib : OpR X (binaryOp .Add) (fun x y H Q => ∃ i k, x = .int i ∧ y = .bl k ∧ Q (.int (i + b2i k)) H) := by
  intro pins s σ H x y v u Q I rx ry h
  obtain ⟨i, k, rfl, rfl, q⟩ := h
  obtain ⟨t, rfl⟩ := rx
  cases ry
  exact add_int_bool ⟨.int (i + b2i k), H, I.tok _, ⟨_, rfl⟩, q⟩
end
section
variable {X : Cx} {a b c : Expr} {ta tb tc : TE} {pos : Pos}
theorem op_lt : OpR X (compareOp .Lt) (rI0 fun i j => .bl (decide (i < j))) := opB0 fun _ _ _ _ _ _ _ q => lt_int q
theorem op_le : OpR X (compareOp .LtE) (rI0 fun i j => .bl (decide (i ≤ j))) := opB0 fun _ _ _ _ _ _ _ q => le_int q
theorem OpR.or {f : Value → Value → Sem Value} {r r' : R2} (h : OpR X f r) (h' : OpR X f r') : OpR X f (fun x y H Q => r x y H Q ∨ r' x y H Q) := by
  intro pins s σ H x y v u Q I rx ry q
  rcases q with q | q
  · exact h pins s σ H x y v u Q I rx ry q
  · exact h' pins s σ H x y v u Q I rx ry q
theorem nomark (b : Expr) {op : CmpOp} (h : op ≠ .In := by decide) (h2 : op ≠ .NotIn := by decide) : behindInMarks op b = false := by
  have e1 : (op == CmpOp.In) = false := by cases op <;> first | rfl | exact absurd rfl h
  have e2 : (op == CmpOp.NotIn) = false := by cases op <;> first | rfl | exact absurd rfl h2
  cases b <;> simp [behindInMarks, e1, e2]
theorem pe_cmpR {op : CmpOp} {r : R2} (ho : OpR X (compareOp op) r) (ha : PE X a ta) (hb : PE X b tb) (hm : behindInMarks op b = false) : PE X (.Compare a [op] [b] pos) (tOp r ta tb) := by
  intro pins s σ H Q I h
  exact wpAny_Compare1 (binT ha hb I h fun v u s2 x y H2 I2 rx ry q => ho pins s2 σ H2 x y v u Q I2 rx ry q) hm
def tTest (t : TE) : TT := fun σ H Q => t σ H fun x H' => ∃ k, x = .bl k ∧ Q k H'
theorem pt_cmpR {op : CmpOp} {r : R2} (ho : OpR X (compareOp op) r) (ha : PE X a ta) (hb : PE X b tb) (hm : behindInMarks op b = false) : PT X (.Compare a [op] [b] pos) (tTest (tOp r ta tb)) := by
  intro pins s σ H Q I h
  refine wpAny_isTrue_Compare1 (thn (ha pins s σ H _ I h) fun v s1 ⟨x, H1, I1, r1, q1⟩ => thn (hb pins s1 σ H1 _ I1 q1) fun u s2 ⟨y, H2, I2, r2, q2⟩ =>
    thn (ho pins s2 σ H2 x y v u _ I2 r1 r2 q2) fun c s3 ⟨z, H3, I3, r3, k, e, q3⟩ => ?_) hm
  subst e
  cases r3
  exact wpAny_truthy_bool ⟨H3, I3, q3⟩
def TruV (K : PySem.W.Frag) (x : V) (H : Hp) (k : Bool) : Prop :=
  match x with
  | .non => k = false
  | .bl b => k = b
  | .int i => k = (i != 0)
  | .str y => y.length ≤ sizeLine ∧ k = ((y.length : Int) != 0)
  | .byt y => y.size ≤ sizeLine ∧ k = ((y.size : Int) != 0)
  | .ref p => (∃ xs, SqL K H p xs ∧ k = !xs.isEmpty) ∨ (∃ xs, SqT K H p xs ∧ k = !xs.isEmpty) ∨ ∃ kvs, H p = some (.dK kvs) ∧ k = !kvs.isEmpty
  | _ => False
theorem isEmpty_kv {κ : Type} {kvs : List (κ × V)} {vs : List (κ × Value)} (r : KV kvs vs) : (!vs.isEmpty) = !kvs.isEmpty := by
  cases r <;> rfl
theorem isEmpty_of {xs : List V} {its : List Value} (r : Vals xs its) : (!its.toArray.isEmpty) = !xs.isEmpty := by
  cases r <;> simp
theorem line63 : (sizeLine : Nat) < 2 ^ 63 := by rw [sizeLine_eq]; decide
theorem tru_ok : TruR X (fun x H Q => ∃ k, TruV X.K x H k ∧ Q k H) := by
  intro pins s σ H x v Q I rx h
  obtain ⟨k, e, q⟩ := h
  have hl := line63
  have hs : sizeLine = 16777216 := sizeLine_eq
  cases x with
  | non =>
    cases rx
    have e' : k = false := e
    subst e'
    exact truthy_none ⟨H, I, q⟩
  | bl b =>
    cases rx
    have e' : k = b := e
    subst e'
    exact wpAny_truthy_bool ⟨H, I, q⟩
  | int i =>
    obtain ⟨t, rfl⟩ := rx
    have e' : k = (i != 0) := e
    subst e'
    exact PySem.P.truthy_int ⟨H, I, q⟩
  | str y =>
    obtain ⟨t, rfl⟩ := rx
    obtain ⟨hy, e'⟩ : y.length ≤ sizeLine ∧ k = ((y.length : Int) != 0) := e
    subst e'
    exact PySem.P.truthy_str (by omega) ⟨H, I.tok _, q⟩
  | byt y =>
    obtain ⟨t, rfl⟩ := rx
    obtain ⟨hy, e'⟩ : y.size ≤ sizeLine ∧ k = ((y.size : Int) != 0) := e
    subst e'
    exact PySem.W.truthy_bytes (by omega) ⟨H, I.tok _, q⟩
  | ref p =>
    cases rx
    have e' : (∃ xs, SqL X.K H p xs ∧ k = !xs.isEmpty) ∨ (∃ xs, SqT X.K H p xs ∧ k = !xs.isEmpty) ∨ ∃ kvs, H p = some (.dK kvs) ∧ k = !kvs.isEmpty := e
    rcases e' with ⟨xs, hx, e'⟩ | ⟨xs, hx, e'⟩ | ⟨kvs, hx, e'⟩
    · subst e'
      obtain ⟨its, r, pl, hz⟩ := I.list hx
      have hlen := r.length
      exact wpAny_truthy_list pl.isList (by simp only [List.size_toArray]; omega) ⟨H, I.tok _, by rw [isEmpty_of r]; exact q⟩
    · subst e'
      obtain ⟨its, r, pl, hz⟩ := I.tuple hx
      have hlen := r.length
      exact truthy_tuple pl (by simp only [List.size_toArray]; omega) ⟨H, I.tok _, by rw [isEmpty_of r]; exact q⟩
    · subst e'
      obtain ⟨hz, hS, vs, r, m⟩ : kvs.length ≤ sizeLine ∧ (p == sysModules) = false ∧ ∃ vs, KV kvs vs ∧ s.heap.DictOf (mixKind X.prog X.w) p vs := I.hok p _ hx
      have hlen : kvs.length = vs.length := Paired.length r
      exact wpAny_truthy_dict hS m (by omega) ⟨H, I.tok _, by rw [isEmpty_kv r]; exact q⟩
  | _ => exact (show False from e).elim
theorem pt_truth (ha : PE X a ta) (he : ∀ whole, isTrue a X.env whole = (do let v ← whole; standAt a.pos; holding [v] (truthy v))) :
    PT X a (fun σ H Q => ta σ H fun x H' => ∃ k, TruV X.K x H' k ∧ Q k H') := by
  intro pins s σ H Q I h
  exact isTrue_plain (thn (ha pins s σ H _ I h) fun v s1 ⟨x, H1, I1, r1, q1⟩ => tru_ok pins s1 σ H1 x v Q I1 r1 q1) (he _)
theorem op_add_str : OpR X (binaryOp .Add) (fun x y H Q => ∃ i j, x = .str i ∧ y = .str j ∧ i.length + j.length ≤ sizeLine ∧ Q (.str (i ++ j)) H) := by
  intro pins s σ H x y v u Q I rx ry h
  obtain ⟨i, j, rfl, rfl, hz, q⟩ := h
  obtain ⟨t, rfl⟩ := rx
  obtain ⟨t', rfl⟩ := ry
  exact add_str (fun t' tk => ⟨.str (i ++ j), H, I.tok _, ⟨_, rfl⟩, q⟩) hz
theorem vals1 {x : V} {us : List Value} (r : Vals [x] us) : ∃ u, us = [u] ∧ RelV x u := by
  cases r with
  | cons r1 r2 => cases r2; exact ⟨_, rfl, r1⟩
theorem vals2 {x y : V} {us : List Value} (r : Vals [x, y] us) : ∃ u w', us = [u, w'] ∧ RelV x u ∧ RelV y w' := by
  cases r with
  | cons r1 r2 =>
    cases r2 with
    | cons r3 r4 => cases r4; exact ⟨_, _, rfl, r1, r3⟩
theorem call_abs : CallR X (.builtin "abs") (fun xs H Q => ∃ i, xs = [.int i] ∧ Q (.int (if i < 0 then -i else i)) H) := by
  intro pins s σ H xs us Q I r h
  obtain ⟨i, rfl, q⟩ := h
  obtain ⟨u, rfl, t, rfl⟩ := vals1 r
  exact call_abs_int fun u tk => ⟨.int (if i < 0 then -i else i), H, I.tok _, ⟨_, rfl⟩, q⟩
theorem call_int1 : CallR X (.type "int") (fun xs H Q => (∃ i, xs = [.int i] ∧ Q (.int i) H) ∨ ∃ k, xs = [.bl k] ∧ Q (.int (if k then 1 else 0)) H) := by
  intro pins s σ H xs us Q I r h
  rcases h with ⟨i, rfl, q⟩ | ⟨k, rfl, q⟩
  · obtain ⟨u, rfl, t, rfl⟩ := vals1 r
    exact call_int_int ⟨.int i, H, I, ⟨_, rfl⟩, q⟩
  · obtain ⟨u, rfl, r1⟩ := vals1 r
    cases r1
    exact call_int_bool ⟨.int (if k then 1 else 0), H, I.tok _, ⟨_, rfl⟩, q⟩
theorem call_str_int : CallR X (.type "str") (fun xs H Q => ∃ i, xs = [.int i] ∧ i.natAbs.log2 < 1920 ∧ Q (.str (toString i)) H) := by
  intro pins s σ H xs us Q I r h
  obtain ⟨i, rfl, hz, q⟩ := h
  obtain ⟨u, rfl, t, rfl⟩ := vals1 r
  exact PySem.P.str_of_int hz ⟨.str _, H, I.tok _, ⟨_, rfl⟩, q⟩
end
end L2
namespace L2
open PySem PySem.Spec PyProof.Rows
structure ObjM (h : Heap) (x dx C : Addr) (mA : Str → Option Value) : Prop where
  obj : h.get? x = some (PySem.W.instObj C dx)
  ns : h.Ns1 dx mA
  ne : dx ≠ x
theorem lookIn_ns {h : Heap} {dx : Addr} {mA : Str → Option Value} (n : h.Ns1 dx mA) : ∃ od, h.get? dx = some od ∧ ∀ name, PySem.W.lookIn name od = some (mA name) := by
  obtain ⟨o, es, ep, ho, hd, hk, _, hm⟩ := n
  refine ⟨o, ho, fun name => ?_⟩
  have e := hm name
  unfold nsFind findBy at e
  rw [← Array.find?_toList] at e
  unfold PySem.W.lookIn
  rw [hd]
  dsimp only
  split
  · rename_i y q
    rw [q] at e
    exact congrArg some e
  · rename_i q
    rw [q] at e
    have a : es.toList.any (·.refKey) = false := by
      rw [List.any_eq_false]
      intro y hy
      obtain ⟨z, t, hkey⟩ := hk y (Array.mem_toList_iff.mp hy)
      simp [DictEntry.refKey, hkey]
    have a' : ¬ es.toList.any (·.refKey) = true := by rw [a]; exact Bool.false_ne_true
    rw [if_neg a']
    exact congrArg some e
theorem ObjM.look {h : Heap} {x dx C : Addr} {mA : Str → Option Value} (I : ObjM h x dx C mA) : ∃ od, PySem.W.InstAt h x (PySem.W.instObj C dx) C (some od) ∧ ∀ name, PySem.W.lookIn name od = some (mA name) :=
  let ⟨od, ho, hl⟩ := lookIn_ns I.ns
  ⟨od, ⟨I.obj, rfl, rfl, ho⟩, hl⟩
section
variable {prog : Program} {w : World} {A : Around} {E : Value → Shared → Prop} {s : Shared} {K : PySem.W.Frag} {x dx C f : Addr} {mA : Str → Option Value} {name : Str} {v : Value}
theorem get_meth {pl : Sem Bool} {Q : Value × List Value → Shared → Prop} (X : K.In s.heap) (I : ObjM s.heap x dx C mA) (hg : PySem.W.plainGet K C name = true)
    (hf : PySem.W.findIn K (.ref C) name = some (some (.ref f))) (ht : PySem.W.isFn K (.ref f) = true) (hv : mA name = none) (h : Q (.ref f, [.ref x]) s) :
    wpAny (model prog w) A (getMethod (.ref x) name pl) Q E s := by
  obtain ⟨od, J, hl⟩ := I.look
  exact PySem.W.method_fn X J (PySem.W.plainGet_of hg).1 (PySem.W.plainGet_of hg).2 hf (beq_iff_eq.mp ht) (by show (PySem.W.lookIn name od).map (·.isSome) = some false; rw [hl, hv]; rfl) h
theorem make_map0 {R : Result → Shared → Prop} (X : K.In s.heap) (hm : PySem.W.makesIn K C = true)
    (hi : PySem.W.findIn K (.ref C) "__init__" = some (some (.builtin "object.__init__")))
    (hb : ∀ self, PySem.W.Looks (model prog w) s.heap (bindSpecial (.builtin "object.__init__") self) (.builtin "object.__init__", [self]))
    (h : codeAny (model prog w) (A.under (.builtin "type.__call__" ⟨[.ref C], []⟩)) (.call (.builtin "object.__init__") ⟨[.ref (s.heap.objs.size + 1)], []⟩) (PySem.W.InitBack (s.heap.objs.size + 1) R)
      { s with heap := (s.heap.push PySem.W.emptyDict).push (PySem.W.instObj C s.heap.objs.size) }) :
    codeAny (model prog w) A (.call (.ref C) ⟨[], []⟩) R s := by
  obtain ⟨hh, g, d, t, os⟩ := s
  exact PySem.W.make_core (PySem.W.makes_of X hm) (PySem.W.looks_findIn X hi) hb (.inr ⟨rfl, rfl⟩) h
end
theorem RelO.some_of {v : V} {o : Option Value} (r : RelO (some v) o) : ∃ u, o = some u ∧ RelV v u := by
  cases o with
  | none => exact (show False from r).elim
  | some u => exact ⟨u, rfl, r⟩
theorem RelO.none_of {o : Option Value} (r : RelO none o) : o = none := by
  cases o with
  | none => rfl
  | some u => exact (show False from r).elim
theorem handed_of {v : V} {u : Value} (r : RelV v u) : PySem.W.handedIn u = true := by
  cases v with
  | non => cases (show u = Value.none from r); rfl
  | bl b => cases (show u = Value.bool b from r); rfl
  | int i => obtain ⟨t, e⟩ := (show ∃ t, u = Value.int i t from r); cases e; rfl
  | str x => obtain ⟨t, e⟩ := (show ∃ t, u = Value.str x t from r); cases e; rfl
  | byt b => obtain ⟨t, e⟩ := (show ∃ t, u = Value.bytes b t from r); cases e; rfl
  | flt b => obtain ⟨t, e⟩ := (show ∃ t, u = Value.float b t from r); cases e; rfl
  | ref a => cases (show u = Value.ref a from r); rfl
  | ty n => cases (show u = Value.type n from r); rfl
section
variable {P : Program} {w : World} {H H' : Hp} {h h' : Heap} {a C dx : Addr} {fs fs' : List (Str × V)}
theorem ins_get (hok : HOk P w H h) (e : H a = some (.ins C dx fs)) : ∃ mA, ObjM h a dx C mA ∧ (∀ f, RelO (fs.lookup f) (mA f)) ∧ PySem.Within mA (fs.map (·.1)) ∧ fs.length ≤ 1000 ∧ H dx = some (.own a) := by
  obtain ⟨d, z, ne, ob, mA, n, r, q⟩ := (show ObjOk P w H h a (.ins C dx fs) from hok a _ e)
  exact ⟨mA, ⟨ob, n, ne⟩, r, q, z, d⟩
end
structure Cls (K : PySem.W.Frag) (C : Addr) : Prop where
  pg : PySem.W.plainGet K C Str.empty = true
  hd : PySem.W.hasDictIn K C = true
  po : PySem.W.plainOver K C = true
  sa : PySem.W.findIn K (.ref C) "__setattr__" = some (some (.builtin "object.__setattr__"))
theorem Cls.get {K : PySem.W.Frag} {C : Addr} (c : Cls K C) (f : Str) : PySem.W.plainGet K C f = true := c.pg
structure Con (K : PySem.W.Frag) (C : Addr) (f : Str) (v : V) (u : Value) : Prop where
  at_ : PySem.W.findIn K (.ref C) f = some (some u)
  rel : RelV v u
  get : PySem.W.specialIn K u "__get__" = some none
  cp : PySem.W.copiedNames.contains f = false
structure Meth (K : PySem.W.Frag) (C : Addr) (m : Str) (f : Addr) : Prop where
  at_ : PySem.W.findIn K (.ref C) m = some (some (.ref f))
  fn : PySem.W.isFn K (.ref f) = true
  kp : PySem.W.keepIn K (.ref f) = true
section
variable {X : Cx} {pins : List (Addr × Obj)} {σ : St} {H : Hp} {s : Shared} {a C dx : Addr} {fs : List (Str × V)} {f : Str} {v : V} {A : Around} {E : Value → Shared → Prop}
theorem getmeth_ok {m : Str} {g : Addr} {pl : Sem Bool} {Q : Value × List Value → Shared → Prop} (I : Inv X pins σ H s) (e : H a = some (.ins C dx fs)) (c : Cls X.K C) (k : Meth X.K C m g) (l : fs.lookup m = none)
    (h : Q (.ref g, [.ref a]) s) : wpAny (model X.prog X.w) A (getMethod (.ref a) m pl) Q E s := by
  obtain ⟨mA, O, r, _, _, _⟩ := ins_get I.hok e
  have hn : mA m = none := RelO.none_of (by rw [← l]; exact r m)
  exact get_meth I.kIn O (c.get m) k.at_ k.fn hn h
theorem Inv.made (I : Inv X pins σ H s) : Inv X pins σ (upd (upd H s.heap.objs.size (.own (s.heap.objs.size + 1))) (s.heap.objs.size + 1) (.ins C s.heap.objs.size []))
    { s with heap := (s.heap.push PySem.W.emptyDict).push (PySem.W.instObj C s.heap.objs.size) } := by
  have e1 : (s.heap.push PySem.W.emptyDict).get? s.heap.objs.size = some PySem.W.emptyDict := Heap.get?_push_size s.heap rfl
  have e2 : ((s.heap.push PySem.W.emptyDict).push (PySem.W.instObj C s.heap.objs.size)).get? (s.heap.objs.size + 1) = some (PySem.W.instObj C s.heap.objs.size) := by
    have := Heap.get?_push_size (s.heap.push PySem.W.emptyDict) (o := PySem.W.instObj C s.heap.objs.size) rfl
    rwa [Heap.size_push] at this
  have e3 : (s.heap.push PySem.W.emptyDict).Ns s.heap.objs.size (fun _ => none) := ⟨PySem.W.emptyDict, #[], _, e1, rfl, (fun e he => absurd he (by simp)), fun _ => rfl⟩
  have I1 := I.laid (a := s.heap.objs.size) (o := .own (s.heap.objs.size + 1)) (h' := s.heap.push PySem.W.emptyDict) (t' := s.toks) (fun b u q => Heap.get?_push_of_some _ q) (Nat.le_refl _) ⟨_, e1⟩
  refine I1.laid (a := s.heap.objs.size + 1) (o := .ins C s.heap.objs.size []) (t' := s.toks) (fun b u q => Heap.get?_push_of_some _ q) (Nat.le_of_eq (Heap.size_push _ _)) ?_
  have ne : s.heap.objs.size ≠ s.heap.objs.size + 1 := Nat.ne_of_lt (Nat.lt_succ_self _)
  refine ⟨by rw [upd_ne ne, upd_same], Nat.zero_le _, ne, e2, fun _ => none, (Heap.Ns1.of_empty e3).at fun o q => Heap.get?_push_of_some _ q, fun _ => True.intro, fun y hy => absurd rfl hy⟩
theorem attr_of {prog : Program} {w : World} {env : Env} {e : Expr} {f : Str} {pos : Pos} {s : Shared} {Q : Value → Shared → Prop} (hb : attributeBase e f env (eval e env) = eval e env)
    (h : wpAny (model prog w) A (eval e env) (fun o s₁ => wpAny (model prog w) A (getAttr o f true) Q E s₁) E s) : wpAny (model prog w) A (eval (.Attribute e f pos) env) Q E s :=
  Attribute_any_ h (by rw [arm_eval_Attribute, hb])
end
section
variable {X : Cx} {o e value : Expr} {f : Str} {pos pos' tpos : Pos} {ta tv : TE}
end
section
variable {X : Cx} {pins : List (Addr × Obj)} {σ : St} {H : Hp} {s : Shared} {A : Around} {E : Value → Shared → Prop} {Q : Value → Shared → Prop} {c : Value} {b : Bool}
inductive TyOf (K : PySem.W.Frag) (H : Hp) : V → Value → Prop where
  | non : TyOf K H .non (.type "NoneType")
  | bl (x : Bool) : TyOf K H (.bl x) (.type "bool")
  | int (i : Int) : TyOf K H (.int i) (.type "int")
  | str (x : Str) : TyOf K H (.str x) (.type "str")
  | flt (x : UInt64) : TyOf K H (.flt x) (.type "float")
  | lst {a : Addr} {xs : List V} (e : H a = some (.lst xs)) : TyOf K H (.ref a) (.type "list")
  | frz {a : Addr} {o : Obj} {xs : List V} (e : H a = some (.frz o (.lst xs))) : TyOf K H (.ref a) (.type "list")
  | tup {a : Addr} {xs : List V} (e : H a = some (.tup xs)) : TyOf K H (.ref a) (.type "tuple")
  | dK {a : Addr} {kvs : List (Key × V)} (e : H a = some (.dK kvs)) : TyOf K H (.ref a) (.type "dict")
  | dT {a : Addr} {kvs : List (List Key × V)} (e : H a = some (.dT kvs)) : TyOf K H (.ref a) (.type "dict")
  | ins {a C dx : Addr} {fs : List (Str × V)} (e : H a = some (.ins C dx fs)) (cl : Cls K C) (ha : PySem.W.findIn K (.ref C) "__class__" = some (some (.builtin "object.__class__")))
      (hn : PySem.W.specialIn K (.builtin "object.__class__") "__get__" = some (some (.builtin "getset_descriptor.__get__"))) (htk : PySem.W.takesIn K (.builtin "object.__class__") = some true)
      (hm : PySem.W.mroIn K C (.type "object") = some true) : TyOf K H (.ref a) (.ref C)
end
end L2
namespace L2
open PySem PySem.Spec PyProof.Rows
structure Room (k : Nat) (A : Around) : Prop where
  hd : A.handled = none
  dp : A.depth + 3 * k + 5 < recursionLimit
  un : A.units + 16 * k + 200 < cLine
  gd : A.guards = some []
theorem Room.mono {j k : Nat} {A : Around} (r : Room k A) (h : j ≤ k) : Room j A := ⟨r.hd, by have := r.dp; omega, by have := r.un; omega, r.gd⟩
theorem Room.deeper {k : Nat} {A : Around} (r : Room (k + 1) A) (env : Env) : Room k (A.deeper env) :=
  ⟨r.hd, by have := r.dp; show A.depth + 1 + 3 * k + 5 < _; omega, by have := r.un; show A.units + 3 + 16 * k + 200 < _; omega, r.gd⟩
theorem Room.in1 {k : Nat} {A : Around} (r : Room (k + 1) A) : Room k A.in1 :=
  ⟨r.hd, by have := r.dp; show A.depth + 3 * k + 5 < _; omega, by have := r.un; show A.units + 1 + 16 * k + 200 < _; omega, r.gd⟩
theorem make_depth {A : Around} {C : Addr} {us : List Value} {kw : List (Str × Value)} : (A.under (.builtin "type.__call__" ⟨.ref C :: us, kw⟩)).depth = A.depth + 1 := by
  first | rfl | simp [Around.under, Code.weight, Code.isCreation, Code.isGuard, Code.isCaller, Code.frames, Code.isFrame, guardIds]
theorem make_units {A : Around} {C : Addr} {us : List Value} {kw : List (Str × Value)} : (A.under (.builtin "type.__call__" ⟨.ref C :: us, kw⟩)).units = A.units + 1 := by
  first | rfl | simp [Around.under, Code.cUnits, Code.frames, Code.isFrame]
theorem Room.make {k : Nat} {A : Around} (r : Room (k + 1) A) (C : Addr) (us : List Value) (kw : List (Str × Value)) : Room k (A.under (.builtin "type.__call__" ⟨.ref C :: us, kw⟩)) :=
  ⟨r.hd, by have := r.dp; rw [make_depth]; omega, by have := r.un; rw [make_units]; omega, by first | exact r.gd | (simp [Around.under, Code.guards, Code.isGuard, guardIds, pushGuards]; exact r.gd)⟩
theorem Room.depth {k : Nat} {A : Around} (r : Room k A) : A.depth < recursionLimit := by have := r.dp; omega
theorem Room.units {k : Nat} {A : Around} (r : Room k A) : A.units + 64 < cLine := by have := r.un; omega
def tNil : TA := fun _ H Q => Q [] H
def tCons (ta : TE) (tr : TA) : TA := fun σ H Q => ta σ H fun x H1 => tr σ H1 fun xs H2 => Q (x :: xs) H2
section
variable {X : Cx} {e : Expr} {es : List Expr} {te : TE} {t : TA} {pos : Pos}
theorem pa_nil : PA X [] tNil := fun _ _ _ _ H Q I h => Calls.spliced_nil ⟨[], H, I, .nil, h⟩
theorem pa_cons (ha : PE X e te) (hr : PA X es t) (hs : starEach (e :: es) X.env = (false, eval e X.env) :: starEach es X.env := by rfl) : PA X (e :: es) (tCons te t) := by
  intro pos pins s σ H Q I h
  rw [hs]
  show wpAny _ _ (spliced ((false, eval e X.env) :: backTo pos (starEach es X.env))) _ _ s
  refine Calls.spliced_cons (thn (ha pins s σ H _ I h) fun u s1 ⟨x, H1, I1, r1, q1⟩ => ?_)
  exact thn (hr pos pins s1 σ H1 _ I1 q1) fun us s2 ⟨xs, H2, I2, r2, q2⟩ => ⟨x :: xs, H2, I2, .cons r1 r2, q2⟩
def tTup (t : TA) : TE := fun σ H Q => t σ H fun xs H1 => xs.length ≤ sizeLine ∧ ∀ p, H1 p = none → Q (.ref p) (upd H1 p (.tup xs))
def tLst (t : TA) : TE := fun σ H Q => t σ H fun xs H1 => xs.length ≤ sizeLine ∧ ∀ p, H1 p = none → Q (.ref p) (upd H1 p (.lst xs))
theorem pe_tup {x1} (h : PA X es t) : PE X (.Tuple es x1 pos) (tTup t) := by
  intro pins s σ H Q I hq
  refine wpAny_Tuple_spliced (thn (h pos pins s σ H _ I hq) fun us s1 ⟨xs, H1, I1, r, z, q⟩ => ⟨by rw [← r.length]; exact z, ?_⟩)
  have hf : H1 s1.heap.objs.size = none := I1.hok.fresh (Nat.le_refl _)
  refine ⟨.ref s1.heap.objs.size, upd H1 s1.heap.objs.size (.tup xs), I1.laid (t' := s1.toks) (fun b u e => Heap.get?_push_of_some _ e) (Nat.le_refl _) ?_, rfl, q _ hf⟩
  exact ⟨z, us, r, ⟨_, Heap.get?_push_size _ rfl, rfl, _, rfl⟩⟩
theorem pe_lst (h : PA X es t) : PE X (.List es pos) (tLst t) := by
  intro pins s σ H Q I hq
  refine wpAny_List_spliced (thn (h pos pins s σ H _ I hq) fun us s1 ⟨xs, H1, I1, r, z, q⟩ => ⟨by rw [← r.length]; exact z, ?_⟩)
  have hf : H1 s1.heap.objs.size = none := I1.hok.fresh (Nat.le_refl _)
  refine ⟨.ref s1.heap.objs.size, upd H1 s1.heap.objs.size (.lst xs), I1.laid (t' := s1.toks) (fun b u e => Heap.get?_push_of_some _ e) (Nat.le_refl _) ?_, rfl, q _ hf⟩
  exact ⟨z, us, 0, r, Heap.get?_push_size _ rfl⟩
end
abbrev Sp := List V → Hp → VK → XK → Prop
abbrev CXT := List Env → Hp → Shared → XK → Value → Shared → Prop
structure Env0 (P : Program) (w : World) (K : PySem.W.Frag) (mg : Str → Option Value) (base : Heap) (A : Around) (outer : List Env) (s : Shared) (H : Hp) : Prop where
  frames : A.frames = some outer
  mod : Mod K mg base
  bs : ∀ b o, base.get? b = some o → s.heap.get? b = some o ∧ H b = none
  bsz : base.objs.size ≤ s.heap.objs.size
  funs : s.heap.FunFrames base outer
  frf : ∀ b ∈ frs outer, H b = none
  hok : HOk P w H s.heap
  bare : AllBare s.gens
def CE (outer : List Env) (P : Program) (w : World) (H : Hp) (s : Shared) (Q : VK) (u : Value) (s' : Shared) : Prop :=
  ∃ v H', s'.os = s.os ∧ AllBare s'.gens ∧ Un (frs outer) [] H H' s.heap s'.heap ∧ HOk P w H' s'.heap ∧ RelV v u ∧ Q v H'
def CR (CX : CXT) (outer : List Env) (P : Program) (w : World) (H : Hp) (s : Shared) (Q : VK) (E : XK) (r : Result) (s' : Shared) : Prop :=
  match r with
  | .ok (.ret u) => CE outer P w H s Q u s'
  | .ok _ => False
  | .error e => CX outer H s E e s'
structure FnOk (P : Program) (w : World) (K : PySem.W.Frag) (mg : Str → Option Value) (base : Heap) (CX : CXT) (k : Nat) (f : Addr) (fd : FuncData) (ps : List Str) (sp : Sp) : Prop where
  len : ∀ vs H Q E, sp vs H Q E → vs.length = ps.length
  run : ∀ (A : Around) (outer : List Env) (s : Shared) (H : Hp) (args : Args) (us : List Value) (vs : List V) (Q : VK) (E : XK), Room k A → Env0 P w K mg base A outer s H → BindsTo s fd args (ps.zip us) → Vals vs us → sp vs H Q E →
    codeAny (model P w) A (.call (.ref f) args) (CR CX outer P w H s Q E) s
theorem FnOk.mono {P : Program} {w : World} {K : PySem.W.Frag} {mg : Str → Option Value} {base : Heap} {CX : CXT} {j k : Nat} {f : Addr} {fd : FuncData} {ps : List Str} {sp : Sp} (F : FnOk P w K mg base CX j f fd ps sp) (h : j ≤ k) :
    FnOk P w K mg base CX k f fd ps sp := ⟨F.len, fun A outer s H args us vs Q E hr => F.run A outer s H args us vs Q E (hr.mono h)⟩
theorem FnOk.imp {P : Program} {w : World} {K : PySem.W.Frag} {mg : Str → Option Value} {base : Heap} {CX : CXT} {k : Nat} {f : Addr} {fd : FuncData} {ps : List Str} {sp sp' : Sp} (F : FnOk P w K mg base CX k f fd ps sp)
    (h : ∀ vs H Q E, sp' vs H Q E → sp vs H Q E) : FnOk P w K mg base CX k f fd ps sp' :=
  ⟨fun vs H Q E q => F.len vs H Q E (h _ _ _ _ q), fun A outer s H args us vs Q E hr he hb hv hs => F.run A outer s H args us vs Q E hr he hb hv (h _ _ _ _ hs)⟩
theorem Env0.make {P : Program} {w : World} {K : PySem.W.Frag} {mg : Str → Option Value} {base : Heap} {A : Around} {outer : List Env} {s : Shared} {H : Hp} (e : Env0 P w K mg base A outer s H) (C : Addr) (us : List Value) (kw : List (Str × Value)) :
    Env0 P w K mg base (A.under (.builtin "type.__call__" ⟨.ref C :: us, kw⟩)) outer s H := ⟨by first | exact e.frames | (simpa [Around.under, Code.envs, Code.isFrame, pushEnvs] using e.frames), e.mod, e.bs, e.bsz, e.funs, e.frf, e.hok, e.bare⟩
theorem Env0.in1 {P : Program} {w : World} {K : PySem.W.Frag} {mg : Str → Option Value} {base : Heap} {A : Around} {outer : List Env} {s : Shared} {H : Hp} (e : Env0 P w K mg base A outer s H) :
    Env0 P w K mg base A.in1 outer s H := ⟨e.frames, e.mod, e.bs, e.bsz, e.funs, e.frf, e.hok, e.bare⟩
section
variable {X : Cx} {pins : List (Addr × Obj)} {σ : St} {H : Hp} {s s' : Shared}
theorem Inv.env0 (I : Inv X pins σ H s) : Env0 X.prog X.w X.K X.mg X.base X.A X.stack s H :=
  ⟨I.ok.frames, I.ok.mod, I.bs, Nat.le_trans I.ok.bsz I.sz, I.stack, I.stkFree, I.hok, I.bare⟩
theorem Inv.after {Q : VK} {u : Value} (I : Inv X pins σ H s) (h : CE X.stack X.prog X.w H s Q u s') : EP X pins σ Q u s' := by
  obtain ⟨v, H', os, bare, un, hok, r, q⟩ := h
  obtain ⟨hh, g, d, t, os'⟩ := s'
  obtain rfl : os' = s.os := os
  exact ⟨v, H', I.call (h' := hh) (g' := g) (d' := d) (t' := t) (ch := []) un hok bare (fun b z => absurd z (by simp)), r, q⟩
end
def tCall (sp : Sp) (dvs : List V) (E : XK) (t : TA) : TE := fun σ H Q => t σ H fun vs H1 => sp (vs ++ dvs) H1 Q E
def Binds (K : PySem.W.Frag) (fd : FuncData) (ps : List Str) (ds : List Value) : Prop :=
  ∀ (s : Shared) (us : List Value), K.In s.heap → (us ++ ds).length = ps.length → BindsTo s fd ⟨us, []⟩ (ps.zip (us ++ ds))
theorem Binds.all {K : PySem.W.Frag} {fd : FuncData} {ps : List Str} (h : ∀ us : List Value, us.length = ps.length → bindArgs fd ⟨us, []⟩ = pure (ps.zip us)) : Binds K fd ps [] := fun s us _ hl => by
  rw [List.append_nil] at hl ⊢
  exact .of_eq (h us hl)
def Passes (CX : CXT) (X : Cx) (E : XK) : Prop := ∀ (pins : List (Addr × Obj)) (σ : St) (H : Hp) (s : Shared) (e : Value) (s' : Shared), Inv X pins σ H s → CX X.stack H s E e s' → X.xe e s'
section
variable {X : Cx} {CX : CXT} {k : Nat} {f C : Addr} {fd : FuncData} {ps : List Str} {sp : Sp} {dvs : List V} {ds : List Value} {E : XK} {x m : Str} {p pos apos : Pos} {e o : Expr} {es : List Expr} {ta : TE} {t : TA}
theorem run_fn {pins : List (Addr × Obj)} {σ : St} {H : Hp} {s : Shared} {Q : VK} {us : List Value} {vs : List V} (F : FnOk X.prog X.w X.K X.mg X.base CX k f fd ps sp) (hr : Room k X.A) (hb : Binds X.K fd ps ds) (hd : Vals dvs ds) (hx : Passes CX X E)
    (I : Inv X pins σ H s) (r : Vals vs us) (h : sp (vs ++ dvs) H Q E) : wpAny (model X.prog X.w) X.A (call (.ref f) us) (EP X pins σ Q) X.xe s := by
  have r2 : Vals (vs ++ dvs) (us ++ ds) := r.append hd
  have hl : (us ++ ds).length = ps.length := by rw [← r2.length]; exact F.len _ _ _ _ h
  refine wpAny_call (codeAny_mono (F.run X.A X.stack s H ⟨us, []⟩ (us ++ ds) (vs ++ dvs) Q E hr I.env0 (hb s us I.kIn hl) r2 h) fun r s' hq => ?_)
  cases r with
  | error e => exact hx pins σ H s e s' I hq
  | ok fl =>
    cases fl with
    | ret u => exact I.after hq
    | next => exact False.elim hq
    | brk => exact False.elim hq
    | cont => exact False.elim hq
theorem pe_call (F : FnOk X.prog X.w X.K X.mg X.base CX k f fd ps sp) (hr : Room k X.A) (hg : Gl X x) (hm : X.mg x = some (.ref f)) (hk : PySem.W.keepIn X.K (.ref f) = true) (hb : Binds X.K fd ps ds) (hd : Vals dvs ds) (hx : Passes CX X E)
    (ha : PA X (e :: es) t) (hdb : (x == ("__debug__" : Str)) = false := by decide) (he : starEach (e :: es) X.env = (false, eval e X.env) :: starEach es X.env := by rfl) (hpl : (backTo pos (starEach es X.env)).any (·.1) = false := by rfl) :
    PE X (.Call (.Name x p) (e :: es) [] pos) (tCall sp dvs E t) := by
  intro pins s σ H Q I h
  refine wpAny_Call_Name_kw (ld_glob I hg hm ?_ hdb)
  refine PySem.W.callWith_K (h₀ := X.base) I.ok.mod.kin hk (thn (ha pos pins s σ H _ I h) fun us s1 ⟨vs, H1, I1, r, q⟩ => ⟨I1.kIn, ?_⟩) he hpl
  exact run_fn F hr hb hd hx I1 r q
theorem pe_call0 (F : FnOk X.prog X.w X.K X.mg X.base CX k f fd ps sp) (hr : Room k X.A) (hg : Gl X x) (hm : X.mg x = some (.ref f)) (hk : PySem.W.keepIn X.K (.ref f) = true) (hb : Binds X.K fd ps ds) (hd : Vals dvs ds) (hx : Passes CX X E)
    (hdb : (x == ("__debug__" : Str)) = false := by decide) : PE X (.Call (.Name x p) [] [] pos) (tCall sp dvs E tNil) := by
  intro pins s σ H Q I h
  refine wpAny_Call_Name_kw (ld_glob I hg hm ?_ hdb)
  exact PySem.W.callWith_K0 I.kIn hk (run_fn (us := []) F hr hb hd hx I .nil h)
structure Mk (K : PySem.W.Frag) (C f : Addr) : Prop where
  makes : PySem.W.makesIn K C = true
  init : PySem.W.findIn K (.ref C) "__init__" = some (some (.ref f))
  fn : PySem.W.isFn K (.ref f) = true
  kp : PySem.W.keepIn K (.ref C) = true
end
def PK (X : Cx) (kws : List Keyword) (t : TA) : Prop :=
  ∀ (pos : Pos) (pins : List (Addr × Obj)) (s : Shared) (σ : St) (H : Hp) (Q : List V → Hp → Prop), Inv X pins σ H s → t σ H Q → wpAny (model X.prog X.w) X.A (evalAll ((backToKw pos (keywordEach kws X.env)).map (·.2))) (AP X pins σ Q) X.xe s
section
variable {X : Cx} {CX : CXT} {k : Nat} {f C : Addr} {fd : FuncData} {ps ks : List Str} {sp : Sp} {E : XK} {x m : Str} {p pos apos kpos : Pos} {e o : Expr} {es : List Expr} {kws : List Keyword} {te ta : TE} {t tk : TA} {nm : Option Str}
structure KBinds (K : PySem.W.Frag) (fd : FuncData) (ps ks : List Str) (g : List Value → List Value → List Value) (gV : List V → List V → List V) : Prop where
  to : ∀ (s : Shared) (us ws : List Value), K.In s.heap → (g us ws).length = ps.length → BindsTo s fd ⟨us, ks.zip ws⟩ (ps.zip (g us ws))
  rel : ∀ {vs : List V} {us : List Value} {zs : List V} {ws : List Value}, Vals vs us → Vals zs ws → Vals (gV vs zs) (g us ws)
variable {g : List Value → List Value → List Value} {gV : List V → List V → List V}
end
structure FnScope (N P : List Str) (sc : Scope) : Prop where
  kind : sc.kind = .function
  co : sc.isCoroutine = false
  gen : sc.isGenerator = false
  nd : N.Nodup
  pre : N.take P.length = P
  par : ∀ x ∈ P, sc.names.lookup x = some .local ∨ sc.names.lookup x = some .cell
  nofree : ∀ y ∈ sc.names, y.2 ≠ .free
theorem bindL_out {kindOf : Str → Option NameKind} {x : Str} : ∀ {binds : List (Str × Value)} {m : Str → Option Value}, (∀ v, (x, v) ∉ binds) → bindL kindOf binds m x = m x
  | [], _, _ => rfl
  | (n, v) :: r, m, h => by
    unfold bindL
    rw [bindL_out fun w hw => h w (List.mem_cons_of_mem _ hw)]
    split
    · have : x ≠ n := by rintro rfl; exact h v List.mem_cons_self
      simp [this]
    · rfl
theorem bindC_out {kindOf : Str → Option NameKind} {x : Str} : ∀ {binds : List (Str × Value)} {m : Str → Option Value}, (∀ v, (x, v) ∉ binds) → bindC kindOf binds m x = m x
  | [], _, _ => rfl
  | (n, v) :: r, m, h => by
    unfold bindC
    rw [bindC_out fun w hw => h w (List.mem_cons_of_mem _ hw)]
    split
    · rfl
    · have : x ≠ n := by rintro rfl; exact h v List.mem_cons_self
      simp [this]
theorem bindL_get {kindOf : Str → Option NameKind} {x : Str} {v : Value} : ∀ {P : List Str} {vs : List Value} {i : Nat} {m : Str → Option Value}, P.Nodup → P[i]? = some x → vs[i]? = some v → kindOf x = some .local →
    bindL kindOf (P.zip vs) m x = some v
  | [], _, _, _, _, h, _, _ => by simp at h
  | _ :: _, [], _, _, _, _, h, _ => by simp at h
  | p :: P, w :: vs, 0, m, nd, h1, h2, hk => by
    simp at h1 h2; subst h1; subst h2
    show bindL kindOf ((p, w) :: P.zip vs) m p = _
    unfold bindL
    rw [bindL_out fun v hv => (List.nodup_cons.mp nd).1 (List.of_mem_zip hv).1, if_pos hk]
    simp
  | p :: P, w :: vs, i + 1, m, nd, h1, h2, hk => by
    show bindL kindOf ((p, w) :: P.zip vs) m x = _
    unfold bindL
    exact bindL_get (i := i) (List.nodup_cons.mp nd).2 (by simpa using h1) (by simpa using h2) hk
theorem bindC_get {kindOf : Str → Option NameKind} {x : Str} {v : Value} : ∀ {P : List Str} {vs : List Value} {i : Nat} {m : Str → Option Value}, P.Nodup → P[i]? = some x → vs[i]? = some v → kindOf x ≠ some .local →
    bindC kindOf (P.zip vs) m x = some v
  | [], _, _, _, _, h, _, _ => by simp at h
  | _ :: _, [], _, _, _, _, h, _ => by simp at h
  | p :: P, w :: vs, 0, m, nd, h1, h2, hk => by
    simp at h1 h2; subst h1; subst h2
    show bindC kindOf ((p, w) :: P.zip vs) m p = _
    unfold bindC
    rw [bindC_out fun v hv => (List.nodup_cons.mp nd).1 (List.of_mem_zip hv).1, if_neg hk]
    simp
  | p :: P, w :: vs, i + 1, m, nd, h1, h2, hk => by
    show bindC kindOf ((p, w) :: P.zip vs) m x = _
    unfold bindC
    exact bindC_get (i := i) (List.nodup_cons.mp nd).2 (by simpa using h1) (by simpa using h2) hk
def start (N : List Str) (vs : List V) : St := vs.map some ++ List.replicate (N.length - vs.length) none
def cxOf (CX : CXT) (P : Program) (w : World) (K : PySem.W.Frag) (mg : Str → Option Value) (base : Heap) (N : List Str) (qual : Str) (scope : Scope) (f : Addr) (cd : Value) (A : Around) (outer : List Env) (s : Shared) (H : Hp) (E : XK) : Cx where
  prog := P
  w := w
  K := K
  mg := mg
  base := base
  A := A.deeper (envOfC qual scope s.heap.objs.size f cd)
  N := N
  s₀ := s
  H₀ := H
  env := envOfC qual scope s.heap.objs.size f cd
  outer := outer
  stack := envOfC qual scope s.heap.objs.size f cd :: outer
  ex := []
  calm := true
  fn := fun _ => true
  pn := []
  xe := fun e s' => wpAny (model P w) (A.deeper (envOfC qual scope s.heap.objs.size f cd)) (leaving (envOfC qual scope s.heap.objs.size f cd) e) (fun _ s'' => CX outer H s E e s'') (fun e' s'' => CX outer H s E e' s'') s'
theorem cell_has {sc : Scope} {n : Nat} {x : Str} (h : sc.names.lookup x = some .cell) : ∃ c, (cellsFrom n sc.names []).lookup x = some c := by
  have q := PySem.W.cellsFrom_some sc.names n [] (.inl h)
  exact Option.isSome_iff_exists.mp q
theorem inv_start {CX : CXT} {P : Program} {w : World} {K : PySem.W.Frag} {mg : Str → Option Value} {base : Heap} {N ps : List Str} {qual : Str} {scope : Scope} {f : Addr} {cd : Value} {A : Around} {outer : List Env} {s s1 : Shared} {H : Hp} {E : XK} {us : List Value} {vs : List V}
    (S : FnScope N ps scope) (hd : A.handled = none) (e0 : Env0 P w K mg base A outer s H) (hl : vs.length = ps.length) (r : Vals vs us)
    (x : InCallC s s.heap.objs.size (bindL (envOfC qual scope s.heap.objs.size f cd).kindOf (ps.zip us) fun _ => none) (cellsFrom (s.heap.objs.size + 1) scope.names []) (bindC (envOfC qual scope s.heap.objs.size f cd).kindOf (ps.zip us) fun _ => none) s1) :
    Inv (cxOf CX P w K mg base N qual scope f cd A outer s H E) [] (start N vs) H s1 := by
  have hpl : ps.length ≤ N.length := by have := congrArg List.length S.pre; rw [List.length_take] at this; omega
  obtain ⟨h1, tk, rfl, hk⟩ := x.done
  have noA : ∀ b : Addr, b ∉ (cxOf CX P w K mg base N qual scope f cd A outer s H E).ex := fun b z => absurd (show b ∈ ([] : List Addr) from z) (by simp)
  refine ⟨⟨e0.mod, S.kind, rfl, rfl, Nat.le_refl _, fun y z c h1 h2 => ?_, fun y hy => ?_, fun y c _ h => ?_, fun _ => hd, Around.frames_deeper e0.frames, .inr ⟨rfl, rfl⟩, fun b z => absurd z (noA b), e0.bs, e0.bsz, fun b _ _ => noA b, fun b z => absurd z (noA b), e0.funs, e0.frf⟩,
    rfl, e0.bare, Un.kept hk, ⟨_, x.toInCall.ns, fun i y v h1 h2 h3 => ?_⟩, fun y c h => ⟨_, x.cell y c h⟩, e0.hok.fresh (Nat.le_refl _), fun y c h => ?_, fun p hp => absurd (show p ∈ ([] : List (Addr × Obj)) from hp) (by simp), e0.hok.kept hk, ?_⟩
  · exact name_of_addr x.apart (PySem.mem_of_lookup h1) (PySem.mem_of_lookup h2)
  · have hy : scope.names.lookup y = some .cell ∨ scope.names.lookup y = some .free := hy
    rcases hy with hy | hy
    · exact cell_has hy
    · exact absurd rfl (S.nofree _ (PySem.mem_of_lookup hy))
  · exact Nat.le_of_lt (x.above y c (PySem.mem_of_lookup h))
  · have hi : i < vs.length := by
      unfold start at h2
      by_cases hi : i < vs.length
      · exact hi
      · rw [List.getElem?_append_right (by simpa using hi)] at h2
        rw [List.getElem?_replicate] at h2
        split at h2 <;> cases h2
    have ha : vs[i]? = some v := by
      unfold start at h2
      rw [List.getElem?_append_left (by simpa using hi), List.getElem?_map] at h2
      cases e : vs[i]? with
      | none => rw [e] at h2; cases h2
      | some a => rw [e] at h2; cases h2; rfl
    obtain ⟨u, hu, rv⟩ := r.get ha
    have hp : ps[i]? = some y := by
      rw [← S.pre, List.getElem?_take_of_lt (by omega)]; exact h1
    have ndP : ps.Nodup := by rw [← S.pre]; exact S.nd.sublist (List.take_sublist _ _)
    refine ⟨u, rv, ?_⟩
    rcases S.par y (List.mem_of_getElem? hp) with k | k
    · exact .inl ⟨k, bindL_get ndP hp hu k⟩
    · obtain ⟨c, e⟩ := cell_has (n := s.heap.objs.size + 1) k
      refine .inr ⟨.inl k, c, e, ?_⟩
      have q := x.cell y c e
      rw [bindC_get ndP hp hu (by show scope.names.lookup y ≠ _; rw [k]; decide)] at q
      exact q
  · exact e0.hok.fresh (Nat.le_of_lt (x.above y c (PySem.mem_of_lookup h)))
  · unfold start
    show _ = N.length
    rw [List.length_append, List.length_map, List.length_replicate]
    omega
theorem fn_of {CX : CXT} {P : Program} {w : World} {K : PySem.W.Frag} {mg : Str → Option Value} {base : Heap} {k : Nat} {f : Addr} {name qual : Str} {params : Arguments} {body : List Stmt} {scope : Scope} {dV kV doc pm cdv ct oc : Value} {an od : Option Addr}
    {osl : Array (Option Value)} {N ps : List Str} {sp : Sp} (lk : K.lookup f = some ⟨oc, od, .func (PySem.W.fnOf name qual params body scope dV kV doc pm an cdv ct), osl⟩) (hcd : PySem.W.codeIn K cdv qual = true) (S : FnScope N ps scope)
    (len : ∀ vs H Q E, sp vs H Q E → vs.length = ps.length)
    (hbody : ∀ (A : Around) (outer : List Env) (s : Shared) (H : Hp) (vs : List V) (Q : VK) (E : XK), Room k (A.deeper (envOfC qual scope s.heap.objs.size f cdv)) → sp vs H Q E →
      ∃ t, PSs (cxOf CX P w K mg base N qual scope f cdv A outer s H E) body t ∧ t { nx := fun _ H' => Q .non H', rt := Q } (start N vs) H) :
    FnOk P w K mg base CX (k + 1) f (PySem.W.fnOf name qual params body scope dV kV doc pm an cdv ct) ps sp := by
  refine ⟨len, fun A outer s H args us vs Q E hr e0 hb r hsp => ?_⟩
  have hl := len _ _ _ _ hsp
  have KX : K.In s.heap := e0.mod.kin.keeps fun b o e => (e0.bs b o e).1
  have lim : s.heap.NoLimit := e0.mod.nolimit.keeps fun b o e => (e0.bs b o e).1
  have hkind : ∀ y ∈ ps.zip us, scope.names.lookup y.1 = some .local ∨ (scope.names.lookup y.1 = some .cell ∧ ((cellsFrom (s.heap.objs.size + 1) scope.names []).lookup y.1).isSome = true) := fun ⟨n, v⟩ hy => by
    rcases S.par n (List.of_mem_zip hy).1 with q | q
    · exact .inl q
    · exact .inr ⟨q, PySem.W.cellsFrom_some _ _ _ (.inl q)⟩
  refine codeAny_call_function hr.depth (KX _ _ lk) rfl S.co S.gen rfl (PySem.W.codeRec_of KX hcd) (hb _ _ _ _ ?_)
  refine wpAny_newFunctionEnv_cells S.kind hkind fun env he s1 x => ?_
  subst he
  refine ⟨lim.keeps x.toInCall.keep, codeAny_func ?_⟩
  obtain ⟨t, ht, hq⟩ := hbody A outer s H vs Q E (hr.deeper _) hsp
  have I : Inv (cxOf CX P w K mg base N qual scope f cdv A outer s H E) [] (start N vs) H s1 := inv_start S hr.hd e0 hl r x
  refine wpAny_mono (ht [] s1 (start N vs) H _ I hq) (fun fl s' hs => ?_) fun e s' hs => hs
  have fin : ∀ {σ' : St} {H' : Hp} {v : V} {u : Value}, Inv (cxOf CX P w K mg base N qual scope f cdv A outer s H E) [] σ' H' s' → RelV v u → Q v H' → CE outer P w H s Q u s' :=
    fun {σ' H' v u} J rv q => ⟨v, H', J.os, J.bare, J.base, J.hok, rv, q⟩
  cases fl with
  | ret u =>
    obtain ⟨v, σ', H', J, rv, q⟩ := hs
    exact fin J rv q
  | next =>
    obtain ⟨σ', H', J, q⟩ := hs
    exact fin (v := V.non) (u := Value.none) J rfl q
  | brk =>
    obtain ⟨_, _, _, q⟩ := hs
    exact False.elim q
  | cont =>
    obtain ⟨_, _, _, q⟩ := hs
    exact False.elim q
end L2
namespace L2
open PySem PySem.Spec PyProof.Rows
section
variable {X : Cx} {x : Str} {p pos : Pos} {e : Expr} {es : List Expr} {t : TA} {id T : String} {r : List V → Hp → VK → Prop}
def tCB (r : List V → Hp → VK → Prop) (t : TA) : TE := fun σ H Q => t σ H fun vs H1 => r vs H1 Q
theorem pe_callB (hc : CallR X (.builtin id) r) (hg : Gl X x) (hm : X.mg x = none) (hv : bootBuiltins x = some (.builtin id)) (ha : PA X (e :: es) t) (hn : x ≠ "__name__" := by decide) (hdb : (x == ("__debug__" : Str)) = false := by decide)
    (he : starEach (e :: es) X.env = (false, eval e X.env) :: starEach es X.env := by rfl) (hpl : (backTo pos (starEach es X.env)).any (·.1) = false := by rfl) : PE X (.Call (.Name x p) (e :: es) [] pos) (tCB r t) := by
  intro pins s σ H Q I h
  refine wpAny_Call_Name_kw (ld_blt I hg hm hv ?_ hn hdb)
  exact PyProof.Rows.callWith_builtin1 (thn (ha pos pins s σ H _ I h) fun us s1 ⟨vs, H1, I1, r1, q1⟩ => hc pins s1 σ H1 vs us Q I1 r1 q1) he hpl
theorem pe_callTy (hc : CallR X (.type T) r) (hg : Gl X x) (hm : X.mg x = none) (hv : bootBuiltins x = some (.type T)) (ha : PA X (e :: es) t) (hn : x ≠ "__name__" := by decide) (hdb : (x == ("__debug__" : Str)) = false := by decide)
    (he : starEach (e :: es) X.env = (false, eval e X.env) :: starEach es X.env := by rfl) (hpl : (backTo pos (starEach es X.env)).any (·.1) = false := by rfl) : PE X (.Call (.Name x p) (e :: es) [] pos) (tCB r t) := by
  intro pins s σ H Q I h
  refine wpAny_Call_Name_kw (ld_blt I hg hm hv ?_ hn hdb)
  exact PyProof.Rows.callWith_type1 (thn (ha pos pins s σ H _ I h) fun us s1 ⟨vs, H1, I1, r1, q1⟩ => hc pins s1 σ H1 vs us Q I1 r1 q1) he hpl
end
end L2
namespace HT
open PySem PyProof.Rows
section
open PySem.SeqAt
open PySem.AutoSeq1 (wpAny_loadPart')
open PySem.MeetsSeq PySem.MeetsSeq2 PySem.MeetsSeq3
end
section
variable {prog : Program} {w : World} {A : Around} {E : Value → Shared → Prop} {s : Shared}
theorem cat_tup {t b : Addr} {vs ws : List Value} {Q : Value → Shared → Prop} (ht : IsTup s.heap t vs.toArray) (hb : IsTup s.heap b ws.toArray) (hv : vs ≠ [])
    (h1 : ws = [] → Q (.ref t) s) (h2 : ws ≠ [] → Q (.ref s.heap.objs.size) { s with heap := s.heap.push { cls := .type "tuple", data := .seq (vs ++ ws).toArray } })
    (hsz : vs.length + ws.length ≤ sizeLine) : wpAny (model prog w) A (binaryOp .Add (.ref t) (.ref b)) Q E s := by
  obtain ⟨⟨cls, dd, data, sl⟩, ho, hc, n, hd⟩ := id ht
  obtain ⟨⟨cls2, dd2, data2, sl2⟩, ho2, hc2, n2, hd2⟩ := id hb
  simp only at hc hd hc2 hd2
  subst hc hd hc2 hd2
  have e : vs.toArray ++ ws.toArray = (vs ++ ws).toArray := by simp
  by_cases hw : ws = []
  · exact concat_meets ⟨_, ho, rfl⟩ ⟨_, ho2, rfl⟩ noFill_tuple_add seq_tuple_add PySem.F.slot_tuple_add PySem.F.entry_tuple_add (PySem.F.args_tuple_add_2 _ _)
      (tuple_addW1 t b vs.toArray ws.toArray n n2 dd dd2 sl sl2 (by simpa using hv) (by simp [hw])) ⟨ho, ho2, h1 hw⟩
  · refine concat_meets ⟨_, ho, rfl⟩ ⟨_, ho2, rfl⟩ noFill_tuple_add seq_tuple_add PySem.F.slot_tuple_add PySem.F.entry_tuple_add (PySem.F.args_tuple_add_2 _ _)
      (tuple_addW2 t b vs.toArray ws.toArray n n2 dd dd2 sl sl2 (by simpa using hv) (by simpa using hw) (by rw [List.size_toArray, List.size_toArray]; exact hsz)) ⟨ho, ho2, ?_⟩
    rw [e]
    exact h2 hw
def sIx (n d : Nat) : Option Int → Nat
  | none => d
  | some v => if v < 0 then (v + (n : Int)).toNat else min v.toNat n
theorem sIx_le (n d : Nat) (hd : d ≤ n) (o : Option Int) : sIx n d o ≤ n := by
  cases o with
  | none => exact hd
  | some v =>
    show (if v < 0 then (v + (n : Int)).toNat else min v.toNat n) ≤ n
    by_cases hv : v < 0
    · rw [if_pos hv]; omega
    · rw [if_neg hv]; exact Nat.min_le_right _ _
theorem clip_eq (v : Int) (n d : Nat) : (if v < 0 then max (v + (n : Int)) 0 else min v (n : Int)) = ((sIx n d (some v) : Nat) : Int) := by
  show (if v < 0 then max (v + (n : Int)) 0 else min v (n : Int)) = (((if v < 0 then (v + (n : Int)).toNat else min v.toNat n) : Nat) : Int)
  by_cases hv : v < 0
  · simp only [if_pos hv]; omega
  · simp only [if_neg hv]; omega
theorem adjust_gen (lo hi : Option Int) (n : Nat) : Builtin.Slice.sliceAdjust lo hi 1 (n : Int) = (((sIx n 0 lo : Nat) : Int), ((sIx n n hi : Nat) : Int)) := by
  have h1 : ¬ ((1 : Int) < 0) := by omega
  unfold Builtin.Slice.sliceAdjust
  simp only [h1, if_false]
  refine Prod.ext ?_ ?_
  · cases lo with
    | none => rfl
    | some v => exact clip_eq v n 0
  · cases hi with
    | none => rfl
    | some v => exact clip_eq v n n
theorem places_gen (i j : Nat) : Builtin.Slice.slicePlaces (i : Int) (j : Int) 1 = j - i := by
  unfold Builtin.Slice.slicePlaces
  have h1 : (1 : Int) > 0 := by omega
  simp only [h1, if_true, Int.ediv_one]
  split <;> omega
theorem slicePart_ {v : Value} {o : Option Int} {Q : Option Int → Shared → Prop} (p : IsPart v o) (h : Q o s) : wpAny (model prog w) A (Builtin.Slice.slicePartIndex v) Q E s := by
  cases p with
  | none => exact slicePart_none h
  | int i t => exact slicePart_int h
theorem sliceApplied_gen {sl : Addr} {vl vu : Value} {lo hi : Option Int} {n : Nat} {Q : Int × Int × Nat → Shared → Prop} (hs : s.heap.IsSliceOf sl vl vu .none) (pl : IsPart vl lo) (pu : IsPart vu hi)
    (h : Q (((sIx n 0 lo : Nat) : Int), 1, sIx n n hi - sIx n 0 lo) s) : wpAny (model prog w) A (Builtin.Slice.sliceApplied (.ref sl) (pure (n : Int))) Q E s := by
  obtain ⟨os, hos, hcs, hds⟩ := id hs
  unfold Builtin.Slice.sliceApplied Builtin.Slice.sliceFields
  refine wpAny_bind (wpAny_bind (wpAny_field hos hds (x := vl) rfl (wpAny_bind (wpAny_field hos hds (x := vu) rfl (wpAny_bind (wpAny_field hos hds (x := .none) rfl (wpAny_pure ?_)))))))
  refine wpAny_bind (slicePart_none ?_)
  show wpAny _ _ (if ((1 : Int) == 0) = true then _ else _) _ _ s
  rw [if_neg (by decide)]
  refine wpAny_bind (slicePart_ pl (wpAny_bind (slicePart_ pu (wpAny_bind (wpAny_pure ?_)))))
  show wpAny _ _ (match Builtin.Slice.sliceAdjust lo hi 1 (n : Int) with | (lo, hi) => pure (lo, (1 : Int), Builtin.Slice.slicePlaces lo hi 1)) _ _ s
  rw [adjust_gen lo hi n]
  show wpAny _ _ (pure (((sIx n 0 lo : Nat) : Int), (1 : Int), Builtin.Slice.slicePlaces ((sIx n 0 lo : Nat) : Int) ((sIx n n hi : Nat) : Int) 1)) _ _ s
  rw [places_gen]
  exact wpAny_pure h
theorem pick_gen (xs : Array Value) (i k : Nat) : ((List.range k).filterMap fun (m : Nat) => xs[((i : Int) + (m : Int) * 1).toNat]?).toArray = ((xs.toList.drop i).take k).toArray := by
  have e : (fun (m : Nat) => xs[((i : Int) + (m : Int) * 1).toNat]?) = fun m => xs[i + m]? := by
    funext m
    have : ((i : Int) + (m : Int) * 1).toNat = i + m := by omega
    rw [this]
  rw [e]
  have := pick_run xs i k
  rw [List.filterMap_map] at this
  have e2 : ((fun x => xs[x]?) ∘ fun x => i + x) = fun m => xs[i + m]? := rfl
  rw [e2] at this
  rw [this]
theorem getItem_tuple_cut {t sl : Addr} {items : Array Value} {vl vu : Value} {lo hi : Option Int} {Q : Value → Shared → Prop} (ht : IsTup s.heap t items) (hs : s.heap.IsSliceOf sl vl vu .none) (pl : IsPart vl lo) (pu : IsPart vu hi)
    (hw : ¬ (sIx items.size 0 lo = 0 ∧ sIx items.size items.size hi = items.size))
    (h : Q (.ref s.heap.objs.size) { s with heap := s.heap.push { cls := .type "tuple", data := .seq ((items.toList.drop (sIx items.size 0 lo)).take (sIx items.size items.size hi - sIx items.size 0 lo)).toArray } })
    (hsz : items.size ≤ sizeLine) : wpAny (model prog w) A (getItem (.ref t) (.ref sl)) Q E s := by
  have htake : sizeOk (.seq ((items.toList.drop (sIx items.size 0 lo)).take (sIx items.size items.size hi - sIx items.size 0 lo)).toArray) := by
    show ((items.toList.drop (sIx items.size 0 lo)).take (sIx items.size items.size hi - sIx items.size 0 lo)).toArray.size ≤ sizeLine
    rw [List.size_toArray, List.length_take, List.length_drop, Array.length_toList]
    omega
  have hj : sIx items.size items.size hi ≤ items.size := sIx_le _ _ (Nat.le_refl _) hi
  obtain ⟨os, hos, hcs, hds⟩ := id hs
  have hTs : s.TypeIs (.ref sl) "slice" := ⟨os, hos, hcs⟩
  unfold getItem
  try with_reducible refine wpAny_holding ?_
  first | refine wpAny_bind (wpAny_pure ?_) | skip
  refine wpAny_bind (wpAny_sequenceKey ht.typeIs (by decide) ?_)
  refine wpAny_bind (wpAny_callSpecial?_slot (name := Str.ofString "__getitem__") ht.typeIs PyProof.Rows.slot_tuple_getitem
    (wpAny_call_entry PyProof.Rows.slot_tuple_getitem ht.typeIs entry_tuple_getitem ?_ (args_tuple_getitem _ _)))
  show wpAny _ _ (Builtin.Tuple.tupleItemsOf (.ref t) >>= _) _ _ s
  refine wpAny_bind (tupleItemsOf_ ht ?_)
  refine wpAny_bind (wpAny_typeOf hTs ?_)
  rw [if_pos (by decide)]
  refine wpAny_bind (sliceApplied_gen hs pl pu ?_)
  have hno : ¬ ((((sIx items.size 0 lo : Nat) : Int) == 0 && (1 : Int) == 1 && (sIx items.size items.size hi - sIx items.size 0 lo) == items.size) = true) := by
    intro q
    rw [Bool.and_eq_true, Bool.and_eq_true] at q
    have q1 : ((sIx items.size 0 lo : Nat) : Int) = 0 := eq_of_beq q.1.1
    have q2 : sIx items.size items.size hi - sIx items.size 0 lo = items.size := eq_of_beq q.2
    exact hw ⟨by omega, by omega⟩
  show wpAny _ _ (if (((sIx items.size 0 lo : Nat) : Int) == 0 && (1 : Int) == 1 && (sIx items.size items.size hi - sIx items.size 0 lo) == items.size) = true then _ else _) _ _ s
  rw [if_neg hno, pick_gen]
  first
    | exact wpAny_bind (m := Builtin.Tuple.tupleExact _) (wpAny_newObj_type (wpAny_pure ⟨_, rfl, wpAny_pure h⟩) htake)
    | exact wpAny_bind (m := Builtin.Tuple.tupleExact _) (wpAny_newObj_type (wpAny_bind (wpAny_pure (wpAny_pure ⟨_, rfl, wpAny_pure h⟩))) htake)
    | exact wpAny_bind (wpAny_bind (m := Builtin.Tuple.tupleExact _) (wpAny_newObj_type (wpAny_pure (wpAny_pure ⟨_, rfl, wpAny_pure h⟩)) htake))
    | exact wpAny_bind (wpAny_bind (m := Builtin.Tuple.tupleExact _) (wpAny_newObj_type (wpAny_pure ⟨_, rfl, wpAny_pure h⟩) htake))
end
end HT
namespace L2
open PySem PySem.Spec PyProof.Rows
abbrev TO := St → Hp → (Option Int → Hp → Prop) → Prop
def PO (X : Cx) (e : Option Expr) (t : TO) : Prop :=
  ∀ (pins : List (Addr × Obj)) (s : Shared) (σ : St) (H : Hp) (Q : Option Int → Hp → Prop), Inv X pins σ H s → t σ H Q →
    wpAny (model X.prog X.w) X.A (evalPart e X.env) (fun u s' => ∃ o H', Inv X pins σ H' s' ∧ IsPart u o ∧ Q o H') X.xe s
def tNoPart : TO := fun _ H Q => Q none H
def tPart (t : TE) : TO := fun σ H Q => t σ H fun x H1 => ∃ i, x = .int i ∧ Q (some i) H1
section
variable {X : Cx} {e : Expr} {te : TE} {lo hi : Option Expr} {tl th : TO} {pos p2 : Pos}
theorem po_none : PO X none tNoPart := by
  intro pins s σ H Q I h
  rw [evalPart_none]
  exact wpAny_pure ⟨none, H, I, .none, h⟩
theorem po_some (h : PE X e te) : PO X (some e) (tPart te) := by
  intro pins s σ H Q I hw
  rw [evalPart_some]
  refine thn (h pins s σ H _ I hw) fun u s1 ⟨x, H1, I1, r1, q1⟩ => ?_
  obtain ⟨i, rfl, q⟩ := q1
  obtain ⟨t, rfl⟩ := r1
  exact ⟨some i, H1, I1, .int i t, q⟩
def SlR (X : Cx) (r : V → Option Int → Option Int → Hp → VK → Prop) : Prop :=
  ∀ (pins : List (Addr × Obj)) (s : Shared) (σ : St) (H : Hp) (x : V) (v vl vu : Value) (lo hi : Option Int) (sl : Addr) (Q : VK), Inv X pins σ H s → RelV x v → s.heap.IsSliceOf sl vl vu .none → IsPart vl lo → IsPart vu hi → r x lo hi H Q →
    ∃ T id, typeLookup (.type T) "__getitem__" = pure (some (.builtin id)) ∧ s.TypeIs v T ∧ wpAny (model X.prog X.w) X.A (getItem v (.ref sl)) (EP X pins σ Q) X.xe s
theorem SlR.or {r r' : V → Option Int → Option Int → Hp → VK → Prop} (h : SlR X r) (h' : SlR X r') : SlR X (fun x lo hi H Q => r x lo hi H Q ∨ r' x lo hi H Q) := by
  intro pins s σ H x v vl vu lo hi sl Q I rx hs pl pu q
  rcases q with q | q
  · exact h pins s σ H x v vl vu lo hi sl Q I rx hs pl pu q
  · exact h' pins s σ H x v vl vu lo hi sl Q I rx hs pl pu q
def tSl (r : V → Option Int → Option Int → Hp → VK → Prop) (te : TE) (tl th : TO) : TE := fun σ H Q => te σ H fun x H1 => tl σ H1 fun l H2 => th σ H2 fun u H3 => r x l u H3 Q
theorem pe_slice {r : V → Option Int → Option Int → Hp → VK → Prop} (hr : SlR X r) (he : PE X e te) (hl : PO X lo tl) (hu : PO X hi th) : PE X (.Subscript e (.Slice lo hi none p2) pos) (tSl r te tl th) := by
  intro pins s σ H Q I h
  refine Subscript_ (thn (he pins s σ H _ I h) fun v s1 ⟨x, H1, I1, r1, q1⟩ => ?_)
  refine wpAny_Slice (thn (hl pins s1 σ H1 _ I1 q1) fun vl s2 ⟨l, H2, I2, pl, q2⟩ => thn (hu pins s2 σ H2 _ I2 q2) fun vu s3 ⟨u, H3, I3, pu, q3⟩ => ?_)
  rw [evalPart_none]
  refine wpAny_pure ?_
  have I4 : Inv X pins σ H3 { s3 with heap := s3.heap.push { cls := .type "slice", data := .fields #[vl, vu, .none] } } := I3.kept (t' := s3.toks) fun b ob q => Heap.get?_push_of_some _ q
  obtain ⟨T, id, hT, ht, hg⟩ := hr pins { s3 with heap := s3.heap.push { cls := .type "slice", data := .fields #[vl, vu, .none] } } σ H3 x v vl vu l u s3.heap.objs.size Q I4 r1 (Heap.IsSliceOf.new ..) pl pu q3
  show wpAny (model X.prog X.w) X.A (subscriptTail e (.Slice lo hi none p2) v (.ref s3.heap.objs.size)) (EP X pins σ Q) X.xe { s3 with heap := s3.heap.push { cls := .type "slice", data := .fields #[vl, vu, .none] } }
  exact tail_any (ops := [.ref s3.heap.objs.size, v]) ht hT hg (by with_unfolding_all rfl)
def cutV (xs : List V) (lo hi : Option Int) : List V := (xs.drop (HT.sIx xs.length 0 lo)).take (HT.sIx xs.length xs.length hi - HT.sIx xs.length 0 lo)
theorem cutV_length (xs : List V) (lo hi : Option Int) : (cutV xs lo hi).length ≤ xs.length := by
  unfold cutV
  rw [List.length_take, List.length_drop]
  omega
def rSlT (K : PySem.W.Frag) : V → Option Int → Option Int → Hp → VK → Prop := fun x lo hi H Q => ∃ a xs, x = .ref a ∧ SqT K H a xs ∧
  ¬ (HT.sIx xs.length 0 lo = 0 ∧ HT.sIx xs.length xs.length hi = xs.length) ∧ ∀ p, H p = none → Q (.ref p) (upd H p (.tup (cutV xs lo hi)))
theorem sl_tup : SlR X (rSlT X.K) := by
  intro pins s σ H x v vl vu lo hi sl Q I rx hs pl pu h
  obtain ⟨a, xs, rfl, hx, hw, q⟩ := h
  cases rx
  obtain ⟨its, r, ht, hz⟩ := I.tuple hx
  have hlen : its.toArray.size = xs.length := by rw [List.size_toArray]; exact r.length.symm
  refine ⟨"tuple", _, PyProof.Rows.slot_tuple_getitem.lookup, ht.typeIs, ?_⟩
  refine HT.getItem_tuple_cut ht hs pl pu (by rw [hlen]; exact hw) ?_ (by rw [hlen]; exact hz)
  rw [hlen]
  refine ⟨.ref s.heap.objs.size, _, I.laid (t' := s.toks) (o := .tup (cutV xs lo hi)) (fun b ob q => Heap.get?_push_of_some _ q) (Nat.le_refl _) ?_, rfl, q _ (I.hok.fresh (Nat.le_refl _))⟩
  exact ⟨Nat.le_trans (cutV_length xs lo hi) hz, _, (r.drop (HT.sIx xs.length 0 lo)).take (HT.sIx xs.length xs.length hi - HT.sIx xs.length 0 lo), IsTup.new _ _⟩
def rCatT (K : PySem.W.Frag) : R2 := fun x y H Q => ∃ a b xs ys, x = .ref a ∧ y = .ref b ∧ SqT K H a xs ∧ SqT K H b ys ∧ xs ≠ [] ∧ xs.length + ys.length ≤ sizeLine ∧
  (ys = [] → Q (.ref a) H) ∧ (ys ≠ [] → ∀ p, H p = none → Q (.ref p) (upd H p (.tup (xs ++ ys))))
theorem Vals.nil_iff {xs : List V} {us : List Value} (r : Vals xs us) : us = [] ↔ xs = [] := by
  cases r with
  | nil => simp
  | cons _ _ => simp
theorem op_catT : OpR X (binaryOp .Add) (rCatT X.K) := by
  intro pins s σ H x y v u Q I rx ry h
  obtain ⟨a, b, xs, ys, rfl, rfl, ha, hb, hx, hz, q1, q2⟩ := h
  cases rx
  cases ry
  obtain ⟨its, r1, p1, _⟩ := I.tuple ha
  obtain ⟨its2, r2, p2, _⟩ := I.tuple hb
  refine HT.cat_tup p1 p2 (fun z => hx (r1.nil_iff.mp z)) (fun z => ⟨.ref a, H, I, rfl, q1 (r2.nil_iff.mp z)⟩) (fun z => ?_) (by rw [← r1.length, ← r2.length]; exact hz)
  refine ⟨.ref s.heap.objs.size, _, I.laid (t' := s.toks) (o := .tup (xs ++ ys)) (fun b ob q => Heap.get?_push_of_some _ q) (Nat.le_refl _) ?_, rfl, q2 (fun w => z (r2.nil_iff.mpr w)) _ (I.hok.fresh (Nat.le_refl _))⟩
  exact ⟨by rw [List.length_append]; exact hz, _, r1.append r2, IsTup.new _ _⟩
end
end L2
namespace L2
open PySem PySem.Spec PyProof.Rows
def ixN (n : Nat) (i : Int) : Option Nat := if 0 ≤ i then (if i < n then some i.toNat else none) else if -(n : Int) ≤ i then some (i + n).toNat else none
def atI {α : Type} (xs : List α) (i : Int) : Option α := (ixN xs.length i).bind fun j => xs[j]?
theorem ixN_seq {n : Nat} {i : Int} {j : Nat} (h : ixN n i = some j) : seqIndex? i n = some j ∧ j < n ∧ -(n : Int) ≤ i ∧ i < n := by
  unfold ixN at h
  by_cases h0 : 0 ≤ i
  · rw [if_pos h0] at h
    by_cases h1 : i < n
    · rw [if_pos h1] at h
      have e : i.toNat = j := Option.some.inj h
      exact ⟨by rw [seqIndex_of h0 h1, e], by omega, by omega, h1⟩
    · rw [if_neg h1] at h; cases h
  · rw [if_neg h0] at h
    by_cases h1 : -(n : Int) ≤ i
    · rw [if_pos h1] at h
      have e : (i + n).toNat = j := Option.some.inj h
      exact ⟨by rw [seqIndex_neg (by omega) h1, e], by omega, h1, by omega⟩
    · rw [if_neg h1] at h; cases h
theorem atI_get {α : Type} {xs : List α} {i : Int} {v : α} (h : atI xs i = some v) : ∃ j, seqIndex? i xs.length = some j ∧ xs[j]? = some v ∧ j < xs.length ∧ -(xs.length : Int) ≤ i ∧ i < xs.length := by
  unfold atI at h
  cases e : ixN xs.length i with
  | none => rw [e] at h; cases h
  | some j =>
    rw [e] at h
    obtain ⟨h1, h2, h3, h4⟩ := ixN_seq e
    exact ⟨j, h1, h, h2, h3, h4⟩
theorem atI_nat {α : Type} {xs : List α} {j : Nat} {v : α} (h : xs[j]? = some v) : atI xs (j : Int) = some v := by
  have hj : j < xs.length := (List.getElem?_eq_some_iff.mp h).1
  have e : ixN xs.length (j : Int) = some j := by
    unfold ixN
    rw [if_pos (by omega), if_pos (by omega)]; simp
  unfold atI; rw [e]; exact h
def PlainIx (b : Expr) : Prop := ∀ o i, subscripted b false o i = operate [o, i] (getItem o i)
def IxR (X : Cx) (r : R2) : Prop :=
  ∀ (value slice : Expr) (pins : List (Addr × Obj)) (s : Shared) (σ : St) (H : Hp) (x y : V) (v u : Value) (Q : VK), Inv X pins σ H s → RelV x v → RelV y u → r x y H Q →
    subscripted slice false v u = operate [v, u] (getItem v u) → wpAny (model X.prog X.w) X.A (subscriptTail value slice v u) (EP X pins σ Q) X.xe s
def MtR (X : Cx) (id : String) (r : V → List V → Hp → VK → Prop) : Prop :=
  ∀ (pins : List (Addr × Obj)) (s : Shared) (σ : St) (H : Hp) (x : V) (xs : List V) (v : Value) (us : List Value) (Q : VK), Inv X pins σ H s → RelV x v → Vals xs us → r x xs H Q →
    wpAny (model X.prog X.w) X.A (call (.builtin id) (v :: us)) (EP X pins σ Q) X.xe s
section
variable {X : Cx} {a b : Expr} {ta tb : TE} {pos : Pos}
theorem IxR.or {r r' : R2} (h : IxR X r) (h' : IxR X r') : IxR X (fun x y H Q => r x y H Q ∨ r' x y H Q) := by
  intro value slice pins s σ H x y v u Q I rx ry q hs
  rcases q with q | q
  · exact h value slice pins s σ H x y v u Q I rx ry q hs
  · exact h' value slice pins s σ H x y v u Q I rx ry q hs
theorem MtR.or {id : String} {r r' : V → List V → Hp → VK → Prop} (h : MtR X id r) (h' : MtR X id r') : MtR X id (fun x xs H Q => r x xs H Q ∨ r' x xs H Q) := by
  intro pins s σ H x xs v us Q I rx rs q
  rcases q with q | q
  · exact h pins s σ H x xs v us Q I rx rs q
  · exact h' pins s σ H x xs v us Q I rx rs q
theorem pe_ix {r : R2} (hr : IxR X r) (ha : PE X a ta) (hb : PE X b tb) (hs : PlainIx b) : PE X (.Subscript a b pos) (tOp r ta tb) := by
  intro pins s σ H Q I h
  exact Subscript_ (binT ha hb I h fun v u s2 x y H2 I2 rx ry q => hr a b pins s2 σ H2 x y v u Q I2 rx ry q (hs _ _))
def rIxL (K : PySem.W.Frag) : R2 := fun x y H Q => ∃ p xs i v, x = .ref p ∧ y = .int i ∧ SqL K H p xs ∧ atI xs i = some v ∧ Q v H
def rIxT (K : PySem.W.Frag) : R2 := fun x y H Q => ∃ p xs i v, x = .ref p ∧ y = .int i ∧ SqT K H p xs ∧ atI xs i = some v ∧ Q v H
def rIxS : R2 := fun x y H Q => ∃ z i c, x = .str z ∧ y = .int i ∧ z.length ≤ sizeLine ∧ atI z.cps.toList i = some c ∧ Q (.str ⟨#[c]⟩) H
theorem ix_list : IxR X (rIxL X.K) := by
  intro value slice pins s σ H x y v u Q I rx ry h hs
  obtain ⟨p, xs, i, z, rfl, rfl, hq, he, q⟩ := h
  cases rx
  obtain ⟨t, rfl⟩ := ry
  obtain ⟨its, r, pl, hz⟩ := I.list hq
  obtain ⟨j, h1, h2, h3, h4, h5⟩ := atI_get he
  obtain ⟨w, ew, rw'⟩ := r.get h2
  have hl := r.length
  have hn := line63
  have fin : EP X pins σ Q w s := ⟨z, H, I, rw', q⟩
  by_cases h0 : 0 ≤ i
  · have hj : i.toNat = j := by
      rw [seqIndex_of h0 h5] at h1
      exact Option.some.inj h1
    exact item_listR pl.isList h0 (by omega) (by rw [hj]; simpa using ew) fin hs
  · have hj : (i + (its.toArray.size : Int)).toNat = j := by
      rw [seqIndex_neg (by omega) h4] at h1
      rw [List.size_toArray, ← hl]
      exact Option.some.inj h1
    exact subscriptTail_builtinR (x := w) pl.isList.typeIs slot_list_getitem.lookup
      (wpAny_getItem_list_neg (Q := fun r s' => r = w ∧ EP X pins σ Q r s') pl.isList (by omega) (by rw [List.size_toArray] <;> omega) (by omega) (by rw [hj]; simpa using ew) ⟨rfl, fin⟩) hs
theorem ix_tup : IxR X (rIxT X.K) := by
  intro value slice pins s σ H x y v u Q I rx ry h hs
  obtain ⟨p, xs, i, z, rfl, rfl, hq, he, q⟩ := h
  cases rx
  obtain ⟨t, rfl⟩ := ry
  obtain ⟨its, r, pl, hz⟩ := I.tuple hq
  obtain ⟨j, h1, h2, h3, h4, h5⟩ := atI_get he
  obtain ⟨w, ew, rw'⟩ := r.get h2
  have hl := r.length
  have hn := line63
  have fin : EP X pins σ Q w s := ⟨z, H, I, rw', q⟩
  exact subscriptTail_builtinR (x := w) pl.typeIs slot_tuple_getitem.lookup
    (getItem_tuple (j := j) (Q := fun r s' => r = w ∧ EP X pins σ Q r s') pl (by omega) (by omega) (by rw [List.size_toArray, ← hl]; exact h1) (by simpa using ew) ⟨rfl, fin⟩) hs
theorem ix_str : IxR X rIxS := by
  intro value slice pins s σ H x y v u Q I rx ry h hs
  obtain ⟨z, i, c, rfl, rfl, hz, he, q⟩ := h
  obtain ⟨t, rfl⟩ := rx
  obtain ⟨t', rfl⟩ := ry
  obtain ⟨j, h1, h2, h3, h4, h5⟩ := atI_get he
  have hl : z.cps.toList.length = z.length := by simp [Str.length]
  rw [hl] at h1 h4 h5
  have hn := line63
  exact tail_any (typeIs_str s z t) slot_str_getitem.lookup (getItem_str (c := c) (by
    have e1 : decide (i < -(2 ^ 63 : Int)) = false := decide_eq_false (by omega)
    have e2 : decide (i ≥ 2 ^ 63) = false := decide_eq_false (by omega)
    rw [e1, e2, Bool.or_false]) (by rw [h1]; simpa using h2) ⟨.str ⟨#[c]⟩, H, I.tok _, ⟨_, rfl⟩, q⟩) hs
def rIx (K : PySem.W.Frag) : R2 := fun x y H Q => rIxL K x y H Q ∨ rIxT K x y H Q ∨ rIxS x y H Q
theorem ix_seq : IxR X (rIx X.K) := ix_list.or (ix_tup.or ix_str)
theorem Inv.lst {pins : List (Addr × Obj)} {σ : St} {H : Hp} {s : Shared} {p : Addr} {xs : List V} (I : Inv X pins σ H s) (h : H p = some (.lst xs)) :
    ∃ (its : List Value) (n : Nat), Vals xs its ∧ s.heap.get? p = some { cls := .type "list", data := .seq its.toArray n } ∧ xs.length ≤ sizeLine := by
  obtain ⟨z, its, n, r, e⟩ := I.hok p _ h
  exact ⟨its, n, r, e, z⟩
theorem slice_bounds (lo hi : Option Int) (n : Nat) : (sliceBounds lo hi none n).1 = ((HT.sIx n 0 lo : Nat) : Int) ∧ (sliceBounds lo hi none n).2.1 = ((HT.sIx n n hi : Nat) : Int) ∧ (sliceBounds lo hi none n).2.2 = 1 := by
  refine ⟨?_, ?_, rfl⟩
  · cases lo with
    | none => simp [sliceBounds, HT.sIx]
    | some i =>
      simp only [sliceBounds, HT.sIx, Option.getD_none, show (1 : Int) > 0 by decide, if_true]
      by_cases h : i < 0
      · simp only [h, if_true] <;> omega
      · simp only [h, if_false] <;> omega
  · cases hi with
    | none => simp [sliceBounds, HT.sIx]
    | some i =>
      simp only [sliceBounds, HT.sIx, Option.getD_none, show (1 : Int) > 0 by decide, if_true]
      by_cases h : i < 0
      · simp only [h, if_true] <;> omega
      · simp only [h, if_false] <;> omega
theorem slicePick_cut (its : List Value) (lo hi : Option Int) : slicePick its.toArray lo hi none = ((its.drop (HT.sIx its.length 0 lo)).take (HT.sIx its.length its.length hi - HT.sIx its.length 0 lo)).toArray := by
  obtain ⟨h1, h2, h3⟩ := slice_bounds lo hi its.toArray.size
  unfold slicePick
  rw [h1, h2, h3]
  simp only [sliceRange_one, pick_run, List.size_toArray] <;> rfl
def rSlL (K : PySem.W.Frag) : V → Option Int → Option Int → Hp → VK → Prop := fun x lo hi H Q => ∃ a xs, x = .ref a ∧ SqL K H a xs ∧ ∀ p, H p = none → Q (.ref p) (upd H p (.lst (cutV xs lo hi)))
theorem sl_list : SlR X (rSlL X.K) := by
  intro pins s σ H x v vl vu lo hi sl Q I rx hs pl pu h
  obtain ⟨a, xs, rfl, hx, q⟩ := h
  cases rx
  obtain ⟨its, r, ht, hz⟩ := I.list hx
  have hlen := r.length
  refine ⟨"list", _, slot_list_getitem.lookup, ht.isList.typeIs, ?_⟩
  refine wpAny_getItem_list_slice ht.isList hs pl pu .none (by simp) ?_ (by rw [List.size_toArray] <;> omega)
  rw [slicePick_cut, ← hlen]
  refine ⟨.ref s.heap.objs.size, _, I.laid (t' := s.toks) (o := .lst (cutV xs lo hi)) (fun b ob q => Heap.get?_push_of_some _ q) (Nat.le_refl _) ?_, rfl, q _ (I.hok.fresh (Nat.le_refl _))⟩
  exact ⟨Nat.le_trans (cutV_length xs lo hi) hz, _, 0, (r.drop (HT.sIx xs.length 0 lo)).take (HT.sIx xs.length xs.length hi - HT.sIx xs.length 0 lo), Heap.get?_push_size _ rfl⟩
def eqV : V → V → Bool
  | .non, .non => true
  | .bl a, .bl b => a == b
  | .bl a, .int b => (if a then 1 else 0) == b
  | .int a, .bl b => a == (if b then 1 else 0)
  | .int a, .int b => a == b
  | .str a, .str b => a == b
  | _, _ => false
theorem call_len_seq : CallR X (.builtin "len") (fun xs H Q => ∃ p ys, xs = [.ref p] ∧ (SqL X.K H p ys ∨ SqT X.K H p ys) ∧ Q (.int ys.length) H) := by
  intro pins s σ H xs us Q I r h
  obtain ⟨p, ys, rfl, hq, q⟩ := h
  obtain ⟨u, rfl, rx⟩ := vals1 r
  cases rx
  have hn := line63
  rcases hq with hq | hq
  · obtain ⟨its, r', pl, hz⟩ := I.list hq
    have hlen := r'.length
    exact Calls.call_len_list pl.isList (by simp only [List.size_toArray] <;> omega) ⟨.int ys.length, H, I.tok _, ⟨s.toks + 1, by rw [List.size_toArray, hlen]⟩, q⟩
  · obtain ⟨its, r', pl, hz⟩ := I.tuple hq
    have hlen := r'.length
    exact len_tuple pl (by simp only [List.size_toArray] <;> omega) ⟨.int ys.length, H, I.tok _, ⟨s.toks + 1, by rw [List.size_toArray, hlen]⟩, q⟩
theorem call_len_str : CallR X (.builtin "len") (fun xs H Q => ∃ z, xs = [.str z] ∧ z.length ≤ sizeLine ∧ Q (.int z.length) H) := by
  intro pins s σ H xs us Q I r h
  obtain ⟨z, rfl, hz, q⟩ := h
  obtain ⟨u, rfl, t, rfl⟩ := vals1 r
  have hn := line63
  exact len_str (by omega) ⟨.int z.length, H, I.tok _, ⟨_, rfl⟩, q⟩
theorem CallR.or {f : Value} {r r' : List V → Hp → VK → Prop} (h : CallR X f r) (h' : CallR X f r') : CallR X f (fun xs H Q => r xs H Q ∨ r' xs H Q) := by
  intro pins s σ H xs us Q I rs q
  rcases q with q | q
  · exact h pins s σ H xs us Q I rs q
  · exact h' pins s σ H xs us Q I rs q
def tyV (K : PySem.W.Frag) (T : String) (x : V) (H : Hp) : Prop := match x with
  | .str _ => T = "str"
  | .int _ => T = "int"
  | .ref p => (T = "list" ∧ ∃ xs, SqL K H p xs) ∨ (T = "tuple" ∧ ∃ o, K.lookup p = some o ∧ o.cls = .type "tuple" ∧ o.dict = none) ∨
      (T = "dict" ∧ ((∃ kvs, H p = some (.dK kvs)) ∨ ∃ kvs, H p = some (.dT kvs))) ∨ (T = "set" ∧ ∃ S n, H p = some (.set S n))
  | _ => False
theorem tyV_is {pins : List (Addr × Obj)} {σ : St} {H : Hp} {s : Shared} {T : String} {x : V} {v : Value} (I : Inv X pins σ H s) (r : RelV x v) (ty : tyV X.K T x H) :
    s.TypeIs v T ∧ ∀ a, v = .ref a → ∃ ob, s.heap.get? a = some ob ∧ ob.dict = none := by
  cases x with
  | str z =>
    obtain ⟨t, rfl⟩ := r
    cases (show T = "str" from ty)
    exact ⟨typeIs_str s z t, fun _ e => nomatch e⟩
  | int i =>
    obtain ⟨t, rfl⟩ := r
    cases (show T = "int" from ty)
    exact ⟨typeIs_int s i t, fun _ e => nomatch e⟩
  | ref p =>
    cases r
    rcases ty with ⟨rfl, xs, hq⟩ | ⟨rfl, o, hk, hc, hd⟩ | ⟨rfl, hk⟩ | ⟨rfl, S, n, hk⟩
    · obtain ⟨its, _, pl, _⟩ := I.list hq
      refine ⟨pl.isList.typeIs, fun a e => ?_⟩
      cases e
      obtain ⟨o, n, e, c, hd, _⟩ := pl
      exact ⟨o, e, hd⟩
    · refine ⟨⟨o, I.kIn p o hk, hc⟩, fun a e => ?_⟩
      cases e
      exact ⟨o, I.kIn _ o hk, hd⟩
    · have z : ∃ o, s.heap.get? p = some o ∧ o.ExactDict := by
        rcases hk with ⟨kvs, hk⟩ | ⟨kvs, hk⟩
        · obtain ⟨_, _, _, _, o, _, _, e, ex, _⟩ := I.hok p _ hk
          exact ⟨o, e, ex⟩
        · obtain ⟨_, _, _, _, o, _, _, e, ex, _⟩ := I.hok p _ hk
          exact ⟨o, e, ex⟩
      obtain ⟨o, e, ex⟩ := z
      refine ⟨⟨o, e, ex.1⟩, fun a e2 => ?_⟩
      cases e2
      exact ⟨o, e, ex.2.1⟩
    · obtain ⟨o, _, _, _, e, ex, _⟩ := I.hok p _ hk
      refine ⟨⟨o, e, ex.1⟩, fun a e2 => ?_⟩
      cases e2
      exact ⟨o, e, ex.2.1⟩
  | _ => exact False.elim ty
def tBM0 (K : PySem.W.Frag) (T : String) (r : V → List V → Hp → VK → Prop) (to : TE) : TE := fun σ H Q => to σ H fun x H1 => tyV K T x H1 ∧ r x [] H1 Q
def tBM (K : PySem.W.Frag) (T : String) (r : V → List V → Hp → VK → Prop) (to : TE) (t : TA) : TE := fun σ H Q => to σ H fun x H1 => tyV K T x H1 ∧ t σ H1 fun xs H2 => r x xs H2 Q
variable {o e : Expr} {es : List Expr} {to : TE} {t : TA} {name : Str} {apos cpos : Pos} {T id : String} {r : V → List V → Hp → VK → Prop}
theorem pe_bm0 (pa : PlainAttrs T) (slot : Slot T name id) (hty : typeOf (.builtin id) = pure (.type "method_descriptor")) (hm : MtR X id r) (ho : PE X o to)
    (hbase : attributeBase o name X.env (eval o X.env) = eval o X.env := by rfl) (hline : (apos.endLine == cpos.line) = true := by rfl) : PE X (.Call (.Attribute o name apos) [] [] cpos) (tBM0 X.K T r to) := by
  intro pins s σ H Q I h
  refine wpAny_Call_method0_late hbase hline (thn (ho pins s σ H _ I h) fun v s1 ⟨x, H1, I1, r1, ty, q1⟩ => ?_)
  obtain ⟨h1, h2⟩ := tyV_is I1 r1 ty
  exact ⟨T, id, pa, slot, hty, h1, h2, Calls.callWith_builtin rfl (PySem.evalArgs_none (hm pins s1 σ H1 x [] v [] Q I1 r1 .nil q1))⟩
theorem pe_bm (pa : PlainAttrs T) (slot : Slot T name id) (hty : typeOf (.builtin id) = pure (.type "method_descriptor")) (hm : MtR X id r) (ho : PE X o to) (ha : PA X (e :: es) t)
    (hbase : attributeBase o name X.env (eval o X.env) = eval o X.env := by rfl)
    (hfew : ((backTo cpos (starEach (e :: es) X.env)).all (fun x => !x.1) && (backToKw cpos (keywordEach [] X.env)).all (fun x => x.1.isSome)
      && decide ((e :: es).length + ([] : List Keyword).length + (if ([] : List Keyword).isEmpty then 0 else 1) < 30)) = true := by rfl)
    (hline : (apos.endLine == cpos.line) = true := by rfl) (hs : starEach (e :: es) X.env = (false, eval e X.env) :: starEach es X.env := by rfl) (hplain : (backTo cpos (starEach es X.env)).any (·.1) = false := by rfl) :
    PE X (.Call (.Attribute o name apos) (e :: es) [] cpos) (tBM X.K T r to t) := by
  intro pins s σ H Q I h
  refine wpAny_Call_method_late hbase hfew hline rfl (thn (ho pins s σ H _ I h) fun v s1 ⟨x, H1, I1, r1, ty, q1⟩ => ?_)
  obtain ⟨h1, h2⟩ := tyV_is I1 r1 ty
  refine ⟨T, id, pa, slot, hty, h1, h2, ?_⟩
  have hA := ha cpos pins s1 σ H1 _ I1 q1
  rw [hs] at hA ⊢
  refine Calls.callWith_builtin (by show (false || (backTo cpos (starEach es X.env)).any (·.1)) = false; rw [hplain] <;> rfl) (Calls.evalArgs_plain ?_)
  exact thn hA fun us s2 ⟨vs, H2, I2, r2, q2⟩ => hm pins s2 σ H2 x vs v us Q I2 r1 r2 q2
/- xs.append(e), list.index on a module's tuple .. are MtR facts of 06m -/
end
end L2
namespace L2
open PySem PySem.Spec PyProof.Rows
def MtM (X : Cx) (id : String) (r : V → List V → Hp → VK → Prop) : Prop :=
  ∀ (pins : List (Addr × Obj)) (s : Shared) (σ : St) (H : Hp) (x : V) (xs : List V) (v : Value) (us : List Value) (Q : VK), Inv X pins σ H s → RelV x v → Vals xs us → r x xs H Q →
    wpAny (model X.prog X.w) X.A (call (.builtin id) (v :: us)) (EP X pins σ Q) X.xe s
theorem Vals.one : ∀ {x : V} {us : List Value}, Vals [x] us → ∃ u, us = [u] ∧ RelV x u
  | _, _, .cons r .nil => ⟨_, rfl, r⟩
theorem Vals.two : ∀ {x y : V} {us : List Value}, Vals [x, y] us → ∃ u v, us = [u, v] ∧ RelV x u ∧ RelV y v
  | _, _, _, .cons r (.cons q .nil) => ⟨_, _, rfl, r, q⟩
theorem Vals.zero : ∀ {us : List Value}, Vals [] us → us = []
  | _, .nil => rfl
theorem Vals.rep {xs : List V} {us : List Value} (h : Vals xs us) : ∀ k : Nat, Vals (List.replicate k xs).flatten (List.replicate k us).flatten
  | 0 => .nil
  | k + 1 => by
    rw [List.replicate_succ, List.replicate_succ, List.flatten_cons, List.flatten_cons]
    exact Vals.append h (Vals.rep h k)
theorem foldl_rep (its : List Value) : ∀ (k : Nat) (acc : List Value),
    List.foldl (fun x1 x2 => x1 ++ x2) acc.toArray (List.replicate k its.toArray) = (acc ++ (List.replicate k its).flatten).toArray
  | 0, acc => by simp
  | k + 1, acc => by
    have e : acc.toArray ++ its.toArray = (acc ++ its).toArray := by simp
    have e2 : (acc ++ its) ++ (List.replicate k its).flatten = acc ++ (List.replicate (k + 1) its).flatten := by
      rw [List.replicate_succ, List.flatten_cons, List.append_assoc]
    rw [← e2, ← foldl_rep its k (acc ++ its), ← e, List.replicate_succ, List.foldl_cons]
section
variable {X : Cx} {pins : List (Addr × Obj)} {σ : St} {H : Hp} {s : Shared} {l b : Addr} {xs ys zs : List V}
theorem Inv.lset {its its' : List Value} {n : Nat} {f : Array Value → Array Value} {t' : Nat} (I : Inv X pins σ H s) (hH : H l = some (.lst xs))
    (e : s.heap.get? l = some { cls := .type "list", data := .seq its.toArray n }) (hf : f its.toArray = its'.toArray) (hv : Vals ys its') (hz : ys.length ≤ sizeLine) :
    Inv X pins σ (upd H l (.lst ys)) { s with heap := s.heap.update l (Obj.mapSeq f), toks := t' } := by
  have q := PySem.IsL.update e f
  rw [hf] at q
  refine I.write (x := l) (e := l) (by rw [hH]; exact trivial) (.inl rfl) (fun b' u hb hu => (Heap.get?_update_other s.heap (Obj.mapSeq f) (Ne.symm hb)).trans hu) ⟨_, q⟩ ?_
  exact ⟨hz, its', _, hv, q⟩
theorem Inv.lnew {its : List Value} {t' : Nat} (I : Inv X pins σ H s) (hv : Vals ys its) (hz : ys.length ≤ sizeLine) :
    Inv X pins σ (upd H s.heap.objs.size (.lst ys)) { s with heap := s.heap.push { cls := .type "list", data := .seq its.toArray }, toks := t' } :=
  I.laid (fun _ _ q => Heap.get?_push_of_some _ q) (Nat.le_refl _) ⟨hz, its, 0, hv, Heap.get?_push_size _ rfl⟩
theorem Inv.fresh (I : Inv X pins σ H s) : H s.heap.objs.size = none := I.hok.fresh (Nat.le_refl _)
theorem Inv.lstM (I : Inv X pins σ H s) (hH : H l = some (.lst xs)) : xs.length ≤ sizeLine ∧ ∃ (its : List Value) (n : Nat), Vals xs its ∧ xs.length = its.length ∧ s.heap.get? l = some { cls := .type "list", data := .seq its.toArray n } := by
  obtain ⟨z, its, n, r, e⟩ := I.hok l _ hH
  exact ⟨z, its, n, r, r.length, e⟩
theorem notLongL {n : Nat} (h : n ≤ sizeLine) : Builtin.List.listTooLong n = false := by
  unfold Builtin.List.listTooLong
  exact decide_eq_false (by omega)
end
section
variable {X : Cx}
def rAppend : V → List V → Hp → VK → Prop := fun x vs H Q => ∃ l xs y, x = .ref l ∧ vs = [y] ∧ H l = some (.lst xs) ∧ xs.length < sizeLine ∧ Q .non (upd H l (.lst (xs ++ [y])))
theorem mt_append : MtM X "list.append" rAppend := by
  intro pins s σ H x vs v us Q I rx rv h
  obtain ⟨l, xs, y, rfl, rfl, hH, hz, q⟩ := h
  cases rx
  obtain ⟨u, rfl, ru⟩ := rv.one
  obtain ⟨z, its, n, r, hl, e⟩ := I.lstM hH
  refine call_meets F.slot_list_append ⟨_, e, rfl⟩ F.entry_list_append (F.args_list_append_2 _ _) (PySem.list_append l its.toArray n u (by rw [List.size_toArray]; omega)) ⟨e, ?_⟩
  refine ⟨.non, _, I.lset (its' := its ++ [u]) hH e (by simp) (r.append (.cons ru .nil)) ?_, rfl, q⟩
  rw [List.length_append, List.length_singleton]
  omega
def rCat : R2 := fun x y H Q => ∃ l b xs zs, x = .ref l ∧ y = .ref b ∧ H l = some (.lst xs) ∧ H b = some (.lst zs) ∧ xs.length + zs.length ≤ sizeLine ∧ ∀ p, H p = none → Q (.ref p) (upd H p (.lst (xs ++ zs)))
theorem op_cat : OpR X (binaryOp .Add) rCat := by
  intro pins s σ H x y v u Q I rx ry h
  obtain ⟨l, b, xs, zs, rfl, rfl, hH, hB, hz, q⟩ := h
  cases rx
  cases ry
  obtain ⟨z, its, n, r, hl, e⟩ := I.lstM hH
  obtain ⟨z2, its2, n2, r2, hl2, e2⟩ := I.lstM hB
  refine PySem.P.add_list e e2 ?_ (by rw [List.size_toArray, List.size_toArray]; omega)
  have ea : its.toArray ++ its2.toArray = (its ++ its2).toArray := by simp
  rw [ea]
  exact ⟨.ref _, _, I.lnew (t' := s.toks) (r.append r2) (by rw [List.length_append]; omega), rfl, q _ I.fresh⟩
def rRep : R2 := fun x y H Q => ∃ l k xs, x = .ref l ∧ y = .int k ∧ H l = some (.lst xs) ∧ -(2 ^ 63) ≤ k ∧ k < 2 ^ 63 ∧ xs.length * k.toNat ≤ sizeLine ∧
  ∀ p, H p = none → Q (.ref p) (upd H p (.lst (List.replicate k.toNat xs).flatten))
theorem len_rep {α : Type} (xs : List α) (k : Nat) : (List.replicate k xs).flatten.length = k * xs.length := by
  induction k with
  | zero => simp
  | succ k ih => rw [List.replicate_succ, List.flatten_cons, List.length_append, ih, Nat.succ_mul, Nat.add_comm]
theorem op_rep : OpR X (binaryOp .Mult) rRep := by
  intro pins s σ H x y v u Q I rx ry h
  obtain ⟨l, k, xs, rfl, rfl, hH, h1, h2, hz, q⟩ := h
  cases rx
  obtain ⟨t, rfl⟩ := ry
  obtain ⟨z, its, n, r, hl, e⟩ := I.lstM hH
  have hlen : its.toArray.size * k.toNat ≤ sizeLine := by rw [List.size_toArray, ← hl]; exact hz
  have hcap : ¬ its.toArray.size * k.toNat > (2 ^ 63 - 1) / 8 := by
    have : (sizeLine : Nat) ≤ (2 ^ 63 - 1) / 8 := by decide
    omega
  have hfit : ¬ (!Builtin.List.listFitsIndex k) = true := by
    rw [fitsIndex_both h1 h2]
    exact Bool.false_ne_true
  have hlong : ¬ Builtin.List.listTooLong (its.toArray.size * k.toNat) = true := by
    rw [notLongL hlen]
    exact Bool.false_ne_true
  have hnew : List.foldl (fun x1 x2 => x1 ++ x2) #[] (List.replicate (if its.toArray.isEmpty = true then 0 else k.toNat) its.toArray) = (List.replicate k.toNat its).flatten.toArray := by
    have f0 : ∀ m : Nat, List.foldl (fun x1 x2 => x1 ++ x2) #[] (List.replicate m its.toArray) = (List.replicate m its).flatten.toArray := fun m => by
      have := foldl_rep its m []
      rw [List.nil_append] at this
      exact this
    rw [f0]
    cases its with
    | nil => simp
    | cons a r' => rw [if_neg (by simp)]
  refine wpAny_binaryOp_repeat_ref (T := "list") (U := "int") (by decide) ⟨_, e, rfl⟩ (fun s' => typeIs_int s' k t) noFill_list_mul F.fills_int_mul F.slot_int_rmul repeat_list F.slot_int_index.lookup
    (call_meets F.slot_int_rmul (typeIs_int s k t) F.entry_int_rmul (F.args_int_rmul_2 _ _) (int___rmul___int_list k t l its.toArray n)
      ⟨e, rfl, ⟨_, e, rfl⟩, call_meets F.slot_list_mul ⟨_, e, rfl⟩ F.entry_list_mul (F.args_list_mul_2 _ _) (AutoListH.list___mul___list_int_3 l its.toArray n k t hfit hcap hlong) ⟨e, ?_⟩⟩)
  rw [hnew]
  exact ⟨.ref _, _, I.lnew (t' := s.toks) (r.rep k.toNat) (by rw [len_rep, Nat.mul_comm]; exact hz), rfl, q _ I.fresh⟩
end
section
variable {prog : Program} {w : World} {A : Around} {E : Value → Shared → Prop} {s : Shared}
set_option maxRecDepth 100000 in
end
section
variable {X : Cx}
end
end L2
namespace L2
open PySem PySem.Spec PyProof.Rows
section
variable {κ : Type} [DecidableEq κ]
def valV (kvs : List (κ × V)) (k : κ) : Option V := (kvs.find? fun kv => decide (kv.1 = k)).map (·.2)
def putK (kvs : List (κ × V)) (k : κ) (v : V) : List (κ × V) :=
  if (kvs.any fun kv => decide (kv.1 = k)) = true then kvs.map (fun kv => if kv.1 = k then (kv.1, v) else kv) else kvs ++ [(k, v)]
def dropK (kvs : List (κ × V)) (k : κ) : List (κ × V) := kvs.filter fun kv => decide (kv.1 ≠ k)
theorem valV_pos {p : κ × V} {r : List (κ × V)} {k : κ} (e : p.1 = k) : valV (p :: r) k = some p.2 := by simp [valV, List.find?_cons, e]
theorem valV_neg {p : κ × V} {r : List (κ × V)} {k : κ} (e : ¬ p.1 = k) : valV (p :: r) k = valV r k := by simp [valV, List.find?_cons, e]
theorem valV_any (k : κ) : ∀ kvs : List (κ × V), (kvs.any fun kv => decide (kv.1 = k)) = (valV kvs k).isSome
  | [] => rfl
  | p :: r => by
    rw [List.any_cons]
    by_cases e : p.1 = k
    · simp only [valV_pos e, decide_eq_true e, Bool.true_or, Option.isSome_some]
    · rw [valV_neg e, decide_eq_false e, Bool.false_or]; exact valV_any k r
theorem length_putK (kvs : List (κ × V)) (k : κ) (v : V) : (putK kvs k v).length ≤ kvs.length + 1 := by
  unfold putK
  split
  · rw [List.length_map]; omega
  · rw [List.length_append, List.length_cons, List.length_nil]; omega
theorem RelO.isSome_eq {o : Option V} {u : Option Value} (r : RelO o u) : o.isSome = u.isSome := by
  cases o with
  | none => cases u with
    | none => rfl
    | some _ => exact (show False from r).elim
  | some _ => cases u with
    | none => exact (show False from r).elim
    | some _ => rfl
theorem RelO.getD {o : Option V} {u : Option Value} {d : V} {d' : Value} (r : RelO o u) (rd : RelV d d') : RelV (o.getD d) (u.getD d') := by
  cases o with
  | none => cases u with
    | none => exact rd
    | some _ => exact (show False from r).elim
  | some _ => cases u with
    | none => exact (show False from r).elim
    | some _ => exact r
theorem KV.val {kvs : List (κ × V)} {vs : List (κ × Value)} (r : KV kvs vs) (k : κ) : RelO (valV kvs k) (valueAt vs k) := by
  unfold KV at r
  induction r with
  | nil => exact True.intro
  | @cons p q ps qs h t ih =>
    obtain ⟨h1, h2⟩ := h
    by_cases e : p.1 = k
    · have e' : q.1 = k := h1.symm.trans e
      have b : valueAt (q :: qs) k = some q.2 := by simp [valueAt, List.find?_cons, e']
      rw [valV_pos e, b]; exact h2
    · have e' : ¬ q.1 = k := fun z => e (h1.trans z)
      have b : valueAt (q :: qs) k = valueAt qs k := by simp [valueAt, List.find?_cons, e']
      rw [valV_neg e, b]; exact ih
theorem KV.any {kvs : List (κ × V)} {vs : List (κ × Value)} (r : KV kvs vs) (k : κ) : (kvs.any fun kv => decide (kv.1 = k)) = vs.any fun kv => decide (kv.1 = k) := by
  unfold KV at r
  induction r with
  | nil => rfl
  | cons h t ih => rw [List.any_cons, List.any_cons, ih, h.1]
theorem KV.repl {kvs : List (κ × V)} {vs : List (κ × Value)} (r : KV kvs vs) (k : κ) {y : V} {u : Value} (ry : RelV y u) :
    KV (kvs.map fun kv => if kv.1 = k then (kv.1, y) else kv) (vs.map fun kv => if kv.1 = k then (kv.1, u) else kv) := by
  unfold KV at r ⊢
  induction r with
  | nil => exact .nil
  | @cons p q ps qs h t ih =>
    rw [List.map_cons, List.map_cons]
    refine .cons ?_ ih
    obtain ⟨h1, h2⟩ := h
    by_cases e : p.1 = k
    · rw [if_pos e, if_pos (h1.symm.trans e)]; exact ⟨h1, ry⟩
    · rw [if_neg e, if_neg (fun z => e (h1.trans z))]; exact ⟨h1, h2⟩
theorem KV.put {kvs : List (κ × V)} {vs : List (κ × Value)} (r : KV kvs vs) (k : κ) {y : V} {u : Value} (ry : RelV y u) : KV (putK kvs k y) (stored vs k u) := by
  unfold putK stored
  rw [r.any k]
  by_cases e : (vs.any fun kv => decide (kv.1 = k)) = true
  · rw [if_pos e, if_pos e]; exact r.repl k ry
  · rw [if_neg e, if_neg e]; exact Paired.snoc r ⟨rfl, ry⟩
theorem KV.drop {kvs : List (κ × V)} {vs : List (κ × Value)} (r : KV kvs vs) (k : κ) : KV (dropK kvs k) (without vs k) := by
  unfold KV at r ⊢
  unfold dropK without
  induction r with
  | nil => exact .nil
  | @cons p q ps qs h t ih =>
    obtain ⟨h1, h2⟩ := h
    rw [List.filter_cons, List.filter_cons]
    by_cases e : p.1 = k
    · have a : ¬ decide (p.1 ≠ k) = true := by simp [e]
      have b : ¬ decide (q.1 ≠ k) = true := by simp [h1.symm.trans e]
      rw [if_neg a, if_neg b]; exact ih
    · have e' : ¬ q.1 = k := fun z => e (h1.trans z)
      have a : decide (p.1 ≠ k) = true := by simp [e]
      have b : decide (q.1 ≠ k) = true := by simp [e']
      rw [if_pos a, if_pos b]; exact .cons ⟨h1, h2⟩ ih
theorem KV.keys {kvs : List (κ × V)} {vs : List (κ × Value)} (r : KV kvs vs) : kvs.map (·.1) = vs.map (·.1) := by
  unfold KV at r
  induction r with
  | nil => rfl
  | cons h t ih => rw [List.map_cons, List.map_cons, ih, h.1]
theorem KV.length {kvs : List (κ × V)} {vs : List (κ × Value)} (r : KV kvs vs) : kvs.length = vs.length := Paired.length r
end
theorem kV_is {P : Program} {w : World} {k : Key} {u : Value} (r : RelV (kV k) u) : (mixKind P w).is k u = true := by
  cases k with
  | inl i => obtain ⟨t, e⟩ := (show ∃ t, u = Value.int i t from r); subst e; exact mixKind_int P w i t
  | inr x => obtain ⟨t, e⟩ := (show ∃ t, u = Value.str x t from r); subst e; exact mixKind_str P w x t
theorem items_are {P : Program} {w : World} : ∀ {ks : List Key} {us : List Value}, Vals (ks.map kV) us → ItemsAre (mixKind P w) ks us
  | [], _, r => by rw [List.map_nil] at r; cases r; exact .nil
  | k :: ks, _, r => by
    rw [List.map_cons] at r
    cases r with
    | cons h t => exact .cons (kV_is h) (items_are t)
abbrev KT (H : Hp) : List (List Key × V) → List (List Key × Addr × Value) → Prop := Paired fun p q => p.1 = q.1 ∧ H q.2.1 = some (.tup (p.1.map kV)) ∧ RelV p.2 q.2.2
theorem KT.val {H : Hp} {kvs : List (List Key × V)} {xs : List (List Key × Addr × Value)} (r : KT H kvs xs) (k : List Key) : RelO (valV kvs k) ((atKey xs k).map (·.2)) := by
  induction r with
  | nil => exact True.intro
  | @cons p q ps qs h t ih =>
    obtain ⟨h1, _, h2⟩ := h
    by_cases e : p.1 = k
    · have e' : q.1 = k := h1.symm.trans e
      have b : atKey (q :: qs) k = some q.2 := by simp [atKey, List.find?_cons, e']
      rw [valV_pos e, b]; exact h2
    · have e' : ¬ q.1 = k := fun z => e (h1.trans z)
      have b : atKey (q :: qs) k = atKey qs k := by simp [atKey, List.find?_cons, e']
      rw [valV_neg e, b]; exact ih
theorem KT.repl {H : Hp} {kvs : List (List Key × V)} {xs : List (List Key × Addr × Value)} (r : KT H kvs xs) (k : List Key) {y : V} {u : Value} (ry : RelV y u) :
    KT H (kvs.map fun kv => if kv.1 = k then (kv.1, y) else kv) (xs.map (putAt k u)) := by
  induction r with
  | nil => exact .nil
  | @cons p q ps qs h t ih =>
    rw [List.map_cons, List.map_cons]
    refine .cons ?_ ih
    obtain ⟨h1, h2, h3⟩ := h
    unfold putAt
    by_cases e : p.1 = k
    · rw [if_pos e, if_pos (h1.symm.trans e)]; exact ⟨h1, h2, ry⟩
    · rw [if_neg e, if_neg (fun z => e (h1.trans z))]; exact ⟨h1, h2, h3⟩
theorem KT.put {H : Hp} {kvs : List (List Key × V)} {xs : List (List Key × Addr × Value)} (r : KT H kvs xs) (k : List Key) {b : Addr} {y : V} {u : Value} (hb : H b = some (.tup (k.map kV))) (ry : RelV y u) :
    KT H (putK kvs k y) (storedH xs k b u) := by
  have e : (kvs.any fun kv => decide (kv.1 = k)) = (atKey xs k).isSome := by
    rw [valV_any, (r.val k).isSome_eq, Option.isSome_map]
  unfold putK storedH
  rw [e]
  by_cases q : (atKey xs k).isSome = true
  · rw [if_pos q, if_pos q]; exact r.repl k ry
  · rw [if_neg q, if_neg q]; exact Paired.snoc r ⟨rfl, hb, ry⟩
theorem KT.keeps {H H' : Hp} {kvs : List (List Key × V)} {xs : List (List Key × Addr × Value)} (r : KT H kvs xs) (ht : ∀ b ys, H b = some (.tup ys) → H' b = some (.tup ys)) : KT H' kvs xs :=
  Paired.mapP r fun _ _ z => ⟨z.1, ht _ _ z.2.1, z.2.2⟩
section
variable {P : Program} {w : World} {H : Hp} {h : Heap} {a : Addr}
theorem rd_of {u : HO} (ok : HOk P w H h) (e : Rd H a u) : ObjOk P w H h a u := e.ok ok
theorem dk_rd {kvs : List (Key × V)} (ok : HOk P w H h) (e : Rd H a (.dK kvs)) : kvs.length ≤ sizeLine ∧ (a == sysModules) = false ∧ ∃ vs, KV kvs vs ∧ h.DictOf (mixKind P w) a vs :=
  show ObjOk P w H h a (.dK kvs) from rd_of ok e
theorem dk_of {kvs : List (Key × V)} (ok : HOk P w H h) (e : H a = some (.dK kvs)) : kvs.length ≤ sizeLine ∧ (a == sysModules) = false ∧ ∃ vs, KV kvs vs ∧ h.DictOf (mixKind P w) a vs := dk_rd ok (.inl e)
theorem key_of {ks : List Key} (ok : HOk P w H h) (e : H a = some (.tup (ks.map kV))) : (tupleKind (mixKind P w)).is h ks a := by
  obtain ⟨_, its, r, o, h1, h2, n, h3⟩ := (show ObjOk P w H h a (.tup (ks.map kV)) from ok a _ e)
  exact ⟨o, its.toArray, n, h1, h2, h3, by simpa using items_are r⟩
theorem dt_rd {kvs : List (List Key × V)} (ok : HOk P w H h) (e : Rd H a (.dT kvs)) : kvs.length ≤ sizeLine ∧ (a == sysModules) = false ∧
    ∃ xs, KT H kvs xs ∧ h.DictOfH (tupleKind (mixKind P w)) a xs := by
  obtain ⟨z, y, xs, r, o, es, ep, h1, h2, h3, h4, h5⟩ := (show ObjOk P w H h a (.dT kvs) from rd_of ok e)
  refine ⟨z, y, xs, r, o, es, ep, h1, h2, h3, h4, fun x hx => ?_, h5⟩
  have all : ∀ {l : List (List Key × V)} {m : List (List Key × Addr × Value)}, KT H l m → ∀ x ∈ m, (tupleKind (mixKind P w)).is h x.1 x.2.1 := by
    intro l m q
    induction q with
    | nil => intro x hx; exact nomatch hx
    | @cons p q ps qs hq t ih =>
      intro x hx
      rcases List.mem_cons.mp hx with e | hx
      · subst e
        exact key_of ok (by rw [← hq.1]; exact hq.2.1)
      · exact ih x hx
  exact all r x hx
end
def DGet (H : Hp) (a : Addr) (y : V) (r : Option V) : Prop :=
  (∃ kvs k, Rd H a (.dK kvs) ∧ y = kV k ∧ r = valV kvs k) ∨ ∃ kvs k b, Rd H a (.dT kvs) ∧ y = .ref b ∧ H b = some (.tup (k.map kV)) ∧ r = valV kvs k
def DPut (H : Hp) (a : Addr) (y v : V) (H' : Hp) : Prop :=
  (∃ kvs k, H a = some (.dK kvs) ∧ y = kV k ∧ kvs.length < sizeLine ∧ H' = upd H a (.dK (putK kvs k v))) ∨
  ∃ kvs k b, H a = some (.dT kvs) ∧ y = .ref b ∧ H b = some (.tup (k.map kV)) ∧ kvs.length < sizeLine ∧ H' = upd H a (.dT (putK kvs k v))
theorem DGet.k {H : Hp} {a : Addr} {kvs : List (Key × V)} {k : Key} (e : H a = some (.dK kvs)) : DGet H a (kV k) (valV kvs k) := .inl ⟨kvs, k, .inl e, rfl, rfl⟩
theorem DGet.t {H : Hp} {a b : Addr} {kvs : List (List Key × V)} {k : List Key} (e : H a = some (.dT kvs)) (eb : H b = some (.tup (k.map kV))) : DGet H a (.ref b) (valV kvs k) := .inr ⟨kvs, k, b, .inl e, rfl, eb, rfl⟩
theorem DPut.k {H : Hp} {a : Addr} {kvs : List (Key × V)} {k : Key} {v : V} (e : H a = some (.dK kvs)) (hl : kvs.length < sizeLine) : DPut H a (kV k) v (upd H a (.dK (putK kvs k v))) := .inl ⟨kvs, k, e, rfl, hl, rfl⟩
theorem DPut.t {H : Hp} {a b : Addr} {kvs : List (List Key × V)} {k : List Key} {v : V} (e : H a = some (.dT kvs)) (eb : H b = some (.tup (k.map kV))) (hl : kvs.length < sizeLine) :
    DPut H a (.ref b) v (upd H a (.dT (putK kvs k v))) := .inr ⟨kvs, k, b, e, rfl, eb, hl, rfl⟩
section
variable {X : Cx} {pins : List (Addr × Obj)} {σ : St} {H : Hp} {s : Shared} {a : Addr} {y v : V} {u r : Value} {o : Option V} {A : Around} {E : Value → Shared → Prop}
theorem Inv.big (I : Inv X pins σ H s) : sysModules < s.heap.objs.size := by
  have h : mainGlobals < s.heap.objs.size := (I.mod.glob.keeps I.bk).lt
  exact Nat.lt_trans (by decide) h
theorem d_getItem {Q : Value → Shared → Prop} (hu : A.units + 1 < cLine) (I : Inv X pins σ H s) (g : DGet H a y (some v)) (ry : RelV y u) (h : ∀ w' s', Inv X pins σ H s' → RelV v w' → Q w' s') :
    wpAny (model X.prog X.w) A (getItem (.ref a) u) Q E s := by
  rcases g with ⟨kvs, k, e, ey, l⟩ | ⟨kvs, k, b, e, ey, eb, l⟩
  · subst ey
    obtain ⟨z, hd, vs, rel, dd⟩ := dk_rd I.hok e
    obtain ⟨w', hw, rw'⟩ := RelO.some_of (v := v) (o := valueAt vs k) (by rw [l]; exact rel.val k)
    exact wpAny_getItem_of (kV_is ry) dd.mapOf hw (h w' _ (I.tok _) rw')
  · subst ey
    cases (show u = Value.ref b from ry)
    obtain ⟨z, hd, xs, rel, dd⟩ := dt_rd I.hok e
    obtain ⟨w', hw, rw'⟩ := RelO.some_of (v := v) (o := (atKey xs k).map (·.2)) (by rw [l]; exact rel.val k)
    obtain ⟨p, hp, hp2⟩ := Option.map_eq_some_iff.mp hw
    refine wpAny_getItem_heap (tupleKind_room_in1 hu) (key_of I.hok eb) dd hp ?_
    rw [hp2]
    exact h w' _ (I.tok _) rw'
theorem d_in {Q : Value → Shared → Prop} (hu : A.units + 1 < cLine) (I : Inv X pins σ H s) (g : DGet H a y o) (ry : RelV y u) (h : ∀ s', Inv X pins σ H s' → Q (.bool o.isSome) s') :
    wpAny (model X.prog X.w) A (compareOp .In u (.ref a)) Q E s := by
  rcases g with ⟨kvs, k, e, ey, l⟩ | ⟨kvs, k, b, e, ey, eb, l⟩
  · subst ey
    obtain ⟨z, hd, vs, rel, dd⟩ := dk_rd I.hok e
    refine wpAny_in_of (kV_is ry) hd dd.mapOf ?_
    rw [← (rel.val k).isSome_eq, ← l]
    exact h _ (I.tok _)
  · subst ey
    cases (show u = Value.ref b from ry)
    obtain ⟨z, hd, xs, rel, dd⟩ := dt_rd I.hok e
    refine wpAny_in_heap (tupleKind_room_in1 hu) (key_of I.hok eb) hd dd ?_
    have q := (rel.val k).isSome_eq
    rw [Option.isSome_map] at q
    rw [← q, ← l]
    exact h _ (I.tok _)
theorem d_notIn {Q : Value → Shared → Prop} (hu : A.units + 1 < cLine) (I : Inv X pins σ H s) (g : DGet H a y o) (ry : RelV y u) (h : ∀ s', Inv X pins σ H s' → Q (.bool (!o.isSome)) s') :
    wpAny (model X.prog X.w) A (compareOp .NotIn u (.ref a)) Q E s := by
  rcases g with ⟨kvs, k, e, ey, l⟩ | ⟨kvs, k, b, e, ey, eb, l⟩
  · subst ey
    obtain ⟨z, hd, vs, rel, dd⟩ := dk_rd I.hok e
    refine wpAny_notIn_of (kV_is ry) hd dd.mapOf ?_
    rw [← (rel.val k).isSome_eq, ← l]
    exact h _ (I.tok _)
  · subst ey
    cases (show u = Value.ref b from ry)
    obtain ⟨z, hd, xs, rel, dd⟩ := dt_rd I.hok e
    refine wpAny_notIn_heap (tupleKind_room_in1 hu) (key_of I.hok eb) hd dd ?_
    have q := (rel.val k).isSome_eq
    rw [Option.isSome_map] at q
    rw [← q, ← l]
    exact h _ (I.tok _)
theorem d_write {h' : Heap} {t' : Nat} {ob : HO} (I : Inv X pins σ H s) (mu : Mut (H a)) (hs : Heap.SameBut a s.heap h') (he : ∃ q, h'.get? a = some q) (new : ObjOk X.prog X.w (upd H a ob) h' a ob) :
    Inv X pins σ (upd H a ob) { s with heap := h', toks := t' } :=
  I.write (x := a) (e := a) mu (.inl rfl) (fun b q hb z => (hs.2 b hb).trans z) he new
theorem dk_new {P : Program} {w : World} {H' : Hp} {h' : Heap} {kvs : List (Key × V)} {vs : List (Key × Value)} (z : kvs.length ≤ sizeLine) (hd : (a == sysModules) = false) (rel : KV kvs vs) (dd : h'.DictOf (mixKind P w) a vs) :
    ObjOk P w H' h' a (.dK kvs) := ⟨z, hd, vs, rel, dd⟩
end
section
variable {X : Cx} {pins : List (Addr × Obj)} {σ : St} {H : Hp} {s : Shared} {a : Addr} {kvs : List (Key × V)} {k : Key} {u : Value} {A : Around} {E : Value → Shared → Prop}
theorem d_len {Q : Value → Shared → Prop} (I : Inv X pins σ H s) (e : Rd H a (.dK kvs)) (h : ∀ t s', Inv X pins σ H s' → Q (.int kvs.length t) s') : wpAny (model X.prog X.w) A (call (.builtin "len") [.ref a]) Q E s := by
  obtain ⟨z, hd, vs, rel, dd⟩ := dk_rd I.hok e
  refine call_len_dict hd dd (by rw [← rel.length]; rw [sizeLine_eq] at z; omega) ?_
  rw [← rel.length]
  exact h _ _ (I.tok _)
end
theorem dict_typeIs {X : Cx} {pins : List (Addr × Obj)} {σ : St} {H : Hp} {s : Shared} {a : Addr} {y : V} {o : Option V} (I : Inv X pins σ H s) (g : DGet H a y o) : s.TypeIs (.ref a) "dict" := by
  rcases g with ⟨kvs, k, e, _, _⟩ | ⟨kvs, k, b, e, _, _, _⟩
  · obtain ⟨_, _, vs, _, dd⟩ := dk_rd I.hok e
    exact dd.typeIs
  · obtain ⟨_, _, xs, _, dd⟩ := dt_rd I.hok e
    exact dd.typeIs
section
variable {X : Cx} {o i e value : Expr} {pos pos' tpos : Pos} {td ty tv : TE}
end
theorem dk_empty {P : Program} {w : World} {H : Hp} (h : Heap) (hb : sysModules < h.objs.size) : ObjOk P w H (h.push { cls := .type "dict", data := .dict #[] }) h.objs.size (.dK []) :=
  ⟨Nat.zero_le _, beq_eq_false_iff_ne.mpr (Ne.symm (Nat.ne_of_lt hb)), [], .nil, Heap.DictOf.new h⟩
def tDNewK : TE := fun _ H Q => ∀ p, H p = none → Q (.ref p) (upd H p (.dK []))
section
variable {X : Cx} {pos : Pos}
theorem pe_dnewK : PE X (.Dict [] [] pos) tDNewK := fun pins s σ H Q I h =>
  wpAny_Dict_empty ⟨.ref s.heap.objs.size, _, I.laid (a := s.heap.objs.size) (o := .dK []) (t' := s.toks) (fun _ _ q => Heap.get?_push_of_some _ q) (Nat.le_refl _) (dk_empty s.heap I.big), rfl, h _ (I.hok.fresh (Nat.le_refl _))⟩
end
def tPairs : List (TE × TE) → St → Hp → (List (V × V) → Hp → Prop) → Prop
  | [], _, H, Q => Q [] H
  | (tk, tv) :: r, σ, H, Q => tk σ H fun x H1 => tv σ H1 fun y H2 => tPairs r σ H2 fun ps H3 => Q ((x, y) :: ps) H3
abbrev VV : List (V × V) → List (Value × Value) → Prop := Paired fun p q => RelV p.1 q.1 ∧ RelV p.2 q.2
def PPs (X : Cx) (pos : Pos) (keys : List (Option Expr)) (values : List Expr) (trs : List (TE × TE)) : Prop :=
  ∀ (pins : List (Addr × Obj)) (s : Shared) (σ : St) (H : Hp) (Q : List (V × V) → Hp → Prop), Inv X pins σ H s → tPairs trs σ H Q →
    wpAny (model X.prog X.w) X.A (evalPairs (pairTrees keys values X.env pos)) (fun vs s' => ∃ ps H', Inv X pins σ H' s' ∧ VV ps vs ∧ Q ps H') X.xe s
theorem pps_nil {X : Cx} {pos : Pos} : PPs X pos [] [] [] := fun pins s σ H Q I h => pairTrees_nil_walk ⟨[], H, I, .nil, h⟩
theorem pps_cons {X : Cx} {pos : Pos} {k v : Expr} {ks : List (Option Expr)} {vs : List Expr} {tk tv : TE} {trs : List (TE × TE)} (hk : PE X k tk) (hv : PE X v tv) (hr : PPs X pos ks vs trs) :
    PPs X pos (some k :: ks) (v :: vs) ((tk, tv) :: trs) := fun pins s σ H Q I h =>
  pairTrees_cons_walk (thn (hk pins s σ H _ I h) fun u s1 ⟨x, H1, I1, rx, q1⟩ => thn (hv pins s1 σ H1 _ I1 q1) fun w2 s2 ⟨y, H2, I2, ry, q2⟩ =>
    thn (hr pins s2 σ H2 _ I2 q2) fun ws s3 ⟨ps, H3, I3, rel, q3⟩ => ⟨(x, y) :: ps, H3, I3, .cons ⟨rx, ry⟩ rel, q3⟩)
def mergeK (kvs more : List (Key × V)) : List (Key × V) := more.foldl (fun acc kv => putK acc kv.1 kv.2) kvs
theorem KV.merge : ∀ {more : List (Key × V)} {rs : List (Key × Value)} {kvs : List (Key × V)} {vs : List (Key × Value)}, KV more rs → KV kvs vs → KV (mergeK kvs more) (merged vs rs) := by
  intro more rs kvs vs r
  unfold KV at r
  induction r generalizing kvs vs with
  | nil => intro q; exact q
  | @cons p q ps qs h t ih =>
    intro r0
    have e : KV (putK kvs p.1 p.2) (stored vs q.1 q.2) := by
      have := r0.put p.1 h.2
      rw [← h.1]; exact this
    exact ih e
theorem length_mergeK : ∀ (more kvs : List (Key × V)), (mergeK kvs more).length ≤ kvs.length + more.length
  | [], kvs => by show kvs.length ≤ kvs.length + 0; omega
  | p :: r, kvs => by
    have h1 := length_mergeK r (putK kvs p.1 p.2)
    have h2 := length_putK kvs p.1 p.2
    show (mergeK (putK kvs p.1 p.2) r).length ≤ _
    rw [List.length_cons]; omega
theorem carries_of {P : Program} {w : World} : ∀ {kvs : List (Key × V)} {ws : List (Value × Value)}, VV (kvs.map fun kv => (kV kv.1, kv.2)) ws → ∃ rs, Carries (mixKind P w) ws rs ∧ KV kvs rs
  | [], _, r => by rw [List.map_nil] at r; cases r; exact ⟨[], True.intro, .nil⟩
  | p :: kvs, _, r => by
    rw [List.map_cons] at r
    cases r with
    | @cons a b as bs h t =>
      obtain ⟨rs, c, q⟩ := carries_of (P := P) (w := w) t
      obtain ⟨b1, b2⟩ := b
      exact ⟨(p.1, b2) :: rs, ⟨kV_is h.1, rfl, c⟩, .cons ⟨rfl, h.2⟩ q⟩
def tDisp (trs : List (TE × TE)) : TE := fun σ H Q => ∀ p, H p = none → tPairs trs σ (upd H p (.dK [])) fun ps H2 => H2 p = some (.dK []) ∧ ∃ kvs : List (Key × V), ps = kvs.map (fun kv => (kV kv.1, kv.2)) ∧ kvs.length ≤ 15 ∧ Q (.ref p) (upd H2 p (.dK (mergeK [] kvs)))
theorem pe_disp {X : Cx} {pos : Pos} {keys : List (Option Expr)} {values : List Expr} {trs : List (TE × TE)} (h : PPs X pos keys values trs) (hall : keys.all (·.isSome) = true) (hl : keys.length = values.length) (h0 : keys ≠ [])
    (h15 : keys.length ≤ 15) : PE X (.Dict keys values pos) (tDisp trs) := by
  intro pins s σ H Q I q
  have hn := I.hok.fresh (Nat.le_refl s.heap.objs.size)
  have I1 := I.laid (a := s.heap.objs.size) (o := .dK []) (h' := s.heap.push { cls := .type "dict", data := .dict #[] }) (t' := s.toks) (fun _ _ q => Heap.get?_push_of_some _ q) (Nat.le_refl _) (dk_empty s.heap I.big)
  refine wpAny_Dict_walk (knd := mixKind X.prog X.w) hall hl h0 h15 (thn (h pins _ σ _ _ I1 (q _ hn)) fun ws s2 ⟨ps, H2, I2, rel, e, kvs, ep, lk, q2⟩ => ?_)
  subst ep
  obtain ⟨rs, c, rk⟩ := carries_of (P := X.prog) (w := X.w) rel
  obtain ⟨z, hd, vs0, r0, dd⟩ := dk_of I2.hok e
  cases r0
  refine ⟨rs, c, dd, fun h' dd' hs => ⟨.ref s.heap.objs.size, _, ?_, rfl, q2⟩⟩
  have hz : (mergeK [] kvs).length ≤ sizeLine := by
    have h1 := length_mergeK kvs []
    rw [List.length_nil] at h1
    rw [sizeLine_eq]; omega
  have he : ∃ q, h'.get? s.heap.objs.size = some q := let ⟨q, _, _, hq, _⟩ := dd'; ⟨q, hq⟩
  exact d_write I2 (by rw [e]; exact True.intro) hs he (dk_new hz hd (rk.merge .nil) dd')
structure M1 (X : Cx) (o : Expr) (m : Str) (apos : Pos) (e : Expr) (cpos : Pos) : Prop where
  base : attributeBase o m X.env (eval o X.env) = eval o X.env
  few : ((backTo cpos (starEach [e] X.env)).all (fun x => !x.1) && (backToKw cpos (keywordEach [] X.env)).all (fun x => x.1.isSome)
    && decide (([e] : List Expr).length + ([] : List Keyword).length + (if ([] : List Keyword).isEmpty then 0 else 1) < 30)) = true
  line : (apos.endLine == cpos.line) = true
  trees : backTo cpos (starEach [e] X.env) = [(false, eval e X.env)]
structure M2 (X : Cx) (o : Expr) (m : Str) (apos : Pos) (e f : Expr) (cpos : Pos) : Prop where
  base : attributeBase o m X.env (eval o X.env) = eval o X.env
  few : ((backTo cpos (starEach [e, f] X.env)).all (fun x => !x.1) && (backToKw cpos (keywordEach [] X.env)).all (fun x => x.1.isSome)
    && decide (([e, f] : List Expr).length + ([] : List Keyword).length + (if ([] : List Keyword).isEmpty then 0 else 1) < 30)) = true
  line : (apos.endLine == cpos.line) = true
  trees : backTo cpos (starEach [e, f] X.env) = [(false, eval e X.env), (false, eval f X.env)]
def IsD (H : Hp) (a : Addr) : Prop := (∃ kvs, Rd H a (.dK kvs)) ∨ ∃ kvs, Rd H a (.dT kvs)
theorem isD_at {X : Cx} {pins : List (Addr × Obj)} {σ : St} {H : Hp} {s : Shared} {a : Addr} (I : Inv X pins σ H s) (d : IsD H a) :
    s.TypeIs (.ref a) "dict" ∧ (∀ b, Value.ref a = .ref b → ∃ ob, s.heap.get? b = some ob ∧ ob.dict = none) ∧ (a == sysModules) = false := by
  rcases d with ⟨kvs, e⟩ | ⟨kvs, e⟩
  · obtain ⟨_, hd, vs, _, dd⟩ := dk_rd I.hok e
    refine ⟨dd.typeIs, fun b q => ?_, hd⟩
    cases q
    obtain ⟨ob, _, _, h1, h2, _⟩ := dd
    exact ⟨ob, h1, h2.2.1⟩
  · obtain ⟨_, hd, xs, _, dd⟩ := dt_rd I.hok e
    refine ⟨dd.typeIs, fun b q => ?_, hd⟩
    cases q
    obtain ⟨ob, _, _, h1, h2, _⟩ := dd
    exact ⟨ob, h1, h2.2.1⟩
section
variable {X : Cx} {pins : List (Addr × Obj)} {σ : St} {H : Hp} {s : Shared} {a : Addr} {y d : V} {u r : Value} {o : Option V} {A : Around} {E : Value → Shared → Prop}
theorem d_get2 {Q : Value → Shared → Prop} (hu : A.units + 1 < cLine) (I : Inv X pins σ H s) (g : DGet H a y o) (ry : RelV y u) (rd : RelV d r) (h : ∀ w' s', Inv X pins σ H s' → RelV (o.getD d) w' → Q w' s') :
    wpAny (model X.prog X.w) A (call (.builtin "dict.get") [.ref a, u, r]) Q E s := by
  rcases g with ⟨kvs, k, e, ey, l⟩ | ⟨kvs, k, b, e, ey, eb, l⟩
  · subst ey
    obtain ⟨z, hd, vs, rel, dd⟩ := dk_rd I.hok e
    refine call_meetsIn PySem.F.slot_dict_get dd.typeIs PySem.F.entry_dict_get (PySem.F.args_dict_get_3 _ _ _) (meets_dict_get_default (mixKind X.prog X.w) a (kV_is ry) hd r) ⟨_, dd.mapOf, h _ _ (I.tok _) ?_⟩
    rw [l]
    exact (rel.val k).getD rd
  · subst ey
    cases (show u = Value.ref b from ry)
    obtain ⟨z, hd, xs, rel, dd⟩ := dt_rd I.hok e
    refine call_meetsIn PySem.F.slot_dict_get dd.typeIs PySem.F.entry_dict_get (PySem.F.args_dict_get_3 _ _ _) (meetsH_dict_get_default (tupleKind (mixKind X.prog X.w)) a b hd r) ⟨tupleKind_room_in1 hu, k, xs, key_of I.hok eb, dd, h _ _ (I.tok _) ?_⟩
    rw [l]
    exact (rel.val k).getD rd
end
def tDGet2 (td ty tx : TE) : TE := fun σ H Q => td σ H fun x H1 => ∃ a, x = .ref a ∧ IsD H1 a ∧ ty σ H1 fun y H2 => tx σ H2 fun z H3 => ∃ o, DGet H3 a y o ∧ Q (o.getD z) H3
section
variable {X : Cx} {o e f : Expr} {apos cpos : Pos} {td ty tx : TE}
theorem pe_dget2 (hu : X.A.units + 1 < cLine) (ho : PE X o td) (he : PE X e ty) (hf : PE X f tx) (m : M2 X o "get" apos e f cpos) : PE X (.Call (.Attribute o "get" apos) [e, f] [] cpos) (tDGet2 td ty tx) := by
  intro pins s σ H Q I h
  refine wpAny_Call_method m.base m.few m.line PySem.F.plainAttrs_dict PySem.F.slot_dict_get PySem.F.type_dict_get (thn (ho pins s σ H _ I h) fun u s1 ⟨x, H1, I1, rx, a, ex, d, q1⟩ => ?_)
  subst ex
  obtain rfl : u = Value.ref a := rx
  obtain ⟨t1, t2, _⟩ := isD_at I1 d
  refine ⟨t1, t2, ?_⟩
  rw [m.trees]
  refine Calls.callWith_builtin rfl (Calls.evalArgs_plain (Calls.spliced_cons (thn (he pins s1 σ H1 _ I1 q1) fun iv s2 ⟨y, H2, I2, ry, q2⟩ =>
    Calls.spliced_cons (thn (hf pins s2 σ H2 _ I2 q2) fun fv s3 ⟨z, H3, I3, rz, ov, g, q3⟩ => Calls.spliced_nil ?_))))
  exact d_get2 hu I3 g ry rz fun w' s4 I4 rw' => ⟨_, H3, I4, rw', q3⟩
end
section
variable {X : Cx} {pins : List (Addr × Obj)} {σ : St} {H : Hp} {s : Shared} {a : Addr} {kvs : List (Key × V)} {A : Around} {E : Value → Shared → Prop}
end
section
variable {X : Cx} {pins : List (Addr × Obj)} {σ : St} {H : Hp} {s : Shared} {a : Addr} {y : V} {u : Value} {A : Around} {E : Value → Shared → Prop}
end
end L2
namespace Att
open PySem PySem.W PySem.Calls PyProof.Rows
theorem ints_of_wellAll {P : Params} {h : Heap} : ∀ (ns : List Int) (vs : List Value), WellAll P h vs (ns.map WData.int) → IntsAre vs ns := by
  intro ns
  induction ns with
  | nil =>
    intro vs w
    rw [List.map_nil] at w
    cases w
    exact .nil
  | cons n ns ih =>
    intro vs w
    rw [List.map_cons] at w
    cases w with
    | cons a b =>
      cases a
      exact .cons _ _ (ih _ b)
theorem script_of {l : OpenLaw} {n : Nat} (hn : l.most = some n) {P : Params} {h : Heap} {args : List WData} {vals : List Value}
    (hpre : l.row.toRowW.claim.pre args = true) (hwl : WellAll P h vals args) :
    ∃ a vs ns, vals = [Value.ref a] ∧ args = [WData.list (ns.map WData.int)] ∧ h.get? a = some { cls := .type "list", data := .seq vs.toArray } ∧ IntsAre vs ns ∧ ns.length ≤ n := by
  have hsh : WShape.hasAll [] args [.list .int] = true := (pre_splitW hpre).1
  have hc : l.pre.holds [] { args := args } = true := (pre_splitW hpre).2
  obtain ⟨d, r, rfl, h1, h2⟩ := hasAllW_cons hsh
  obtain rfl := hasAllW_nil h2
  obtain ⟨xs, rfl, h3⟩ := hasW_list h1
  obtain ⟨ns, rfl⟩ := items_int h3
  have hlen : ns.length ≤ n := by
    unfold OpenLaw.pre at hc
    have h4 : (WTm.not (.lt (.lit (.int (n : Int))) (.len (.arg 0)))).holds [] { args := [.list (ns.map .int)] } = true := by
      have h4 := (holds_andW hc).1
      rw [hn] at h4
      exact h4
    have h5 := condW_of h4 (w_not (w_lt w_lit (w_len_list (w_arg rfl))))
    rw [List.length_map] at h5
    refine Nat.le_of_not_lt fun q => ?_
    have q' : (n : Int) < ((ns.length : Nat) : Int) := by omega
    first
      | (rw [decide_eq_true q'] at h5; exact absurd h5 (by decide))
      | (simp at h5; omega)
  cases hwl with
  | cons w1 w2 =>
    cases w2
    cases w1 with
    | list ho hall => exact ⟨_, _, ns, rfl, rfl, ho, ints_of_wellAll ns _ hall, hlen⟩
theorem post_true (l : OpenLaw) (args : List WData) : l.row.toRowW.claim.post args (.bool true) args = true :=
  postW_of (r := l.row.toRowW) (X := (true == true))
    (show WShape.has [] (.bool true) .bool = true by first | rfl | decide | simp [WShape.has, WShape.arms, WShape.armsAll])
    (show (WTm.eq .res (.lit (.bool true))).value [] { args := args, res := some (.bool true), after := args } = some (.bool (true == true)) from w_eq_bool (w_res rfl) w_lit) rfl
theorem attach_call {l : OpenLaw} {n : Nat} {q : Program} {loose : List Str} {XP : (Str → Option Value) → Heap → Prop} {YP : World → Heap → Prop} {d : DefRec}
    (hn : l.most = some n) (hdf : d.params.defaults = [])
    (call : ∀ (w : World) (s₀ s₁ : Shared) (mg mb : Str → Option Value) (fa : Addr) (o : Obj) (pm cd doc : Value) (a : Addr) (vs : List Value) (ns : List Int),
      Ground q loose [] XP w s₀ mg mb s₁.heap → YP w s₁.heap →
      s₁.heap.get? fa = some o → o.data = .func (docDef d.name d.params d.body d.scope pm cd doc) → s₁.heap.CodeRec cd d.name → mg d.name = some (.ref fa) →
      s₁.heap.get? a = some { cls := .type "list", data := .seq vs.toArray } → IntsAre vs ns → ns.length ≤ n → s₁.gens = #[] →
      codeAny (model l.prog w) callerA (.call (.ref fa) ⟨[.ref a], []⟩) (fun r s' => r = .ok (.ret (.bool true)) ∧ OldK s₁.heap s'.heap ∧ s'.os = s₁.os ∧ AllBare s'.gens) s₁) :
    WalkO q loose XP YP l.row.toRowW d [] (fun f vs => PySem.call f vs) := by
  intro w s₀ s₁ mg mb G Y fa o pm cd doc dV kV ho hd hcd hD hmg hg args vals as hpre hlay hrd hwl hlo
  obtain rfl : dV = .none := Dflts.none hD hdf
  obtain rfl : kV = .none := Dflts.noKw hD
  obtain ⟨a, vs, ns, rfl, rfl, hobj, hints, hlen⟩ := script_of hn hpre hwl
  refine enter_call (codeAny_mono (call w s₀ s₁ mg mb fa o pm cd doc a vs ns G Y ho (fd_plain hd) hcd hmg hobj hints hlen hg) fun r s' hq => ?_)
  obtain ⟨rfl, h2, h3, h4⟩ := hq
  exact ⟨.inl ⟨.bool true, .bool true, [], rfl, fun _ => rfl, .bool true, post_true l _, fun _ => ⟨List.Pairwise.nil, fun _ hm => (nomatch hm)⟩⟩, h2, h3, h4⟩
section
variable {prog : Program} {w : World} {A : Around} {E : Value → Shared → Prop} {s : Shared} {K : Frag}
end
end Att
namespace L2
open PySem PySem.Spec PyProof.Rows
theorem vals_ints : ∀ {vs : List Value} {ns : List Int}, IntsAre vs ns → Vals (ns.map V.int) vs
  | _, _, .nil => .nil
  | _, _, .cons n t h => .cons ⟨t, rfl⟩ (vals_ints h)
def Only (H : Hp) : Prop := ∀ b, H b = none ∨ ∃ o xs, H b = some (.frz o (.lst xs))
theorem law_call {P : Program} {w : World} {K : PySem.W.Frag} {mg mb : Str → Option Value} {CX : CXT} {k : Nat} {fa a : Addr} {fd : FuncData} {x : Str} {sp : Sp} {s₁ : Shared} {vs : List Value} {ns : List Int}
    (KX : K.In s₁.heap) (hns : s₁.heap.Ns mainGlobals mg) (hb : s₁.heap.Ns builtinsNs mb) (hbb : ∀ x : Str, x ≠ "__name__" → mb x = bootBuiltins x) (hlim : s₁.heap.NoLimit) (hg : s₁.gens = #[])
    (ha : s₁.heap.get? a = some { cls := .type "list", data := .seq vs.toArray }) (hi : IntsAre vs ns) (hl : ns.length ≤ sizeLine) (hr : Room k callerA)
    (F : ∀ base : Heap, K.In base → base.Ns mainGlobals mg → FnOk P w K mg base CX k fa fd [x] sp) (hbind : ∀ (s : Shared) (u : Value), BindsTo s fd ⟨[u], []⟩ [(x, u)])
    (hsp : ∀ H : Hp, Only H → SqL K H a (ns.map V.int) → sp [.ref a] H (fun v _ => v = .bl true) fun _ _ _ => False)
    (hCX : ∀ H e s', CX [] H s₁ (fun _ _ _ => False) e s' → False) :
    codeAny (model P w) callerA (.call (.ref fa) ⟨[.ref a], []⟩) (fun r s' => r = .ok (.ret (.bool true)) ∧ OldK s₁.heap s'.heap ∧ s'.os = s₁.os ∧ AllBare s'.gens) s₁ := by
  have rv := vals_ints hi
  have lenV := hi.length
  -- from an abstract heap in which nothing but the script may be tracked
  have core : ∀ H : Hp, Only H → SqL K H a (ns.map V.int) → HOk P w H s₁.heap → (∀ b, H b ≠ none → b = a) → (H a ≠ none → K.lookup a = none) →
      codeAny (model P w) callerA (.call (.ref fa) ⟨[.ref a], []⟩) (fun r s' => r = .ok (.ret (.bool true)) ∧ OldK s₁.heap s'.heap ∧ s'.os = s₁.os ∧ AllBare s'.gens) s₁ := by
    intro H hO hS hok hA hK
    have base_of : ∀ {b : Addr} {o : Obj}, s₁.heap.get? b = some o → H b = none → (hidT s₁.heap H).get? b = some o := fun e n => hidT_get e n
    have noA : ∀ {b : Addr} {o : Obj} {es : Array DictEntry} {ep : Nat}, s₁.heap.get? b = some o → o.data = .dict es ep → H b = none := fun {b o es ep} e d => by
      cases q : H b with
      | none => rfl
      | some u =>
        have e' : b = a := hA b (by rw [q]; simp)
        subst e'
        rw [ha] at e; cases e
        have d' : Data.seq vs.toArray _ = Data.dict es ep := d
        cases d'
    have nsK : ∀ {b : Addr} {m : Str → Option Value}, s₁.heap.Ns b m → (hidT s₁.heap H).Ns b m := fun {b m} ⟨o, es, ep, e, d, r⟩ => ⟨o, es, ep, base_of e (noA e d), d, r⟩
    have hKb : K.In (hidT s₁.heap H) := fun b o e => base_of (KX b o e) (by
      cases q : H b with
      | none => rfl
      | some u =>
        have e' : b = a := hA b (by rw [q]; simp)
        subst e'
        rw [hK (by rw [q]; simp)] at e; cases e)
    have hM : Mod K mg (hidT s₁.heap H) := ⟨hKb, nsK hns, ⟨mb, nsK hb, hbb⟩, let ⟨mc, h1, h2⟩ := hlim; ⟨mc, nsK h1, h2⟩⟩
    have e0 : Env0 P w K mg (hidT s₁.heap H) callerA [] s₁ H := ⟨rfl, hM, fun b o e => of_hidT e, Nat.le_of_eq (hidT_size _ _), trivial, fun b hb => absurd (show b ∈ ([] : List Addr) from hb) (by simp), hok, .of_eq hg⟩
    refine codeAny_mono ((F _ hKb (nsK hns)).run callerA [] s₁ H ⟨[.ref a], []⟩ [.ref a] [.ref a] _ _ hr e0 (hbind s₁ (.ref a)) (.cons rfl .nil) (hsp H hO hS)) fun r s' h => ?_
    cases r with
    | error e => exact (hCX H e s' h).elim
    | ok fl =>
      cases fl with
      | next => exact False.elim h
      | brk => exact False.elim h
      | cont => exact False.elim h
      | ret u =>
        obtain ⟨v, H', os, bare, un, hok', r', q⟩ := h
        have q' : v = .bl true := q
        subst q'
        obtain rfl : u = Value.bool true := r'
        refine ⟨rfl, OldK.of_keep fun b o e => ?_, os, bare⟩
        cases q : H b with
        | none => exact un.keep b o e q (by intro z; exact absurd (show b ∈ ([] : List Addr) from z) (by simp)) (by simp)
        | some u =>
          rcases hO b with z | ⟨ob, xs, z⟩
          · rw [q] at z; cases z
          · have z2 := un.frzs b ob _ z
            obtain ⟨e1, _⟩ := hok b _ z
            obtain ⟨e2, _⟩ := hok' b _ z2
            rw [e] at e1; cases e1
            exact e2
  cases hk : K.lookup a with
  | some o =>
    -- the script is one of the module's own objects
    have e := KX a o hk
    rw [ha] at e
    cases e
    refine core (fun _ => none) (fun _ => .inl rfl) (.inr ⟨_, vs.toArray, _, hk, rfl, rfl, rfl, by rw [List.size_toArray, lenV]; exact hl, by simpa using rv⟩) (fun b u z => by have z' : (none : Option HO) = some u := z; cases z') (fun b z => absurd rfl z) fun z => absurd rfl z
  | none =>
    refine core (fun b => if b = a then some (.frz { cls := .type "list", data := .seq vs.toArray } (.lst (ns.map V.int))) else none) (fun b => ?_) (.inl (.inr ⟨{ cls := .type "list", data := .seq vs.toArray }, if_pos rfl⟩)) (fun b u z => ?_) (fun b z => ?_) fun _ => hk
    · by_cases hb : b = a
      · exact .inr ⟨_, _, if_pos hb⟩
      · exact .inl (if_neg hb)
    · by_cases hb : b = a
      · have z' := (if_pos hb).symm.trans z
        cases z'
        subst hb
        exact ⟨ha, by rw [List.length_map]; exact hl, vs, _, rv, ha⟩
      · have z' := (if_neg hb).symm.trans z
        cases z'
    · by_cases hb : b = a
      · exact hb
      · exact absurd (if_neg hb) z
end L2
namespace L2
open PySem PySem.Spec PyProof.Rows
abbrev KOf {K : PySem.W.Frag} {h : Heap} (_ : K.In h) : PySem.W.Frag := K
theorem walk_of {l : PySem.W.OpenLaw} {n k : Nat} {q : Program} {loose : List Str} {XP : (Str → Option Value) → Heap → Prop} {YP : World → Heap → Prop} {d : DefRec} {K : Params → PySem.W.Frag} {CX : World → CXT} {sp : World → Sp} {x : Str}
    (hn : l.most = some n) (hn2 : n ≤ sizeLine) (hdf : d.params.defaults = []) (hr : Room k callerA)
    (hY : ∀ (w : World) (h : Heap), YP w h → (K w.params).In h)
    (F : ∀ (w : World) (mg : Str → Option Value) (fa : Addr) (h : Heap), (K w.params).In h → h.Ns mainGlobals mg → mg d.name = some (.ref fa) →
      ∃ fd : FuncData, (∀ (s : Shared) (u : Value), BindsTo s fd ⟨[u], []⟩ [(x, u)]) ∧
        ∀ base : Heap, (K w.params).In base → base.Ns mainGlobals mg → FnOk l.prog w (K w.params) mg base (CX w) k fa fd [x] (sp w))
    (hsp : ∀ (w : World) (H : Hp) (a : Addr) (ns : List Int), ns.length ≤ n → Only H → SqL (K w.params) H a (ns.map V.int) → sp w [.ref a] H (fun v _ => v = .bl true) fun _ _ _ => False)
    (hCX : ∀ (w : World) (H : Hp) (s : Shared) (e : Value) (s' : Shared), CX w [] H s (fun _ _ _ => False) e s' → False) :
    PySem.W.WalkO q loose XP YP l.row.toRowW d [] (fun f vs => PySem.call f vs) := by
  refine Att.attach_call hn hdf fun w s₀ s₁ mg mb fa o pm cd doc a vs ns G Y ho hd hcd hmg hobj hints hlen hg => ?_
  have KX := hY w _ Y
  obtain ⟨fd, hb, hF⟩ := F w mg fa _ KX G.T.g hmg
  exact law_call KX G.T.g G.T.b G.T.builtins G.T.nolimit hg hobj hints (Nat.le_trans hlen hn2) hr hF hb (fun H hO hS => hsp w H a ns hlen hO hS) fun H e s' => hCX w H s₁ e s'
end L2
/- THE LAST THEOREM (shape; LID, My.* are yours):
   My.Adr: a structure of the addresses that your layer names (classes, functions); My.Txt K t: a structure (Prop) of the equations over K;
   My.txt_mk : {K} {implicit addresses ..} (e1 : nsIn K mainGlobals "law" = some (some (.ref f))) (e2 : K.lookup f = some ⟨oc, od, .func (fnOf "law" "law" params body scope dV kV doc pm an cdv ct), sl⟩) (e3 : codeIn K cdv "law" = true) .. : ∃ t, My.Txt K t
set_option maxRecDepth 100000 in
set_option maxHeartbeats 0 in
theorem PySem.Challenge.cw_LID_holds : PySem.Challenge.rw_LID.Holds := by
  w_on; o_law; k_head; (case hw => w_witness2)
  k_fill
  refine L2.walk_of (l := PySem.Challenge.rw_LID) (n := 63) (k := 40) (x := "script") (CX := fun w => ..) (sp := fun _ => My.sp_law) rfl (by decide) rfl ⟨rfl, by decide, by decide⟩ (fun w h Y => PySem.W.kIn_of Y) ?F ?S ?C
  case F =>
    intro w mg fa h KX G hmg
    have T : ∃ t, My.Txt (L2.KOf KX) t := by
      dsimp only [L2.KOf]                          -- K must stand as «<heap const> w.params» for k_is
      refine' My.txt_mk ?e1 ?e2 ?e3 ..
      (case e1 => PySem.W.k_is)                    -- in the order: a name -> its address -> its object -> its parts
      (case e2 => PySem.W.k_is)
      ..
    obtain ⟨t, T⟩ := T
    have e0 := hmg.symm.trans (PySem.W.mg_of KX G T.law)
    cases e0                                       -- fa is the law's own address
    exact ⟨_, fun s u => .of_eq rfl, fun base kb nb => My.law_fn T kb nb⟩     -- if «.of_eq rfl» comes too early: refine' ⟨_, ?b, fun base kb nb => My.law_fn T kb nb⟩; exact fun s u => .of_eq rfl
  case S => exact fun w H a ns hl hO hS => ..
  case C => exact ..
(the tactic k_is has no namespace: write k_is) -/
namespace L2
open PySem PySem.Spec PyProof.Rows
def inClass (s : Stmt) (j : Nat) : Stmt := match s with
  | .ClassDef _ _ _ body _ _ _ _ _ _ _ => body.getD j (.Pass ⟨0, 0, 0, 0⟩)
  | _ => .Pass ⟨0, 0, 0, 0⟩
def defArgs (s : Stmt) : Arguments := match s with
  | .FunctionDef _ a _ _ _ _ _ _ _ _ => a
  | _ => { posonlyargs := [], args := [], vararg := none, kwonlyargs := [], kw_defaults := [], kwarg := none, defaults := [] }
def defBody (s : Stmt) : List Stmt := match s with
  | .FunctionDef _ _ b _ _ _ _ _ _ _ => b
  | _ => []
def defScope (s : Stmt) : Scope := match s with
  | .FunctionDef _ _ _ _ _ _ sc _ _ _ => sc
  | _ => { kind := .function, names := [], isGenerator := false, isCoroutine := false }
abbrev CX0 : CXT := fun _ _ _ _ _ _ => False
abbrev E0 : XK := fun _ _ _ => False
theorem pass0 {X : Cx} : Passes CX0 X E0 := fun _ _ _ _ _ _ _ h => h.elim
structure Fun (K : PySem.W.Frag) (x qual : Str) (st : Stmt) (f : Addr) (fd : FuncData) : Prop where
  ex : ∃ (oc : Value) (od : Option Addr) (kV doc pm : Value) (an : Option Addr) (cdv ct : Value) (osl : Array (Option Value)),
    fd = PySem.W.fnOf x qual (defArgs st) (defBody st) (defScope st) .none kV doc pm an cdv ct ∧ K.lookup f = some ⟨oc, od, .func fd, osl⟩ ∧ PySem.W.codeIn K cdv qual = true
  kp : PySem.W.keepIn K (.ref f) = true
section
variable {P : Program} {w : World} {K : PySem.W.Frag} {mg : Str → Option Value} {base : Heap}
theorem Fun.ok {x qual : Str} {st : Stmt} {f : Addr} {fd : FuncData} {N ps : List Str} {k : Nat} {sp : Sp} (F : Fun K x qual st f fd) (S : FnScope N ps (defScope st)) (len : ∀ vs H Q E, sp vs H Q E → vs.length = ps.length)
    (hbody : ∀ (cdv : Value) (A : Around) (outer : List Env) (s : Shared) (H : Hp) (vs : List V) (Q : VK) (E : XK), Room k (A.deeper (envOfC qual (defScope st) s.heap.objs.size f cdv)) → sp vs H Q E →
      ∃ t, PSs (cxOf CX0 P w K mg base N qual (defScope st) f cdv A outer s H E).nox (defBody st) t ∧ t { nx := fun _ H' => Q .non H', rt := Q } (start N vs) H) : FnOk P w K mg base CX0 (k + 1) f fd ps sp := by
  obtain ⟨oc, od, kV, doc, pm, an, cdv, ct, osl, rfl, lk, hcd⟩ := F.ex
  refine fn_of lk hcd S len fun A outer s H vs Q E hr hsp => ?_
  obtain ⟨t, h, q⟩ := hbody cdv A outer s H vs Q E hr hsp
  exact ⟨t, h.nox, q⟩
theorem Fun.binds {x qual : Str} {st : Stmt} {f : Addr} {fd : FuncData} {ps : List Str} (F : Fun K x qual st f fd)
    (h : ∀ (kV doc pm : Value) (an : Option Addr) (cdv ct : Value) (us : List Value), us.length = ps.length → bindArgs (PySem.W.fnOf x qual (defArgs st) (defBody st) (defScope st) .none kV doc pm an cdv ct) ⟨us, []⟩ = pure (ps.zip us)) : Binds K fd ps [] := by
  obtain ⟨oc, od, kV, doc, pm, an, cdv, ct, osl, rfl, lk, hcd⟩ := F.ex
  exact .all (h kV doc pm an cdv ct)
theorem fun_mk {x qual : Str} {st : Stmt} {f : Addr} {oc : Value} {od an : Option Addr} {osl : Array (Option Value)} {kV doc pm cdv ct : Value} (l : K.lookup f = some ⟨oc, od, .func (PySem.W.fnOf x qual (defArgs st) (defBody st) (defScope st) .none kV doc pm an cdv ct), osl⟩)
    (c : PySem.W.codeIn K cdv qual = true) (k : PySem.W.keepIn K (.ref f) = true) : Fun K x qual st f (PySem.W.fnOf x qual (defArgs st) (defBody st) (defScope st) .none kV doc pm an cdv ct) := ⟨⟨oc, od, kV, doc, pm, an, cdv, ct, osl, rfl, l, c⟩, k⟩
end
section
variable {X : Cx}
theorem pv (i : Nat) {x : Str} {pos : Pos} (hN : X.N[i]? = some x := by rfl) (hv : Vis X.env.scope x := by first | exact Or.inl rfl | exact Or.inr (Or.inl rfl) | exact Or.inr (Or.inr rfl)) (hd : (x == ("__debug__" : Str)) = false := by decide)
    (hcd : (x == ("__classdict__" : Str)) = false := by decide) : PE X (.Name x pos) (tVar i) := pe_var hN hv hd hcd
end
theorem iteF {A B : Prop} (h : B) : if false = true then A else B := by
  rw [if_neg Bool.false_ne_true]
  exact h
theorem iteT {A B : Prop} (h : A) : if true = true then A else B := by
  rw [if_pos rfl]
  exact h
def Same (H H' : Hp) : Prop := ∀ b o, H b = some o → H' b = some o
theorem Same.refl (H : Hp) : Same H H := fun _ _ h => h
theorem Same.trans {H H1 H2 : Hp} (a : Same H H1) (b : Same H1 H2) : Same H H2 := fun c o h => b c o (a c o h)
theorem Same.free {H H' : Hp} (e : Same H H') {l : Addr} (h : H' l = Option.none) : H l = Option.none := by
  cases q : H l with
  | none => rfl
  | some o =>
    rw [e l o q] at h
    cases h
theorem Same.seq {K : PySem.W.Frag} {H H' : Hp} {a : Addr} {xs : List V} (e : Same H H') (h : SqL K H a xs) : SqL K H' a xs := by
  rcases h with (h | ⟨o, h⟩) | h
  · exact .inl (.inl (e _ _ h))
  · exact .inl (.inr ⟨o, e _ _ h⟩)
  · exact .inr h
section
variable {κ : Type} [DecidableEq κ]
end
end L2
set_option Elab.async false
set_option linter.all false
set_option maxRecDepth 100000
set_option maxHeartbeats 4000000
namespace L2
open PySem PySem.Spec PyProof.Rows
def Its (x : Str) : It := ⟨fun i _ => i < x.cps.size, fun i H v H' => H' = H ∧ ∃ c, x.cps[i]? = some c ∧ v = .str ⟨#[c]⟩, fun i _ => i = x.cps.size⟩
theorem turn_str {P : Program} {w : World} {K : PySem.W.Frag} {tg : Expr} {ty : String} (it : Addr) (x : Str) (t : Tok)
    (W : ∀ A : Around, A.handled = none → Walks P w A it [it] [it] x.cps.size (SignAt x) (fun i h => h.IsStrIter it ty x t i))
    (hself : ∀ (A : Around) (i : Nat) (s : Shared) (Q : Value → Shared → Prop) (E : Value → Shared → Prop), s.heap.IsStrIter it ty x t i → Q (.ref it) s → wpAny (model P w) A (pyIter (.ref it)) Q E s)
    (hty : ["enumerate", "zip", "dict_itemiterator", "dict_reverseitemiterator", "odict_iterator", "itertools.zip_longest", "itertools.pairwise"].contains ty = false) :
    Turn P w K tg (Its x) [it] it (fun i h => h.IsStrIter it ty x t i) where
  mem := by simp
  obj := fun i h st b hb => by
    have e : b = it := by simpa using hb
    subst e
    obtain ⟨o, e, c, d⟩ := st
    exact ⟨o, e, fun v z => by rw [d] at z; cases z⟩
  keep := fun i h h' st k => by
    obtain ⟨o, e, r⟩ := st
    exact ⟨o, k it (by simp) o e, r⟩
  item := by
    intro X hP hw hK hc i pins s σ H E I hf st hg
    subst hP hw hK
    obtain ⟨f0, f1, f2, f3, f4, f5⟩ := hf it (by simp)
    refine (W X.A (I.ok.hd hc)).item i s _ _ hg st fun v h' tk hv st' kk => ?_
    obtain ⟨c, u, hcx, rfl⟩ := hv
    have I1 : Inv X pins σ H { s with heap := h', toks := tk } := I.turned (fun b o hb e => kk b o (by simpa using hb) e) f0 f1 f3 f4 f5
    obtain ⟨o, e, cc, d⟩ := id st'
    exact ⟨_, rfl, go_of (s := { s with heap := h', toks := tk }) e cc d hty ⟨.str ⟨#[c]⟩, H, I1, ⟨u, rfl⟩, ⟨rfl, c, hcx, rfl⟩, st', fun b hb => (hf b hb).1⟩⟩
  done := by
    intro X hP hw hK hc i pins s σ H E I hf st hg
    subst hP hw hK
    obtain ⟨f0, f1, f2, f3, f4, f5⟩ := hf it (by simp)
    have hg' : i = x.cps.size := hg
    subst hg'
    exact (W X.A (I.ok.hd hc)).done s _ _ st fun h' tk kk => ⟨rfl, I.turned (fun b o hb e => kk b o (by simpa using hb) e) f0 f1 f3 f4 f5⟩
  self := hself
section
variable {X : Cx} {tg : Expr}
def iStr (ts : TE) : TI := fun σ H R => ts σ H fun v H1 => ∃ x, v = .str x ∧ R (Its x) H1
theorem pi_str {l : Expr} {tl : TE} (hl : PE X l tl) : PI X tg l (iStr tl) := by
  intro pins s σ H R I h
  refine thn (hl pins s σ H _ I h) fun v s1 ⟨x, H1, I1, r1, q1⟩ => ?_
  obtain ⟨z, e, q⟩ := q1
  subst e
  obtain ⟨t, rfl⟩ := r1
  cases ha : z.cps.all (· < 128)
  · refine wpAny_pyIter_wide ha ?_
    refine ⟨s1.heap.objs.size, [s1.heap.objs.size], _, _, H1, rfl, I1.kept (t' := s1.toks) fun b o e => Heap.get?_push_of_some _ e, turn_str _ z t (fun A hA => Walks.strWide hA _ z t) (fun _ _ _ _ _ st h => wpAny_pyIter_striter_wide st h) (by decide), ⟨_, Heap.get?_push_size _ rfl, rfl, rfl⟩, fun b hb => ?_, q⟩
    have e : b = s1.heap.objs.size := by simpa using hb
    subst e
    exact I1.fpOk (Nat.le_refl _) (I1.hok.fresh (Nat.le_refl _))
  · refine wpAny_pyIter_ascii ha ?_
    refine ⟨s1.heap.objs.size, [s1.heap.objs.size], _, _, H1, rfl, I1.kept (t' := s1.toks) fun b o e => Heap.get?_push_of_some _ e, turn_str _ z t (fun A hA => Walks.strAscii hA _ z t) (fun _ _ _ _ _ st h => wpAny_pyIter_striter_ascii st h) (by decide), ⟨_, Heap.get?_push_size _ rfl, rfl, rfl⟩, fun b hb => ?_, q⟩
    have e : b = s1.heap.objs.size := by simpa using hb
    subst e
    exact I1.fpOk (Nat.le_refl _) (I1.hok.fresh (Nat.le_refl _))
end
def closL (cells : List (Str × Addr)) : List (Str × NameKind) → List (Str × Addr) → List (Str × Addr)
  | [], cs => cs
  | (n, k) :: r, cs => closL cells r (if k == .free then (match cells.lookup n with | some a => (n, a) :: cs | none => cs) else cs)
theorem closureFor_eq {scope : Scope} {env : Env} (h : ∀ n, (n, NameKind.free) ∈ scope.names → ∃ c, env.cells.lookup n = some c) : closureFor scope env = pure (closL env.cells scope.names []) := by
  unfold closureFor
  have go : ∀ (l : List (Str × NameKind)) (cs : List (Str × Addr)), (∀ n, (n, NameKind.free) ∈ l → ∃ c, env.cells.lookup n = some c) →
      (forIn l cs fun x r => if (x.2 == NameKind.free) = true then do let a ← cellOf env x.1; pure (ForInStep.yield ((x.1, a) :: r)) else pure (ForInStep.yield r) : Sem (List (Str × Addr))) = pure (closL env.cells l cs) := by
    intro l
    induction l with
    | nil => intro cs _; rfl
    | cons x r ih =>
      intro cs hl
      obtain ⟨n, k⟩ := x
      rw [List.forIn_cons]
      have hr : ∀ n, (n, NameKind.free) ∈ r → ∃ c, env.cells.lookup n = some c := fun y hy => hl y (List.mem_cons_of_mem _ hy)
      by_cases hk : k = .free
      · subst hk
        obtain ⟨c, hc⟩ := hl n List.mem_cons_self
        have e : cellOf env n = pure c := by unfold cellOf; rw [hc]
        simp only [beq_self_eq_true, if_true, e, pure_bind, closL, hc]
        exact ih _ hr
      · have hb : (k == NameKind.free) = false := by simpa using hk
        simp only [hb, Bool.false_eq_true, if_false, pure_bind, closL]
        exact ih _ hr
  have q := go scope.names [] h
  simp only [bind_pure]
  exact q
theorem closL_mem (cells : List (Str × Addr)) : ∀ (l : List (Str × NameKind)) (cs : List (Str × Addr)) (p : Str × Addr), p ∈ closL cells l cs → p ∈ cs ∨ (cells.lookup p.1 = some p.2 ∧ (p.1, NameKind.free) ∈ l)
  | [], cs, p, h => .inl h
  | (n, k) :: r, cs, p, h => by
    unfold closL at h
    rcases closL_mem cells r _ p h with q | ⟨q1, q2⟩
    · by_cases hk : k = .free
      · subst hk
        simp only [beq_self_eq_true, if_true] at q
        cases e : cells.lookup n with
        | none => rw [e] at q; exact .inl q
        | some a =>
          rw [e] at q
          rcases List.mem_cons.mp q with rfl | q
          · exact .inr ⟨e, List.mem_cons_self⟩
          · exact .inl q
      · have hb : (k == NameKind.free) = false := by simpa using hk
        simp only [hb, Bool.false_eq_true, if_false] at q
        exact .inl q
    · exact .inr ⟨q1, List.mem_cons_of_mem _ q2⟩
theorem closL_sub (cells : List (Str × Addr)) : ∀ (l : List (Str × NameKind)) (cs : List (Str × Addr)) (p : Str × Addr), p ∈ cs → p ∈ closL cells l cs
  | [], _, _, h => h
  | (n, k) :: r, cs, p, h => by
    unfold closL
    refine closL_sub cells r _ p ?_
    split
    · split
      · exact List.mem_cons_of_mem _ h
      · exact h
    · exact h
theorem closL_has (cells : List (Str × Addr)) {x : Str} {c : Addr} (hc : cells.lookup x = some c) : ∀ (l : List (Str × NameKind)) (cs : List (Str × Addr)), (x, NameKind.free) ∈ l → (x, c) ∈ closL cells l cs
  | (n, k) :: r, cs, h => by
    unfold closL
    rcases List.mem_cons.mp h with e | h
    · cases e
      refine closL_sub cells r _ _ ?_
      simp only [beq_self_eq_true, if_true, hc]
      exact List.mem_cons_self
    · exact closL_has cells hc r _ h
theorem lookup_of_mem {x : Str} {c : Addr} : ∀ {l : List (Str × Addr)}, (x, c) ∈ l → ∃ c', l.lookup x = some c'
  | (y, d) :: r, h => by
    by_cases e : x = y
    · subst e; exact ⟨d, by simp [List.lookup_cons]⟩
    · have hb : (x == y) = false := by simpa using e
      rw [List.lookup_cons, hb]
      rcases List.mem_cons.mp h with q | q
      · cases q; exact absurd rfl e
      · exact lookup_of_mem q
theorem closL_look {cells : List (Str × Addr)} {l : List (Str × NameKind)} {x : Str} {c : Addr} (h : (closL cells l []).lookup x = some c) : cells.lookup x = some c ∧ (x, NameKind.free) ∈ l := by
  rcases closL_mem cells l [] (x, c) (PySem.mem_of_lookup h) with q | q
  · cases q
  · exact q
theorem closL_of {cells : List (Str × Addr)} {l : List (Str × NameKind)} {x : Str} {c : Addr} (hc : cells.lookup x = some c) (h : (x, NameKind.free) ∈ l) : (closL cells l []).lookup x = some c := by
  obtain ⟨c', e⟩ := lookup_of_mem (closL_has cells hc l [] h)
  rw [e, ← hc, (closL_look e).1]
end L2
set_option Elab.async false
set_option linter.all false
set_option maxRecDepth 100000
set_option maxHeartbeats 4000000
namespace L2
open PySem PySem.Spec PyProof.Rows
def PFs (X : Cx) (ifs : List Expr) (t : TT) : Prop :=
  ∀ (pins : List (Addr × Obj)) (s : Shared) (σ : St) (H : Hp) (Q : Bool → Hp → Prop), Inv X pins σ H s → t σ H Q →
    wpAny (model X.prog X.w) X.A (forIn ifs true fun c r => if r = true then do let ok ← isTrue c X.env (eval c X.env); pure (ForInStep.yield ok) else pure (ForInStep.yield r)) (TP X pins σ Q) X.xe s
def tYes : TT := fun _ H Q => Q true H
theorem pf_nil {X : Cx} : PFs X [] tYes := fun _ _ _ H _ I h => wpAny_tests_nil ⟨H, I, h⟩
theorem pf_one {X : Cx} {c : Expr} {t : TT} (h : PT X c t) : PFs X [c] t := fun pins s σ H Q I hw => wpAny_tests_one (h pins s σ H Q I hw)
def cxComp (X : Cx) (N : List Str) (scope : Scope) (cl : List (Str × Addr)) (C : Addr) (ex : List Addr) (s : Shared) (H : Hp) : Cx where
  prog := X.prog
  w := X.w
  K := X.K
  mg := X.mg
  base := X.base
  A := X.A
  N := N
  s₀ := s
  H₀ := H
  env := compEnvC scope cl C X.env
  outer := X.stack
  stack := X.stack
  ex := ex
  fn := fun _ => false
  calm := true
  pn := []
  xe := fun _ _ => False
structure CompOk (N : List Str) (psc scope : Scope) (caps : List Nat) (x : Str) (M : List Str) : Prop where
  kind : scope.kind = .function
  nocell : ∀ y ∈ scope.names, y.2 ≠ .cell
  names : ∀ y ∈ scope.names, y.2 = .local → scope.names.lookup y.1 = some .local
  var : scope.names.lookup x = some .local
  free : ∀ y ∈ scope.names, y.2 = .free → psc.names.lookup y.1 = some .cell ∨ psc.names.lookup y.1 = some .free
  inN : M = x :: caps.map fun i => N.getD i ""
  cap : ∀ i ∈ caps, i < N.length ∧ scope.names.lookup (N.getD i "") = some .free
  nd : M.Nodup
def compChk (N : List Str) (psc scope : Scope) (caps : List Nat) (x : Str) (M : List Str) : Bool :=
  decide (scope.kind = .function) && decide (∀ y ∈ scope.names, y.2 ≠ .cell) && decide (∀ y ∈ scope.names, y.2 = .local → scope.names.lookup y.1 = some .local) && decide (scope.names.lookup x = some .local)
    && decide (∀ y ∈ scope.names, y.2 = .free → psc.names.lookup y.1 = some .cell ∨ psc.names.lookup y.1 = some .free) && decide (M = x :: caps.map fun i => N.getD i "")
    && decide (∀ i ∈ caps, i < N.length ∧ scope.names.lookup (N.getD i "") = some .free) && decide M.Nodup
theorem CompOk.of {N : List Str} {psc scope : Scope} {caps : List Nat} {x : Str} {M : List Str} (h : compChk N psc scope caps x M = true) : CompOk N psc scope caps x M := by
  unfold compChk at h
  simp only [Bool.and_eq_true] at h
  obtain ⟨⟨⟨⟨⟨⟨⟨a, b⟩, c⟩, d⟩, e⟩, f⟩, g⟩, i⟩ := h
  exact ⟨of_decide_eq_true a, of_decide_eq_true b, of_decide_eq_true c, of_decide_eq_true d, of_decide_eq_true e, of_decide_eq_true f, of_decide_eq_true g, of_decide_eq_true i⟩
def capS (caps : List Nat) (σ : St) : St := caps.map fun i => (σ[i]?).getD none
def tComp (caps : List Nat) (wi : TI) (tt : TT) (te : TE) : TE := fun σ H Q => wi σ H fun J H1 => ∃ W : Nat → Nat → List V → Hp → Prop, (∃ m, W 0 m [] H1) ∧
  ∀ i m acc H, W i m acc H → (J.stop i H ∧ ∀ D, H D = none → Q (.ref D) (upd H D (.lst acc))) ∨
    (J.go i H ∧ acc.length < sizeLine ∧ ∀ v H', J.yld i H v H' → tt (some v :: capS caps σ) H' fun b H2 => if b = true then te (some v :: capS caps σ) H2 fun y H3 => ∃ m', m' < m ∧ W (i + 1) m' (acc ++ [y]) H3 else ∃ m', m' < m ∧ W (i + 1) m' acc H2)
theorem HOk.adopt {P : Program} {w : World} {H : Hp} {h : Heap} {a : Addr} {o : HO} (x : HOk P w H h) (hn : H a = none) (new : ObjOk P w (upd H a o) h a o) : HOk P w (upd H a o) h := fun b u e => by
  by_cases hb : b = a
  · subst hb; rw [upd_same] at e; cases e; exact new
  · rw [upd_ne hb] at e
    exact (x b u e).stay (fun c v _ q => q) (fun c q => by rw [upd_ne (ne_of_none q hn)]; exact q) fun c xs q => by rw [upd_ne (ne_of_none q hn)]; exact q
theorem relabel_free {env : Env} {x : Str} : ∀ {names : List (Str × NameKind)}, (∀ y ∈ names, y.2 ≠ .cell) → ∀ {k : NameKind},
    (names.map fun (n, k) => if (k == NameKind.free && env.scope.kind == .function && env.kindOf n == some .cell) then (n, NameKind.cell) else (n, k)).lookup x = some k → k = .cell ∨ k = .free → (x, NameKind.free) ∈ names
  | [], _, _, h, _ => by simp at h
  | (n, k0) :: r, hn, k, h, hk => by
    have ih := @relabel_free env x r (fun y hy => hn y (List.mem_cons_of_mem _ hy)) k
    rw [List.map_cons] at h
    by_cases hc : (k0 == NameKind.free && env.scope.kind == .function && env.kindOf n == some .cell) = true
    · have h2 : List.lookup x ((n, NameKind.cell) :: r.map fun (n, k) => if (k == NameKind.free && env.scope.kind == .function && env.kindOf n == some .cell) then (n, NameKind.cell) else (n, k)) = some k := by
        have q := h
        simp only [hc, if_true] at q
        exact q
      have hf : k0 = .free := by
        have z : (k0 == NameKind.free) = true := by
          cases e : (k0 == NameKind.free) with
          | true => rfl
          | false => rw [e] at hc; simp at hc
        simpa using z
      by_cases e : x = n
      · subst e; subst hf; exact List.mem_cons_self
      · have hb : (x == n) = false := by simpa using e
        rw [List.lookup_cons, hb] at h2
        exact List.mem_cons_of_mem _ (ih h2 hk)
    · have h2 : List.lookup x ((n, k0) :: r.map fun (n, k) => if (k == NameKind.free && env.scope.kind == .function && env.kindOf n == some .cell) then (n, NameKind.cell) else (n, k)) = some k := by
        have q := h
        simp only [hc, if_false] at q
        exact q
      by_cases e : x = n
      · subst e
        rw [List.lookup_cons, beq_self_eq_true] at h2
        have e2 : k0 = k := Option.some.inj h2
        subst e2
        rcases hk with z | z
        · exact absurd z (hn (x, k0) List.mem_cons_self)
        · subst z; exact List.mem_cons_self
      · have hb : (x == n) = false := by simpa using e
        rw [List.lookup_cons, hb] at h2
        exact List.mem_cons_of_mem _ (ih h2 hk)
theorem relabel_look {env : Env} {x : Str} : ∀ {names : List (Str × NameKind)}, names.lookup x = some .free →
    (names.map fun (n, k) => if (k == NameKind.free && env.scope.kind == .function && env.kindOf n == some .cell) then (n, NameKind.cell) else (n, k)).lookup x = some .cell ∨
    (names.map fun (n, k) => if (k == NameKind.free && env.scope.kind == .function && env.kindOf n == some .cell) then (n, NameKind.cell) else (n, k)).lookup x = some .free
  | [], h => by simp at h
  | (n, k) :: r, h => by
    have ih := @relabel_look env x r
    show List.lookup x ((if (k == NameKind.free && env.scope.kind == .function && env.kindOf n == some .cell) = true then (n, NameKind.cell) else (n, k)) :: _) = _ ∨ List.lookup x ((if (k == NameKind.free && env.scope.kind == .function && env.kindOf n == some .cell) = true then (n, NameKind.cell) else (n, k)) :: _) = _
    by_cases hc : (k == NameKind.free && env.scope.kind == .function && env.kindOf n == some .cell) = true
    · rw [if_pos hc]
      cases hx : x == n with
      | true => left; simp [List.lookup_cons, hx]
      | false =>
        simp only [List.lookup_cons, hx] at h ⊢
        exact ih h
    · rw [if_neg hc]
      cases hx : x == n with
      | true =>
        simp only [List.lookup_cons, hx] at h
        right; simp [List.lookup_cons, hx, h]
      | false =>
        simp only [List.lookup_cons, hx] at h ⊢
        exact ih h
theorem compLoop_own {prog : Program} {w : World} {A : Around} {R : Result → Shared → Prop} {s : Shared} {elt target iter : Expr} {ifs : List Expr} {scope : Scope} {pos : Pos} {it acc : Value} {env : Env} (I : Nat → Shared → Prop)
    (turn : ∀ n s, I n s → wpAny (model prog w) A (pyNext it) (fun r s₁ => match r with
      | none => R (.ok .next) s₁
      | some v => wpAny (model prog w) A (letOwnedTupleGo target it v) (fun _ s₂ => wpAny (model prog w) A (assign target env v) (fun _ s₃ =>
          wpAny (model prog w) A (forIn ifs true fun c r => if r = true then do let ok ← isTrue c env (eval c env); pure (ForInStep.yield ok) else pure (ForInStep.yield r)) (fun ok s₄ =>
            if ok = true then wpAny (model prog w) A (eval elt env) (fun x s₅ =>
              wpAny (model prog w) A (call (.builtin "list.append") [acc, x]) (fun _ s₆ => ∃ m, m < n ∧ I m s₆) (fun _ _ => False) s₅) (fun _ _ => False) s₄
            else ∃ m, m < n ∧ I m s₄) (fun _ _ => False) s₃) (fun _ _ => False) s₂) (fun _ _ => False) s₁) (fun _ _ => False) s)
    (n : Nat) (h : I n s) :
    codeAny (model prog w) A (.compLoop (.ListComp elt [⟨target, iter, ifs, 0⟩] scope pos) 0 it acc env) R s := by
  refine codeAny_loop rfl I (fun n s hI => ?_) n h
  show wpAny _ A ((compTurn (.ListComp elt [⟨target, iter, ifs, 0⟩] scope pos) 0 it acc env).onRaise (fun x => do noteFrame x env; theTreesLotGoes x)) _ _ s
  refine wpAny_noted ?_
  rw [compTurn_list]
  refine wpAny_bind (wpAny_standAt (wpAny_bind (wpAny_mono (turn n s hI) (fun r s₁ h₁ => ?_) fun _ _ h' => h'.elim)))
  cases r with
  | none => exact wpAny_pure h₁
  | some v =>
    refine wpAny_bind (wpAny_mono h₁ (fun _ s₂ h₂ => wpAny_bind (wpAny_mono h₂ (fun _ s₃ h₃ => wpAny_bind (wpAny_mono h₃ (fun ok s₄ h₄ => ?_) fun _ _ h' => h'.elim)) fun _ _ h' => h'.elim)) fun _ _ h' => h'.elim)
    cases ok with
    | false => exact wpAny_pure ⟨rfl, h₄⟩
    | true =>
      exact wpAny_bind (wpAny_bind (wpAny_mono h₄ (fun x s₅ h₅ => wpAny_bind (wpAny_mono h₅ (fun _ s₆ h₆ => wpAny_pure (wpAny_pure ⟨rfl, h₆⟩)) fun _ _ h' => h'.elim)) fun _ _ h' => h'.elim))
section
variable {X : Cx}
theorem Inv.cap {pins : List (Addr × Obj)} {σ : St} {H : Hp} {s : Shared} {i : Nat} {y : Str} {v : V} (I : Inv X pins σ H s) (hy : X.N[i]? = some y) (hv : σ[i]? = some (some v)) (hk : X.env.kindOf y = some .cell ∨ X.env.kindOf y = some .free) :
    ∃ u c, RelV v u ∧ X.env.cells.lookup y = some c ∧ s.heap.IsCell c (some u) := by
  obtain ⟨m, hn, hl⟩ := I.loc
  obtain ⟨u, r, l⟩ := hl i y v hy hv (by rcases hk with h | h; exact .inr (.inl h); exact .inr (.inr h))
  rcases l with ⟨h1, _⟩ | ⟨_, c, hc, z⟩
  · rcases hk with h | h <;> (rw [h1] at h; cases h)
  · exact ⟨u, c, r, hc, z⟩
theorem comp_start {M : List Str} {scope : Scope} {caps : List Nat} {x : Str} {pins : List (Addr × Obj)} {σ : St} {H : Hp} {s s4 : Shared} {fp : List Addr} {C : Addr} {m : Str → Option Value}
    (S : CompOk X.N X.env.scope scope caps x M) (hcalm : X.calm = true) (I : Inv X pins σ H s) (hf : ∀ b ∈ fp, FpOk X pins H b) (hfo : ∀ b ∈ fp, ∃ o, s.heap.get? b = some o)
    (hC : s.heap.objs.size ≤ C) (hos : s4.os = s.os) (hg : AllBare s4.gens) (keep : ∀ b o, s.heap.get? b = some o → s4.heap.get? b = some o) (hn : s4.heap.Ns C m) :
    Inv (cxComp X M scope (closL X.env.cells scope.names []) C fp s H) [] (none :: capS caps σ) H s4 := by
  have cell0 : ∀ y c, (closL X.env.cells scope.names []).lookup y = some c → X.env.cells.lookup y = some c := fun y c h => (closL_look h).1
  have fresh : ∀ b o, s.heap.get? b = some o → b ≠ C := fun b o e z => by
    subst z
    exact absurd (Nat.lt_of_lt_of_le (Heap.lt_size e) hC) (Nat.lt_irrefl _)
  have ok : (cxComp X M scope (closL X.env.cells scope.names []) C fp s H).Ok := by
    refine ⟨I.ok.mod, ?_, I.ok.glob, I.ok.blt, hC, fun y z c h1 h2 => I.ok.inj y z c (cell0 _ _ h1) (cell0 _ _ h2), fun y hy => ?_, fun y c h _ => Bool.noConfusion h, fun _ => I.ok.hd hcalm, I.ok.frames, .inl rfl, fun b hb => ⟨?_, fun y c h z => ?_⟩,
      I.bs, Nat.le_trans I.ok.bsz I.sz, fun b o e hb => ?_, fun b hb hs => ?_, I.stack, I.stkFree⟩
    · exact S.kind
    · have hm : (y, NameKind.free) ∈ scope.names := by
        rcases hy with h | h
        · exact relabel_free S.nocell h (.inl rfl)
        · exact relabel_free S.nocell h (.inr rfl)
      obtain ⟨c, hc⟩ := I.ok.has y (S.free _ hm rfl)
      exact ⟨c, closL_of hc hm⟩
    · obtain ⟨o, e⟩ := hfo b hb
      exact fresh b o e
    · exact (hf b hb).2.2.2.2.1 y c (cell0 y c h) z
    · rcases (hf b hb).2.2.2.1 with z | z
      · exact I.ok.noex b o e z
      · exact absurd (Nat.lt_of_lt_of_le (Heap.lt_size e) (Nat.le_trans I.ok.bsz z)) (Nat.lt_irrefl _)
    · rcases List.mem_cons.mp (I.stkSub b hs) with z | z
      · exact (hf b hb).2.1 z
      · exact (hf b hb).2.2.1 z
  refine ⟨ok, hos, hg, Un.kept keep, ⟨m, hn, fun i y v h1 h2 h3 => ?_⟩, fun y c h => ?_, I.hok.fresh hC, fun y c h => I.freeC y c (cell0 y c h), fun p hp => absurd (show p ∈ ([] : List (Addr × Obj)) from hp) (by simp), I.hok.kept keep, ?_⟩
  · have h1' : M[i]? = some y := h1
    cases i with
    | zero => simp at h2
    | succ j =>
      rw [S.inN] at h1'
      simp only [List.getElem?_cons_succ, capS, List.getElem?_map] at h1' h2
      cases e : caps[j]? with
      | none => rw [e] at h1'; simp at h1'
      | some k =>
        rw [e] at h1' h2
        simp only [Option.map_some, Option.some.injEq] at h1' h2
        obtain ⟨c1, c2⟩ := S.cap k (List.mem_of_getElem? e)
        rw [h1'] at c2
        have hN : X.N[k]? = some y := by
          rw [← h1', List.getD_eq_getElem?_getD, List.getElem?_eq_getElem c1]; rfl
        have hσ : σ[k]? = some (some v) := by
          cases q : σ[k]? with
          | none => rw [q] at h2; cases h2
          | some z => rw [q] at h2; simpa using h2
        obtain ⟨u, c, r, hc, z⟩ := I.cap hN hσ (S.free (y, .free) (PySem.mem_of_lookup c2) rfl)
        obtain ⟨oc, ho, hd⟩ := z
        exact ⟨u, r, .inr ⟨relabel_look c2, c, closL_of hc (PySem.mem_of_lookup c2), oc, keep _ _ ho, hd⟩⟩
  · obtain ⟨v, oc, ho, hd⟩ := I.cell y c (cell0 y c h)
    exact ⟨v, oc, keep _ _ ho, hd⟩
  · show _ = M.length
    rw [S.inN]
    simp [capS]
theorem comp_done {M : List Str} {scope : Scope} {cl : List (Str × Addr)} {pins pins' : List (Addr × Obj)} {σ σ' : St} {H H' : Hp} {s s' : Shared} {fp : List Addr} {C D : Addr} {h'' : Heap} {acc : List V} {its : List Value}
    (I : Inv X pins σ H s) (hf : ∀ b ∈ fp, FpOk X pins H b) (I' : Inv (cxComp X M scope cl C fp s H) pins' σ' H' s') (hC : s.heap.objs.size ≤ C) (hD : s.heap.objs.size ≤ D) (hDC : D ≠ C) (hDn : H' D = none)
    (hl : s'.heap.PlainList D its.toArray) (rv : Vals acc its) (hz : acc.length ≤ sizeLine) (sb : Heap.SameBut C s'.heap h'') :
    Inv X pins σ (upd H' D (.lst acc)) { s' with heap := h'' } := by
  have below : ∀ b o, s.heap.get? b = some o → b ≠ C ∧ b ≠ D := fun b o e => ⟨fun z => absurd (Nat.lt_of_lt_of_le (Heap.lt_size e) (by rw [z]; exact hC)) (Nat.lt_irrefl _), fun z => absurd (Nat.lt_of_lt_of_le (Heap.lt_size e) (by rw [z]; exact hD)) (Nat.lt_irrefl _)⟩
  have hHD : H D = none := I.hok.fresh hD
  have B : Un (frs X.stack) fp H H' s.heap s'.heap := I'.base
  have hHC : H' C = none := I'.free
  obtain ⟨n, el⟩ := hl
  have ok1 : HOk X.prog X.w H' h'' := fun b u e => by
    refine (show ObjOk X.prog X.w H' s'.heap b u from I'.hok b u e).stay (fun c v hc q => (sb.2 c ?_).trans q) (fun _ q => q) fun _ _ q => q
    rcases hc with z | z
    · rw [z]; intro z2; rw [z2, hHC] at e; cases e
    · intro z2; rw [z2, hHC] at z; cases z
  have ok2 : HOk X.prog X.w (upd H' D (.lst acc)) h'' := ok1.adopt hDn ⟨hz, its, n, rv, (sb.2 D hDC).trans el⟩
  have U : Un (frs X.stack) fp H (upd H' D (.lst acc)) s.heap h'' := by
    refine ⟨fun b o q n hb hx => (sb.2 b (below b o q).1).trans (B.keep b o q n hb hx), fun b o q n hb hx => ?_, fun b o q n hx => ?_, fun b o q hx => ?_, fun b xs q => ?_, fun b o u q => ?_, fun b ps q => ?_⟩
    · obtain ⟨sl, e⟩ := B.slot b o q n hb hx
      exact ⟨sl, (sb.2 b (below b o q).1).trans e⟩
    · rw [upd_ne (below b o q).2]; exact B.free b o q n hx
    · obtain ⟨o', e⟩ := B.there b o q hx
      exact ⟨o', (sb.2 b (below b o q).1).trans e⟩
    · rw [upd_ne (ne_of_none q hHD)]; exact B.tups b xs q
    · rw [upd_ne (ne_of_none q hHD)]; exact B.frzs b o u q
    · rw [upd_ne (ne_of_none q hHD)]; exact B.tbls b ps q
  have os : s'.os = s.os := I'.os
  exact I.call' (s' := { s' with heap := h'' }) (ch := fp) os U ok2 I'.bare fun b hb => ⟨(hf b hb).2.2.2.1, (hf b hb).2.1, (hf b hb).2.2.2.2.1, (hf b hb).2.2.2.2.2⟩
theorem pe_comp {elt iter : Expr} {x : Str} {px : Pos} {ifs : List Expr} {scope : Scope} {pos : Pos} {wi : TI} {tt : TT} {te : TE} {M : List Str} (caps : List Nat) (hcalm : X.calm = true) (S : CompOk X.N X.env.scope scope caps x M)
    (hi : PI X (.Name x px) iter wi) (ht : ∀ cl C ex s H, PFs (cxComp X M scope cl C ex s H) ifs tt) (he : ∀ cl C ex s H, PE (cxComp X M scope cl C ex s H) elt te)
    (hs : ∀ y, foldedSetIterable iter X.env y = pure y := by intro _; rfl) : PE X (.ListComp elt [⟨.Name x px, iter, ifs, 0⟩] scope pos) (tComp caps wi tt te) := by
  intro pins s σ H Q I h
  rw [eval_ListComp]
  refine wpAny_comprehension_free (use := none) rfl hs (closureFor_eq fun n hn => I.ok.has n (S.free _ hn rfl)) S.kind S.names ?_
  refine thn (hi pins s σ H _ I h) fun v s1 h1 => thn h1 fun itv s2 h2 => ?_
  obtain ⟨it, fp, tn, J, H2, e, I2, T, st2, f2, W, ⟨m0, w0⟩, turn⟩ := h2
  subst e
  refine wpAny_newObj_type (wpAny_newFunctionEnv S.nocell (by intro y hy; simp at hy) (fun h₁ hns₁ hsb₁ => ?_) S.kind)
  dsimp only at hns₁ hsb₁ ⊢
  generalize hH2 : s2.heap.push { cls := .type "list", dict := none, data := .seq ([] : List Value).toArray } = P2 at hns₁ hsb₁ ⊢
  have hCs : P2.objs.size = s2.heap.objs.size + 1 := by rw [← hH2, Heap.size_push]
  have hDC : s2.heap.objs.size ≠ P2.objs.size := by rw [hCs]; exact Nat.ne_of_lt (Nat.lt_succ_self _)
  have hCle : s2.heap.objs.size ≤ P2.objs.size := by rw [hCs]; exact Nat.le_succ _
  have below : ∀ b, b < s2.heap.objs.size → b ≠ P2.objs.size := fun b hb => by rw [hCs]; exact Nat.ne_of_lt (Nat.lt_succ_of_lt hb)
  have old : ∀ b o, s2.heap.get? b = some o → h₁.get? b = some o := fun b o e => hsb₁.extBut b o (below b (Heap.lt_size e)) (Heap.get?_push_of_some _ (hH2 ▸ Heap.get?_push_of_some _ e))
  have hacc : h₁.PlainList s2.heap.objs.size #[] := ⟨_, hsb₁.extBut _ _ hDC (Heap.get?_push_of_some _ (hH2 ▸ Heap.get?_push_size _ rfl))⟩
  have fob : ∀ b ∈ fp, ∃ o, s2.heap.get? b = some o ∧ ∀ v, o.data ≠ .cell v := T.obj 0 _ st2
  have dnf : s2.heap.objs.size ∉ fp := fun hb => by
    obtain ⟨o, e, _⟩ := fob _ hb
    exact absurd (Heap.lt_size e) (Nat.lt_irrefl _)
  have hDs : ∀ {c : Addr} {o : Obj}, s2.heap.get? c = some o → c ≠ s2.heap.objs.size := fun e => Nat.ne_of_lt (Heap.lt_size e)
  let Y : Cx := cxComp X M scope (closL X.env.cells scope.names []) P2.objs.size fp s2 H2
  have I4 : Inv Y [] (none :: capS caps σ) H2 { s2 with heap := h₁, toks := s2.toks + ([] : List (Str × Value)).length } :=
    comp_start S hcalm I2 f2 (fun b hb => let ⟨o, e, _⟩ := fob b hb; ⟨o, e⟩) hCle rfl I2.bare old hns₁
  -- the iterator's own objects, the list at D: they stay what they are while an element is reckoned
  have fpY : ∀ {pins' : List (Addr × Obj)} {H' : Hp}, (∀ b ∈ fp, H' b = none) → (∀ p ∈ pins', p.1 ∉ fp) → ∀ b ∈ fp, FpOk Y pins' H' b := fun {pins' H'} hn hp b hb => by
    obtain ⟨o, e, _⟩ := fob b hb
    refine ⟨hn b hb, below b (Heap.lt_size e), fun hs => ?_, .inl hb, fun y c h => (f2 b hb).2.2.2.2.1 y c (closL_look h).1, fun p hp' z => hp p (show p ∈ pins' from by have q : p ∈ [] ++ pins' := hp'; simpa using q) (by rw [z]; exact hb)⟩
    rcases List.mem_cons.mp (I2.stkSub b hs) with z | z
    · exact (f2 b hb).2.1 z
    · exact (f2 b hb).2.2.1 z
  have Dfs : s2.heap.objs.size ∉ Y.fs := fun hs => by
    obtain ⟨_, o, ho, _⟩ := I2.stack.mem hs
    exact absurd (Heap.lt_size ho) (Nat.lt_irrefl _)
  have Dcell : ∀ y c, Y.env.cells.lookup y = some c → c ≠ s2.heap.objs.size := fun y c h z => by
    obtain ⟨v, q⟩ := I2.cell y c (closL_look h).1
    rw [z] at q
    exact absurd q.lt (Nat.lt_irrefl _)
  have loop : ∀ s₃ : Shared, s₃ = { s2 with heap := h₁, toks := s2.toks + ([] : List (Str × Value)).length } →
      codeAny (model X.prog X.w) X.A (.compLoop (.ListComp elt [⟨.Name x px, iter, ifs, 0⟩] scope pos) 0 (.ref it) (.ref s2.heap.objs.size) (compEnvC scope (closL X.env.cells scope.names []) P2.objs.size X.env))
        (compPost (model X.prog X.w) X.A X.xe none (EP X pins σ Q) (.ref s2.heap.objs.size) P2.objs.size) s₃ := by
    rintro s₃ rfl
    refine compLoop_own (fun n s' => ∃ i acc H' its, Inv Y [] (none :: capS caps σ) H' s' ∧ tn i s'.heap ∧ (∀ b ∈ fp, H' b = none) ∧ H' s2.heap.objs.size = none ∧ s'.heap.PlainList s2.heap.objs.size its ∧ Vals acc its.toList ∧ acc.length ≤ sizeLine ∧ W i n acc H') ?_ m0
      ⟨0, [], H2, #[], I4, T.keep 0 _ _ st2 (fun b hb o e => old b o e), fun b hb => (f2 b hb).1, I2.hok.fresh (Nat.le_refl _), hacc, .nil, Nat.zero_le _, w0⟩
    rintro n s5 ⟨i, acc, H5, its, I5, st5, fr5, hD5, hl5, rv5, hz5, w5⟩
    have hdY : Y.calm = true := rfl
    obtain ⟨nn, el5⟩ := hl5
    have I5' : Inv Y [(s2.heap.objs.size, { cls := .type "list", data := .seq its nn })] (none :: capS caps σ) H5 s5 := I5.pins_of fun p hp => by
      have e : p = (s2.heap.objs.size, { cls := .type "list", data := .seq its nn }) := by simpa using hp
      subst e
      exact ⟨el5, hD5, hDC, Dfs, fun v z => by cases z⟩
    have fp5 : ∀ {H' : Hp}, (∀ b ∈ fp, H' b = none) → ∀ b ∈ fp, FpOk Y [(s2.heap.objs.size, { cls := .type "list", data := .seq its nn })] H' b := fun hn => fpY hn fun p hp => by
      have e : p = (s2.heap.objs.size, { cls := .type "list", data := .seq its nn }) := by simpa using hp
      subst e
      exact dnf
    have rv5' : Vals acc its.toList := rv5
    rcases turn i n acc H5 w5 with ⟨stop, qn⟩ | ⟨go, hlt, step⟩
    · refine thn (T.done Y rfl rfl rfl hdY i _ s5 _ H5 (fun _ _ => False) I5' (fp5 fr5) st5 stop) fun r s6 ⟨hr, I6⟩ => ?_
      subst hr
      obtain ⟨m6, hn6, _⟩ := id I6.loc
      obtain ⟨p1, p2, _⟩ := I6.pin (s2.heap.objs.size, { cls := .type "list", data := .seq its nn }) (by simp)
      refine ⟨m6, hn6, fun h' sb => ⟨.ref s2.heap.objs.size, upd H5 s2.heap.objs.size (.lst acc), ?_, rfl, qn _ hD5⟩⟩
      exact comp_done (its := its.toList) I2 f2 I6 hCle (Nat.le_refl _) hDC hD5 (show s6.heap.PlainList s2.heap.objs.size its.toList.toArray from ⟨nn, by rw [Array.toArray_toList]; exact p1⟩) rv5' hz5 sb
    · refine thn (T.item Y rfl rfl rfl hdY i _ s5 _ H5 (fun _ _ => False) I5' (fp5 fr5) st5 go) fun r s6 ⟨u, hr, h6⟩ => ?_
      subst hr
      refine thn h6 fun _ s7 ⟨v7, H7, I7, r7, y7, st7, fr7⟩ => ?_
      have I7' := I7.pinned (fp5 fr7) (T.obj _ _ st7)
      have hg : PG Y (.Name x px) (gName 0) := pg_name (X := Y) (i := 0) S.nd (by show M[0]? = some x; rw [S.inN]; rfl) (Or.inl (lookup_relabel_local S.var)) (.inr (lookup_relabel_local S.var))
      refine thn (hg _ s7 _ H7 v7 u (fun σ8 H8 => σ8 = some v7 :: capS caps σ ∧ H8 = H7) I7' r7 ⟨rfl, rfl⟩) fun _ s8 ⟨σ8, H8, I8, e8, e8'⟩ => ?_
      subst e8 e8'
      refine thn (ht _ _ _ _ _ _ s8 _ _ _ I8 (step v7 _ y7)) fun b s9 ⟨H9, I9, q9⟩ => ?_
      have tail : ∀ {σ' : St} {H' : Hp} {s' : Shared}, Inv Y ([(s2.heap.objs.size, { cls := .type "list", data := .seq its nn })] ++ pinsAt fp s7.heap) σ' H' s' →
          tn (i + 1) s'.heap ∧ (∀ b ∈ fp, H' b = none) ∧ s'.heap.get? s2.heap.objs.size = some { cls := .type "list", data := .seq its nn } ∧ H' s2.heap.objs.size = none := fun {σ' H' s'} J => by
        refine ⟨T.keep _ _ _ st7 fun b hb o e => (J.pin (b, o) (List.mem_append_right _ (List.mem_append_right _ (mem_pinsAt hb e)))).1, fun b hb => ?_, ?_⟩
        · obtain ⟨o, e, d⟩ := T.obj _ _ st7 b hb
          exact (J.pin (b, o) (List.mem_append_right _ (List.mem_append_right _ (mem_pinsAt hb e)))).2.1
        · have p := J.pin (s2.heap.objs.size, { cls := .type "list", data := .seq its nn }) (by simp)
          exact ⟨p.1, p.2.1⟩
      cases b with
      | false =>
        obtain ⟨m', hm, w9⟩ := (show ∃ m', m' < n ∧ W (i + 1) m' acc H9 from by simpa using q9)
        obtain ⟨t1, t2, t3, t4⟩ := tail I9
        refine ⟨m', hm, i + 1, acc, H9, its, ?_, t1, t2, t4, ⟨nn, t3⟩, rv5, hz5, w9⟩
        exact (I9.pins_of (pins' := []) fun p hp => absurd hp (by simp)).weak (by simp) fun j w z => by
          cases j with
          | zero => simp at z
          | succ j => simpa using z
      | true =>
        have q9' : te (some v7 :: capS caps σ) H9 fun y H3 => ∃ m', m' < n ∧ W (i + 1) m' (acc ++ [y]) H3 := by simpa using q9
        refine thn (he _ _ _ _ _ _ s9 _ _ _ I9 q9') fun u10 s10 ⟨y, H10, I10, r10, m', hm, w10⟩ => ?_
        obtain ⟨t1, t2, t3, t4⟩ := tail I10
        have lz : its.size = acc.length := by rw [rv5.length]; simp
        refine wpAny_list_append_plain ⟨nn, t3⟩ (fun h' hl' sb' => ?_) (by omega)
        have I11 : Inv Y [] (some v7 :: capS caps σ) H10 { s10 with heap := h', toks := s10.toks } :=
          (I10.pins_of (pins' := []) fun p hp => absurd hp (by simp)).turned (it := s2.heap.objs.size) (fun b o hb e => (sb'.2 b hb).trans e) t4 hDC (.inr (Nat.le_refl _)) Dcell (fun p hp => absurd (show p ∈ ([] : List (Addr × Obj)) from hp) (by simp))
        refine ⟨m', hm, i + 1, acc ++ [y], H10, its.push u10, ?_, T.keep _ _ _ t1 (fun b hb o e => (sb'.2 b (fun z => dnf (z ▸ hb))).trans e), t2, t4, hl', ?_, ?_, w10⟩
        · exact I11.weak (by simp) fun j w z => by
            cases j with
            | zero => simp at z
            | succ j => simpa using z
        · rw [Array.toList_push]
          exact rv5.append (.cons r10 .nil)
        · rw [List.length_append, List.length_singleton]; omega
  exact codeAny_compStart_list (loop _ rfl) (T.self X.A 0 _ _ _ (T.keep 0 _ _ st2 (fun b hb o e => old b o e)) (loop _ rfl))
end
end L2
set_option Elab.async false
set_option linter.all false
set_option maxRecDepth 100000
set_option maxHeartbeats 4000000
namespace L2
open PySem PySem.Spec PyProof.Rows
section
variable {X : Cx}
def rSlS : V → Option Int → Option Int → Hp → VK → Prop := fun x lo hi H Q => ∃ z, x = .str z ∧ z.length ≤ sizeLine ∧ Q (.str (Txt.slice z lo hi)) H
theorem sl_str : SlR X rSlS := by
  intro pins s σ H x v vl vu lo hi sl Q I rx hs pl pu h
  obtain ⟨z, rfl, hz, q⟩ := h
  obtain ⟨t, rfl⟩ := rx
  refine ⟨"str", _, PySem.F.slot_str_getitem.lookup, typeIs_str _ _ _, ?_⟩
  have fin : ∀ t' k, EP X pins σ Q (.str (Txt.slice z lo hi) t') { s with toks := k } := fun t' k => ⟨.str _, H, I.tok k, ⟨t', rfl⟩, q⟩
  obtain ⟨o, e, c, d⟩ := hs
  cases pl with
  | none => cases pu with
    | none => exact wpAny_getItem_str_slice (l := none) (u := none) (st := none) ⟨o, e, c, d⟩ rfl (post_val_or_str ⟨Nat.le_trans (Txt.slice_le z _ _) hz, fin⟩)
    | int j u => exact wpAny_getItem_str_slice (l := none) (u := some (j, u)) (st := none) ⟨o, e, c, d⟩ rfl (post_val_or_str ⟨Nat.le_trans (Txt.slice_le z _ _) hz, fin⟩)
  | int i u1 => cases pu with
    | none => exact wpAny_getItem_str_slice (l := some (i, u1)) (u := none) (st := none) ⟨o, e, c, d⟩ rfl (post_val_or_str ⟨Nat.le_trans (Txt.slice_le z _ _) hz, fin⟩)
    | int j u => exact wpAny_getItem_str_slice (l := some (i, u1)) (u := some (j, u)) (st := none) ⟨o, e, c, d⟩ rfl (post_val_or_str ⟨Nat.le_trans (Txt.slice_le z _ _) hz, fin⟩)
theorem strsAre_of : ∀ {ys : List Str} {us : List Value}, Vals (ys.map V.str) us → StrsAre us ys
  | [], _, .nil => .nil
  | y :: r, _, .cons h t => by
    obtain ⟨tk, e⟩ := h
    subst e
    exact .cons y tk (strsAre_of t)
def rJoin (K : PySem.W.Frag) : V → List V → Hp → VK → Prop := fun x xs H Q => ∃ sep p ys, x = .str sep ∧ xs = [.ref p] ∧ SqL K H p (ys.map V.str) ∧ (ys.map (·.length)).sum + ys.length * sep.length ≤ 16777216 ∧ Q (.str (Txt.join sep ys)) H
theorem mt_join : MtR X "str.join" (rJoin X.K) := by
  intro pins s σ H x xs v us Q I rx rv h
  obtain ⟨sep, p, ys, rfl, rfl, hp, hz, q⟩ := h
  obtain ⟨t, rfl⟩ := rx
  obtain ⟨u, rfl, ru⟩ := rv.one
  cases ru
  obtain ⟨its, r, pl, _⟩ := I.list hp
  exact join_list pl.isList (by simpa using strsAre_of r) hz fun t' k => ⟨.str _, H, I.tok k, ⟨t', rfl⟩, q⟩
def rMulS : R2 := fun x y H Q => ∃ z k, x = .str z ∧ y = .int k ∧ MulOk z k ∧ Q (.str (Txt.mul z k)) H
theorem op_mul_str : OpR X (binaryOp .Mult) rMulS := by
  intro pins s σ H x y v u Q I rx ry h
  obtain ⟨z, k, rfl, rfl, hk, q⟩ := h
  obtain ⟨t, rfl⟩ := rx
  obtain ⟨t2, rfl⟩ := ry
  exact SB.mul hk fun t' c => ⟨.str _, H, I.tok c, ⟨t', rfl⟩, q⟩
theorem mt_isalnum : MtR X "str.isalnum" (fun x xs H Q => ∃ z, x = .str z ∧ xs = [] ∧ Q (.bl (Txt.isalnum z)) H) := by
  intro pins s σ H x xs v us Q I rx rv h
  obtain ⟨z, rfl, rfl, q⟩ := h
  obtain ⟨t, rfl⟩ := rx
  cases rv.zero
  exact SC.isalnum ⟨.bl _, H, I, rfl, q⟩
theorem mt_find : MtR X "str.find" (fun x xs H Q => ∃ z y, x = .str z ∧ xs = [.str y] ∧ Q (.int (Txt.find z y)) H) := by
  intro pins s σ H x xs v us Q I rx rv h
  obtain ⟨z, y, rfl, rfl, q⟩ := h
  obtain ⟨t, rfl⟩ := rx
  obtain ⟨u, rfl, ru⟩ := rv.one
  obtain ⟨t2, rfl⟩ := ru
  exact SC.find ⟨.int _, H, I.tok _, ⟨_, rfl⟩, q⟩
def eqL : List V → List V → Bool
  | [], [] => true
  | x :: xs, y :: ys => eqV x y && eqL xs ys
  | _, _ => false
end
end L2
set_option Elab.async false
set_option linter.all false
set_option maxRecDepth 100000
set_option maxHeartbeats 4000000
namespace L2
open PySem PySem.Spec PyProof.Rows
structure Fd (K : PySem.W.Frag) (mg : Str → Option Value) (x : Str) (st : Stmt) (ps : List Str) where
  f : Addr
  fd : FuncData
  F : Fun K x x st f fd
  m : mg x = some (.ref f)
  b : Binds K fd ps []
theorem same_new {H : Hp} {p : Addr} (h : H p = none) (o : HO) : Same H (upd H p o) := fun b u q => by rw [upd_ne (ne_of_none q h)]; exact q
theorem Same.upd {H H' : Hp} {p : Addr} {o : HO} (e : Same H H') (h : H p = none) : Same H (upd H' p o) := fun b u q => by rw [upd_ne (ne_of_none q h)]; exact e b u q
theorem Same.seqT {K : PySem.W.Frag} {H H' : Hp} {a : Addr} {xs : List V} (e : Same H H') (h : SqT K H a xs) : SqT K H' a xs := by
  rcases h with (h | ⟨o, h⟩) | h
  · exact .inl (.inl (e _ _ h))
  · exact .inl (.inr ⟨o, e _ _ h⟩)
  · exact .inr h
theorem atI_at {α : Type} {xs : List α} {j : Int} {v : α} (h0 : 0 ≤ j) (h : xs[j.toNat]? = some v) : atI xs j = some v := by
  obtain ⟨k, rfl⟩ := Int.eq_ofNat_of_zero_le h0
  exact atI_nat (by simpa using h)
theorem b2 (k : Bool) : (if k = true then (1 : Int) else 0) = 0 ∨ (if k = true then (1 : Int) else 0) = 1 := by cases k <;> simp
structure Gives (J : It) (vs : List V) : Prop where
  go : ∀ i H, i < vs.length → J.go i H
  yld : ∀ i H v H', J.yld i H v H' → i < vs.length → H' = H ∧ vs[i]? = some v
  stop : ∀ H, J.stop vs.length H
end L2
set_option Elab.async false
set_option linter.all false
set_option maxRecDepth 100000
set_option maxHeartbeats 4000000
namespace L2
open PySem PySem.Spec PyProof.Rows PySem.W
section
variable {X : Cx}
end
end L2
set_option Elab.async false
set_option linter.all false
set_option maxRecDepth 100000
set_option maxHeartbeats 4000000
set_option autoImplicit false
namespace L2
open PySem PySem.Spec PyProof.Rows
theorem ObjOk.there {P : Program} {w : World} {H : Hp} {h : Heap} {a : Addr} {o : HO} (x : ObjOk P w H h a o) : ∃ ob, h.get? a = some ob := by
  cases o with
  | lst xs => obtain ⟨_, _, _, _, e⟩ := x; exact ⟨_, e⟩
  | tup xs => obtain ⟨_, _, _, ob, e, _⟩ := x; exact ⟨_, e⟩
  | dK kvs => obtain ⟨_, _, _, _, o, _, _, e, _⟩ := x; exact ⟨_, e⟩
  | dT kvs => obtain ⟨_, _, _, _, o, _, _, e, _⟩ := x; exact ⟨_, e⟩
  | set S n => obtain ⟨o, _, _, _, e, _⟩ := x; exact ⟨_, e⟩
  | ins C dx fs => obtain ⟨_, _, _, e, _⟩ := x; exact ⟨_, e⟩
  | own y => exact x
  | xd fs => obtain ⟨_, ⟨_, _, _, e, _⟩, _⟩ := x; exact ⟨_, e⟩
  | rng lo hi => obtain ⟨_, _, _, e⟩ := x; exact ⟨_, e⟩
  | frz ob u => obtain ⟨e, _⟩ := x; exact ⟨_, e⟩
  | tbl ps => exact ⟨_, show h.get? a = some _ from x⟩
  | met f y => exact ⟨_, show h.get? a = some _ from x⟩
  | ext φ => obtain ⟨_, z, _⟩ := x; exact z
def Cov (l : List Env) (h : Heap) (H' : Hp) (B : Heap) : Prop := (∀ b o, h.get? b = some o → b ∉ frs l → ∃ o', B.get? b = some o') ∧ ∀ b u, H' b = some u → ∃ o', B.get? b = some o'
def CXE (P : Program) (w : World) : CXT := fun outer H s E e s' => ∃ (a : Addr) (cls a0 : Value) (B : Heap) (H' : Hp), e = .ref a ∧ s'.os = s.os ∧ AllBare s'.gens ∧ Un (frs outer) [] H H' s.heap s'.heap ∧ HOk P w H' s'.heap ∧ Heap.FlyingW B outer a cls a0 s'.heap ∧ Cov outer s.heap H' B ∧ E cls none H'
theorem Un.then {fs : List Addr} {H0 H : Hp} {h0 h1 h2 : Heap} {L : Addr} (u : Un fs [] H0 H h0 h1) (hL : ∀ b o, h0.get? b = some o → b ≠ L)
    (k : ∀ b o, h1.get? b = some o → b ≠ L → b ∉ fs → h2.get? b = some o) (ks : ∀ b o, h1.get? b = some o → b ∈ fs → ∃ sl, h2.get? b = some { o with slots := sl }) : Un fs [] H0 H h0 h2 where
  keep := fun b o e n hb hx => k b o (u.keep b o e n hb hx) (hL b o e) hb
  slot := fun b o e n hb hx => by
    obtain ⟨sl, e1⟩ := u.slot b o e n hb hx
    obtain ⟨sl', e2⟩ := ks b _ e1 hb
    exact ⟨sl', e2⟩
  free := u.free
  there := fun b o e hx => by
    obtain ⟨o', e1⟩ := u.there b o e hx
    by_cases hb : b ∈ fs
    · obtain ⟨sl, e2⟩ := ks b o' e1 hb
      exact ⟨_, e2⟩
    · exact ⟨o', k b o' e1 (hL b o e) hb⟩
  tups := u.tups
  frzs := u.frzs
  tbls := u.tbls
section
variable {X : Cx} {pins : List (Addr × Obj)} {σ : St} {H : Hp} {s : Shared} {E : XK}
theorem fs_stk (stk : X.stack = X.env :: X.outer) (hf : X.env.frame = some X.env.locals) {b : Addr} : b ∈ frs X.stack ↔ b = X.env.locals ∨ b ∈ X.fs := by
  rw [stk]
  unfold frs
  rw [List.filterMap_cons, hf]
  exact List.mem_cons
theorem frame_data {base h : Heap} {l : List Env} (f : h.FunFrames base l) {b : Addr} (hb : b ∈ frs l) : ∃ o, h.get? b = some o ∧ ∀ vs, o.data ≠ .fields vs := (f.mem hb).2
theorem leave_made {M : Model} {h' : Heap} {e : Addr} {cls : Value} {args : List Value} {Ee : Value → Shared → Prop} (I : Inv X pins σ H s) (stk : X.stack = X.env :: X.outer) (hf : X.env.frame = some X.env.locals) (hex : X.ex = [])
    (m : Heap.MadeExcOf s.heap h' e cls args) (hE : E cls none H) :
    wpAny M X.A (leaving X.env (.ref e)) (fun _ s'' => CXE X.prog X.w X.outer X.H₀ X.s₀ E (.ref e) s'') Ee { s with heap := h' } := by
  have hfr : X.A.frames = some (X.env :: X.outer) := by rw [I.ok.frames, stk]
  have inB : ∀ b o, s.heap.get? b = some o → b ∉ frs X.stack → (PySem.W.hideAll s.heap (frs X.stack)).get? b = some o := fun b o q n => PySem.W.hideAll_get _ q n
  refine wpAny_leaves_madeW (base := PySem.W.hideAll s.heap (frs X.stack)) (h := s.heap) (s := { s with heap := h' }) hfr hf (fun b o q => PySem.W.of_hideAll _ q) ?_ m fun h2 t fl _ _ up => ?_
  · have := PySem.W.funFrames_hide (as := frs X.stack) I.stack (fun env he a ha => List.mem_filterMap.mpr ⟨env, he, ha⟩)
    rw [stk] at this ⊢
    exact this
  · have k2 : ∀ b o, s.heap.get? b = some o → b ∉ frs X.stack → h2.get? b = some o := fun b o q n => fl.1 b o (inB b o q n)
    have neL : ∀ b o, X.s₀.heap.get? b = some o → b ≠ X.env.locals := fun b o q => Nat.ne_of_lt (Nat.lt_of_lt_of_le (Heap.lt_size q) I.ok.above)
    have base := I.base
    rw [hex] at base
    refine ⟨e, cls, _, _, H, rfl, I.os, I.bare, base.then neL (fun b o q n1 n2 => k2 b o q fun z => ?_) (fun b o q hb => ?_), fun b u q => ?_, fl, ⟨fun b o q n => ?_, fun b u q => ?_⟩, hE⟩
    · rcases (fs_stk stk hf).mp z with z | z
      · exact n1 z
      · exact n2 z
    · obtain ⟨o2, q2, d2⟩ := frame_data I.stack ((fs_stk stk hf).mpr (.inr hb))
      rw [q] at q2
      cases q2
      exact up b o (m.keeps b o q) d2
    · refine (I.hok b u q).stay (fun c v hc r => k2 c v r fun z => ?_) (fun _ r => r) fun _ _ r => r
      have := I.stkFree c z
      rcases hc with rfl | hc
      · rw [this] at q; cases q
      · rw [this] at hc; cases hc
    · obtain ⟨o', q'⟩ := I.base.there b o q (by rw [hex]; simp)
      refine ⟨o', inB b o' q' fun z => ?_⟩
      rcases (fs_stk stk hf).mp z with z | z
      · exact neL b o q z
      · exact n z
    · obtain ⟨ob, q'⟩ := (I.hok b u q).there
      refine ⟨ob, inB b ob q' fun z => ?_⟩
      rw [I.stkFree b z] at q; cases q
theorem leave_on {M : Model} {s' : Shared} {e : Value} {Ec : XK} {Ee : Value → Shared → Prop} (I : Inv X pins σ H s) (stk : X.stack = X.env :: X.outer) (hf : X.env.frame = some X.env.locals) (hex : X.ex = [])
    (c : CXE X.prog X.w X.stack H s Ec e s') (hE : ∀ cls dx H', Ec cls dx H' → E cls dx H') :
    wpAny M X.A (leaving X.env e) (fun _ s'' => CXE X.prog X.w X.outer X.H₀ X.s₀ E e s'') Ee s' := by
  obtain ⟨a, cls, a0, B, H', rfl, os, bare, un, hok, fl, ⟨c1, c2⟩, q⟩ := c
  have hfr : X.A.frames = some (X.env :: X.outer) := by rw [I.ok.frames, stk]
  have fl0 := fl
  rw [stk] at fl
  refine wpAny_leaves_onW hfr hf fl fun h2 fl2 up => ?_
  have I2 : Inv X pins σ H' s' := I.call' (ch := []) os un hok bare (fun b z => absurd z (by simp))
  have neL : ∀ b o, X.s₀.heap.get? b = some o → b ≠ X.env.locals := fun b o q => Nat.ne_of_lt (Nat.lt_of_lt_of_le (Heap.lt_size q) I.ok.above)
  have frB : ∀ b ∈ frs X.stack, B.get? b = none := fun b hb => (fl0.2.2.1.mem hb).1
  have base := I2.base
  rw [hex] at base
  -- what stood ahead of the call, or is tracked, lies in B
  have old : ∀ b o, X.s₀.heap.get? b = some o → b ∉ X.fs → ∃ o', B.get? b = some o' := fun b o e n => by
    obtain ⟨o', e'⟩ := I.base.there b o e (by rw [hex]; simp)
    refine c1 b o' e' fun z => ?_
    rcases (fs_stk stk hf).mp z with z | z
    · exact neL b o e z
    · exact n z
  refine ⟨a, cls, a0, B, H', rfl, ?_, bare, ⟨fun b o e n hb hx => ?_, fun b o e n hb hx => ?_, base.free, fun b o e hx => ?_, base.tups, base.frzs, base.tbls⟩, fun b u e => ?_, fl2, ⟨old, c2⟩, hE _ _ _ q⟩
  · exact os.trans I.os
  · have e1 := base.keep b o e n hb hx
    obtain ⟨o', e2⟩ := old b o e hb
    have := fl0.1 b o' e2
    rw [e1] at this
    cases this
    exact fl2.1 b _ e2
  · obtain ⟨sl, e1⟩ := base.slot b o e n hb hx
    obtain ⟨o2, q2, d2⟩ := frame_data I2.stack ((fs_stk stk hf).mpr (.inr hb))
    rw [e1] at q2
    cases q2
    obtain ⟨sl', e2⟩ := up b _ e1 d2
    exact ⟨sl', e2⟩
  · by_cases hb : b ∈ X.fs
    · obtain ⟨o', e1⟩ := base.there b o e hx
      obtain ⟨o2, q2, d2⟩ := frame_data I2.stack ((fs_stk stk hf).mpr (.inr hb))
      obtain ⟨sl', e2⟩ := up b _ q2 d2
      exact ⟨_, e2⟩
    · obtain ⟨o', e2⟩ := old b o e hb
      exact ⟨o', fl2.1 b o' e2⟩
  · have stay : ∀ c v, (c = b ∨ H' c = some (.own b)) → s'.heap.get? c = some v → h2.get? c = some v := fun c v hc r => by
      have : ∃ u', H' c = some u' := by
        rcases hc with rfl | hc
        · exact ⟨u, e⟩
        · exact ⟨_, hc⟩
      obtain ⟨u', hu⟩ := this
      obtain ⟨o', e2⟩ := c2 c u' hu
      have := fl0.1 c o' e2
      rw [r] at this
      cases this
      exact fl2.1 c _ e2
    exact (hok b u e).stay stay (fun _ r => r) fun _ _ r => r
end
end L2
set_option Elab.async false
set_option linter.all false
set_option maxRecDepth 100000
set_option maxHeartbeats 4000000
set_option autoImplicit false
namespace L2
open PySem PySem.Spec PyProof.Rows
theorem exc_lies {K : PySem.W.Frag} {h : Heap} {C : Addr} {bmB : List Value} {newId : String} (kin : K.In h) (ok : PySem.W.excIn K C bmB newId = true) :
    ∃ bm N nm q bs hdct sn sub ab col dd k0 k1 k2 k3 k5 mN, h.get? C = some (excClassObj nm q C N bs bm hdct sn sub ab col dd k0 k1 k2 k3 k5 newId) ∧ h.Ns N mN ∧ mN "__init__" = none ∧ OwnTail h bmB bm := by
  unfold PySem.W.excIn at ok
  split at ok
  case h_2 => exact absurd ok (by decide)
  case h_1 dict cdat sls lk =>
    split at ok
    case h_2 => exact absurd ok (by decide)
    case h_1 C2 tl f0 f1 f2 f3 nid f5 em es =>
      rw [Bool.and_eq_true, Bool.and_eq_true, Bool.and_eq_true, Bool.and_eq_true, Bool.and_eq_true] at ok
      obtain ⟨⟨⟨⟨⟨z1, z2⟩, z3⟩, z4⟩, z5⟩, z6⟩ := ok
      rw [Bool.not_eq_true'] at z3
      have es' : sls = #[f0, f1, f2, f3, some (.builtin nid), f5] := Array.toList_inj.mp es
      cases beq_iff_eq.mp z1
      cases beq_iff_eq.mp z2
      rcases cdat with ⟨c1, c2, c3, c4, c5, c6, c7, c8, c9, c10, c11⟩
      change c3 = _ at em
      change c11 = false at z3
      subst em z3 es'
      exact ⟨tl, c4, c1, c5, c2, c6, c7, c8, c9, c10, dict, f0, f1, f2, f3, f5, _, kin _ _ lk, .of_isNs (PySem.W.isNs_of_in kin z5), PySem.W.nsMap_none_of_in kin z5 (beq_iff_eq.mp z6), PySem.W.tail_of_in kin z4⟩
def Lv (X : Cx) (E : XK) : Prop := X.stack = X.env :: X.outer ∧ X.env.frame = some X.env.locals ∧ X.ex = [] ∧
  ∀ e s', wpAny (model X.prog X.w) X.A (leaving X.env e) (fun _ s'' => CXE X.prog X.w X.outer X.H₀ X.s₀ E e s'') (fun e' s'' => CXE X.prog X.w X.outer X.H₀ X.s₀ E e' s'') s' → X.xe e s'
theorem lv_cxOf {P : Program} {w : World} {K : PySem.W.Frag} {mg : Str → Option Value} {base : Heap} {N : List Str} {qual : Str} {scope : Scope} {f : Addr} {cd : Value} {A : Around} {outer : List Env} {s : Shared} {H : Hp} {E : XK} :
    Lv (cxOf (CXE P w) P w K mg base N qual scope f cd A outer s H E) E := ⟨rfl, rfl, rfl, fun _ _ h => h⟩
theorem Lv.passes {X : Cx} {E Ec : XK} (l : Lv X E) (h : ∀ cls dx H', Ec cls dx H' → E cls dx H') : Passes (CXE X.prog X.w) X Ec := fun pins σ H s e s' I c => l.2.2.2 e s' (leave_on I l.1 l.2.1 l.2.2.1 c h)
section
variable {X : Cx} {E : XK} {x : Str} {C : Addr} {np cpos pos : Pos} {e0 : Expr} {es : List Expr} {ta : TA} {bmB bmN : List Value} {B Bn newId nid initId inN : String}
def tRaise (C : Addr) (E : XK) (ta : TA) : TS := fun _ σ H => ta σ H fun vs H1 => vs.length ≤ sizeLine ∧ E (.ref C) none H1
theorem ps_raise (Fn : ExcBaseFacts Bn newId inN bmN) (hBn : bmB.contains (.type Bn) = true) (FB : ExcBaseFacts B nid initId bmB) (ok : PySem.W.excIn X.K C bmB newId = true) (hg : Gl X x) (hm : X.mg x = some (.ref C)) (hc : X.calm = true) (l : Lv X E)
    (ha : PA X (e0 :: es) ta) (hdb : (x == ("__debug__" : Str)) = false := by decide) (he : starEach (e0 :: es) X.env = (false, eval e0 X.env) :: starEach es X.env := by rfl) (hpl : (backTo cpos (starEach es X.env)).any (·.1) = false := by rfl) :
    PS X (.Raise (some (.Call (.Name x np) (e0 :: es) [] cpos)) none pos) (tRaise C E ta) := by
  intro pins s σ H D I h
  obtain ⟨bm, N, nm, q, bs, hdct, sn, sub, ab, col, dd, k0, k1, k2, k3, k5, mN, hC, hN, hni, T⟩ := exc_lies I.mod.kin ok
  have step := ha cpos pins s σ H _ I h
  refine wpAny_Raise_call_subU (C := C) (nm := nm) (q := q) (N := N) (bs := bs) (bm := bm) (hdct := hdct) (sn := sn) (sub := sub) (ab := ab) (col := col) (dd := dd) (k0 := k0) (k1 := k1) (k2 := k2) (k3 := k3) (k5 := k5)
    Fn hBn FB (mN := mN) (T.hasType FB.hasBase) (I.ok.hd hc) ?_ hni (ld_glob I hg hm ⟨rfl, ?_⟩ hdb)
  · rw [he]
    show (false || (backTo cpos (starEach es X.env)).any (·.1)) = false
    rw [hpl]; rfl
  · rw [he] at step ⊢
    refine Calls.evalArgs_plain (thn step fun us s2 ⟨vs, H2, I2, r2, len, q2⟩ => ?_)
    refine ⟨rfl, ?_, I2.bk _ _ hC, hN.keeps I2.bk, T.keeps I2.bk, fun h' e made => l.2.2.2 _ _ (leave_made I2 l.1 l.2.1 l.2.2.1 made q2)⟩
    show us.length ≤ sizeLine
    rw [← r2.length]; exact len
end
end L2
set_option Elab.async false
set_option linter.all false
set_option maxRecDepth 100000
set_option maxHeartbeats 4000000
set_option autoImplicit false
namespace L2
open PySem PySem.Spec PyProof.Rows
def ExcO (a : Addr) (cls : Value) : HO := .ext fun h => ∃ o vs, h.get? a = some o ∧ o.cls = cls ∧ o.data = .fields vs
section
variable {X : Cx} {pins : List (Addr × Obj)} {σ : St} {H H' : Hp} {s s' : Shared} {a : Addr} {cls a0 : Value} {B h2 : Heap} {E : XK}
theorem fly_inv (I : Inv X pins σ H s) (os : s'.os = s.os) (bare : AllBare s'.gens) (un : Un (frs X.stack) [] H H' s.heap s'.heap) (hok : HOk X.prog X.w H' s'.heap) (fl : Heap.FlyingW B X.stack a cls a0 s'.heap) (cov : Cov X.stack s.heap H' B)
    (st : B.StaysIn h2) (up : s'.heap.UpToSlots h2) (ex : ∃ o vs, h2.get? a = some o ∧ o.cls = cls ∧ o.data = .fields vs) : Inv X pins σ (upd H' a (ExcO a cls)) { s' with heap := h2 } := by
  obtain ⟨c1, c2⟩ := cov
  have na : H' a = none := by
    cases q : H' a with
    | none => rfl
    | some u =>
      obtain ⟨o', z⟩ := c2 a u q
      rw [fl.2.1] at z; cases z
  have frD : ∀ b ∈ frs X.stack, ∃ o, s'.heap.get? b = some o ∧ ∀ vs, o.data ≠ .fields vs := fun b hb => (fl.2.2.1.mem hb).2
  have neA : ∀ b o, s.heap.get? b = some o → b ≠ a := fun b o e z => by
    subst z
    by_cases hb : b ∈ frs X.stack
    · obtain ⟨o1, q1, d1⟩ := frD b hb
      obtain ⟨oe, vs, q2, _, d2, _⟩ := fl.first
      rw [q1] at q2
      cases q2
      exact d1 vs d2
    · obtain ⟨o', z⟩ := c1 b o e hb
      rw [fl.2.1] at z; cases z
  have eqB : ∀ b o o', s'.heap.get? b = some o → B.get? b = some o' → h2.get? b = some o := fun b o o' e z => by
    have := fl.1 b o' z
    rw [e] at this
    cases this
    exact st b _ z
  have un2 : Un (frs X.stack) [] H (upd H' a (ExcO a cls)) s.heap h2 := by
    refine ⟨fun b o e n hb hx => ?_, fun b o e n hb hx => ?_, fun b o e n hx => ?_, fun b o e hx => ?_, fun b xs e => ?_, fun b o u e => ?_, fun b ps e => ?_⟩
    · obtain ⟨o', z⟩ := c1 b o e hb
      exact eqB b o o' (un.keep b o e n hb hx) z
    · obtain ⟨sl, e1⟩ := un.slot b o e n hb hx
      obtain ⟨o1, q1, d1⟩ := frD b hb
      rw [e1] at q1
      cases q1
      obtain ⟨sl', e2⟩ := up b _ e1 d1
      exact ⟨sl', e2⟩
    · rw [upd_ne (neA b o e)]; exact un.free b o e n hx
    · by_cases hb : b ∈ frs X.stack
      · obtain ⟨o1, q1, d1⟩ := frD b hb
        obtain ⟨sl', e2⟩ := up b _ q1 d1
        exact ⟨_, e2⟩
      · obtain ⟨o', z⟩ := c1 b o e hb
        exact ⟨o', st b o' z⟩
    · have := un.tups b xs e
      rw [upd_ne (ne_of_none this na)]; exact this
    · have := un.frzs b o u e
      rw [upd_ne (ne_of_none this na)]; exact this
    · obtain ⟨more, z⟩ := un.tbls b ps e
      exact ⟨more, by rw [upd_ne (ne_of_none z na)]; exact z⟩
  have hok2 : HOk X.prog X.w (upd H' a (ExcO a cls)) h2 := fun b u e => by
    by_cases hb : b = a
    · subst hb
      rw [upd_same] at e
      cases e
      obtain ⟨o, vs, q1, q2, q3⟩ := ex
      exact ⟨⟨o, vs, q1, q2, q3⟩, ⟨o, q1⟩, fun h1 h3 ⟨o, vs, r1, r2, r3⟩ k => ⟨o, vs, k o r1, r2, r3⟩⟩
    · rw [upd_ne hb] at e
      refine (hok b u e).stay (fun c v hc r => ?_) (fun c r => ?_) fun c xs r => ?_
      · have : ∃ u', H' c = some u' := by
          rcases hc with rfl | hc
          · exact ⟨u, e⟩
          · exact ⟨_, hc⟩
        obtain ⟨u', hu⟩ := this
        obtain ⟨o', z⟩ := c2 c u' hu
        exact eqB c v o' r z
      · rw [upd_ne (ne_of_none r na)]; exact r
      · rw [upd_ne (ne_of_none r na)]; exact r
  exact I.call' (s' := { s' with heap := h2 }) (ch := []) os un2 hok2 bare (fun b z => absurd z (by simp))
theorem Inv.lost {m' : Str → Option Value} {t' : Nat} (I : Inv X pins σ H s) (ns : h2.Ns X.env.locals m') (sb : Heap.SameBut X.env.locals s.heap h2) : Inv X pins (List.replicate X.N.length none) H { s with heap := h2, toks := t' } := by
  obtain ⟨m, ⟨oL, esL, epL, hoL, rL⟩, _⟩ := id I.loc
  have ne0 : ∀ b o, X.s₀.heap.get? b = some o → b ≠ X.env.locals := fun b o q => Nat.ne_of_lt (Nat.lt_of_lt_of_le (Heap.lt_size q) I.ok.above)
  refine ⟨I.ok, I.os, I.bare, ⟨fun b o e n hb hx => ?_, fun b o e n hb hx => ?_, I.base.free, fun b o e hx => ?_, I.base.tups, I.base.frzs, I.base.tbls⟩, ⟨m', ns, fun i x v _ e _ => ?_⟩, fun x c e => ?_, I.free, I.freeC, fun p hp => ?_, fun b u e => ?_, by simp⟩
  · exact (sb.2 b (ne0 b o e)).trans (I.base.keep b o e n hb hx)
  · obtain ⟨sl, e1⟩ := I.base.slot b o e n hb hx
    exact ⟨sl, (sb.2 b (ne0 b o e)).trans e1⟩
  · obtain ⟨o', e1⟩ := I.base.there b o e hx
    exact ⟨o', (sb.2 b (ne0 b o e)).trans e1⟩
  · rw [List.getElem?_replicate] at e
    split at e <;> cases e
  · obtain ⟨v, o, ho, hd⟩ := I.cell x c e
    exact ⟨v, o, (sb.2 c (I.cne x c e)).trans ho, hd⟩
  · obtain ⟨e, n, ne, nf, d⟩ := I.pin p hp
    exact ⟨(sb.2 p.1 ne).trans e, n, ne, nf, d⟩
  · refine (I.hok b u e).stay (fun c v hc r => (sb.2 c ?_).trans r) (fun _ r => r) fun _ _ r => r
    rintro rfl
    rcases hc with z | z
    · rw [← z, I.free] at e; cases e
    · rw [I.free] at z; cases z
end
end L2
set_option Elab.async false
set_option linter.all false
set_option maxRecDepth 100000
set_option maxHeartbeats 4000000
set_option autoImplicit false
namespace L2
open PySem PySem.Spec PyProof.Rows
abbrev Cx.tried (X : Cx) (pn : List (Addr × Obj)) (W : Value → Shared → Prop) : Cx := { X with pn := pn, xe := W }
abbrev Cx.suite (X : Cx) (pn : List (Addr × Obj)) (a : Addr) : Cx := { X with pn := pn, xe := fun _ _ => False, A := X.A.mark (some (.ref a)), calm := false }
section
variable {X : Cx} {pins pn : List (Addr × Obj)} {σ : St} {H : Hp} {s : Shared} {W : Value → Shared → Prop} {a : Addr}
theorem ok_tried (k : X.Ok) : (X.tried pn W).Ok := ⟨k.mod, k.kind, k.glob, k.blt, k.above, k.inj, k.has, k.cab, k.hd, k.frames, k.stk, k.exf, k.bs, k.bsz, k.noex, k.exfs, k.funs, k.frf⟩
theorem ok_untried (k : (X.tried pn W).Ok) : X.Ok := ⟨k.mod, k.kind, k.glob, k.blt, k.above, k.inj, k.has, k.cab, k.hd, k.frames, k.stk, k.exf, k.bs, k.bsz, k.noex, k.exfs, k.funs, k.frf⟩
theorem ok_suite (k : X.Ok) : (X.suite pn a).Ok := ⟨k.mod, k.kind, k.glob, k.blt, k.above, k.inj, k.has, k.cab, fun z => Bool.noConfusion z, k.frames, k.stk, k.exf, k.bs, k.bsz, k.noex, k.exfs, k.funs, k.frf⟩
theorem inv_tried (I : Inv X pins σ H s) : Inv (X.tried (X.pn ++ pins) W) [] σ H s := ⟨ok_tried I.ok, I.os, I.bare, I.base, I.loc, I.cell, I.free, I.freeC, fun p hp => I.pin p (by simpa using hp), I.hok, I.len⟩
theorem inv_untried (k : X.Ok) (I : Inv (X.tried (X.pn ++ pins) W) [] σ H s) : Inv X pins σ H s := ⟨k, I.os, I.bare, I.base, I.loc, I.cell, I.free, I.freeC, fun p hp => I.pin p (by simpa using hp), I.hok, I.len⟩
theorem inv_suite (I : Inv (X.tried pn W) [] σ H s) : Inv (X.suite pn a) [] σ H s := ⟨ok_suite (ok_untried I.ok), I.os, I.bare, I.base, I.loc, I.cell, I.free, I.freeC, I.pin, I.hok, I.len⟩
theorem inv_unsuite (k : X.Ok) (I : Inv (X.suite (X.pn ++ pins) a) [] σ H s) : Inv X pins σ H s := ⟨k, I.os, I.bare, I.base, I.loc, I.cell, I.free, I.freeC, fun p hp => I.pin p (by simpa using hp), I.hok, I.len⟩
theorem sp_untried {D : Ends} {f : Flow} (k : X.Ok) (h : SP (X.tried (X.pn ++ pins) W) [] D f s) : SP X pins D f s := by
  cases f with
  | next => obtain ⟨σ', H', I, q⟩ := h; exact ⟨σ', H', inv_untried k I, q⟩
  | brk => obtain ⟨σ', H', I, q⟩ := h; exact ⟨σ', H', inv_untried k I, q⟩
  | cont => obtain ⟨σ', H', I, q⟩ := h; exact ⟨σ', H', inv_untried k I, q⟩
  | ret u => obtain ⟨v, σ', H', I, r, q⟩ := h; exact ⟨v, σ', H', inv_untried k I, r, q⟩
end
def Hit (K : PySem.W.Frag) (T : Addr) (i n : Nat) (ts : TS) (R : VK) : XK := fun cls _ H' => PySem.W.exmOne K cls (.ref T) = some true ∧ ∀ (a : Addr) (σ' : St), σ'.length = n → H' a = none → ts { nx := fun _ _ => False, rt := R } (σ'.set i (some (.ref a))) (upd H' a (ExcO a cls))
def tTry (K : PySem.W.Frag) (T : Addr) (i n : Nat) (tb : XK → TS) (ts : TS) : TS := fun D σ H => tb (Hit K T i n ts D.rt) D σ H
theorem ps_try {X : Cx} {body suite : List Stmt} {b0 : Stmt} {tb : XK → TS} {ts : TS} {t n : Str} {T : Addr} {i : Nat} {tp hpos pos : Pos} (stk : X.stack = X.env :: X.outer) (hf : X.env.frame = some X.env.locals)
    (hb : ∀ pn W Eb, Passes (CXE X.prog X.w) (X.tried pn W) Eb → PSs (X.tried pn W) body (tb Eb)) (hs : ∀ pn a, PSs (X.suite pn a) (b0 :: suite) ts)
    (hN : X.N.Nodup) (hi : X.N[i]? = some n) (hn : X.env.scope.names.lookup n = some .local) (hg : Gl X t) (hm : X.mg t = some (.ref T)) (hdb : (t == ("__debug__" : Str)) = false := by decide) :
    PS X (.Try body [.ExceptHandler (some (.Name t tp)) (some n) (b0 :: suite) hpos] [] [] pos) (tTry X.K T i X.N.length tb ts) := by
  intro pins s σ H D I h
  let W : Value → Shared → Prop := fun e s1 => ∃ (a : Addr) (cls a0 : Value) (B : Heap) (σ' : St) (H' : Hp), e = .ref a ∧ Heap.FlyingW B X.stack a cls a0 s1.heap ∧ H' a = none ∧ Hit X.K T i X.N.length ts D.rt cls none H' ∧
    ∀ h2, B.StaysIn h2 → s1.heap.UpToSlots h2 → (∃ o vs, h2.get? a = some o ∧ o.cls = cls ∧ o.data = .fields vs) → Inv X pins σ' (upd H' a (ExcO a cls)) { s1 with heap := h2 }
  have pas : Passes (CXE X.prog X.w) (X.tried (X.pn ++ pins) W) (Hit X.K T i X.N.length ts D.rt) := by
    intro pins' σ' H1 s0 e s1 I1 c
    obtain ⟨a, cls, a0, B, H', rfl, os, bare, un, hok, fl, cov, q⟩ := c
    have na : H' a = none := by
      cases z : H' a with
      | none => rfl
      | some u =>
        obtain ⟨o', y⟩ := cov.2 a u z
        rw [fl.2.1] at y; cases y
    exact ⟨a, cls, a0, B, σ', H', rfl, fl, na, q, fun h2 st up ex => inv_untried I.ok ((fly_inv I1 os bare un hok fl cov st up ex).pins_of (pins' := []) (fun p hp => absurd hp (by simp)))⟩
  refine wpAny_Try_except (wpAny_mono (hb _ W _ pas [] s σ H D (inv_tried I) h) (fun f s1 q => ?_) fun e s1 q => ?_)
  · have q := sp_untried I.ok q
    cases f with
    | next => exact wpAny_execs_nil q
    | brk => exact q
    | cont => exact q
    | ret u => exact q
  · obtain ⟨a, cls, a0, B, σ', H', rfl, fl, na, ⟨hx, go⟩, stab⟩ := q
    have hfr : X.A.frames = some (X.env :: X.outer) := by rw [I.ok.frames, stk]
    rw [stk] at fl
    refine wpAny_looks_onW hfr hf fl fun h4 held up4 => ?_
    refine wpAny_landsW held fun h5 fl5 up5 => ?_
    have first5 : ∃ o vs, h5.get? a = some o ∧ o.cls = cls ∧ o.data = .fields vs := by
      obtain ⟨oe, vs, q1, q2, q3, _⟩ := fl5.first
      exact ⟨oe, vs, q1, q2, q3⟩
    have I5 := stab h5 fl5.1 (up4.trans up5) first5
    refine wpAny_handleBy_cons (codeAny_handlers_test (Calls.Name_function_global I.ok.kind hg (Calls.loadGlobal_global (by rw [I.ok.glob]; exact I.ok.mod.glob.keeps I5.bk) hm ?_) hdb)) (by intro z; cases z)
    have LT : PySem.W.Looks (model X.prog X.w) h5 (typeOf (.ref a)) cls := by
      obtain ⟨o, vs, q1, q2, _⟩ := first5
      subst q2
      exact (PySem.W.Looks.ld q1).andThen .now
    refine PySem.W.Looks.here (s := { s1 with heap := h5 }) (PySem.W.exm_one (K := X.K) I5.kIn LT hx) ?_
    refine codeAny_handlers_suite_as ?_
    refine lands_againW fl5 fun h6 fl6 up6 => ?_
    have first6 : ∃ o vs, h6.get? a = some o ∧ o.cls = cls ∧ o.data = .fields vs := by
      obtain ⟨oe, vs, q1, q2, q3, _⟩ := fl6.first
      exact ⟨oe, vs, q1, q2, q3⟩
    have I6 := stab h6 fl6.1 ((up4.trans up5).trans up6) first6
    have I6s : Inv (X.suite (X.pn ++ pins) a) [] σ' (upd H' a (ExcO a cls)) { s1 with heap := h6 } := inv_suite (W := X.xe) (inv_tried I6)
    refine store_ok (X := X.suite (X.pn ++ pins) a) I6s hN hi (.inl hn) (v := .ref a) rfl (fun s7 I7 => ?_) (.inr hn)
    refine wpAny_mono (hs _ a [] s7 _ _ { nx := fun _ _ => False, rt := D.rt } I7 (go a σ' I6.len na)) (fun f s8 q => ?_) fun e s8 z => z.elim
    cases f with
    | next => obtain ⟨_, _, _, z⟩ := q; exact z.elim
    | brk => obtain ⟨_, _, _, z⟩ := q; exact z.elim
    | cont => obtain ⟨_, _, _, z⟩ := q; exact z.elim
    | ret u =>
      obtain ⟨v, σ8, H8, I8, r8, q8⟩ := q
      have J8 := inv_unsuite I.ok I8
      obtain ⟨m8, ns8, _⟩ := id J8.loc
      refine wpAny_nameGoes hn ns8 (by rw [I.ok.kind]; rfl) fun h9 m9 ns9 sb => ?_
      exact ⟨v, _, H8, J8.lost ns9 sb, r8, q8⟩
end L2
set_option Elab.async false
set_option linter.all false
set_option maxRecDepth 100000
set_option maxHeartbeats 4000000
set_option autoImplicit false
namespace L2
open PySem PySem.Spec PyProof.Rows
structure RoomH (k : Nat) (A : Around) : Prop where
  dp : A.depth + 3 * k + 5 < recursionLimit
  un : A.units + 16 * k + 200 < cLine
  gd : A.guards = some []
theorem Room.h {k : Nat} {A : Around} (r : Room k A) : RoomH k A := ⟨r.dp, r.un, r.gd⟩
theorem RoomH.mark {k : Nat} {A : Around} (r : RoomH k A) (e : Option Value) : RoomH k (A.mark e) := ⟨r.dp, r.un, r.gd⟩
theorem RoomH.deeper {k : Nat} {A : Around} (r : RoomH (k + 1) A) (env : Env) : RoomH k (A.deeper env) :=
  ⟨by have := r.dp; show A.depth + 1 + 3 * k + 5 < _; omega, by have := r.un; show A.units + 3 + 16 * k + 200 < _; omega, r.gd⟩
theorem RoomH.units {k : Nat} {A : Around} (r : RoomH k A) : A.units + 64 < cLine := by have := r.un; omega
structure FnOkH (P : Program) (w : World) (K : PySem.W.Frag) (mg : Str → Option Value) (base : Heap) (k : Nat) (f : Addr) (fd : FuncData) (ps : List Str) (sp : Sp) : Prop where
  len : ∀ vs H Q E, sp vs H Q E → vs.length = ps.length
  run : ∀ (A : Around) (outer : List Env) (s : Shared) (H : Hp) (args : Args) (us : List Value) (vs : List V) (Q : VK) (E : XK), RoomH k A → Env0 P w K mg base A outer s H → BindsTo s fd args (ps.zip us) → Vals vs us → sp vs H Q E →
    codeAny (model P w) A (.call (.ref f) args) (CR CX0 outer P w H s Q E) s
abbrev cxH (P : Program) (w : World) (K : PySem.W.Frag) (mg : Str → Option Value) (base : Heap) (N : List Str) (qual : Str) (scope : Scope) (f : Addr) (cd : Value) (A : Around) (outer : List Env) (s : Shared) (H : Hp) (E : XK) : Cx :=
  { cxOf CX0 P w K mg base N qual scope f cd A outer s H E with calm := false, xe := fun _ _ => False }
theorem inv_startH {P : Program} {w : World} {K : PySem.W.Frag} {mg : Str → Option Value} {base : Heap} {N ps : List Str} {qual : Str} {scope : Scope} {f : Addr} {cd : Value} {A : Around} {outer : List Env} {s s1 : Shared} {H : Hp} {E : XK} {us : List Value} {vs : List V}
    (S : FnScope N ps scope) (e0 : Env0 P w K mg base A outer s H) (hl : vs.length = ps.length) (r : Vals vs us)
    (x : InCallC s s.heap.objs.size (bindL (envOfC qual scope s.heap.objs.size f cd).kindOf (ps.zip us) fun _ => none) (cellsFrom (s.heap.objs.size + 1) scope.names []) (bindC (envOfC qual scope s.heap.objs.size f cd).kindOf (ps.zip us) fun _ => none) s1) :
    Inv (cxH P w K mg base N qual scope f cd A outer s H E) [] (start N vs) H s1 := by
  have e1 : Env0 P w K mg base { A with handled := none } outer s H := ⟨e0.frames, e0.mod, e0.bs, e0.bsz, e0.funs, e0.frf, e0.hok, e0.bare⟩
  have I := inv_start (CX := CX0) (E := E) S (A := { A with handled := none }) rfl e1 hl r x
  have k := I.ok
  exact ⟨⟨k.mod, k.kind, k.glob, k.blt, k.above, k.inj, k.has, k.cab, fun z => Bool.noConfusion z, k.frames, k.stk, k.exf, k.bs, k.bsz, k.noex, k.exfs, k.funs, k.frf⟩, I.os, I.bare, I.base, I.loc, I.cell, I.free, I.freeC, I.pin, I.hok, I.len⟩
theorem fn_ofH {P : Program} {w : World} {K : PySem.W.Frag} {mg : Str → Option Value} {base : Heap} {k : Nat} {x qual : Str} {st : Stmt} {f : Addr} {fd : FuncData} {N ps : List Str} {sp : Sp} (F : Fun K x qual st f fd) (S : FnScope N ps (defScope st)) (len : ∀ vs H Q E, sp vs H Q E → vs.length = ps.length)
    (hbody : ∀ (cdv : Value) (A : Around) (outer : List Env) (s : Shared) (H : Hp) (vs : List V) (Q : VK) (E : XK), RoomH k (A.deeper (envOfC qual (defScope st) s.heap.objs.size f cdv)) → sp vs H Q E →
      ∃ t, PSs (cxH P w K mg base N qual (defScope st) f cdv A outer s H E) (defBody st) t ∧ t { nx := fun _ H' => Q .non H', rt := Q } (start N vs) H) : FnOkH P w K mg base (k + 1) f fd ps sp := by
  obtain ⟨oc, od, kV, doc, pm, an, cdv, ct, osl, rfl, lk, hcd⟩ := F.ex
  refine ⟨len, fun A outer s H args us vs Q E hr e0 hb r hsp => ?_⟩
  have hl := len _ _ _ _ hsp
  have KX : K.In s.heap := e0.mod.kin.keeps fun b o e => (e0.bs b o e).1
  have lim : s.heap.NoLimit := e0.mod.nolimit.keeps fun b o e => (e0.bs b o e).1
  have hkind : ∀ y ∈ ps.zip us, (defScope st).names.lookup y.1 = some .local ∨ ((defScope st).names.lookup y.1 = some .cell ∧ ((cellsFrom (s.heap.objs.size + 1) (defScope st).names []).lookup y.1).isSome = true) := fun ⟨n, v⟩ hy => by
    rcases S.par n (List.of_mem_zip hy).1 with q | q
    · exact .inl q
    · exact .inr ⟨q, PySem.W.cellsFrom_some _ _ _ (.inl q)⟩
  refine codeAny_call_function (by have := hr.dp; omega) (KX _ _ lk) rfl S.co S.gen rfl (PySem.W.codeRec_of KX hcd) (hb _ _ _ _ ?_)
  refine wpAny_newFunctionEnv_cells S.kind hkind fun env he s1 x => ?_
  subst he
  refine ⟨lim.keeps x.toInCall.keep, codeAny_func ?_⟩
  obtain ⟨t, ht, hq⟩ := hbody cdv A outer s H vs Q E (hr.deeper _) hsp
  have I := inv_startH (cd := cdv) (f := f) (qual := qual) (E := E) S e0 hl r x
  refine wpAny_mono (ht [] s1 (start N vs) H _ I hq) (fun fl s' hs => ?_) fun e s' hs => hs.elim
  have fin : ∀ {σ' : St} {H' : Hp} {v : V} {u : Value}, Inv (cxH P w K mg base N qual (defScope st) f cdv A outer s H E) [] σ' H' s' → RelV v u → Q v H' → CE outer P w H s Q u s' :=
    fun {σ' H' v u} J rv q => ⟨v, H', J.os, J.bare, J.base, J.hok, rv, q⟩
  cases fl with
  | ret u =>
    obtain ⟨v, σ', H', J, rv, q⟩ := hs
    exact fin J rv q
  | next =>
    obtain ⟨σ', H', J, q⟩ := hs
    exact fin (v := V.non) (u := Value.none) J rfl q
  | brk =>
    obtain ⟨_, _, _, q⟩ := hs
    exact False.elim q
  | cont =>
    obtain ⟨_, _, _, q⟩ := hs
    exact False.elim q
section
variable {X : Cx} {k : Nat} {f : Addr} {fd : FuncData} {ps : List Str} {sp : Sp} {x : Str} {p pos : Pos} {e : Expr} {es : List Expr} {t : TA}
theorem pe_callH (F : FnOkH X.prog X.w X.K X.mg X.base k f fd ps sp) (hr : RoomH k X.A) (hg : Gl X x) (hm : X.mg x = some (.ref f)) (hk : PySem.W.keepIn X.K (.ref f) = true) (hb : Binds X.K fd ps [])
    (ha : PA X (e :: es) t) (hdb : (x == ("__debug__" : Str)) = false := by decide) (he : starEach (e :: es) X.env = (false, eval e X.env) :: starEach es X.env := by rfl) (hpl : (backTo pos (starEach es X.env)).any (·.1) = false := by rfl) :
    PE X (.Call (.Name x p) (e :: es) [] pos) (tCall sp [] E0 t) := by
  intro pins s σ H Q I h
  refine wpAny_Call_Name_kw (ld_glob I hg hm ?_ hdb)
  refine PySem.W.callWith_K (h₀ := X.base) I.ok.mod.kin hk (thn (ha pos pins s σ H _ I h) fun us s1 ⟨vs, H1, I1, r, q⟩ => ⟨I1.kIn, ?_⟩) he hpl
  have q : sp (vs ++ []) H1 Q E0 := q
  rw [List.append_nil] at q
  have hl : us.length = ps.length := by rw [← r.length]; exact F.len _ _ _ _ q
  have bd := hb s1 us I1.kIn (by rw [List.append_nil]; exact hl)
  rw [List.append_nil] at bd
  refine wpAny_call (codeAny_mono (F.run X.A X.stack s1 H1 ⟨us, []⟩ us vs Q E0 hr I1.env0 bd r q) fun r s' hq => ?_)
  cases r with
  | error e => exact hq.elim
  | ok fl =>
    cases fl with
    | ret u => exact I1.after hq
    | next => exact False.elim hq
    | brk => exact False.elim hq
    | cont => exact False.elim hq
end
end L2
set_option Elab.async false
set_option linter.all false
set_option maxRecDepth 100000
set_option maxHeartbeats 4000000
set_option autoImplicit false
namespace L2
open PySem PySem.Spec PyProof.Rows PySem.W PySem.Builtin PySem.Builtin.ObjectAttr PySem.Builtin.Getset_descriptor
structure XCls (K : Frag) (C : Addr) : Prop where
  ga : findIn K (.ref C) "__getattribute__" = some (some (.builtin "BaseException.__getattribute__"))
  gt : findIn K (.ref C) "__getattr__" = some none
  mb : mroIn K C (.type "BaseException") = some true
section
variable {prog : Program} {w : World} {A : Around} {E : Value → Shared → Prop} {K : Frag} {x C : Addr} {name : Str} {tk : Tok} {s : Shared}
theorem x_entry {r : Found} {Q : Fin → Shared → Prop} (L0 : Looks (model prog w) s.heap (typeOf (.ref x)) (.ref C)) (L1 : Looks (model prog w) s.heap (find (.ref x) (.ref C) name) r)
    (h : match r with
      | .value v => Q (.done (.ret v)) s
      | .bind g a => wpAny (model prog w) A (bindTo g a (.ref x) (.ref C)) Q E s
      | .missing => False) : wpAny (model prog w) A (Builtin.«object.__getattribute__» ⟨[.ref x, .str name tk], []⟩) Q E s := by
  obtain ⟨hh, g, d, t, os⟩ := s
  refine wpAny_bind (wpAny_pure (wpAny_bind (wpAny_pure (wpAny_bind (L0.at (wpAny_bind (L1.at ?_)))))))
  cases r with
  | value v => exact wpAny_pure h
  | bind g a => exact h
  | missing => exact h.elim
theorem x_by {fill expr : Bool} {Q : Value → Shared → Prop} (c : XCls K C) (kin : K.In s.heap) (L0 : Looks (model prog w) s.heap (typeOf (.ref x)) (.ref C))
    (h : codeAny (model prog w) A (.call (.builtin "BaseException.__getattribute__") ⟨[.ref x, .str name tk], []⟩) (fun r s' => match r with | .ok (.ret v) => handedIn v = true ∧ Q v s' | _ => False) s) :
    wpAny (model prog w) A (getAttrBy (.ref x) (.str name tk) fill expr) Q E s := by
  obtain ⟨hh, g, d, t, os⟩ := s
  have L1 := looks_findIn (M := model prog w) kin c.ga
  have L2 := looks_findIn (M := model prog w) kin c.gt
  have no : (onTheHeap (Value.ref C) && Value.builtin "BaseException.__getattribute__" == Value.builtin "object.__getattribute__") = false := by
    rw [show (Value.builtin "BaseException.__getattribute__" == Value.builtin "object.__getattribute__") = false by decide +kernel]; rfl
  have no2 : (expr && onTheHeap (Value.builtin "BaseException.__getattribute__")) = false := by cases expr <;> rfl
  unfold getAttrBy
  refine wpAny_holding (wpAny_bind (L0.at (wpAny_bind (L1.at ?_))))
  dsimp only
  rw [no, if_neg (by decide)]
  unfold getAttrByItsOwn callGetattribute boundAndCalled
  rw [no2, if_neg (by decide)]
  refine wpAny_bind (L2.at (wpAny_bind (wpAny_attempt (wpAny_holding ?_))))
  rw [PySem.F.attr_ValueError.ga.bind]
  refine wpAny_bind (wpAny_pure (wpAny_call (codeAny_mono h fun r s' z => ?_)))
  cases r with
  | error e => exact z.elim
  | ok f => cases f with
    | ret v => exact handed_on z.1 z.2
    | next => exact z.elim
    | brk => exact z.elim
    | cont => exact z.elim
theorem x_call {R : Result → Shared → Prop} (c : XCls K C) (kin : K.In s.heap) (L0 : Looks (model prog w) s.heap (typeOf (.ref x)) (.ref C))
    (h : wpAny (model prog w) A.in1 (Builtin.«object.__getattribute__» ⟨[.ref x, .str name tk], []⟩) (fun fin s' => match fin with | .done f => R (.ok f) s' | .again c' => c'.quiet = true ∧ codeAny (model prog w) A c' R s') (fun e s' => R (.error e) s') s) :
    codeAny (model prog w) A (.call (.builtin "BaseException.__getattribute__") ⟨[.ref x, .str name tk], []⟩) R s := by
  have k1 : builtinKind "BaseException.__getattribute__" = some .slot := by decide +kernel
  have k2 : splitId "BaseException.__getattribute__" = some ("BaseException", "__getattribute__") := by decide +kernel
  have isB : Looks (model prog w) s.heap (isInstance (.ref x) (.type "BaseException")) true := L0.andThen (looks_mroIn kin c.mb)
  refine codeAny_call_builtin PySem.F.attr_ValueError.ga.plain PySem.F.entry_bexc_ga (@check_slot (model prog w) _ _ s "BaseException.__getattribute__" "BaseException" "__getattribute__" (.ref x) [.str name tk] [] _ k1 k2 isB (PySem.F.args_bexc_ga (.ref x) (.str name tk)) ?_)
  exact h
theorem x_value {v : Value} {expr : Bool} {Q : Value → Shared → Prop} (c : XCls K C) (kin : K.In s.heap) (L0 : Looks (model prog w) s.heap (typeOf (.ref x)) (.ref C)) (L1 : Looks (model prog w) s.heap (find (.ref x) (.ref C) name) (.value v)) (hv : handedIn v = true) (h : Q v { s with toks := s.toks + 1 }) :
    wpAny (model prog w) A (getAttr (.ref x) name expr) Q E s :=
  wpAny_bind (wpAny_mkText (x_by (s := { s with toks := s.toks + 1 }) c kin L0 (x_call (s := { s with toks := s.toks + 1 }) c kin L0 (x_entry (s := { s with toks := s.toks + 1 }) L0 L1 ⟨hv, h⟩))))
theorem x_cget {R : Result → Shared → Prop} {tp : Value} (kin : K.In s.heap) (L0 : Looks (model prog w) s.heap (typeOf (.ref x)) (.ref C)) (mo : mroIn K C (.type "object") = some true) (fin : R (.ok (.ret (.ref C))) s) :
    codeAny (model prog w) A (.call (.builtin "getset_descriptor.__get__") ⟨[.builtin "object.__class__", .ref x, tp], []⟩) R s := by
  obtain ⟨hh, g, d, t, os⟩ := s
  have L1 := looks_mroIn (M := model prog w) kin mo
  refine codeAny_call_builtin (id KF.slot_gs.plain) (id KF.entry_gs) (KF.slot_gs.check _ _ _ _ _ _ _ _ (id KF.type_class) (id (KF.args_gs _ _ _)) ?_)
  show wpAny (model prog w) A.in1 (descrGet _) _ _ _
  unfold descrGet
  rw [dga_obj]
  refine wpAny_bind (wpAny_pure ?_)
  simp only [descrGetter, descrCheckInstance, descrNameAndClass, isInstance, KF.owner_class]
  (repeat lk)
  refine ⟨Code.quiet_builtin _ (id (by decide +kernel)), codeAny_builtin (id KF.entry_class) ?_⟩
  simp only [Builtin.«object.__class__», shownTypeOf]
  (repeat lk)
  exact fin
theorem x_class {Q : Option Value → Shared → Prop} (c : XCls K C) (kin : K.In s.heap) (L0 : Looks (model prog w) s.heap (typeOf (.ref x)) (.ref C))
    (fc : findIn K (.ref C) "__class__" = some (some (.builtin "object.__class__"))) (fg : specialIn K (.builtin "object.__class__") "__get__" = some (some (.builtin "getset_descriptor.__get__"))) (ft : takesIn K (.builtin "object.__class__") = some true)
    (mo : mroIn K C (.type "object") = some true) (h : Q (some (.ref C)) { s with toks := s.toks + 1 }) :
    wpAny (model prog w) A (getAttr? (.ref x) "__class__") Q E s := by
  have Lf : Looks (model prog w) s.heap (find (.ref x) (.ref C) "__class__") (.bind (.builtin "getset_descriptor.__get__") (.builtin "object.__class__")) := by
    refine (looks_findIn kin fc).andThen ((show Looks (model prog w) s.heap (getOf (some (.builtin "object.__class__"))) _ from looks_specialIn kin fg).andThen ?_)
    exact (show Looks (model prog w) s.heap (dataDescriptor? (some (.builtin "object.__class__")) (some (.builtin "getset_descriptor.__get__"))) (some (.builtin "getset_descriptor.__get__", .builtin "object.__class__")) from (looks_takesIn kin ft).andThen .now).andThen (Looks.tag .now)
  refine wpAny_bind (wpAny_mkText (wpAny_bind (wpAny_attempt (x_by (s := { s with toks := s.toks + 1 }) c kin L0 (x_call (s := { s with toks := s.toks + 1 }) c kin L0 (x_entry (s := { s with toks := s.toks + 1 }) L0 Lf ?_))))))
  show wpAny _ _ (holding [Value.builtin "object.__class__"] (call (.builtin "getset_descriptor.__get__") [.builtin "object.__class__", .ref x, .ref C]) >>= ret) _ _ _
  exact wpAny_bind (wpAny_holding (wpAny_call (x_cget (s := { s with toks := s.toks + 1 }) kin L0 mo (wpAny_pure ⟨rfl, wpAny_pure h⟩))))
end
end L2
set_option Elab.async false
set_option linter.all false
set_option maxRecDepth 100000
set_option maxHeartbeats 4000000
set_option autoImplicit false
namespace L2
open PySem PySem.Spec PyProof.Rows PySem.W PySem.Builtin PySem.Builtin.ObjectAttr
def vMro : List Value → Bool
  | .ref _ :: r => vMro r
  | l => l == [.type "ValueError", .type "Exception", .type "BaseException", .type "object"]
theorem vMro_cases : ∀ {l : List Value}, vMro l = true → l = [.type "ValueError", .type "Exception", .type "BaseException", .type "object"] ∨ ∃ c r, l = .ref c :: r ∧ vMro r = true := by
  intro l e
  unfold vMro at e
  split at e
  · exact .inr ⟨_, _, rfl, e⟩
  · exact .inl (beq_iff_eq.mp e)
theorem vMro_refuse (self : Value) : ∀ (l : List Value), vMro l = true → refuseLoop self "__setattr__" l = pure () := by
  intro l
  induction l with
  | nil => intro e; rcases vMro_cases e with z | ⟨_, _, z, _⟩ <;> cases z
  | cons x r ih =>
    intro e
    rcases vMro_cases e with z | ⟨c, r', z, e'⟩
    · rw [z]; exact PySem.F.store_ValueError.passes self
    · cases z; rw [refuseLoop_ref]; exact ih e'
theorem vMro_has : ∀ (l : List Value), vMro l = true → l.contains (.type "object") = true := by
  intro l
  induction l with
  | nil => intro e; rcases vMro_cases e with z | ⟨_, _, z, _⟩ <;> cases z
  | cons x r ih =>
    intro e
    rcases vMro_cases e with z | ⟨c, r', z, e'⟩
    · rw [z]; decide +kernel
    · cases z; rw [List.contains_cons, ih e', Bool.or_true]
def vCls (K : Frag) (C : Addr) : Bool := (clsIn K C).any fun cd => cd.hasDict && vMro cd.mro
def xinIn (K : Frag) (C : Addr) (bmB : List Value) (newId : String) : Bool := match K.lookup C with
  | some ⟨.type "type", _, .cls cd, sl⟩ => (match cd.mro, sl.toList with
    | .ref C' :: bm, [_, _, _, _, some (.builtin n), _] => C' == C && (n == newId && (!cd.hasDel && tailIn K bmB bm))
    | _, _ => false)
  | _ => false
theorem xin_lies {K : Frag} {h : Heap} {C : Addr} {bmB : List Value} {newId : String} (kin : K.In h) (ok : xinIn K C bmB newId = true) :
    ∃ bm N nm q bs hdct sn sub ab col dd k0 k1 k2 k3 k5, h.get? C = some (excClassObj nm q C N bs bm hdct sn sub ab col dd k0 k1 k2 k3 k5 newId) ∧ OwnTail h bmB bm := by
  unfold xinIn at ok
  split at ok
  case h_2 => exact absurd ok (by decide)
  case h_1 dict cdat sls lk =>
    split at ok
    case h_2 => exact absurd ok (by decide)
    case h_1 C2 tl f0 f1 f2 f3 nid f5 em es =>
      rw [Bool.and_eq_true, Bool.and_eq_true, Bool.and_eq_true] at ok
      obtain ⟨z1, z2, z3, z4⟩ := ok
      rw [Bool.not_eq_true'] at z3
      have es' : sls = #[f0, f1, f2, f3, some (.builtin nid), f5] := Array.toList_inj.mp es
      cases beq_iff_eq.mp z1
      cases beq_iff_eq.mp z2
      rcases cdat with ⟨c1, c2, c3, c4, c5, c6, c7, c8, c9, c10, c11⟩
      change c3 = _ at em
      change c11 = false at z3
      subst em z3 es'
      exact ⟨tl, c4, c1, c5, c2, c6, c7, c8, c9, c10, dict, f0, f1, f2, f3, f5, kin _ _ lk, tail_of_in kin z4⟩
section
variable {prog : Program} {w : World} {A : Around} {E : Value → Shared → Prop} {h : Heap} {g : Array GenState} {d : Drawn} {t : Nat} {os : OsState}
variable {nm q : Str} {C N fI : Addr} {bs bm bmB bmN us : List Value} {hdct : Bool} {sn : List Str} {sub : List Value} {ab : Bool} {col : Option Bool} {dd : Option Addr} {k0 k1 k2 k3 k5 : Option Value} {B Bn newId nid initId inN : String} {oI : Obj}
def xHeap (h : Heap) (C : Addr) (us : List Value) : Heap :=
  (h.push { cls := .type "tuple", data := .seq us.toArray }).push { cls := .ref C, data := .fields #[.ref h.objs.size, .none, .none, .none, .bool false, .none] }
theorem xHeap_keeps {b : Addr} {o : Obj} (e : h.get? b = some o) : (xHeap h C us).get? b = some o := Heap.get?_push_of_some _ (Heap.get?_push_of_some _ e)
theorem xHeap_new : (xHeap h C us).get? (h.objs.size + 1) = some { cls := .ref C, data := .fields #[.ref h.objs.size, .none, .none, .none, .bool false, .none] } := by unfold xHeap; heap_get
theorem x_tcall {Q : Fin → Shared → Prop} (Fn : ExcBaseFacts Bn newId inN bmN) (hBn : bmB.contains (.type Bn) = true) (FB : ExcBaseFacts B nid initId bmB) (T : OwnTail h bmB bm)
    (hc : h.get? C = some (excClassObj nm q C N bs bm hdct sn sub ab col dd k0 k1 k2 k3 k5 newId)) (li : ∀ h', (∀ b o, h.get? b = some o → h'.get? b = some o) → Looks (model prog w) h' (typeLookup (.ref C) "__init__") (some (.ref fI)))
    (fo : h.get? fI = some oI) (fc : oI.cls = .type "function") (len : us.length ≤ sizeLine)
    (go : wpAny (model prog w) A (call (.ref fI) (.ref (h.objs.size + 1) :: us)) (fun r s' => r = .none ∧ Q (.done (.ret (.ref (h.objs.size + 1)))) s') E ⟨xHeap h C us, g, d, t, os⟩) :
    wpAny (model prog w) A (Builtin.«type.__call__» ⟨.ref C :: us, []⟩) Q E ⟨h, g, d, t, os⟩ := by
  repeat (first | with_reducible refine wpAny_madeBy_exc hc ?_ | with_reducible refine wpAny_loadPart_at hc ?_ | wp_step)
  refine codeAny_call_builtin_code (Code.quiet_builtin _ Fn.quiet) (wpAny_check_new_subU Fn hBn T hc (codeAny_exc_new_subU Fn hBn FB T hc ?_ len))
  change wpAny _ _ _ _ _ _
  have hself : (Value.ref C :: bm).contains (.ref C) = true := by rw [List.contains_cons]; simp
  have c1 : (xHeap h C us).get? C = some (excClassObj nm q C N bs bm hdct sn sub ab col dd k0 k1 k2 k3 k5 newId) := xHeap_keeps hc
  have e1 := xHeap_new (h := h) (C := C) (us := us)
  have L := li (xHeap h C us) fun b o e => xHeap_keeps e
  have f1 : (⟨xHeap h C us, g, d, t, os⟩ : Shared).TypeIs (.ref fI) "function" := ⟨_, xHeap_keeps fo, fc⟩
  change wpAny _ _ _ _ _ ⟨xHeap h C us, g, d, t, os⟩
  unfold isInstance
  repeat (first | (with_reducible refine wpAny_isSubtype_exc c1 ?_; rw [hself]) | with_reducible refine wpAny_loadPart_at e1 ?_ | wp_step)
  change wpAny _ _ (typeLookup (.ref C) _) _ _ _
  refine L.at ?_
  refine wpAny_holding (wpAny_bind ?_)
  unfold bindSpecial
  refine wpAny_bind (wpAny_typeOf f1 ?_)
  rw [if_pos (by decide)]
  refine wpAny_pure (wpAny_bind (wpAny_mono go (fun r s' z => ?_) fun _ _ z => z))
  obtain ⟨rfl, z⟩ := z
  wp_walk
  exact z
theorem x_make {Q : Value → Shared → Prop} (Fn : ExcBaseFacts Bn newId inN bmN) (hBn : bmB.contains (.type Bn) = true) (FB : ExcBaseFacts B nid initId bmB) (T : OwnTail h bmB bm)
    (hc : h.get? C = some (excClassObj nm q C N bs bm hdct sn sub ab col dd k0 k1 k2 k3 k5 newId)) (li : ∀ h', (∀ b o, h.get? b = some o → h'.get? b = some o) → Looks (model prog w) h' (typeLookup (.ref C) "__init__") (some (.ref fI)))
    (fo : h.get? fI = some oI) (fc : oI.cls = .type "function") (len : us.length ≤ sizeLine)
    (go : wpAny (model prog w) (A.under (.builtin "type.__call__" ⟨.ref C :: us, []⟩)) (call (.ref fI) (.ref (h.objs.size + 1) :: us)) (fun r s' => r = .none ∧ Q (.ref (h.objs.size + 1)) s') E ⟨xHeap h C us, g, d, t, os⟩) :
    wpAny (model prog w) A (call (.ref C) us) Q E ⟨h, g, d, t, os⟩ := by
  have g1 := tc_lookup
  have g2 := tc_bind (.ref C)
  have ty : (⟨h, g, d, t, os⟩ : Shared).TypeIs (.ref C) "type" := ⟨_, hc, rfl⟩
  refine wpAny_call (codeAny_of_tree ?_)
  change wpAny _ _ (callAny (.ref C) _) _ _ _
  repeat (any_goals (first | with_reducible refine wpAny_loadPart_at hc ?_ | assumption | wp_step))
  refine ⟨rfl, codeAny_call_builtin_at (Code.quiet_builtin _ (by decide +kernel)) entry_typeCall (wpAny_check_type_call_sub hc (x_tcall Fn hBn FB T hc li fo fc len go))⟩
end
def xdHeap (h : Heap) (x : Addr) : Heap := (h.push { cls := .type "dict", data := .dict #[] }).update x fun o => { cls := o.cls, dict := some h.objs.size, data := o.data, slots := o.slots }
section
variable {prog : Program} {w : World} {A : Around} {E : Value → Shared → Prop} {K : Frag} {x C : Addr} {ox : Obj} {name : Str} {tk : Tok} {v : Value} {s : Shared}
theorem xd_empty {h : Heap} (hx : x < h.objs.size) : (xdHeap h x).get? h.objs.size = some { cls := .type "dict", data := .dict #[] } := by
  unfold xdHeap
  rw [Heap.get?_update_ne _ _ _ _ (Nat.ne_of_gt hx)]
  exact Heap.get?_push_at rfl rfl
theorem x_osa {R : Result → Shared → Prop} (kin : K.In s.heap) (I : PySem.W.InstAt s.heap x ox C none) (hdn : ox.dict = none) (vc : vCls K C = true) (ha : findIn K (.ref C) name = some none)
    (go : ∀ h', h'.Ns1 s.heap.objs.size (fun y => if y = name then some v else none) → Heap.SameBut s.heap.objs.size (xdHeap s.heap x) h' → R (.ok (.ret .none)) { s with heap := h', toks := s.toks + 1 }) :
    codeAny (model prog w) A (.call (.builtin "object.__setattr__") ⟨[.ref x, .str name tk, v], []⟩) R s := by
  obtain ⟨cd, hc, hv⟩ := any_some vc
  rw [Bool.and_eq_true] at hv
  have ne : cd.mro.isEmpty = false := by
    cases z : cd.mro with
    | nil => rw [z] at hv; exact absurd (vMro_has _ hv.2) (by decide)
    | cons _ _ => rfl
  have isO : Looks (model prog w) s.heap (isInstance (.ref x) (.type "object")) true := I.type.andThen (looks_mroIn kin (by unfold mroIn; rw [hc, Option.bind_some, if_neg (by rw [ne]; decide), vMro_has _ hv.2]))
  have hm : Looks (model prog w) s.heap (mroOf (.ref C)) cd.mro := (looks_clsIn kin hc).andThen .now
  refine codeAny_call_builtin PySem.F.store_object.slot.plain PySem.F.store_object.entry (@check_slot (model prog w) _ _ s "object.__setattr__" "object" "__setattr__" (.ref x) [.str name tk, v] [] _ PySem.F.store_object.kind PySem.F.store_object.split isO (PySem.F.store_object.args (.ref x) (.str name tk) v) ?_)
  rw [osa_eq, refuse_eq]
  refine wpAny_bind (wpAny_bind (I.type.here (wpAny_bind (hm.here ?_))))
  rw [vMro_refuse _ _ hv.2]
  refine wpAny_pure (wpAny_bind (I.type.here (wpAny_bind ((looks_findIn kin ha).here (wpAny_bind (wpAny_pure (a := none) ?_))))))
  obtain ⟨hx, hcl, hn, -⟩ := I
  obtain ⟨oc, odi, oda, osl⟩ := ox
  dsimp only at hcl hdn
  subst hcl hdn
  refine wpAny_bind (wpAny_pure (wpAny_bind (wpAny_bind (wpAny_loadPart hx (wpAny_bind ((looks_clsIn kin hc).here ?_))))))
  rw [hv.1, if_neg (by decide)]
  dsimp only
  rw [if_neg (by simp [typeHasDict])]
  split
  · cases hn
  · have x1 : (s.heap.push { cls := .type "dict", data := .dict #[] }).get? x = some { cls := .ref C, data := oda, slots := osl } := Heap.get?_push_of_some _ hx
    refine wpAny_bind (wpAny_alloc' (wpAny_bind (wpAny_update' x1 (wpAny_pure ?_))))
    show wpAny _ _ (storeInDict s.heap.objs.size (.str name tk) name v) _ _ { s with heap := xdHeap s.heap x }
    have e0 : (xdHeap s.heap x).Ns s.heap.objs.size (fun _ => none) := ⟨_, #[], _, xd_empty (Heap.lt_size hx), rfl, fun e he => absurd he (by simp), fun _ => rfl⟩
    unfold storeInDict newKeyGuard
    refine wpAny_bind (wpAny_pure (wpAny_bind (wpAny_nsSet1 (s := { s with heap := xdHeap s.heap x }) (Heap.Ns1.of_empty e0) fun h' n1 sb => ?_)))
    obtain ⟨oD, esD, epD, hoD, hdD, hcD⟩ := n1.count (PySem.Within.cons name v PySem.Within.nil)
    refine wpAny_bind (wpAny_lookBehind hoD (by rw [hdD]; exact pastItsLine_dict (Nat.le_trans hcD (by rw [sizeLine_eq, List.length_singleton]; decide))) ?_)
    exact wpAny_pure (go h' n1 sb)
end
end L2
set_option Elab.async false
set_option linter.all false
set_option maxRecDepth 100000
set_option maxHeartbeats 4000000
set_option autoImplicit false
namespace L2
open PySem PySem.Spec PyProof.Rows PySem.W
def ExcN (a : Addr) (cls : Value) : HO := .ext fun h => ∃ o vs, h.get? a = some o ∧ o.cls = cls ∧ o.data = .fields vs ∧ o.dict = none
def ExcD (a : Addr) (cls : Value) (dx : Addr) : HO := .ext fun h => ∃ o vs, h.get? a = some o ∧ o.cls = cls ∧ o.data = .fields vs ∧ o.dict = some dx
def XdO (dx : Addr) (f : Str) (y : V) : HO := .ext fun h => ∃ mA u, h.Ns1 dx mA ∧ mA f = some u ∧ RelV y u
def AnyO (a : Addr) : HO := .ext fun h => ∃ o, h.get? a = some o
structure XIn (K : Frag) (C fI : Addr) (f : Str) : Prop where
  lies : xinIn K C [.type "ValueError", .type "Exception", .type "BaseException", .type "object"] "ValueError.__new__" = true
  init : findIn K (.ref C) "__init__" = some (some (.ref fI))
  fn : isFn K (.ref fI) = true
  kp : keepIn K (.ref C) = true
  v : vCls K C = true
  sa : findIn K (.ref C) "__setattr__" = some (some (.builtin "object.__setattr__"))
  no : findIn K (.ref C) f = some none
  hd : hasDictIn K C = true
  x : XCls K C
section
variable {X : Cx} {pins : List (Addr × Obj)} {σ : St} {H : Hp} {s : Shared} {a C dx fI : Addr} {f : Str} {y : V} {u : Value} {A : Around} {E : Value → Shared → Prop}
theorem upd_swap {H : Hp} {a b : Addr} {o o' t : HO} (ne : a ≠ b) : upd (upd (upd H b t) a o) b o' = upd (upd H a o) b o' := by
  funext c
  unfold upd
  by_cases h1 : c = b
  · simp [h1]
  · simp [h1]
theorem xset_ok {Q : Unit → Shared → Prop} (I : Inv X pins σ H s) (e : H a = some (ExcN a (.ref C))) (c : XIn X.K C fI f) (ry : RelV y u)
    (go : ∀ dx s', H dx = none → a ≠ dx → Inv X pins σ (upd (upd H a (ExcD a (.ref C) dx)) dx (XdO dx f y)) s' → Q () s') : wpAny (model X.prog X.w) A (setAttr (.ref a) f u) Q E s := by
  obtain ⟨⟨o, vs, ho, hcl, hda, hdi⟩, _, _⟩ := (show ObjOk X.prog X.w H s.heap a (ExcN a (.ref C)) from I.hok a _ e)
  have J : PySem.W.InstAt s.heap a o C none := ⟨ho, hcl, by unfold notCls; rw [hda], by rw [hdi]; exact True.intro⟩
  refine set_plain I.kIn J c.sa (x_osa (s := { s with toks := s.toks + 1 }) I.kIn J hdi c.v c.no fun h' ns sb => ?_)
  have lt : a < s.heap.objs.size := Heap.lt_size ho
  have ne : a ≠ s.heap.objs.size := Nat.ne_of_lt lt
  have hp : (s.heap.push { cls := .type "dict", data := .dict #[] }).get? a = some o := Heap.get?_push_of_some _ ho
  have hu : (xdHeap s.heap a).get? a = some { cls := o.cls, dict := some s.heap.objs.size, data := o.data, slots := o.slots } := by
    unfold xdHeap
    refine Heap.get?_update_self _ hp ?_
    have fr := (Heap.get?_some_iff.mp ho).2
    obtain ⟨oc, od, odt, osl⟩ := o
    cases odt <;> first | rfl | exact fr
  have hk : ∀ b q, b ≠ a → (s.heap.push { cls := .type "dict", data := .dict #[] }).get? b = some q → (xdHeap s.heap a).get? b = some q := fun b q hb z => by
    unfold xdHeap
    rw [Heap.get?_update_ne _ _ _ _ hb]; exact z
  have I1 := I.laid (a := s.heap.objs.size) (o := AnyO s.heap.objs.size) (h' := s.heap.push { cls := .type "dict", data := .dict #[] }) (t' := s.toks) (fun b q z => Heap.get?_push_of_some _ z) (Nat.le_refl _)
    ⟨⟨_, Heap.get?_push_at rfl rfl⟩, ⟨_, Heap.get?_push_at rfl rfl⟩, fun h1 h2 ⟨o, z⟩ k => ⟨o, k o z⟩⟩
  have I2 := I1.write (x := a) (e := a) (o := ExcD a (.ref C) s.heap.objs.size) (h' := xdHeap s.heap a) (t' := s.toks) (by rw [upd_ne ne, e]; exact True.intro) (.inl rfl) hk ⟨_, hu⟩
    ⟨⟨_, vs, hu, hcl, hda, rfl⟩, ⟨_, hu⟩, fun h1 h2 ⟨o, vs, z, r⟩ k => ⟨o, vs, k o z, r⟩⟩
  have nu : ∃ q, h'.get? s.heap.objs.size = some q := let ⟨q, _, _, z, _⟩ := ns; ⟨q, z⟩
  have I3 := I2.write (x := s.heap.objs.size) (e := s.heap.objs.size) (o := XdO s.heap.objs.size f y) (h' := h') (t' := s.toks + 1 + 1) (by rw [upd_ne (Ne.symm ne), upd_same]; exact True.intro) (.inl rfl) (fun b q hb z => (sb.2 b hb).trans z) nu
    ⟨⟨_, u, ns, by rw [if_pos rfl], ry⟩, nu, fun h1 h2 ⟨mA, u', ⟨od, es, ep, z, r⟩, r2⟩ k => ⟨mA, u', ⟨od, es, ep, k _ z, r⟩, r2⟩⟩
  rw [upd_swap ne] at I3
  exact go _ _ (I.hok.fresh (Nat.le_refl _)) ne I3
theorem xget_ok {b : Bool} {Q : Value → Shared → Prop} (I : Inv X pins σ H s) (e : H a = some (ExcD a (.ref C) dx)) (d : H dx = some (XdO dx f y)) (c : XIn X.K C fI f)
    (go : ∀ u s', Inv X pins σ H s' → RelV y u → Q u s') : wpAny (model X.prog X.w) A (getAttr (.ref a) f b) Q E s := by
  obtain ⟨⟨o, vs, ho, hcl, hda, hdi⟩, _, _⟩ := (show ObjOk X.prog X.w H s.heap a (ExcD a (.ref C) dx) from I.hok a _ e)
  obtain ⟨⟨mA, u, ns, hu, ry⟩, _, _⟩ := (show ObjOk X.prog X.w H s.heap dx (XdO dx f y) from I.hok dx _ d)
  obtain ⟨od, hod, hl⟩ := lookIn_ns ns
  have J : PySem.W.InstAt s.heap a o C (some od) := ⟨ho, hcl, by unfold notCls; rw [hda], by rw [hdi]; exact hod⟩
  exact x_value c.x I.kIn J.type (looks_find I.kIn J (findObj_own c.hd c.no rfl (by rw [hl, hu]))) (handed_of ry) (go u _ (I.tok _) ry)
end
def tXSet (K : Frag) (f : Str) (ta tv : TE) : TS := fun D σ H => tv σ H fun y H1 => ta σ H1 fun x H2 => ∃ a C fI, x = .ref a ∧ H2 a = some (ExcN a (.ref C)) ∧ XIn K C fI f ∧ ∀ dx, H2 dx = none → a ≠ dx → D.nx σ (upd (upd H2 a (ExcD a (.ref C) dx)) dx (XdO dx f y))
section
variable {X : Cx} {o value : Expr} {f : Str} {pos pos' : Pos} {ta tv : TE}
theorem ps_xset (ha : PE X o ta) (hv : PE X value tv) (hs : swapsWith value (some (.Attribute o f pos')) pos.line X.env = pure false) : PS X (.Assign [.Attribute o f pos'] value pos) (tXSet X.K f ta tv) := by
  intro pins s σ H D I h
  refine plainObj_wpAny_Assign_Attribute (thn (hv pins s σ H _ I h) fun u s1 ⟨y, H1, I1, ry, q⟩ => thn (ha pins s1 σ H1 _ I1 q) fun ov s2 ⟨x, H2, I2, rx, a, C, fI, ex, ea, c, q2⟩ => ?_) hs
  subst ex
  obtain rfl : ov = Value.ref a := rx
  exact xset_ok I2 ea c ry fun dx s3 nd ne I3 => ⟨σ, _, I3, q2 dx nd ne⟩
end
def spXI (K : Frag) (f : Str) : Sp := fun vs H Q _ => ∃ a C fI y, vs = [.ref a, y] ∧ H a = some (ExcN a (.ref C)) ∧ XIn K C fI f ∧ ∀ dx, H dx = none → a ≠ dx → Q .non (upd (upd H a (ExcD a (.ref C) dx)) dx (XdO dx f y))
theorem spXI_len {K : Frag} {f : Str} {vs : List V} {H : Hp} {Q : VK} {E : XK} (h : spXI K f vs H Q E) : vs.length = 2 := by
  obtain ⟨_, _, _, _, rfl, _⟩ := h; rfl
theorem fn_xinit {P : Program} {w : World} {K : Frag} {mg : Str → Option Value} {base : Heap} {x qual f : Str} {st : Stmt} {fI : Addr} {fd : FuncData} {N ps : List Str} (Fn : Fun K x qual st fI fd) (Sc : FnScope N ps (defScope st)) (hl : ps.length = 2)
    (hb : ∀ (cdv : Value) (A : Around) (outer : List Env) (s : Shared) (H : Hp) (E : XK), PSs (cxOf CX0 P w K mg base N qual (defScope st) fI cdv A outer s H E) (defBody st) (tXSet K f (tVar 0) (tVar 1))) :
    FnOk P w K mg base CX0 1 fI fd ps (spXI K f) := by
  obtain ⟨oc, od, kV, doc, pm, an, cdv, ct, osl, rfl, lk, hcd⟩ := Fn.ex
  refine fn_of lk hcd Sc (fun vs H Q E h => (spXI_len h).trans hl.symm) fun A outer s H vs Q E hr h => ⟨_, hb cdv A outer s H E, ?_⟩
  obtain ⟨a, C, fI', y, rfl, ea, c, q⟩ := h
  exact ⟨y, rfl, .ref a, rfl, a, C, fI', rfl, ea, c, q⟩
def tXAt (K : Frag) (C fI : Addr) (f : Str) (ta : TA) : TE := fun σ H Q => ta σ H fun vs H1 => ∃ y, vs = [y] ∧ XIn K C fI f ∧ ∀ a dx, H1 a = none → H1 dx = none → a ≠ dx → Q y (upd (upd H1 a (ExcD a (.ref C) dx)) dx (XdO dx f y))
section
variable {X : Cx} {C fI : Addr} {fd : FuncData} {ps : List Str} {f x : Str} {e : Expr} {pos p apos : Pos} {ta : TA}
theorem run_xmake {pins : List (Addr × Obj)} {σ : St} {H : Hp} {s : Shared} {Q : Value → Shared → Prop} {u : Value} {y : V} (F : FnOk X.prog X.w X.K X.mg X.base CX0 1 fI fd ps (spXI X.K f)) (c : XIn X.K C fI f) (hb : Binds X.K fd ps []) (hl : ps.length = 2) (hr : Room 2 X.A) (I : Inv X pins σ H s) (ry : RelV y u)
    (go : ∀ a dx s', H a = none → H dx = none → a ≠ dx → Inv X pins σ (upd (upd H a (ExcD a (.ref C) dx)) dx (XdO dx f y)) s' → Q (.ref a) s') : wpAny (model X.prog X.w) X.A (call (.ref C) [u]) Q X.xe s := by
  obtain ⟨bm, N, nm, q, bs, hdct, sn, sub, ab, col, dd, k0, k1, k2, k3, k5, hC, T⟩ := xin_lies I.kIn c.lies
  have L : ∀ h', (∀ b o, s.heap.get? b = some o → h'.get? b = some o) → Looks (model X.prog X.w) h' (typeLookup (.ref C) "__init__") (some (.ref fI)) := fun h' k => looks_findIn (I.kIn.keeps k) c.init
  obtain ⟨oI, fo, fc⟩ : ∃ oI, s.heap.get? fI = some oI ∧ oI.cls = .type "function" := by
    have z : typeIn X.K (.ref fI) = some (.type "function") := beq_iff_eq.mp c.fn
    obtain ⟨oI, h1, h2⟩ := Option.map_eq_some_iff.mp (show (X.K.lookup fI).map (·.cls) = some (.type "function") from z)
    exact ⟨oI, I.kIn _ _ h1, h2⟩
  have fr1 : H (s.heap.objs.size + 1) = none := I.hok.fresh (Nat.le_succ _)
  have I2 : Inv X pins σ (upd H (s.heap.objs.size + 1) (ExcN (s.heap.objs.size + 1) (.ref C))) { s with heap := xHeap s.heap C [u], toks := s.toks } :=
    I.laid (a := s.heap.objs.size + 1) (h' := xHeap s.heap C [u]) (t' := s.toks) (fun b q z => xHeap_keeps z) (Nat.le_succ _)
      ⟨⟨_, _, xHeap_new, rfl, rfl, rfl⟩, ⟨_, xHeap_new⟩, fun h1 h2 ⟨o, vs, z, r⟩ k => ⟨o, vs, k o z, r⟩⟩
  obtain ⟨hp, g, d, t, os⟩ := s
  refine x_make PySem.F.excBase_ValueError (by decide +kernel) PySem.F.excBase_ValueError T hC L fo fc (by show 1 ≤ sizeLine; decide) ?_
  have q2 : spXI X.K f [.ref (hp.objs.size + 1), y] (upd H (hp.objs.size + 1) (ExcN (hp.objs.size + 1) (.ref C))) (fun v H' => v = .non ∧ ∃ dx, upd H (hp.objs.size + 1) (ExcN (hp.objs.size + 1) (.ref C)) dx = none ∧ hp.objs.size + 1 ≠ dx ∧ H' = upd (upd (upd H (hp.objs.size + 1) (ExcN (hp.objs.size + 1) (.ref C))) (hp.objs.size + 1) (ExcD (hp.objs.size + 1) (.ref C) dx)) dx (XdO dx f y)) E0 :=
    ⟨_, C, fI, y, rfl, upd_same, c, fun dx nd ne => ⟨rfl, dx, nd, ne, rfl⟩⟩
  have bd := hb _ [.ref (hp.objs.size + 1), u] I2.kIn (by rw [List.append_nil, hl]; rfl)
  rw [List.append_nil] at bd
  refine wpAny_call (codeAny_mono (F.run _ X.stack _ _ ⟨[.ref (hp.objs.size + 1), u], []⟩ [.ref (hp.objs.size + 1), u] [.ref (hp.objs.size + 1), y] _ E0 (hr.make C [u] []) (I2.env0.make C [u] []) bd (.cons rfl (.cons ry .nil)) q2) fun r s' hq => ?_)
  cases r with
  | error e => exact hq.elim
  | ok fl =>
    cases fl with
    | ret z =>
      obtain ⟨v, H', I3, rv, ev, dx, nd, ne, eH⟩ := I2.after hq
      subst ev eH
      rw [upd_upd] at I3
      exact ⟨rv, go _ dx _ fr1 (by rw [upd_ne (Ne.symm ne)] at nd; exact nd) ne I3⟩
    | next => exact False.elim hq
    | brk => exact False.elim hq
    | cont => exact False.elim hq
theorem pe_xat (F : FnOk X.prog X.w X.K X.mg X.base CX0 1 fI fd ps (spXI X.K f)) (c : XIn X.K C fI f) (hb : Binds X.K fd ps []) (hl : ps.length = 2) (hr : Room 2 X.A) (hg : Gl X x) (hm : X.mg x = some (.ref C)) (ha : PA X [e] ta)
    (hbase : attributeBase (.Call (.Name x p) [e] [] pos) f X.env (eval (.Call (.Name x p) [e] [] pos) X.env) = eval (.Call (.Name x p) [e] [] pos) X.env := by rfl)
    (hdb : (x == ("__debug__" : Str)) = false := by decide) (he : starEach [e] X.env = [(false, eval e X.env)] := by rfl) (hpl : (backTo pos (starEach [] X.env)).any (·.1) = false := by rfl) :
    PE X (.Attribute (.Call (.Name x p) [e] [] pos) f apos) (tXAt X.K C fI f ta) := by
  intro pins s σ H Q I h
  refine attr_of hbase ?_
  refine wpAny_Call_Name_kw (ld_glob I hg hm ?_ hdb)
  refine PySem.W.callWith_K (h₀ := X.base) I.ok.mod.kin c.kp (thn (ha pos pins s σ H _ I h) fun us s1 ⟨vs, H1, I1, r, y, ev, c', q⟩ => ⟨I1.kIn, ?_⟩) he hpl
  subst ev
  obtain ⟨u, rfl, ru⟩ := r.one
  refine run_xmake F c hb hl hr I1 ru fun a dx s2 na nd ne I2 => ?_
  exact xget_ok I2 (by rw [upd_ne ne, upd_same]) upd_same c fun u' s3 I3 ry => ⟨y, _, I3, ry, q a dx na nd ne⟩
end
end L2
set_option Elab.async false
set_option linter.all false
set_option maxRecDepth 100000
set_option maxHeartbeats 4000000
set_option autoImplicit false
namespace L3
open PySem PySem.Spec PyProof.Rows L2
abbrev St := L2.St
abbrev PK := Sum Int (List Nat)
def S (l : List Nat) : Str := ⟨l.toArray⟩
theorem S_cps (l : List Nat) : (S l).cps.toList = l := by simp [S]
theorem S_of (x : Str) : S x.cps.toList = x := by cases x; simp [S]
theorem S_inj {a b : List Nat} (h : S a = S b) : a = b := by have := congrArg (fun x => x.cps.toList) h; simpa [S] using this
theorem S_len (l : List Nat) : (S l).length = l.length := by show (S l).cps.size = _; simp [S]
def tk : PK → Key
  | .inl i => .inl i
  | .inr l => .inr (S l)
theorem tk_inj {a b : PK} (h : tk a = tk b) : a = b := by
  cases a <;> cases b <;> simp [tk] at h
  · rw [h]
  · rw [S_inj h]
inductive PV where
  | non | bl (b : Bool) | int (i : Int) | str (x : List Nat) | ty (n : String) | cls (C : Nat)
  | tup (xs : List PV) | lst (xs : List PV) | giv (xs : List PV) | dct (kvs : List (PK × PV)) | ins (C : Nat) (fs : List (Str × PV))
  | ref (i : Nat) | exc (C : Nat)
instance : Inhabited PV := ⟨.non⟩
mutual
def PV.pure : PV → Bool
  | .ref _ => false
  | .tup xs => pures xs
  | .lst xs => pures xs
  | .giv xs => pures xs
  | .dct kvs => pureks kvs
  | .ins _ fs => purefs fs
  | _ => true
def pures : List PV → Bool
  | [] => true
  | x :: r => x.pure && pures r
def pureks : List (PK × PV) → Bool
  | [] => true
  | (_, x) :: r => x.pure && pureks r
def purefs : List (Str × PV) → Bool
  | [] => true
  | (_, x) :: r => x.pure && purefs r
end
theorem pureks_map : ∀ (l : List (PK × PV)), pureks l = pures (l.map (·.2))
  | [] => by simp [pures, pureks]
  | (k, x) :: r => by simp [pures, pureks, pureks_map r]
theorem purefs_map : ∀ (l : List (Str × PV)), purefs l = pures (l.map (·.2))
  | [] => by simp [pures, purefs]
  | (k, x) :: r => by simp [pures, purefs, purefs_map r]
abbrev Tab := Nat → Option Addr
mutual
inductive RepV (K : PySem.W.Frag) (T : Tab) (F : Hp) (m : List Addr) : PV → V → Prop where
  | non : RepV K T F m .non .non
  | bl (b : Bool) : RepV K T F m (.bl b) (.bl b)
  | int (i : Int) : RepV K T F m (.int i) (.int i)
  | str (x : List Nat) : RepV K T F m (.str x) (.str (S x))
  | ty (n : String) : RepV K T F m (.ty n) (.ty n)
  | cls {C : Nat} {a : Addr} (c : T C = some a) : RepV K T F m (.cls C) (.ref a)
  | tup {ps : List PV} {a : Addr} {vs : List V} (e : SqT K F a vs) (r : RepVs K T F m ps vs) : RepV K T F m (.tup ps) (.ref a)
  | lst {ps : List PV} {a : Addr} {vs : List V} (e : F a = some (.lst vs)) (r : RepVs K T F m ps vs) : RepV K T F m (.lst ps) (.ref a)
  | giv {ps : List PV} {a : Addr} {vs : List V} (e : SqL K F a vs) (r : RepVs K T F m ps vs) : RepV K T F m (.giv ps) (.ref a)
  | dct {kps : List (PK × PV)} {a : Addr} {kvs : List (Key × V)} (e : Rd F a (.dK kvs)) (k : kvs.map (·.1) = kps.map (fun p => tk p.1)) (r : RepVs K T F m (kps.map (·.2)) (kvs.map (·.2))) : RepV K T F m (.dct kps) (.ref a)
  | ins {C : Nat} {fs : List (Str × PV)} {a Ca dx : Addr} {fvs : List (Str × V)} (c : T C = some Ca) (e : F a = some (.ins Ca dx fvs)) (d : F dx = some (.own a)) (k : fvs.map (·.1) = fs.map (·.1)) (r : RepVs K T F m (fs.map (·.2)) (fvs.map (·.2))) : RepV K T F m (.ins C fs) (.ref a)
  | ref {i : Nat} {a : Addr} (e : m[i]? = some a) : RepV K T F m (.ref i) (.ref a)
  | exc {C : Nat} {a Ca : Addr} (c : T C = some Ca) (e : F a = some (ExcO a (.ref Ca))) : RepV K T F m (.exc C) (.ref a)
inductive RepVs (K : PySem.W.Frag) (T : Tab) (F : Hp) (m : List Addr) : List PV → List V → Prop where
  | nil : RepVs K T F m [] []
  | cons {p : PV} {v : V} {ps : List PV} {vs : List V} (r : RepV K T F m p v) (t : RepVs K T F m ps vs) : RepVs K T F m (p :: ps) (v :: vs)
end
section
variable {K : PySem.W.Frag} {T : Tab} {F F' : Hp} {m m' : List Addr}
theorem Rd.same {H H' : Hp} {a : Addr} {u : HO} (e : Same H H') (h : Rd H a u) : Rd H' a u := by
  rcases h with h | ⟨o, h⟩
  · exact .inl (e _ _ h)
  · exact .inr ⟨o, e _ _ h⟩
mutual
theorem RepV.mono (hF : Same F F') (hm : ∀ (i : Nat) (a : Addr), m[i]? = some a → m'[i]? = some a) : ∀ {p : PV} {v : V}, RepV K T F m p v → RepV K T F' m' p v
  | _, _, .non => .non
  | _, _, .bl b => .bl b
  | _, _, .int i => .int i
  | _, _, .str x => .str x
  | _, _, .ty n => .ty n
  | _, _, .cls c => .cls c
  | _, _, .tup e r => .tup (hF.seqT e) (RepVs.mono hF hm r)
  | _, _, .lst e r => .lst (hF _ _ e) (RepVs.mono hF hm r)
  | _, _, .giv e r => .giv (hF.seq e) (RepVs.mono hF hm r)
  | _, _, .dct e k r => .dct (Rd.same hF e) k (RepVs.mono hF hm r)
  | _, _, .ins c e d k r => .ins c (hF _ _ e) (hF _ _ d) k (RepVs.mono hF hm r)
  | _, _, .ref e => .ref (hm _ _ e)
  | _, _, .exc c e => .exc c (hF _ _ e)
theorem RepVs.mono (hF : Same F F') (hm : ∀ (i : Nat) (a : Addr), m[i]? = some a → m'[i]? = some a) : ∀ {p : List PV} {v : List V}, RepVs K T F m p v → RepVs K T F' m' p v
  | _, _, .nil => .nil
  | _, _, .cons r t => .cons (RepV.mono hF hm r) (RepVs.mono hF hm t)
end
mutual
theorem RepV.unref : ∀ {p : PV} {v : V}, RepV K T F m p v → p.pure = true → RepV K T F m' p v
  | _, _, .non, _ => .non
  | _, _, .bl b, _ => .bl b
  | _, _, .int i, _ => .int i
  | _, _, .str x, _ => .str x
  | _, _, .ty n, _ => .ty n
  | _, _, .cls c, _ => .cls c
  | _, _, .tup e r, h => .tup e (RepVs.unref r (by simpa [PV.pure] using h))
  | _, _, .lst e r, h => .lst e (RepVs.unref r (by simpa [PV.pure] using h))
  | _, _, .giv e r, h => .giv e (RepVs.unref r (by simpa [PV.pure] using h))
  | _, _, .dct e k r, h => .dct e k (RepVs.unref r (by simpa [PV.pure, pureks_map] using h))
  | _, _, .ins c e d k r, h => .ins c e d k (RepVs.unref r (by simpa [PV.pure, purefs_map] using h))
  | _, _, .ref e, h => by simp [PV.pure] at h
  | _, _, .exc c e, _ => .exc c e
theorem RepVs.unref : ∀ {p : List PV} {v : List V}, RepVs K T F m p v → pures p = true → RepVs K T F m' p v
  | _, _, .nil, _ => .nil
  | _, _, .cons r t, h => by
    simp only [pures, Bool.and_eq_true] at h
    exact .cons (RepV.unref r h.1) (RepVs.unref t h.2)
end
theorem RepVs.length : ∀ {p : List PV} {v : List V}, RepVs K T F m p v → p.length = v.length
  | _, _, .nil => rfl
  | _, _, .cons _ t => by simp [RepVs.length t]
theorem RepVs.get : ∀ {ps : List PV} {vs : List V} {i : Nat} {p : PV}, RepVs K T F m ps vs → ps[i]? = some p → ∃ v, vs[i]? = some v ∧ RepV K T F m p v
  | _, _, _, _, .nil, e => by simp at e
  | _, _, 0, _, .cons r _, e => by simp at e; subst e; exact ⟨_, rfl, r⟩
  | _, _, i + 1, p, .cons _ t, e => by
    obtain ⟨u, h1, h2⟩ := RepVs.get (i := i) (p := p) t (by simpa using e)
    exact ⟨u, by simpa using h1, h2⟩
theorem RepVs.append : ∀ {ps qs : List PV} {vs ws : List V}, RepVs K T F m ps vs → RepVs K T F m qs ws → RepVs K T F m (ps ++ qs) (vs ++ ws)
  | _, _, _, _, .nil, s => s
  | _, _, _, _, .cons r t, s => .cons r (RepVs.append t s)
theorem RepVs.take : ∀ {ps : List PV} {vs : List V} (n : Nat), RepVs K T F m ps vs → RepVs K T F m (ps.take n) (vs.take n)
  | _, _, 0, _ => .nil
  | _, _, _ + 1, .nil => .nil
  | _, _, n + 1, .cons r t => .cons r (RepVs.take n t)
theorem RepVs.drop : ∀ {ps : List PV} {vs : List V} (n : Nat), RepVs K T F m ps vs → RepVs K T F m (ps.drop n) (vs.drop n)
  | _, _, 0, r => r
  | _, _, _ + 1, .nil => .nil
  | _, _, n + 1, .cons _ t => RepVs.drop n t
theorem RepVs.set {x : PV} {u : V} (r : RepV K T F m x u) : ∀ {xs : List PV} {us : List V} (i : Nat), RepVs K T F m xs us → RepVs K T F m (xs.set i x) (us.set i u)
  | _, _, _, .nil => .nil
  | _, _, 0, .cons _ t => .cons r t
  | _, _, i + 1, .cons q t => .cons q (RepVs.set r i t)
end
inductive PO where
  | lst (xs : List PV) | dct (kvs : List (PK × PV)) | froz (v : PV)
section
variable (K : PySem.W.Frag) (T : Tab) (F : Hp) (m : List Addr)
def ObjR (H : Hp) (a : Addr) : PO → Prop
  | .lst ps => F a = none ∧ ∃ vs, H a = some (.lst vs) ∧ RepVs K T F m ps vs
  | .dct kps => F a = none ∧ ∃ kvs, H a = some (.dK kvs) ∧ kvs.map (·.1) = kps.map (fun p => tk p.1) ∧ RepVs K T F m (kps.map (·.2)) (kvs.map (·.2))
  | .froz p => RepV K T F m p (.ref a) ∧ p.pure = true ∧ ∃ o, F a = some o
structure RelH (h : List PO) (H : Hp) : Prop where
  same : Same F H
  len : h.length = m.length
  obj : ∀ (i : Nat) (o : PO) (a : Addr), h[i]? = some o → m[i]? = some a → ObjR K T F m H a o
  nd : m.Nodup
def RelE (ρ : List (Option PV)) (σ : St) : Prop := ρ.length = σ.length ∧ ∀ (i : Nat) (p : PV), ρ[i]? = some (some p) → ∃ v, σ[i]? = some (some v) ∧ RepV K T F m p v
structure RelS (ρ : List (Option PV)) (h : List PO) (σ : St) (H : Hp) : Prop extends RelH K T F m h H where
  env : RelE K T F m ρ σ
end
structure Step (F : Hp) (m : List Addr) (H F' : Hp) (m' : List Addr) (H' : Hp) : Prop where
  fz : Same F F'
  pre : ∃ t, m' = m ++ t
  fr : ∀ b o, H b = some o → b ∉ m → H' b = some o
  dom : ∀ b o, H b = some o → ∃ o', H' b = some o'
  new : ∀ (i : Nat) (a : Addr), m.length ≤ i → m'[i]? = some a → H a = none
  fnew : ∀ a o, F' a = some o → F a = some o ∨ H a = none ∨ a ∈ m
section
variable {K : PySem.W.Frag} {T : Tab} {F F1 F2 H H1 H2 : Hp} {m m1 m2 : List Addr}
theorem Step.refl : Step F m H F m H := ⟨Same.refl _, ⟨[], by simp⟩, fun _ _ h _ => h, fun _ o h => ⟨o, h⟩, fun i a h e => (by rw [List.getElem?_eq_none h] at e; cases e), fun _ _ h => .inl h⟩
theorem Step.idx (s : Step F m H F1 m1 H1) : ∀ (i : Nat) (a : Addr), m[i]? = some a → m1[i]? = some a := fun i a e => by
  obtain ⟨t, rfl⟩ := s.pre
  have hi : i < m.length := by
    rcases Nat.lt_or_ge i m.length with h | h
    · exact h
    · rw [List.getElem?_eq_none h] at e; cases e
  rw [List.getElem?_append_left hi]; exact e
theorem Step.mem (s : Step F m H F1 m1 H1) {a : Addr} (h : a ∈ m1) : a ∈ m ∨ H a = none := by
  obtain ⟨i, e⟩ := List.mem_iff_getElem?.mp h
  obtain ⟨t, rfl⟩ := s.pre
  rcases Nat.lt_or_ge i m.length with hi | hi
  · rw [List.getElem?_append_left hi] at e
    exact .inl (List.mem_of_getElem? e)
  · exact .inr (s.new i a hi e)
theorem Step.back (s : Step F m H F1 m1 H1) {a : Addr} (h : H1 a = none) : H a = none := by
  cases q : H a with
  | none => rfl
  | some o => obtain ⟨o', e⟩ := s.dom a o q; rw [h] at e; cases e
theorem Step.trans (s : Step F m H F1 m1 H1) (t : Step F1 m1 H1 F2 m2 H2) : Step F m H F2 m2 H2 where
  fz := s.fz.trans t.fz
  pre := by
    obtain ⟨x, rfl⟩ := s.pre
    obtain ⟨y, rfl⟩ := t.pre
    exact ⟨x ++ y, by simp⟩
  fr := fun b o h n => t.fr b o (s.fr b o h n) fun z => by
    rcases s.mem z with q | q
    · exact n q
    · rw [h] at q; cases q
  dom := fun b o h => by
    obtain ⟨o', e⟩ := s.dom b o h
    exact t.dom b o' e
  new := fun i a hi e => by
    obtain ⟨x, rfl⟩ := s.pre
    rcases Nat.lt_or_ge i (m ++ x).length with h | h
    · obtain ⟨y, rfl⟩ := t.pre
      rw [List.getElem?_append_left h] at e
      exact s.new i a hi e
    · exact s.back (t.new i a h e)
  fnew := fun a o h => by
    rcases t.fnew a o h with q | q | q
    · exact s.fnew a o q
    · exact .inr (.inl (s.back q))
    · rcases s.mem q with z | z
      · exact .inr (.inr z)
      · exact .inr (.inl z)
theorem Step.rep (s : Step F m H F1 m1 H1) {p : PV} {v : V} (r : RepV K T F m p v) : RepV K T F1 m1 p v := r.mono s.fz s.idx
theorem Step.reps (s : Step F m H F1 m1 H1) {p : List PV} {v : List V} (r : RepVs K T F m p v) : RepVs K T F1 m1 p v := r.mono s.fz s.idx
theorem Step.env (s : Step F m H F1 m1 H1) {ρ : List (Option PV)} {σ : St} (r : RelE K T F m ρ σ) : RelE K T F1 m1 ρ σ := ⟨r.1, fun i p e => by
  obtain ⟨v, h1, h2⟩ := r.2 i p e
  exact ⟨v, h1, s.rep h2⟩⟩
theorem Step.lay {h : List PO} {p : Addr} {o : HO} (R : RelH K T F m h H) (hp : H p = none) : Step F m H (upd F p o) m (upd H p o) ∧ RelH K T (upd F p o) m h (upd H p o) := by
  have hF : F p = none := R.same.free hp
  have sF : Same F (upd F p o) := same_new hF o
  refine ⟨⟨sF, ⟨[], by simp⟩, fun b u e _ => by rw [upd_ne (ne_of_none e hp)]; exact e, fun b u e => ⟨u, by rw [upd_ne (ne_of_none e hp)]; exact e⟩, fun i a hi e => (by rw [List.getElem?_eq_none hi] at e; cases e), fun a u e => ?_⟩, ?_⟩
  · by_cases ha : a = p
    · subst ha; exact .inr (.inl hp)
    · rw [upd_ne ha] at e; exact .inl e
  · refine ⟨fun b u e => ?_, R.len, fun i ob a h1 h2 => ?_, R.nd⟩
    · by_cases ha : b = p
      · subst ha; rw [upd_same] at e ⊢; exact e
      · rw [upd_ne ha] at e ⊢; exact R.same b u e
    · have q := R.obj i ob a h1 h2
      have mono : ∀ {ps vs}, RepVs K T F m ps vs → RepVs K T (upd F p o) m ps vs := fun r => r.mono sF fun _ _ h => h
      cases ob with
      | lst ps =>
        obtain ⟨f, vs, e, r⟩ := q
        have ne : a ≠ p := ne_of_none e hp
        exact ⟨by rw [upd_ne ne]; exact f, vs, by rw [upd_ne ne]; exact e, mono r⟩
      | dct kps =>
        obtain ⟨f, kvs, e, k, r⟩ := q
        have ne : a ≠ p := ne_of_none e hp
        exact ⟨by rw [upd_ne ne]; exact f, kvs, by rw [upd_ne ne]; exact e, k, mono r⟩
      | froz pv =>
        obtain ⟨r, pu, u, e⟩ := q
        exact ⟨r.mono sF fun _ _ h => h, pu, u, sF _ _ e⟩
end
inductive Res (α : Type) where
  | ok (a : α) (h : List PO) | exc (e : PV) (h : List PO) | bad
def Res.bind {α β : Type} (r : Res α) (k : α → List PO → Res β) : Res β := match r with
  | .ok a h => k a h
  | .exc e h => .exc e h
  | .bad => .bad
@[simp] theorem Res.bind_ok {α β : Type} (a : α) (h : List PO) (k : α → List PO → Res β) : (Res.ok a h).bind k = k a h := rfl
@[simp] theorem Res.bind_exc {α β : Type} (a : PV) (h : List PO) (k : α → List PO → Res β) : (Res.exc a h).bind k = .exc a h := rfl
@[simp] theorem Res.bind_bad {α β : Type} (k : α → List PO → Res β) : (Res.bad).bind k = .bad := rfl
def Post {α β : Type} (K : PySem.W.Frag) (T : Tab) (R : Hp → List Addr → α → β → Prop) (F : Hp) (m : List Addr) (H : Hp) (Q : β → Hp → Prop) (Ew : VK) : Res α → Prop
  | .ok a h' => ∀ F' m' H' x, Step F m H F' m' H' → RelH K T F' m' h' H' → R F' m' a x → Q x H'
  | .exc e h' => ∀ F' m' H' v, Step F m H F' m' H' → RelH K T F' m' h' H' → RepV K T F' m' e v → Ew v H'
  | .bad => False
section
variable {K : PySem.W.Frag} {T : Tab} {F F1 H H1 : Hp} {m m1 : List Addr} {α β γ δ : Type} {R : Hp → List Addr → α → β → Prop} {R' : Hp → List Addr → γ → δ → Prop} {Ew : VK}
theorem Post.step {Q : β → Hp → Prop} {res : Res α} (s : Step F m H F1 m1 H1) (p : Post K T R F m H Q Ew res) : Post K T R F1 m1 H1 Q Ew res := by
  cases res with
  | ok a h => exact fun F' m' H' x t => p F' m' H' x (s.trans t)
  | exc e h => exact fun F' m' H' x t => p F' m' H' x (s.trans t)
  | bad => exact p
theorem Post.bind {Q : δ → Hp → Prop} {res : Res α} {k : α → List PO → Res γ} (p : Post K T R' F m H Q Ew (res.bind k)) :
    Post K T R F m H (fun x H1 => ∃ F1 m1 h1 a, Step F m H F1 m1 H1 ∧ RelH K T F1 m1 h1 H1 ∧ R F1 m1 a x ∧ Post K T R' F1 m1 H1 Q Ew (k a h1)) Ew res := by
  cases res with
  | ok a h => exact fun F' m' H' x s r q => ⟨F', m', h, a, s, r, q, Post.step s p⟩
  | exc e h => exact p
  | bad => exact p
theorem Post.mono {Q Q' : β → Hp → Prop} {res : Res α} (p : Post K T R F m H Q Ew res) (hq : ∀ x H', Q x H' → Q' x H') : Post K T R F m H Q' Ew res := by
  cases res with
  | ok a h => exact fun F' m' H' x s r q => hq _ _ (p F' m' H' x s r q)
  | exc e h => exact p
  | bad => exact p
theorem Post.here {Q : β → Hp → Prop} {a : α} {h : List PO} {x : β} (p : Post K T R F m H Q Ew (.ok a h)) (R0 : RelH K T F m h H) (r : R F m a x) : Q x H := p F m H x .refl R0 r
end
abbrev Ev := List (Option PV)
abbrev Ex := Ev → List PO → Res PV
abbrev Tx := Ev → List PO → Res Bool
abbrev Ax := Ev → List PO → Res (List PV)
def RB : Hp → List Addr → Bool → Bool → Prop := fun _ _ a b => a = b
section
variable (X : Cx) (T : Tab) (Ew : VK)
def wE (f : Ex) : TE := fun σ H Q => ∃ F m ρ h, RelS X.K T F m ρ h σ H ∧ Post X.K T (RepV X.K T) F m H Q Ew (f ρ h)
def wT (f : Tx) : TT := fun σ H Q => ∃ F m ρ h, RelS X.K T F m ρ h σ H ∧ Post X.K T RB F m H Q Ew (f ρ h)
def wA (f : Ax) : TA := fun σ H Q => ∃ F m ρ h, RelS X.K T F m ρ h σ H ∧ Post X.K T (RepVs X.K T) F m H Q Ew (f ρ h)
@[irreducible] def RE (e : Expr) (f : Ex) : Prop := PE X e (wE X T Ew f)
@[irreducible] def RT (e : Expr) (f : Tx) : Prop := PT X e (wT X T Ew f)
@[irreducible] def RA (es : List Expr) (f : Ax) : Prop := PA X es (wA X T Ew f)
end
theorem PE.imp {X : Cx} {e : Expr} {t t' : TE} (h : PE X e t) (i : ∀ σ H Q, t' σ H Q → t σ H Q) : PE X e t' := fun pins s σ H Q I q => h pins s σ H Q I (i _ _ _ q)
theorem PT.imp {X : Cx} {e : Expr} {t t' : TT} (h : PT X e t) (i : ∀ σ H Q, t' σ H Q → t σ H Q) : PT X e t' := fun pins s σ H Q I q => h pins s σ H Q I (i _ _ _ q)
theorem PW.imp {X : Cx} {e : Expr} {t t' : TT} (h : PW X e t) (i : ∀ σ H Q, t' σ H Q → t σ H Q) : PW X e t' := fun w pins s σ H Q I q => h w pins s σ H Q I (i _ _ _ q)
theorem PA.imp {X : Cx} {es : List Expr} {t t' : TA} (h : PA X es t) (i : ∀ σ H Q, t' σ H Q → t σ H Q) : PA X es t' := fun pos pins s σ H Q I q => h pos pins s σ H Q I (i _ _ _ q)
theorem PS.imp {X : Cx} {e : Stmt} {t t' : TS} (h : PS X e t) (i : ∀ D σ H, t' D σ H → t D σ H) : PS X e t' := fun pins s σ H D I q => h pins s σ H D I (i _ _ _ q)
theorem PSs.imp {X : Cx} {e : List Stmt} {t t' : TS} (h : PSs X e t) (i : ∀ D σ H, t' D σ H → t D σ H) : PSs X e t' := fun pins s σ H D I q => h pins s σ H D I (i _ _ _ q)
def derefP (h : List PO) : PV → PV
  | .ref i => match h[i]? with
    | some (.froz q) => q
    | _ => .ref i
  | p => p
theorem RelH.deref {K : PySem.W.Frag} {T : Tab} {F H : Hp} {m : List Addr} {h : List PO} (R : RelH K T F m h H) {p : PV} {v : V} (r : RepV K T F m p v) : RepV K T F m (derefP h p) v := by
  cases r with
  | @ref i a e =>
    show RepV K T F m (match h[i]? with | some (.froz q) => q | _ => .ref i) (.ref a)
    cases q : h[i]? with
    | none => exact .ref e
    | some o =>
      cases o with
      | froz p => exact (R.obj i _ a q e).1
      | lst _ => exact .ref e
      | dct _ => exact .ref e
  | non => exact .non
  | bl b => exact .bl b
  | int b => exact .int b
  | str b => exact .str b
  | ty b => exact .ty b
  | cls c => exact .cls c
  | tup e r => exact .tup e r
  | lst e r => exact .lst e r
  | giv e r => exact .giv e r
  | dct e k r => exact .dct e k r
  | ins c e d k r => exact .ins c e d k r
  | exc c e => exact .exc c e
def cVar (i : Nat) : Ex := fun ρ h => match ρ[i]? with
  | some (some p) => .ok (derefP h p) h
  | _ => .bad
def cK (v : PV) : Ex := fun _ h => .ok v h
def c1 (g : PV → List PO → Res PV) (a : Ex) : Ex := fun ρ h => (a ρ h).bind g
def c2 (g : PV → PV → List PO → Res PV) (a b : Ex) : Ex := fun ρ h => (a ρ h).bind fun x h1 => (b ρ h1).bind fun y h2 => g x y h2
def cN (g : List PV → List PO → Res PV) (a : Ax) : Ex := fun ρ h => (a ρ h).bind g
def aNil : Ax := fun _ h => .ok [] h
def aCons (a : Ex) (r : Ax) : Ax := fun ρ h => (a ρ h).bind fun x h1 => (r ρ h1).bind fun xs h2 => .ok (x :: xs) h2
section
variable {X : Cx} {T : Tab} {Ew : VK}
theorem re_pe {e : Expr} {t : TE} {f : Ex} (h : PE X e t) (i : ∀ σ H Q F m ρ h, RelS X.K T F m ρ h σ H → Post X.K T (RepV X.K T) F m H Q Ew (f ρ h) → t σ H Q) : RE X T Ew e f := by with_unfolding_all exact (
  PE.imp h fun σ H Q ⟨F, m, ρ, h, R, p⟩ => i σ H Q F m ρ h R p)
theorem rv (i : Nat) {x : Str} {pos : Pos} (hN : X.N[i]? = some x := by rfl) (hv : Vis X.env.scope x := by first | exact Or.inl rfl | exact Or.inr (Or.inl rfl) | exact Or.inr (Or.inr rfl)) (hd : (x == ("__debug__" : Str)) = false := by decide)
    (hcd : (x == ("__classdict__" : Str)) = false := by decide) : RE X T Ew (.Name x pos) (cVar i) := by with_unfolding_all
  refine re_pe (pe_var hN hv hd hcd) fun σ H Q F m ρ h R p => ?_
  unfold cVar at p
  cases q : ρ[i]? with
  | none => rw [q] at p; exact p.elim
  | some o =>
    cases o with
    | none => rw [q] at p; exact p.elim
    | some pv =>
      rw [q] at p
      obtain ⟨v, h1, h2⟩ := R.env.2 i pv q
      exact ⟨v, h1, Post.here p R.toRelH (R.deref h2)⟩
theorem re_const {e : Expr} {v : V} {p : PV} (h : PE X e (tC v)) (r : ∀ F m, RepV X.K T F m p v) : RE X T Ew e (cK p) := by with_unfolding_all exact (
  re_pe h fun σ H Q F m ρ h R q => Post.here q R.toRelH (r F m))
theorem re_int {i : Int} {j pos} : RE X T Ew (.Constant (.int i) j pos) (cK (.int i)) := by with_unfolding_all exact (
    re_const pe_int fun _ _ => .int i)
theorem re_bl {b : Bool} {j pos} : RE X T Ew (.Constant (.bool b) j pos) (cK (.bl b)) := by with_unfolding_all exact (
    re_const pe_bl fun _ _ => .bl b)
theorem re_non {j pos} : RE X T Ew (.Constant .none j pos) (cK .non) := by with_unfolding_all exact (
    re_const pe_non fun _ _ => .non)
theorem re_str {x : Str} (l : List Nat) {j pos} (e : x = S l := by rfl) : RE X T Ew (.Constant (.str x) j pos) (cK (.str l)) := by with_unfolding_all exact (
    re_const pe_str fun _ _ => by rw [e]; exact .str l)
def Prim1 (K : PySem.W.Frag) (T : Tab) (r : V → Hp → VK → Prop) (g : PV → List PO → Res PV) : Prop :=
  ∀ F m h H x p Q Ew, RelH K T F m h H → RepV K T F m p x → Post K T (RepV K T) F m H Q Ew (g p h) → r x H Q
def Prim2 (K : PySem.W.Frag) (T : Tab) (r : R2) (g : PV → PV → List PO → Res PV) : Prop :=
  ∀ F m h H x y p q Q Ew, RelH K T F m h H → RepV K T F m p x → RepV K T F m q y → Post K T (RepV K T) F m H Q Ew (g p q h) → r x y H Q
def PrimN (K : PySem.W.Frag) (T : Tab) (r : List V → Hp → VK → Prop) (g : List PV → List PO → Res PV) : Prop :=
  ∀ F m h H xs ps Q Ew, RelH K T F m h H → RepVs K T F m ps xs → Post K T (RepV K T) F m H Q Ew (g ps h) → r xs H Q
theorem RelS.of {K : PySem.W.Frag} {F F1 H H1 : Hp} {m m1 : List Addr} {ρ : Ev} {h h1 : List PO} {σ : St} (R : RelS K T F m ρ h σ H) (s : Step F m H F1 m1 H1) (R1 : RelH K T F1 m1 h1 H1) : RelS K T F1 m1 ρ h1 σ H1 := ⟨R1, s.env R.env⟩
theorem w1 {r : V → Hp → VK → Prop} {g : PV → List PO → Res PV} {fa : Ex} (P : Prim1 X.K T r g) {σ : St} {H : Hp} {Q : VK} (w : wE X T Ew (c1 g fa) σ H Q) : tUn r (wE X T Ew fa) σ H Q := by
  obtain ⟨F, m, ρ, h, R, p⟩ := w
  exact ⟨F, m, ρ, h, R, (Post.bind p).mono fun x H1 ⟨F1, m1, h1, a, s, R1, ra, p1⟩ => P F1 m1 h1 H1 x a Q Ew R1 ra p1⟩
theorem w2 {r : R2} {g : PV → PV → List PO → Res PV} {fa fb : Ex} (P : Prim2 X.K T r g) {σ : St} {H : Hp} {Q : VK} (w : wE X T Ew (c2 g fa fb) σ H Q) : tOp r (wE X T Ew fa) (wE X T Ew fb) σ H Q := by
  obtain ⟨F, m, ρ, h, R, p⟩ := w
  refine ⟨F, m, ρ, h, R, (Post.bind p).mono fun x H1 ⟨F1, m1, h1, a, s, R1, ra, p1⟩ => ?_⟩
  refine ⟨F1, m1, ρ, h1, R.of s R1, (Post.bind p1).mono fun y H2 ⟨F2, m2, h2, b, s2, R2, rb, p2⟩ => ?_⟩
  exact P F2 m2 h2 H2 x y a b Q Ew R2 (s2.rep ra) rb p2
theorem wN {r : List V → Hp → VK → Prop} {g : List PV → List PO → Res PV} {fa : Ax} (P : PrimN X.K T r g) {σ : St} {H : Hp} {Q : VK} (w : wE X T Ew (cN g fa) σ H Q) : tCB r (wA X T Ew fa) σ H Q := by
  obtain ⟨F, m, ρ, h, R, p⟩ := w
  exact ⟨F, m, ρ, h, R, (Post.bind p).mono fun x H1 ⟨F1, m1, h1, a, s, R1, ra, p1⟩ => P F1 m1 h1 H1 x a Q Ew R1 ra p1⟩
theorem ra_nil : RA X T Ew [] aNil := by with_unfolding_all exact (
    PA.imp pa_nil fun σ H Q ⟨F, m, ρ, h, R, p⟩ => Post.here p R.toRelH .nil)
theorem ra_cons {e : Expr} {es : List Expr} {f : Ex} {fs : Ax} (ha : RE X T Ew e f) (hr : RA X T Ew es fs) (hs : starEach (e :: es) X.env = (false, eval e X.env) :: starEach es X.env := by rfl) : RA X T Ew (e :: es) (aCons f fs) := by with_unfolding_all
  refine PA.imp (pa_cons ha hr hs) fun σ H Q ⟨F, m, ρ, h, R, p⟩ => ?_
  refine ⟨F, m, ρ, h, R, (Post.bind p).mono fun x H1 ⟨F1, m1, h1, a, s, R1, ra, p1⟩ => ?_⟩
  refine ⟨F1, m1, ρ, h1, R.of s R1, (Post.bind p1).mono fun y H2 ⟨F2, m2, h2, b, s2, R2, rb, p2⟩ => ?_⟩
  exact Post.here p2 R2 (.cons (s2.rep ra) rb)
theorem re_op {op : Operator} {r : R2} {g : PV → PV → List PO → Res PV} {a b : Expr} {fa fb : Ex} {pos : Pos} (ho : OpR X (binaryOp op) r) (P : Prim2 X.K T r g) (ha : RE X T Ew a fa) (hb : RE X T Ew b fb) : RE X T Ew (.BinOp a op b pos) (c2 g fa fb) := by with_unfolding_all exact (
  PE.imp (pe_op ho ha hb) fun σ H Q w => w2 P w)
theorem re_un {op : UnaryOp} {r : V → Hp → VK → Prop} {g : PV → List PO → Res PV} {a : Expr} {fa : Ex} {pos : Pos} (ho : UnR X (unaryOp op) r) (P : Prim1 X.K T r g) (ha : RE X T Ew a fa) : RE X T Ew (.UnaryOp op a pos) (c1 g fa) := by with_unfolding_all exact (
  PE.imp (pe_un ho ha) fun σ H Q w => w1 P w)
theorem re_cmp {op : CmpOp} {r : R2} {g : PV → PV → List PO → Res PV} {a b : Expr} {fa fb : Ex} {pos : Pos} (ho : OpR X (compareOp op) r) (P : Prim2 X.K T r g) (ha : RE X T Ew a fa) (hb : RE X T Ew b fb) (hm : behindInMarks op b = false) : RE X T Ew (.Compare a [op] [b] pos) (c2 g fa fb) := by with_unfolding_all exact (
  PE.imp (pe_cmpR ho ha hb hm) fun σ H Q w => w2 P w)
end
end L3
set_option Elab.async false
set_option linter.all false
set_option maxRecDepth 100000
set_option maxHeartbeats 4000000
set_option autoImplicit false
namespace L3
open PySem PySem.Spec PyProof.Rows L2
def lsM (h : List PO) : PV → Option (List PV)
  | .lst xs => some xs
  | .ref i => match h[i]? with
    | some (.lst xs) => some xs
    | _ => none
  | _ => none
def lsR (h : List PO) : PV → Option (List PV)
  | .giv xs => some xs
  | p => lsM h p
def dcR (h : List PO) : PV → Option (List (PK × PV))
  | .dct kvs => some kvs
  | .ref i => match h[i]? with
    | some (.dct kvs) => some kvs
    | _ => none
  | _ => none
def sqR (h : List PO) : PV → Option (List PV)
  | .tup xs => some xs
  | p => lsR h p
section
variable {K : PySem.W.Frag} {T : Tab} {F H : Hp} {m : List Addr} {h : List PO} {p : PV} {x : V} {ps : List PV}
theorem lsM_rep (R : RelH K T F m h H) (r : RepV K T F m p x) (e : lsM h p = some ps) : ∃ a vs, x = .ref a ∧ H a = some (.lst vs) ∧ RepVs K T F m ps vs := by
  cases r with
  | lst ef rr => simp only [lsM, Option.some.injEq] at e; subst e; exact ⟨_, _, rfl, R.same _ _ ef, rr⟩
  | @ref i a em =>
    have e : (match h[i]? with | some (.lst xs) => some xs | _ => none) = some ps := e
    cases q : h[i]? with
    | none => rw [q] at e; cases e
    | some o =>
      rw [q] at e
      cases o with
      | lst xs =>
        simp only [Option.some.injEq] at e; subst e
        obtain ⟨_, vs, e1, rr⟩ := R.obj i _ a q em
        exact ⟨a, vs, rfl, e1, rr⟩
      | dct _ => cases e
      | froz _ => cases e
  | _ => simp [lsM] at e
theorem lsR_rep (R : RelH K T F m h H) (r : RepV K T F m p x) (e : lsR h p = some ps) : ∃ a vs, x = .ref a ∧ SqL K H a vs ∧ RepVs K T F m ps vs := by
  by_cases hg : ∃ xs, p = .giv xs
  · obtain ⟨xs, rfl⟩ := hg
    simp only [lsR, Option.some.injEq] at e; subst e
    cases r with
    | giv ef rr => exact ⟨_, _, rfl, R.same.seq ef, rr⟩
  · have e' : lsM h p = some ps := by
      unfold lsR at e
      split at e
      · exact absurd ⟨_, rfl⟩ hg
      · exact e
    obtain ⟨a, vs, e1, e2, rr⟩ := lsM_rep R r e'
    exact ⟨a, vs, e1, SqL.of e2, rr⟩
theorem tup_rep (R : RelH K T F m h H) (r : RepV K T F m (.tup ps) x) : ∃ a vs, x = .ref a ∧ SqT K H a vs ∧ RepVs K T F m ps vs := by
  cases r with
  | tup ef rr => exact ⟨_, _, rfl, R.same.seqT ef, rr⟩
theorem sqR_rep (R : RelH K T F m h H) (r : RepV K T F m p x) (e : sqR h p = some ps) : ∃ a vs, x = .ref a ∧ (SqL K H a vs ∨ SqT K H a vs) ∧ RepVs K T F m ps vs := by
  by_cases hg : ∃ xs, p = .tup xs
  · obtain ⟨xs, rfl⟩ := hg
    simp only [sqR, Option.some.injEq] at e; subst e
    obtain ⟨a, vs, e1, e2, rr⟩ := tup_rep R r
    exact ⟨a, vs, e1, .inr e2, rr⟩
  · have e' : lsR h p = some ps := by
      unfold sqR at e
      split at e
      · exact absurd ⟨_, rfl⟩ hg
      · exact e
    obtain ⟨a, vs, e1, e2, rr⟩ := lsR_rep R r e'
    exact ⟨a, vs, e1, .inl e2, rr⟩
theorem dcR_rep {kps : List (PK × PV)} (R : RelH K T F m h H) (r : RepV K T F m p x) (e : dcR h p = some kps) : ∃ a kvs, x = .ref a ∧ Rd H a (.dK kvs) ∧ kvs.map (·.1) = kps.map (fun p => tk p.1) ∧ RepVs K T F m (kps.map (·.2)) (kvs.map (·.2)) := by
  cases r with
  | dct ef k rr => simp only [dcR, Option.some.injEq] at e; subst e; exact ⟨_, _, rfl, Rd.same R.same ef, k, rr⟩
  | @ref i a em =>
    have e : (match h[i]? with | some (.dct xs) => some xs | _ => none) = some kps := e
    cases q : h[i]? with
    | none => rw [q] at e; cases e
    | some o =>
      rw [q] at e
      cases o with
      | dct xs =>
        simp only [Option.some.injEq] at e; subst e
        obtain ⟨_, vs, e1, k, rr⟩ := R.obj i _ a q em
        exact ⟨a, vs, rfl, .inl e1, k, rr⟩
      | lst _ => cases e
      | froz _ => cases e
  | _ => simp [dcR] at e
theorem RepVs.at {ps : List PV} {vs : List V} {i : Int} {p : PV} (r : RepVs K T F m ps vs) (e : atI ps i = some p) : ∃ v, atI vs i = some v ∧ RepV K T F m p v := by
  unfold atI at e ⊢
  rw [← r.length]
  cases q : ixN ps.length i with
  | none => rw [q] at e; cases e
  | some j =>
    rw [q] at e
    simp only [Option.bind_some] at e ⊢
    exact r.get e
end
theorem OpR.or {X : Cx} {f : Value → Value → Sem Value} {r r' : R2} (h : OpR X f r) (h' : OpR X f r') : OpR X f (fun x y H Q => r x y H Q ∨ r' x y H Q) := by
  intro pins s σ H x y v u Q I rx ry q
  rcases q with q | q
  · exact h pins s σ H x y v u Q I rx ry q
  · exact h' pins s σ H x y v u Q I rx ry q
theorem CallR.or {X : Cx} {f : Value} {r r' : List V → Hp → VK → Prop} (h : CallR X f r) (h' : CallR X f r') : CallR X f (fun x H Q => r x H Q ∨ r' x H Q) := by
  intro pins s σ H x v Q I rx q
  rcases q with q | q
  · exact h pins s σ H x v Q I rx q
  · exact h' pins s σ H x v Q I rx q
theorem SlR.or {X : Cx} {r r' : V → Option Int → Option Int → Hp → VK → Prop} (h : SlR X r) (h' : SlR X r') : SlR X (fun x l u H Q => r x l u H Q ∨ r' x l u H Q) := by
  intro pins s σ H x v vl vu lo hi sl Q I rx hs pl pu q
  rcases q with q | q
  · exact h pins s σ H x v vl vu lo hi sl Q I rx hs pl pu q
  · exact h' pins s σ H x v vl vu lo hi sl Q I rx hs pl pu q
section
variable {K : PySem.W.Frag} {T : Tab} {F H : Hp} {m : List Addr} {h : List PO} {Q : VK} {Ew : VK}
theorem post_ok {p : PV} {x : V} (w : Post K T (RepV K T) F m H Q Ew (.ok p h)) (R : RelH K T F m h H) (r : RepV K T F m p x) : Q x H := w F m H x .refl R r
theorem post_lst {ps : List PV} {vs : List V} (w : Post K T (RepV K T) F m H Q Ew (.ok (.lst ps) h)) (R : RelH K T F m h H) (r : RepVs K T F m ps vs) : ∀ p, H p = none → Q (.ref p) (upd H p (.lst vs)) := fun p hp => by
  obtain ⟨s, R'⟩ := Step.lay (o := .lst vs) R hp
  exact w _ m _ _ s R' (.lst upd_same (s.reps r))
theorem post_tup {ps : List PV} {vs : List V} (w : Post K T (RepV K T) F m H Q Ew (.ok (.tup ps) h)) (R : RelH K T F m h H) (r : RepVs K T F m ps vs) : ∀ p, H p = none → Q (.ref p) (upd H p (.tup vs)) := fun p hp => by
  obtain ⟨s, R'⟩ := Step.lay (o := .tup vs) R hp
  exact w _ m _ _ s R' (.tup (SqT.of upd_same) (s.reps r))
theorem post_new {ps : List PV} {vs : List V} (w : Post K T (RepV K T) F m H Q Ew (.ok (.ref h.length) (h ++ [.lst ps]))) (R : RelH K T F m h H) (r : RepVs K T F m ps vs) : ∀ p, H p = none → Q (.ref p) (upd H p (.lst vs)) := fun p hp => by
  have hF : F p = none := R.same.free hp
  have hm : p ∉ m := fun z => by
    obtain ⟨i, e⟩ := List.mem_iff_getElem?.mp z
    have hi : i < h.length := by
      rw [R.len]
      rcases Nat.lt_or_ge i m.length with q | q
      · exact q
      · rw [List.getElem?_eq_none q] at e; cases e
    have e2 : h[i]? = some h[i] := List.getElem?_eq_getElem hi
    have q := R.obj i _ p e2 e
    cases ho : h[i] with
    | lst xs => rw [ho] at q; obtain ⟨_, vs, z, _⟩ := q; rw [hp] at z; cases z
    | dct xs => rw [ho] at q; obtain ⟨_, vs, z, _⟩ := q; rw [hp] at z; cases z
    | froz xs => rw [ho] at q; obtain ⟨_, _, o, z⟩ := q; rw [hF] at z; cases z
  have st : Step F m H F (m ++ [p]) (upd H p (.lst vs)) := by
    refine ⟨Same.refl _, ⟨[p], rfl⟩, fun b o e _ => by rw [upd_ne (ne_of_none e hp)]; exact e, fun b o e => ⟨o, by rw [upd_ne (ne_of_none e hp)]; exact e⟩, fun i a hi e => ?_, fun a o e => .inl e⟩
    rw [List.getElem?_append_right hi] at e
    have : a = p := by
      cases q : i - m.length with
      | zero => rw [q] at e; simpa using e.symm
      | succ k => rw [q] at e; simp at e
    rw [this]; exact hp
  refine w F (m ++ [p]) _ _ st ⟨fun b o e => by rw [upd_ne (ne_of_none (R.same b o e) hp)]; exact R.same b o e, by simp [R.len], fun i o a e1 e2 => ?_, ?_⟩ (.ref (by rw [R.len]; simp))
  · rcases Nat.lt_or_ge i h.length with hi | hi
    · rw [List.getElem?_append_left hi] at e1
      rw [List.getElem?_append_left (by rw [← R.len]; exact hi)] at e2
      have q := R.obj i o a e1 e2
      cases o with
      | lst xs =>
        obtain ⟨f, ws, z, rr⟩ := q
        exact ⟨f, ws, by rw [upd_ne (ne_of_none z hp)]; exact z, st.reps rr⟩
      | dct xs =>
        obtain ⟨f, ws, z, k, rr⟩ := q
        exact ⟨f, ws, by rw [upd_ne (ne_of_none z hp)]; exact z, k, st.reps rr⟩
      | froz q' =>
        obtain ⟨r1, r2, r3⟩ := q
        exact ⟨st.rep r1, r2, r3⟩
    · have hi' : i = h.length := by
        rcases Nat.lt_or_ge i (h.length + 1) with z | z
        · omega
        · rw [List.getElem?_eq_none (by simp; omega)] at e1; cases e1
      subst hi'
      have e1' : o = .lst ps := by simpa using e1.symm
      subst e1'
      have e2' : a = p := by rw [R.len] at e2; simpa using e2.symm
      subst e2'
      exact ⟨hF, vs, upd_same, st.reps r⟩
  · refine List.nodup_append.mpr ⟨R.nd, by simp, fun a ha b hb => ?_⟩
    have : b = p := by simpa using hb
    subst this
    rintro rfl
    exact hm ha
end
def oI (i : Int) (h : List PO) : Res PV := .ok (.int i) h
def pAdd (p q : PV) (h : List PO) : Res PV := match p, q with
  | .int i, .int j => .ok (.int (i + j)) h
  | .int i, .bl b => .ok (.int (i + b2i b)) h
  | .str a, .str b => if a.length + b.length ≤ sizeLine then .ok (.str (a ++ b)) h else .bad
  | .tup a, .tup b => if a.isEmpty = false ∧ a.length + b.length ≤ sizeLine then .ok (.tup (a ++ b)) h else .bad
  | p, q => match lsM h p, lsM h q with
    | some a, some b => if a.length + b.length ≤ sizeLine then .ok (.lst (a ++ b)) h else .bad
    | _, _ => .bad
def rAddA (K : PySem.W.Frag) : R2 := fun x y H Q => (rI0 fun i j => V.int (i + j)) x y H Q ∨ (∃ i k, x = .int i ∧ y = .bl k ∧ Q (.int (i + b2i k)) H) ∨
  (∃ i j, x = .str i ∧ y = .str j ∧ i.length + j.length ≤ sizeLine ∧ Q (.str (i ++ j)) H) ∨ rCatT K x y H Q ∨ rCat x y H Q
theorem op_addA {X : Cx} : OpR X (binaryOp .Add) (rAddA X.K) := OpR.or op_add (OpR.or op_add_ib (OpR.or op_add_str (OpR.or op_catT op_cat)))
theorem S_append (a b : List Nat) : S a ++ S b = S (a ++ b) := by
  show (⟨(S a).cps ++ (S b).cps⟩ : Str) = _
  simp [S]
theorem prim_add {K : PySem.W.Frag} {T : Tab} : Prim2 K T (rAddA K) pAdd := by
  intro F m h H x y p q Q Ew R rp rq w
  unfold pAdd at w
  split at w
  · cases rp; cases rq; exact .inl ⟨_, _, rfl, rfl, post_ok w R (.int _)⟩
  · cases rp; cases rq; exact .inr (.inl ⟨_, _, rfl, rfl, post_ok w R (.int _)⟩)
  · rename_i a b
    cases rp; cases rq
    split at w
    · rename_i hz
      exact .inr (.inr (.inl ⟨_, _, rfl, rfl, by rw [S_len, S_len]; exact hz, by rw [S_append]; exact post_ok w R (.str _)⟩))
    · exact w.elim
  · rename_i a b
    split at w
    · rename_i hz
      obtain ⟨pa, va, rfl, ea, ra⟩ := tup_rep R rp
      obtain ⟨pb, vb, rfl, eb, rb⟩ := tup_rep R rq
      refine .inr (.inr (.inr (.inl ⟨pa, pb, va, vb, rfl, rfl, ea, eb, fun z => ?_, by rw [← ra.length, ← rb.length]; exact hz.2, fun z => ?_, fun _ => post_tup w R (ra.append rb)⟩)))
      · subst z
        have := ra.length
        cases a with
        | nil => simp at hz
        | cons _ _ => simp at this
      · subst z
        have := rb.length
        cases b with
        | nil =>
          rw [List.append_nil] at w
          exact post_ok w R rp
        | cons _ _ => simp at this
    · exact w.elim
  · split at w
    · rename_i a b e1 e2
      split at w
      · rename_i hz
        obtain ⟨pa, va, rfl, ea, ra⟩ := lsM_rep R rp e1
        obtain ⟨pb, vb, rfl, eb, rb⟩ := lsM_rep R rq e2
        exact .inr (.inr (.inr (.inr ⟨pa, pb, va, vb, rfl, rfl, ea, eb, by rw [← ra.length, ← rb.length]; exact hz, post_lst w R (ra.append rb)⟩)))
      · exact w.elim
    · exact w.elim
theorem re_add {X : Cx} {T : Tab} {Ew : VK} {a b : Expr} {fa fb : Ex} {pos : Pos} (ha : RE X T Ew a fa) (hb : RE X T Ew b fb) : RE X T Ew (.BinOp a .Add b pos) (c2 pAdd fa fb) := by with_unfolding_all exact (
    re_op op_addA prim_add ha hb)
def pI (C : Int → Int → Bool) (g : Int → Int → Int) (p q : PV) (h : List PO) : Res PV := match p, q with
  | .int i, .int j => if C i j = true then .ok (.int (g i j)) h else .bad
  | _, _ => .bad
theorem prim_I {K : PySem.W.Frag} {T : Tab} {C : Int → Int → Bool} {C' : Int → Int → Prop} {g : Int → Int → Int} (hC : ∀ i j, C i j = true → C' i j) : Prim2 K T (rI C' fun i j => .int (g i j)) (pI C g) := by
  intro F m h H x y p q Q Ew R rp rq w
  unfold pI at w
  split at w
  · cases rp; cases rq
    split at w
    · rename_i hc
      exact ⟨_, _, rfl, rfl, hC _ _ hc, post_ok w R (.int _)⟩
    · exact w.elim
  · exact w.elim
def pSub (p q : PV) (h : List PO) : Res PV := match p, q with
  | .int i, .int j => .ok (.int (i - j)) h
  | _, _ => .bad
theorem prim_sub {K : PySem.W.Frag} {T : Tab} : Prim2 K T (rI0 fun i j => .int (i - j)) pSub := by
  intro F m h H x y p q Q Ew R rp rq w
  unfold pSub at w
  split at w
  · cases rp; cases rq; exact ⟨_, _, rfl, rfl, post_ok w R (.int _)⟩
  · exact w.elim
abbrev pMod := pI (fun _ j => decide (0 < j)) (fun i j => i % j)
abbrev pDiv := pI (fun _ j => decide (0 < j ∧ j < 1073741824)) (fun i j => i / j)
abbrev pPow := pI (fun i j => decide (0 ≤ j ∧ j ≤ 1000000 ∧ i.natAbs < 2 ^ 64)) (fun i j => i ^ j.toNat)
def bel (n : Nat) (i : Int) : Bool := Nat.blt i.natAbs n
theorem bel_iff {n : Nat} {i : Int} : bel n i = true ↔ -(n : Int) < i ∧ i < (n : Int) := by
  unfold bel
  rw [Nat.blt_eq]
  omega
def mulC (i j : Int) : Bool := bel 18446744073709551616 i || bel 18446744073709551616 j
def repL {α : Type} (xs : List α) (k : Int) : List α := (List.replicate k.toNat xs).flatten
def pMul (p q : PV) (h : List PO) : Res PV := match p, q with
  | .int i, .int j => if mulC i j = true then .ok (.int (i * j)) h else .bad
  | .str a, .int k => if bel 1048576 k = true ∧ a.length * k.toNat ≤ 1048576 then .ok (.str (repL a k)) h else .bad
  | p, .int k => match lsM h p with
    | some xs => if bel 9223372036854775808 k = true ∧ xs.length * k.toNat ≤ sizeLine then .ok (.lst (repL xs k)) h else .bad
    | _ => .bad
  | _, _ => .bad
def rMulA : R2 := fun x y H Q => rI CMul (fun i j => .int (i * j)) x y H Q ∨ rMulS x y H Q ∨ rRep x y H Q
theorem op_mulA {X : Cx} : OpR X (binaryOp .Mult) rMulA := OpR.or op_mul (OpR.or op_mul_str op_rep)
theorem foldl_app (l : List Nat) : ∀ (k : Nat) (acc : List Nat), (List.replicate k l.toArray).foldl (· ++ ·) acc.toArray = (acc ++ (List.replicate k l).flatten).toArray
  | 0, acc => by simp
  | k + 1, acc => by
    rw [List.replicate_succ, List.foldl_cons, List.replicate_succ, List.flatten_cons, ← List.append_assoc, ← foldl_app l k (acc ++ l)]
    congr 1
    simp
theorem S_mul (a : List Nat) (k : Int) : Txt.mul (S a) k = S (repL a k) := by
  unfold Txt.mul repL
  by_cases h1 : k < 1
  · rw [if_pos h1]
    have : k.toNat = 0 := by omega
    rw [this]; rfl
  · rw [if_neg h1]
    by_cases h2 : k = 1
    · subst h2; simp
    · by_cases h3 : (S a).length = 0
      · rw [if_pos (by simp [h3])]
        have : a = [] := by rw [S_len] at h3; exact List.length_eq_zero_iff.mp h3
        subst this
        have e : ∀ n : Nat, (List.replicate n ([] : List Nat)).flatten = [] := fun n => by induction n with
          | zero => rfl
          | succ n ih => rw [List.replicate_succ, List.flatten_cons, ih]; rfl
        rw [e]
      · rw [if_neg (by simp [h2, h3])]
        have := foldl_app a k.toNat []
        rw [List.nil_append] at this
        show (⟨_⟩ : Str) = ⟨_⟩
        congr 1
theorem prim_mul {K : PySem.W.Frag} {T : Tab} : Prim2 K T rMulA pMul := by
  intro F m h H x y p q Q Ew R rp rq w
  unfold pMul at w
  split at w
  · cases rp; cases rq
    split at w
    · rename_i hc
      exact .inl ⟨_, _, rfl, rfl, (by
        unfold mulC at hc
        rw [Bool.or_eq_true, bel_iff, bel_iff] at hc
        exact hc), post_ok w R (.int _)⟩
    · exact w.elim
  · rename_i a k
    cases rp; cases rq
    split at w
    · rename_i hc
      obtain ⟨h12, h3⟩ := hc
      obtain ⟨h1, h2⟩ := bel_iff.mp h12
      refine .inr (.inl ⟨_, _, rfl, rfl, ⟨?_, fun g1 g2 => ?_, fun g1 g2 => ?_⟩, by rw [S_mul]; exact post_ok w R (.str _)⟩)
      · simp; omega
      · have hl : ((S a).length : Int) ≤ 2 ^ 20 := by
          rw [S_len]
          have : a.length * 1 ≤ a.length * k.toNat := Nat.mul_le_mul_left _ (by omega)
          omega
        have : (2 : Int) ^ 20 ≤ (2 ^ 63 - 1) / k := by
          rw [Int.le_ediv_iff_mul_le (by omega)]
          have : (2:Int) ^ 20 * k ≤ 2 ^ 20 * 2 ^ 20 := Int.mul_le_mul_of_nonneg_left (by omega) (by decide)
          omega
        omega
      · rw [S_len]
        unfold Builtin.Str.tooLong
        simp
        have : (2:Nat) ^ 20 ≤ sizeLine := by decide
        omega
    · exact w.elim
  · rename_i k hs hi
    cases rq
    split at w
    · rename_i xs e
      split at w
      · rename_i hc
        obtain ⟨h12, h3⟩ := hc
        obtain ⟨h1', h2'⟩ := bel_iff.mp h12
        have h1 : -(2 ^ 63) ≤ k := by omega
        have h2 : k < 2 ^ 63 := by omega
        obtain ⟨a, vs, rfl, ea, ra⟩ := lsM_rep R rp e
        have rr : ∀ n : Nat, RepVs K T F m (List.replicate n xs).flatten (List.replicate n vs).flatten := fun n => by
          induction n with
          | zero => exact .nil
          | succ n ih => rw [List.replicate_succ, List.replicate_succ, List.flatten_cons, List.flatten_cons]; exact ra.append ih
        exact .inr (.inr ⟨a, k, vs, rfl, rfl, ea, h1, h2, by rw [← ra.length]; exact h3, post_lst w R (rr _)⟩)
      · exact w.elim
    · exact w.elim
  · exact w.elim
section
variable {X : Cx} {T : Tab} {Ew : VK} {a b : Expr} {fa fb : Ex} {pos : Pos}
theorem re_sub (ha : RE X T Ew a fa) (hb : RE X T Ew b fb) : RE X T Ew (.BinOp a .Sub b pos) (c2 pSub fa fb) := by with_unfolding_all exact (
    re_op op_sub prim_sub ha hb)
theorem re_mul (ha : RE X T Ew a fa) (hb : RE X T Ew b fb) : RE X T Ew (.BinOp a .Mult b pos) (c2 pMul fa fb) := by with_unfolding_all exact (
    re_op op_mulA prim_mul ha hb)
theorem re_mod (ha : RE X T Ew a fa) (hb : RE X T Ew b fb) : RE X T Ew (.BinOp a .Mod b pos) (c2 pMod fa fb) := by with_unfolding_all exact (
    re_op op_mod (prim_I fun i j h => of_decide_eq_true h) ha hb)
theorem re_fdiv (ha : RE X T Ew a fa) (hb : RE X T Ew b fb) : RE X T Ew (.BinOp a .FloorDiv b pos) (c2 pDiv fa fb) := by with_unfolding_all exact (
    re_op op_fdiv (prim_I fun i j h => (by have z := of_decide_eq_true h; exact z)) ha hb)
theorem re_pow (ha : RE X T Ew a fa) (hb : RE X T Ew b fb) : RE X T Ew (.BinOp a .Pow b pos) (c2 pPow fa fb) := by with_unfolding_all exact (
    re_op op_pow (prim_I fun i j h => (by have z := of_decide_eq_true h; exact z)) ha hb)
def pNeg (p : PV) (h : List PO) : Res PV := match p with
  | .int i => .ok (.int (-i)) h
  | _ => .bad
theorem re_neg (ha : RE X T Ew a fa) : RE X T Ew (.UnaryOp .USub a pos) (c1 pNeg fa) := by with_unfolding_all exact (
    re_un un_neg (by
  intro F m h H x p Q Ew R rp w
  unfold pNeg at w
  split at w
  · cases rp; exact ⟨_, rfl, post_ok w R (.int _)⟩
  · exact w.elim) ha)
end
end L3
set_option Elab.async false
set_option linter.all false
set_option maxRecDepth 100000
set_option maxHeartbeats 4000000
set_option autoImplicit false
namespace L3
open PySem PySem.Spec PyProof.Rows L2
mutual
inductive RdD (K : PySem.W.Frag) (H : Hp) : V → PyData → Prop where
  | non : RdD K H .non .none
  | bl (b : Bool) : RdD K H (.bl b) (.bool b)
  | int (i : Int) : RdD K H (.int i) (.int i)
  | str (x : Str) : RdD K H (.str x) (.str x)
  | lst {a : Addr} {vs : List V} {ds : List PyData} (e : SqL K H a vs) (r : RdDs K H vs ds) : RdD K H (.ref a) (.list ds)
  | tup {a : Addr} {vs : List V} {ds : List PyData} (e : SqT K H a vs) (r : RdDs K H vs ds) : RdD K H (.ref a) (.tuple ds)
inductive RdDs (K : PySem.W.Frag) (H : Hp) : List V → List PyData → Prop where
  | nil : RdDs K H [] []
  | cons {v : V} {d : PyData} {vs : List V} {ds : List PyData} (r : RdD K H v d) (t : RdDs K H vs ds) : RdDs K H (v :: vs) (d :: ds)
end
section
variable {X : Cx} {pins : List (Addr × Obj)} {σ : St} {H : Hp} {s : Shared}
mutual
theorem RdD.reads (I : Inv X pins σ H s) : ∀ {x : V} {d : PyData} {u : Value}, RdD X.K H x d → RelV x u → ∃ as, Reads s.heap u d as
  | _, _, _, .non, r => by cases r; exact ⟨_, .none⟩
  | _, _, _, .bl b, r => by cases r; exact ⟨_, .bool b⟩
  | _, _, _, .int i, r => by obtain ⟨t, rfl⟩ := r; exact ⟨_, .int i t⟩
  | _, _, _, .str x, r => by obtain ⟨t, rfl⟩ := r; exact ⟨_, .str x t⟩
  | _, _, _, .lst e rr, r => by
    cases r
    obtain ⟨its, rv, ⟨o, n, h1, h2, h3, h4⟩, _⟩ := I.list e
    obtain ⟨as, ra⟩ := RdDs.reads I rr rv
    exact ⟨_, .list h1 h2 h4 (by simpa using ra)⟩
  | _, _, _, .tup e rr, r => by
    cases r
    obtain ⟨its, rv, ⟨o, h1, h2, n, h4⟩, _⟩ := I.tuple e
    obtain ⟨as, ra⟩ := RdDs.reads I rr rv
    exact ⟨_, .tuple h1 h2 h4 (by simpa using ra)⟩
theorem RdDs.reads (I : Inv X pins σ H s) : ∀ {xs : List V} {ds : List PyData} {us : List Value}, RdDs X.K H xs ds → Vals xs us → ∃ as, ReadsAll s.heap us ds as
  | _, _, _, .nil, r => by cases r; exact ⟨_, .nil⟩
  | _, _, _, .cons q t, r => by
    cases r with
    | cons r1 r2 =>
      obtain ⟨as, ra⟩ := RdD.reads I q r1
      obtain ⟨bs, rb⟩ := RdDs.reads I t r2
      exact ⟨_, .cons ra rb⟩
end
end
mutual
def toD : PV → PyData
  | .non => .none
  | .bl b => .bool b
  | .int i => .int i
  | .str l => .str (S l)
  | .tup xs => .tuple (toDs xs)
  | .lst xs => .list (toDs xs)
  | .giv xs => .list (toDs xs)
  | _ => .dict []
def toDs : List PV → List PyData
  | [] => []
  | x :: r => toD x :: toDs r
end
theorem toDs_map : ∀ l : List PV, toDs l = l.map toD
  | [] => by simp [toDs]
  | x :: r => by simp [toDs, toDs_map r]
def dOf (h : List PO) : PV → PyData
  | .ref i => match h[i]? with
    | some (.lst xs) => .list (toDs xs)
    | _ => .dict []
  | p => toD p
section
variable {K : PySem.W.Frag} {T : Tab} {F H : Hp} {m : List Addr}
mutual
theorem RepV.rd (sm : Same F H) : ∀ {p : PV} {x : V}, RepV K T F m p x → (toD p).canLay0 = true → RdD K H x (toD p)
  | _, _, .non, _ => by simp only [toD]; exact .non
  | _, _, .bl b, _ => by simp only [toD]; exact .bl b
  | _, _, .int i, _ => by simp only [toD]; exact .int i
  | _, _, .str x, _ => by simp only [toD]; exact .str _
  | _, _, .ty n, h => by simp [toD, PyData.canLay0] at h
  | _, _, .cls c, h => by simp [toD, PyData.canLay0] at h
  | _, _, .tup e r, h => by
    simp only [toD] at h ⊢
    exact .tup (sm.seqT e) (RepVs.rd sm r (by simpa [PyData.canLay0] using h))
  | _, _, .lst e r, h => by
    simp only [toD] at h ⊢
    exact .lst (SqL.of (sm _ _ e)) (RepVs.rd sm r (by simpa [PyData.canLay0] using h))
  | _, _, .giv e r, h => by
    simp only [toD] at h ⊢
    exact .lst (sm.seq e) (RepVs.rd sm r (by simpa [PyData.canLay0] using h))
  | _, _, .dct e k r, h => by simp [toD, PyData.canLay0] at h
  | _, _, .ins c e d k r, h => by simp [toD, PyData.canLay0] at h
  | _, _, .ref e, h => by simp [toD, PyData.canLay0] at h
theorem RepVs.rd (sm : Same F H) : ∀ {p : List PV} {x : List V}, RepVs K T F m p x → PyData.canLayAll0 (toDs p) = true → RdDs K H x (toDs p)
  | _, _, .nil, _ => by simp only [toDs]; exact .nil
  | _, _, .cons r t, h => by
    simp only [toDs, PyData.canLayAll0, Bool.and_eq_true] at h ⊢
    exact .cons (RepV.rd sm r h.1) (RepVs.rd sm t h.2)
end
theorem RepV.rdH {h : List PO} (R : RelH K T F m h H) {p : PV} {x : V} (r : RepV K T F m p x) (c : (dOf h p).canLay0 = true) : RdD K H x (dOf h p) := by
  by_cases hr : ∃ i, p = .ref i
  · obtain ⟨i, rfl⟩ := hr
    cases r with
    | @ref _ a e =>
      have c' : (match h[i]? with | some (.lst xs) => PyData.list (toDs xs) | _ => .dict []).canLay0 = true := c
      show RdD K H (.ref a) (match h[i]? with | some (.lst xs) => PyData.list (toDs xs) | _ => .dict [])
      cases q : h[i]? with
      | none => rw [q] at c'; simp [PyData.canLay0] at c'
      | some o =>
        rw [q] at c'
        cases o with
        | lst xs =>
          obtain ⟨_, vs, e1, rr⟩ := R.obj i _ a q e
          exact .lst (SqL.of e1) (RepVs.rd R.same rr (by simpa [PyData.canLay0] using c'))
        | dct _ => simp [PyData.canLay0] at c'
        | froz _ => simp [PyData.canLay0] at c'
  · have e : dOf h p = toD p := by
      unfold dOf
      split
      · exact absurd ⟨_, rfl⟩ hr
      · rfl
    rw [e] at c ⊢
    exact RepV.rd R.same r c
end
def okD (h : List PO) (p : PV) : Bool := (dOf h p).canLay0 && decide ((dOf h p).depth ≤ 60)
def pEq (p q : PV) (h : List PO) : Res PV := if okD h p = true ∧ okD h q = true then .ok (.bl (PyData.eqv (dOf h p) (dOf h q))) h else .bad
def pNe (p q : PV) (h : List PO) : Res PV := if okD h p = true ∧ okD h q = true then .ok (.bl (!PyData.eqv (dOf h p) (dOf h q))) h else .bad
def rEqD (K : PySem.W.Frag) (neg : Bool) : R2 := fun x y H Q => ∃ d e, RdD K H x d ∧ RdD K H y e ∧ d.canLay0 = true ∧ e.canLay0 = true ∧ d.depth ≤ 60 ∧ Q (.bl (if neg then !PyData.eqv d e else PyData.eqv d e)) H
section
variable {X : Cx} {T : Tab} {Ew : VK} {a b : Expr} {fa fb : Ex} {pos : Pos}
theorem op_eqD (hu : X.A.units + 64 < cLine) : OpR X (compareOp .Eq) (rEqD X.K false) := by
  intro pins s σ H x y v u Q I rx ry h
  obtain ⟨d, e, h1, h2, c1, c2, dp, q⟩ := h
  obtain ⟨as, ra⟩ := h1.reads I rx
  obtain ⟨bs, rb⟩ := h2.reads I ry
  exact SeqAt.compareEq_reads ra rb c1 c2 (by have := Nat.min_le_left d.depth e.depth; omega) ⟨.bl _, H, I, rfl, q⟩
theorem op_neD (hu : X.A.units + 64 < cLine) : OpR X (compareOp .NotEq) (rEqD X.K true) := by
  intro pins s σ H x y v u Q I rx ry h
  obtain ⟨d, e, h1, h2, c1, c2, dp, q⟩ := h
  obtain ⟨as, ra⟩ := h1.reads I rx
  obtain ⟨bs, rb⟩ := h2.reads I ry
  exact SeqAt.compareNe_reads ra rb c1 c2 (by have := Nat.min_le_left d.depth e.depth; omega) ⟨.bl _, H, I, rfl, q⟩
theorem prim_eq {K : PySem.W.Frag} {T : Tab} : Prim2 K T (rEqD K false) pEq := by
  intro F m h H x y p q Q Ew R rp rq w
  unfold pEq at w
  split at w
  · rename_i hc
    unfold okD at hc
    simp only [Bool.and_eq_true, decide_eq_true_eq] at hc
    exact ⟨_, _, rp.rdH R hc.1.1, rq.rdH R hc.2.1, hc.1.1, hc.2.1, hc.1.2, post_ok w R (.bl _)⟩
  · exact w.elim
theorem prim_ne {K : PySem.W.Frag} {T : Tab} : Prim2 K T (rEqD K true) pNe := by
  intro F m h H x y p q Q Ew R rp rq w
  unfold pNe at w
  split at w
  · rename_i hc
    unfold okD at hc
    simp only [Bool.and_eq_true, decide_eq_true_eq] at hc
    exact ⟨_, _, rp.rdH R hc.1.1, rq.rdH R hc.2.1, hc.1.1, hc.2.1, hc.1.2, post_ok w R (.bl _)⟩
  · exact w.elim
def pCmp (g : Int → Int → Bool) (p q : PV) (h : List PO) : Res PV := match p, q with
  | .int i, .int j => .ok (.bl (g i j)) h
  | _, _ => .bad
theorem prim_cmp {K : PySem.W.Frag} {T : Tab} {g : Int → Int → Bool} : Prim2 K T (rI0 fun i j => .bl (g i j)) (pCmp g) := by
  intro F m h H x y p q Q Ew R rp rq w
  unfold pCmp at w
  split at w
  · cases rp; cases rq; exact ⟨_, _, rfl, rfl, post_ok w R (.bl _)⟩
  · exact w.elim
abbrev pLt := pCmp fun i j => decide (i < j)
abbrev pLe := pCmp fun i j => decide (i ≤ j)
end
def firstFrom (y x : List Nat) (lo : Nat) : Option Nat := (List.range (x.length + 1)).find? fun i => decide (lo ≤ i) && y.isPrefixOf (x.drop i)
theorem subAt_iff (x y : List Nat) (i : Nat) (hi : i + y.length ≤ x.length) : Builtin.Str.subAt (S x) (S y) i = y.isPrefixOf (x.drop i) := by
  unfold Builtin.Str.subAt
  rw [S_len]
  rw [Bool.eq_iff_iff, beq_iff_eq, List.isPrefixOf_iff_prefix]
  have e : (S x).cps.extract i (i + y.length) = ((x.drop i).take y.length).toArray := by
    apply Array.toList_inj.mp
    simp [S, List.extract_eq_drop_take]
  rw [e]
  show ((x.drop i).take y.length).toArray = (S y).cps ↔ _
  constructor
  · intro h
    have h' : (x.drop i).take y.length = y := by simpa [S] using congrArg Array.toList h
    refine ⟨(x.drop i).drop y.length, ?_⟩
    have q := List.take_append_drop y.length (x.drop i)
    rw [h'] at q
    exact q
  · rintro ⟨t, ht⟩
    rw [← ht, List.take_left]; rfl
theorem at_iff (x y : List Nat) (i : Nat) : StrLaws.At (S x) (S y) (S x).length i ↔ i ≤ x.length ∧ y.isPrefixOf (x.drop i) = true := by
  unfold StrLaws.At
  rw [S_len, S_len]
  constructor
  · rintro ⟨h1, h2⟩
    rw [subAt_iff x y i h1] at h2
    exact ⟨by omega, h2⟩
  · rintro ⟨h1, h2⟩
    have : i + y.length ≤ x.length := by
      have := (List.isPrefixOf_iff_prefix.mp h2).length_le
      rw [List.length_drop] at this
      omega
    exact ⟨this, by rw [subAt_iff x y i this]; exact h2⟩
theorem occ_first1 (x y : List Nat) (lo : Nat) : Builtin.Str.occurrences (S x) (S y) lo (S x).length 1 = (firstFrom y x lo).toList := by
  have hlen := StrLaws.occ_length_le (S x) (S y) lo (S x).length 1
  rcases StrLaws.occ_head_from (S x) (S y) lo 1 (Nat.le_refl _) with ⟨h0, hn⟩ | ⟨i, r, h0, hl, ha, hn⟩
  · rw [h0]
    have : firstFrom y x lo = none := by
      unfold firstFrom
      rw [List.find?_eq_none]
      intro i hi hc
      simp only [Bool.and_eq_true, decide_eq_true_eq] at hc
      exact hn i hc.1 ((at_iff x y i).mpr ⟨by have := List.mem_range.mp hi; omega, hc.2⟩)
    rw [this]; rfl
  · rw [h0] at hlen ⊢
    have hr : r = [] := by cases r with
      | nil => rfl
      | cons _ _ => simp at hlen
    subst hr
    obtain ⟨a1, a2⟩ := (at_iff x y i).mp ha
    have : firstFrom y x lo = some i := by
      unfold firstFrom
      rw [List.find?_range_eq_some]
      refine ⟨by simp [hl, a2], by simp; omega, fun j hj => ?_⟩
      simp only [Bool.not_eq_true', Bool.and_eq_false_iff, decide_eq_false_iff_not]
      rcases Nat.lt_or_ge j lo with q | q
      · exact .inl (by omega)
      · right
        cases z : y.isPrefixOf (x.drop j) with
        | false => rfl
        | true => exact absurd ((at_iff x y j).mpr ⟨by omega, z⟩) (hn j q hj)
    rw [this]; rfl
def inStr (y x : List Nat) : Bool := (firstFrom y x 0).isSome
def findI (o : Option Nat) : Int := match o with
  | some i => (i : Int)
  | none => -1
theorem S_find (x y : List Nat) : Txt.find (S x) (S y) = findI (firstFrom y x 0) := by
  unfold Txt.find
  rw [occ_first1]
  cases firstFrom y x 0 <;> rfl
theorem S_in (x y : List Nat) : (!(Builtin.Str.occurrences (S x) (S y) 0 (S x).length 1).isEmpty) = inStr y x := by
  rw [occ_first1]
  unfold inStr
  cases firstFrom y x 0 <;> rfl
theorem inStr_one (c : Nat) (x : List Nat) : inStr [c] x = x.contains c := by
  unfold inStr firstFrom
  rw [Bool.eq_iff_iff, List.find?_isSome]
  simp only [List.mem_range, Bool.and_eq_true, decide_eq_true_eq, Nat.zero_le, true_and, List.contains_iff_mem]
  constructor
  · rintro ⟨i, hi, hp⟩
    obtain ⟨t, ht⟩ := List.isPrefixOf_iff_prefix.mp hp
    have : c ∈ x.drop i := by rw [← ht]; simp
    exact List.mem_of_mem_drop this
  · intro h
    obtain ⟨i, hi⟩ := List.mem_iff_getElem?.mp h
    have hlt : i < x.length := by
      rcases Nat.lt_or_ge i x.length with q | q
      · exact q
      · rw [List.getElem?_eq_none q] at hi; cases hi
    refine ⟨i, by omega, List.isPrefixOf_iff_prefix.mpr ⟨x.drop (i + 1), ?_⟩⟩
    rw [List.getElem?_eq_getElem hlt, Option.some.injEq] at hi
    rw [← hi, List.singleton_append, ← List.drop_eq_getElem_cons hlt]
def keyOf : PV → Option PK
  | .int i => some (.inl i)
  | .str l => some (.inr l)
  | _ => none
def valP (kvs : List (PK × PV)) (k : PK) : Option PV := (kvs.find? fun kv => decide (kv.1 = k)).map (·.2)
theorem keyOf_rep {K : PySem.W.Frag} {T : Tab} {F : Hp} {m : List Addr} {p : PV} {x : V} {k : PK} (r : RepV K T F m p x) (e : keyOf p = some k) : x = kV (tk k) := by
  cases r <;> simp [keyOf] at e <;> subst e <;> rfl
theorem valP_rep {K : PySem.W.Frag} {T : Tab} {F : Hp} {m : List Addr} : ∀ {kps : List (PK × PV)} {kvs : List (Key × V)}, kvs.map (·.1) = kps.map (fun p => tk p.1) → RepVs K T F m (kps.map (·.2)) (kvs.map (·.2)) → ∀ k : PK,
    (∃ p v, valP kps k = some p ∧ valV kvs (tk k) = some v ∧ RepV K T F m p v) ∨ (valP kps k = none ∧ valV kvs (tk k) = none)
  | [], [], _, _, k => .inr ⟨rfl, rfl⟩
  | [], _ :: _, h, _, _ => by simp at h
  | _ :: _, [], h, _, _ => by simp at h
  | (k1, p1) :: kps, (k2, v2) :: kvs, h, r, k => by
    simp only [List.map_cons, List.cons.injEq] at h
    cases r with
    | cons r1 r2 =>
      by_cases e : k1 = k
      · subst e
        exact .inl ⟨p1, v2, by simp [valP], by rw [valV_pos (p := (k2, v2)) h.1], r1⟩
      · have e2 : ¬ k2 = tk k := fun z => e (tk_inj (h.1.symm.trans z))
        rw [valV_neg (p := (k2, v2)) e2]
        have : valP ((k1, p1) :: kps) k = valP kps k := by simp [valP, e]
        rw [this]
        exact valP_rep h.2 r2 k
def pInB (p q : PV) (h : List PO) : Option Bool := match q with
  | .str b => match p with
    | .str a => some (inStr a b)
    | _ => none
  | q => match dcR h q with
    | some kvs => match keyOf p with
      | some k => some (valP kvs k).isSome
      | none => none
    | none => match sqR h q with
      | some xs => if okD [] p = true ∧ xs.all (okD []) = true then some (xs.any fun y => PyData.eqv (toD y) (toD p)) else none
      | none => none
def pIn (p q : PV) (h : List PO) : Res PV := match pInB p q h with
  | some b => .ok (.bl b) h
  | none => .bad
def pNotIn (p q : PV) (h : List PO) : Res PV := match pInB p q h with
  | some b => .ok (.bl (!b)) h
  | none => .bad
def rInA (K : PySem.W.Frag) (neg : Bool) : R2 := fun x y H Q => ∃ b : Bool, Q (.bl (if neg then !b else b)) H ∧
  ((∃ i j, x = .str i ∧ y = .str j ∧ b = !(Builtin.Str.occurrences j i 0 j.length 1).isEmpty) ∨ (∃ a o, y = .ref a ∧ DGet H a x o ∧ b = o.isSome) ∨
   (∃ p xs d ds, y = .ref p ∧ (SqL K H p xs ∨ SqT K H p xs) ∧ RdD K H x d ∧ RdDs K H xs ds ∧ d.canLay0 = true ∧ ds.all PyData.canLay0 = true ∧ d.depth ≤ 60 ∧ b = ds.any fun e => PyData.eqv e d))
section
variable {X : Cx} {T : Tab} {Ew : VK} {a b : Expr} {fa fb : Ex} {pos : Pos}
noncomputable def eqTo (h : Heap) (d : PyData) (y : Value) : Bool := open Classical in if q : ∃ e as, Reads h y e as ∧ e.canLay0 = true then PyData.eqv q.choose d else false
theorem eqTo_of {h : Heap} {d e : PyData} {y : Value} {as : List Addr} (r : Reads h y e as) (c : e.canLay0 = true) : eqTo h d y = PyData.eqv e d := by
  have q : ∃ e as, Reads h y e as ∧ e.canLay0 = true := ⟨e, as, r, c⟩
  unfold eqTo
  rw [dif_pos q]
  obtain ⟨as', r', c'⟩ := q.choose_spec
  rw [SeqAt.Reads.unique _ _ _ _ _ c r r']
theorem any_eqTo {h : Heap} {d : PyData} : ∀ {us : List Value} {ds : List PyData} {as : List Addr}, ReadsAll h us ds as → ds.all PyData.canLay0 = true → us.any (eqTo h d) = ds.any fun e => PyData.eqv e d
  | _, _, _, .nil, _ => rfl
  | _, _, _, .cons r t, c => by
    simp only [List.all_cons, Bool.and_eq_true] at c
    rw [List.any_cons, List.any_cons, eqTo_of r c.1, any_eqTo t c.2]
theorem mem_eqTo {A : Around} {s : Shared} {d : PyData} {v : Value} {bs : List Addr} (rv : Reads s.heap v d bs) (cd : d.canLay0 = true) (hu : A.units + d.depth < cLine) :
    ∀ {us : List Value} {ds : List PyData} {as : List Addr}, ReadsAll s.heap us ds as → ds.all PyData.canLay0 = true → ∀ u ∈ us, SeqAt.EqAt A s u v (eqTo s.heap d u)
  | _, _, _, .nil, _ => fun u hu => by cases hu
  | _, _, _, .cons r t, c => fun u hu' => by
    simp only [List.all_cons, Bool.and_eq_true] at c
    rcases List.mem_cons.mp hu' with rfl | hu'
    · rw [eqTo_of r c.1]
      exact SeqAt.eqAt_reads _ _ A s _ _ _ _ r rv c.1 cd (by have := Nat.min_le_right (PyData.depth ‹PyData›) d.depth; omega)
    · exact mem_eqTo rv cd hu t c.2 u hu'
theorem op_inA (hu : X.A.units + 64 < cLine) : OpR X (compareOp .In) (rInA X.K false) := by
  intro pins s σ H x y v u Q I rx ry h
  obtain ⟨b, q, h⟩ := h
  have fin : ∀ s', Inv X pins σ H s' → EP X pins σ Q (.bool b) s' := fun s' I' => ⟨.bl b, H, I', rfl, q⟩
  rcases h with ⟨i, j, rfl, rfl, rfl⟩ | ⟨a, o, rfl, g, rfl⟩ | ⟨p, xs, d, ds, rfl, sq, rd, rds, c1, c2, dp, rfl⟩
  · obtain ⟨t, rfl⟩ := rx
    obtain ⟨t', rfl⟩ := ry
    exact in_str (fin s I)
  · cases ry
    exact d_in (by omega) I g rx fun s' I' => fin s' I'
  · cases ry
    obtain ⟨as, ra⟩ := rd.reads I rx
    rcases sq with hq | hq
    · obtain ⟨its, r, pl, hz⟩ := I.list hq
      obtain ⟨bs, rb⟩ := rds.reads I r
      refine SeqAt.in_listAt (eqTo s.heap d) pl.isList (fun w hw => mem_eqTo ra c1 (by show X.A.units + 1 + _ < _; omega) rb c2 w (by simpa using hw)) ?_
      rw [show its.toArray.any (eqTo s.heap d) = its.any (eqTo s.heap d) by simp, any_eqTo rb c2]
      exact fin s I
    · obtain ⟨its, r, pl, hz⟩ := I.tuple hq
      obtain ⟨bs, rb⟩ := rds.reads I r
      refine SeqAt.in_tupleAt (eqTo s.heap d) pl (fun w hw => mem_eqTo ra c1 (by show X.A.units + 1 + _ < _; omega) rb c2 w (by simpa using hw)) ?_
      rw [show its.toArray.any (eqTo s.heap d) = its.any (eqTo s.heap d) by simp, any_eqTo rb c2]
      exact fin s I
theorem op_notInA (hu : X.A.units + 64 < cLine) : OpR X (compareOp .NotIn) (rInA X.K true) := by
  intro pins s σ H x y v u Q I rx ry h
  obtain ⟨b, q, h⟩ := h
  have fin : ∀ s', Inv X pins σ H s' → EP X pins σ Q (.bool (!b)) s' := fun s' I' => ⟨.bl (!b), H, I', rfl, q⟩
  rcases h with ⟨i, j, rfl, rfl, rfl⟩ | ⟨a, o, rfl, g, rfl⟩ | ⟨p, xs, d, ds, rfl, sq, rd, rds, c1, c2, dp, rfl⟩
  · obtain ⟨t, rfl⟩ := rx
    obtain ⟨t', rfl⟩ := ry
    exact notIn_str (fin s I)
  · cases ry
    exact d_notIn (by omega) I g rx fun s' I' => fin s' I'
  · cases ry
    obtain ⟨as, ra⟩ := rd.reads I rx
    rcases sq with hq | hq
    · obtain ⟨its, r, pl, hz⟩ := I.list hq
      obtain ⟨bs, rb⟩ := rds.reads I r
      refine SeqAt.notIn_listAt (eqTo s.heap d) pl.isList (fun w hw => mem_eqTo ra c1 (by show X.A.units + 1 + _ < _; omega) rb c2 w (by simpa using hw)) ?_
      rw [show its.toArray.any (eqTo s.heap d) = its.any (eqTo s.heap d) by simp, any_eqTo rb c2]
      exact fin s I
    · obtain ⟨its, r, pl, hz⟩ := I.tuple hq
      obtain ⟨bs, rb⟩ := rds.reads I r
      refine SeqAt.notIn_tupleAt (eqTo s.heap d) pl (fun w hw => mem_eqTo ra c1 (by show X.A.units + 1 + _ < _; omega) rb c2 w (by simpa using hw)) ?_
      rw [show its.toArray.any (eqTo s.heap d) = its.any (eqTo s.heap d) by simp, any_eqTo rb c2]
      exact fin s I
theorem dOf_nil (p : PV) : dOf [] p = toD p := by
  unfold dOf
  split
  · simp [toD]
  · rfl
theorem canLayAll0_all : ∀ l : List PyData, PyData.canLayAll0 l = l.all PyData.canLay0
  | [] => by simp [PyData.canLayAll0]
  | x :: r => by simp [PyData.canLayAll0, canLayAll0_all r]
theorem pInB_rep {K : PySem.W.Frag} {T : Tab} {F H : Hp} {m : List Addr} {h : List PO} {p q : PV} {x y : V} {k : Bool} (R : RelH K T F m h H) (rp : RepV K T F m p x) (rq : RepV K T F m q y) (e : pInB p q h = some k) :
    (∃ i j, x = .str i ∧ y = .str j ∧ k = !(Builtin.Str.occurrences j i 0 j.length 1).isEmpty) ∨ (∃ a o, y = .ref a ∧ DGet H a x o ∧ k = o.isSome) ∨
   (∃ p xs d ds, y = .ref p ∧ (SqL K H p xs ∨ SqT K H p xs) ∧ RdD K H x d ∧ RdDs K H xs ds ∧ d.canLay0 = true ∧ ds.all PyData.canLay0 = true ∧ d.depth ≤ 60 ∧ k = ds.any fun e => PyData.eqv e d) := by
  unfold pInB at e
  split at e
  · rename_i b
    split at e
    · rename_i a
      cases rp; cases rq
      simp only [Option.some.injEq] at e; subst e
      exact .inl ⟨_, _, rfl, rfl, (S_in b a).symm⟩
    · cases e
  · split at e
    · rename_i kvs ed
      split at e
      · rename_i kk ek
        simp only [Option.some.injEq] at e; subst e
        obtain ⟨a, ws, rfl, rd, kq, rr⟩ := dcR_rep R rq ed
        have hx := keyOf_rep rp ek
        subst hx
        refine .inr (.inl ⟨a, valV ws (tk kk), rfl, .inl ⟨ws, tk kk, rd, rfl, rfl⟩, ?_⟩)
        rcases valP_rep kq rr kk with ⟨p1, v1, h1, h2, _⟩ | ⟨h1, h2⟩
        · rw [h1, h2]; rfl
        · rw [h1, h2]; rfl
      · cases e
    · split at e
      · rename_i xs es
        split at e
        · rename_i hc
          simp only [Option.some.injEq] at e; subst e
          obtain ⟨a, ws, rfl, sq, rr⟩ := sqR_rep R rq es
          have h1 : (toD p).canLay0 = true ∧ (toD p).depth ≤ 60 := by
            have := hc.1
            unfold okD at this
            simpa [dOf_nil] using this
          have h2 : PyData.canLayAll0 (toDs xs) = true := by
            rw [canLayAll0_all, toDs_map, List.all_map]
            rw [List.all_eq_true] at hc ⊢
            intro z hz
            have := hc.2 z hz
            unfold okD at this
            rw [dOf_nil, Bool.and_eq_true] at this
            exact this.1
          refine .inr (.inr ⟨a, ws, toD p, toDs xs, rfl, sq, rp.rd R.same h1.1, rr.rd R.same h2, h1.1, by rw [← canLayAll0_all]; exact h2, h1.2, ?_⟩)
          rw [toDs_map, List.any_map]; rfl
        · cases e
      · cases e
theorem prim_in {K : PySem.W.Frag} {T : Tab} : Prim2 K T (rInA K false) pIn := by
  intro F m h H x y p q Q Ew R rp rq w
  unfold pIn at w
  split at w
  · rename_i b e
    exact ⟨b, post_ok w R (.bl b), pInB_rep R rp rq e⟩
  · exact w.elim
theorem prim_notIn {K : PySem.W.Frag} {T : Tab} : Prim2 K T (rInA K true) pNotIn := by
  intro F m h H x y p q Q Ew R rp rq w
  unfold pNotIn at w
  split at w
  · rename_i b e
    exact ⟨b, post_ok w R (.bl (!b)), pInB_rep R rp rq e⟩
  · exact w.elim
end
end L3
set_option Elab.async false
set_option linter.all false
set_option maxRecDepth 100000
set_option maxHeartbeats 4000000
set_option autoImplicit false
namespace L3
open PySem PySem.Spec PyProof.Rows L2
def cut {α : Type} (xs : List α) (lo hi : Option Int) : List α := (xs.drop (HT.sIx xs.length 0 lo)).take (HT.sIx xs.length xs.length hi - HT.sIx xs.length 0 lo)
theorem strIx (lo hi : Option Int) (n : Nat) : Builtin.Str.strSliceIndices lo hi 1 n = (List.range (HT.sIx n n hi - HT.sIx n 0 lo)).map (HT.sIx n 0 lo + ·) := by
  rw [← sliceRange_one]
  unfold Builtin.Str.strSliceIndices
  have e1 : ∀ d : Nat, d ≤ n → ∀ o : Option Int, (match o with | none => (d : Int) | some i => (if (1 : Int) > 0 then max 0 (min (if i < 0 then i + (n : Int) else i) n) else max (-1) (min (if i < 0 then i + (n : Int) else i) ((n : Int) - 1)))) = ((HT.sIx n d o : Nat) : Int) := by
    intro d hd o
    cases o with
    | none => rfl
    | some i =>
      simp only [show (1 : Int) > 0 by decide, if_true, HT.sIx]
      by_cases h : i < 0
      · simp only [h, if_true]; omega
      · simp only [h, if_false]; omega
  have e2 := e1 0 (Nat.zero_le _) lo
  have e3 := e1 n (Nat.le_refl _) hi
  simp only [show (1 : Int) > 0 by decide, if_true] at e2 e3 ⊢
  rw [← e2, ← e3]
  rfl
theorem S_slice (l : List Nat) (lo hi : Option Int) : Txt.slice (S l) lo hi = S (cut l lo hi) := by
  unfold Txt.slice
  have hn : (S l).length = l.length := S_len l
  rw [hn, strIx]
  have hlo := HT.sIx_le l.length 0 (Nat.zero_le _) lo
  have hhi := HT.sIx_le l.length l.length (Nat.le_refl _) hi
  split
  · rename_i h
    have h' : HT.sIx l.length l.length hi - HT.sIx l.length 0 lo = l.length := by
      simpa using h
    have e0 : HT.sIx l.length 0 lo = 0 := by omega
    unfold cut
    rw [h', e0]
    simp
  · rw [pick_run]
    show (⟨_⟩ : Str) = ⟨_⟩
    unfold cut
    simp [S]
section
variable {K : PySem.W.Frag} {T : Tab} {F H : Hp} {m : List Addr} {h : List PO}
theorem RepVs.cut {ps : List PV} {vs : List V} (r : RepVs K T F m ps vs) (lo hi : Option Int) : RepVs K T F m (cut ps lo hi) (cutV vs lo hi) := by
  unfold L3.cut L2.cutV
  rw [← r.length]
  exact (r.drop _).take _
end
def pIx (p q : PV) (h : List PO) : Res PV := match p, q with
  | .str l, .int i => match atI l i with
    | some c => if l.length ≤ sizeLine then .ok (.str [c]) h else .bad
    | none => .bad
  | .tup xs, .int i => match atI xs i with
    | some v => .ok (derefP h v) h
    | none => .bad
  | p, q => match dcR h p with
    | some kvs => match keyOf q with
      | some k => match valP kvs k with
        | some v => .ok (derefP h v) h
        | none => .bad
      | none => .bad
    | none => match lsR h p with
      | some xs => match q with
        | .int i => match atI xs i with
          | some v => .ok (derefP h v) h
          | none => .bad
        | _ => .bad
      | none => .bad
def rIxA (K : PySem.W.Frag) : R2 := fun x y H Q => rIx K x y H Q ∨ ∃ a v, x = .ref a ∧ DGet H a y (some v) ∧ Q v H
theorem prim_ix {K : PySem.W.Frag} {T : Tab} : Prim2 K T (rIxA K) pIx := by
  intro F m h H x y p q Q Ew R rp rq w
  unfold pIx at w
  split at w
  · rename_i l i
    cases rp; cases rq
    split at w
    · rename_i c e
      split at w
      · rename_i hz
        exact .inl (.inr (.inr ⟨_, _, c, rfl, rfl, by rw [S_len]; exact hz, by rw [S_cps]; exact e, post_ok w R (.str [c])⟩))
      · exact w.elim
    · exact w.elim
  · rename_i xs i
    cases rq
    split at w
    · rename_i v e
      obtain ⟨a, vs, rfl, ea, ra⟩ := tup_rep R rp
      obtain ⟨u, eu, ru⟩ := ra.at e
      exact .inl (.inr (.inl ⟨a, vs, i, u, rfl, rfl, ea, eu, post_ok w R (R.deref ru)⟩))
    · exact w.elim
  · split at w
    · rename_i kvs ed
      split at w
      · rename_i k ek
        split at w
        · rename_i v ev
          obtain ⟨a, ws, rfl, rd, kq, rr⟩ := dcR_rep R rp ed
          have hy := keyOf_rep rq ek
          subst hy
          rcases valP_rep kq rr k with ⟨p1, v1, h1, h2, r1⟩ | ⟨h1, h2⟩
          · rw [ev] at h1; cases h1
            exact .inr ⟨a, v1, rfl, .inl ⟨ws, tk k, rd, rfl, h2.symm⟩, post_ok w R (R.deref r1)⟩
          · rw [ev] at h1; cases h1
        · exact w.elim
      · exact w.elim
    · split at w
      · rename_i xs el
        split at w
        · cases rq
          split at w
          · rename_i v e
            obtain ⟨a, vs, rfl, ea, ra⟩ := lsR_rep R rp el
            obtain ⟨u, eu, ru⟩ := ra.at e
            exact .inl (.inl ⟨a, vs, _, u, rfl, rfl, ea, eu, post_ok w R (R.deref ru)⟩)
          · exact w.elim
        · exact w.elim
      · exact w.elim
section
variable {X : Cx} {T : Tab} {Ew : VK} {a b : Expr} {fa fb : Ex} {pos : Pos}
theorem ix_dict (hu : X.A.units + 1 < cLine) : IxR X (fun x y H Q => ∃ a v, x = .ref a ∧ DGet H a y (some v) ∧ Q v H) := by
  intro value slice pins s σ H x y v u Q I rx ry q hs
  obtain ⟨a, v1, rfl, g, q⟩ := q
  cases rx
  have hT := dict_typeIs I g
  unfold subscriptTail
  refine wpAny_bind ?_
  rw [getitemInPython_of_ne hT.not_modules]
  refine wpAny_bind (wpAny_specialOf hT PySem.F.slot_dict_getitem.lookup ?_)
  have fin : wpAny (model X.prog X.w) X.A (subscripted slice false (.ref a) u) (fun r s₃ => wpAny (model X.prog X.w) X.A (letTemporaryGo value (.ref a) r >>= fun _ => pure r) (EP X pins σ Q) X.xe s₃) X.xe s := by
    rw [hs]
    exact wpAny_operating (wpAny_mono (d_getItem (E := X.xe) hu I g ry fun w' s3 I3 rw' => show EP X pins σ Q w' s3 from ⟨v1, H, I3, rw', q⟩) (fun r s₃ h₃ => wpAny_bind (wpAny_letTemporaryGo (wpAny_pure h₃))) fun _ _ x => x)
  first
    | exact wpAny_pure (wpAny_bind fin)
    | exact wpAny_bind (wpAny_pure (wpAny_bind fin))
    | exact wpAny_bind fin
theorem re_ix (hu : X.A.units + 64 < cLine) (ha : RE X T Ew a fa) (hb : RE X T Ew b fb) (hs : ∀ o i, subscripted b false o i = operate [o, i] (getItem o i) := by intro _ _; rfl) : RE X T Ew (.Subscript a b pos) (c2 pIx fa fb) := by with_unfolding_all exact (
  PE.imp (pe_ix (IxR.or ix_seq (ix_dict (by omega))) ha hb hs) fun σ H Q w => w2 prim_ix w)
abbrev Ox := Ev → List PO → Res (Option Int)
@[irreducible] def RO (X : Cx) (T : Tab) (Ew : VK) (e : Option Expr) (f : Ox) : Prop := L2.PO X e (fun σ H Q => ∃ F m ρ h, RelS X.K T F m ρ h σ H ∧ Post X.K T (fun _ _ (a b : Option Int) => a = b) F m H Q Ew (f ρ h))
def oNone : Ox := fun _ h => .ok none h
def oSome (f : Ex) : Ox := fun ρ h => (f ρ h).bind fun p h1 => match p with
  | .int i => .ok (some i) h1
  | _ => .bad
theorem ro_none : RO X T Ew none oNone := by with_unfolding_all exact (
    fun pins s σ H Q I ⟨F, m, ρ, h, R, p⟩ => po_none pins s σ H Q I (Post.here p R.toRelH rfl))
theorem ro_some {e : Expr} {f : Ex} (he : RE X T Ew e f) : RO X T Ew (some e) (oSome f) := by with_unfolding_all exact (
    fun pins s σ H Q I ⟨F, m, ρ, h, R, p⟩ => by
  refine po_some he pins s σ H Q I ⟨F, m, ρ, h, R, (Post.bind p).mono fun x H1 ⟨F1, m1, h1, a, s1, R1, ra, p1⟩ => ?_⟩
  cases ra with
  | int i => exact ⟨i, rfl, Post.here p1 R1 rfl⟩
  | _ => exact p1.elim)
def pSl (p : PV) (lo hi : Option Int) (h : List PO) : Res PV := match p with
  | .str l => if l.length ≤ sizeLine then .ok (.str (cut l lo hi)) h else .bad
  | .tup xs => if HT.sIx xs.length 0 lo = 0 ∧ HT.sIx xs.length xs.length hi = xs.length then .bad else .ok (.tup (cut xs lo hi)) h
  | p => match lsR h p with
    | some xs => .ok (.lst (cut xs lo hi)) h
    | none => .bad
def rSlA (K : PySem.W.Frag) : V → Option Int → Option Int → Hp → VK → Prop := fun x l u H Q => rSlS x l u H Q ∨ rSlT K x l u H Q ∨ rSlL K x l u H Q
theorem prim_sl {K : PySem.W.Frag} {F H : Hp} {m : List Addr} {h : List PO} {Q : VK} {p : PV} {x : V} {lo hi : Option Int} (R : RelH K T F m h H) (rp : RepV K T F m p x) (w : Post K T (RepV K T) F m H Q Ew (pSl p lo hi h)) : rSlA K x lo hi H Q := by
  unfold pSl at w
  split at w
  · cases rp
    split at w
    · rename_i hz
      exact .inl ⟨_, rfl, by rw [S_len]; exact hz, by rw [S_slice]; exact post_ok w R (.str _)⟩
    · exact w.elim
  · rename_i xs
    split at w
    · exact w.elim
    · rename_i hz
      obtain ⟨a, vs, rfl, ea, ra⟩ := tup_rep R rp
      exact .inr (.inl ⟨a, vs, rfl, ea, by rw [← ra.length]; exact hz, post_tup w R (ra.cut lo hi)⟩)
  · split at w
    · rename_i xs el
      obtain ⟨a, vs, rfl, ea, ra⟩ := lsR_rep R rp el
      exact .inr (.inr ⟨a, vs, rfl, ea, post_lst w R (ra.cut lo hi)⟩)
    · exact w.elim
def cSl (a : Ex) (lo hi : Ox) : Ex := fun ρ h => (a ρ h).bind fun p h1 => (lo ρ h1).bind fun l h2 => (hi ρ h2).bind fun u h3 => pSl p l u h3
theorem re_slice {lo hi : Option Expr} {fl fu : Ox} {p2 : Pos} (ha : RE X T Ew a fa) (hl : RO X T Ew lo fl) (hh : RO X T Ew hi fu) : RE X T Ew (.Subscript a (.Slice lo hi none p2) pos) (cSl fa fl fu) := by with_unfolding_all
  refine PE.imp (pe_slice (L2.SlR.or sl_str (L2.SlR.or sl_tup sl_list)) ha hl hh) fun σ H Q ⟨F, m, ρ, h, R, p⟩ => ?_
  refine ⟨F, m, ρ, h, R, (Post.bind p).mono fun x H1 ⟨F1, m1, h1, p1, s1, R1, r1, w1⟩ => ?_⟩
  refine ⟨F1, m1, ρ, h1, R.of s1 R1, (Post.bind w1).mono fun l H2 ⟨F2, m2, h2, l2, s2, R2, e2, w2⟩ => ?_⟩
  subst e2
  refine ⟨F2, m2, ρ, h2, (R.of s1 R1).of s2 R2, (Post.bind w2).mono fun u H3 ⟨F3, m3, h3, u3, s3, R3, e3, w3⟩ => ?_⟩
  subst e3
  exact prim_sl R3 (s3.rep (s2.rep r1)) w3
theorem re_callB {x : Str} {id : String} {r : List V → Hp → VK → Prop} {g : List PV → List PO → Res PV} {e : Expr} {es : List Expr} {f : Ax} {p : Pos} (hc : CallR X (.builtin id) r) (P : PrimN X.K T r g) (hg : Gl X x) (hm : X.mg x = none) (hv : bootBuiltins x = some (.builtin id))
    (ha : RA X T Ew (e :: es) f) (hn : x ≠ "__name__" := by decide) (hdb : (x == ("__debug__" : Str)) = false := by decide) (he : starEach (e :: es) X.env = (false, eval e X.env) :: starEach es X.env := by rfl) (hpl : (backTo pos (starEach es X.env)).any (·.1) = false := by rfl) :
    RE X T Ew (.Call (.Name x p) (e :: es) [] pos) (cN g f) := by with_unfolding_all exact (
    PE.imp (pe_callB hc hg hm hv ha hn hdb he hpl) fun σ H Q w => wN P w)
theorem re_callTy {x : Str} {id : String} {r : List V → Hp → VK → Prop} {g : List PV → List PO → Res PV} {e : Expr} {es : List Expr} {f : Ax} {p : Pos} (hc : CallR X (.type id) r) (P : PrimN X.K T r g) (hg : Gl X x) (hm : X.mg x = none) (hv : bootBuiltins x = some (.type id))
    (ha : RA X T Ew (e :: es) f) (hn : x ≠ "__name__" := by decide) (hdb : (x == ("__debug__" : Str)) = false := by decide) (he : starEach (e :: es) X.env = (false, eval e X.env) :: starEach es X.env := by rfl) (hpl : (backTo pos (starEach es X.env)).any (·.1) = false := by rfl) :
    RE X T Ew (.Call (.Name x p) (e :: es) [] pos) (cN g f) := by with_unfolding_all exact (
    PE.imp (pe_callTy hc hg hm hv ha hn hdb he hpl) fun σ H Q w => wN P w)
def lenP (h : List PO) (p : PV) : Option Nat := match p with
  | .str l => if l.length ≤ sizeLine then some l.length else none
  | p => match dcR h p with
    | some kvs => some kvs.length
    | none => match sqR h p with
      | some xs => some xs.length
      | none => none
def pLen (ps : List PV) (h : List PO) : Res PV := match ps with
  | [p] => match lenP h p with
    | some n => .ok (.int n) h
    | none => .bad
  | _ => .bad
theorem call_lenR {X : Cx} : CallR X (.builtin "len") (fun xs H Q => ∃ a kvs, xs = [V.ref a] ∧ Rd H a (.dK kvs) ∧ Q (.int kvs.length) H) := by
  intro pins s σ H xs us Q I r h
  obtain ⟨a, kvs, rfl, ha, q⟩ := h
  obtain ⟨u, rfl, ru⟩ := vals1 r
  cases ru
  exact d_len I ha fun t s' I' => ⟨.int kvs.length, H, I', ⟨t, rfl⟩, q⟩
theorem call_lenA {X : Cx} : CallR X (.builtin "len") (fun xs H Q => (∃ p ys, xs = [.ref p] ∧ (SqL X.K H p ys ∨ SqT X.K H p ys) ∧ Q (.int ys.length) H) ∨ (∃ z, xs = [.str z] ∧ z.length ≤ sizeLine ∧ Q (.int z.length) H) ∨ ∃ a kvs, xs = [V.ref a] ∧ Rd H a (.dK kvs) ∧ Q (.int kvs.length) H) :=
  CallR.or call_len_seq (CallR.or call_len_str call_lenR)
theorem RepVs.one {K : PySem.W.Frag} {F : Hp} {m : List Addr} {p : PV} {xs : List V} (r : RepVs K T F m [p] xs) : ∃ x, xs = [x] ∧ RepV K T F m p x := by
  cases r with
  | cons r t => cases t; exact ⟨_, rfl, r⟩
theorem RepVs.two {K : PySem.W.Frag} {F : Hp} {m : List Addr} {p q : PV} {xs : List V} (r : RepVs K T F m [p, q] xs) : ∃ x y, xs = [x, y] ∧ RepV K T F m p x ∧ RepV K T F m q y := by
  cases r with
  | cons r t => cases t with
    | cons r2 t2 => cases t2; exact ⟨_, _, rfl, r, r2⟩
theorem prim_len {K : PySem.W.Frag} {T : Tab} : PrimN K T (fun xs H Q => (∃ p ys, xs = [.ref p] ∧ (SqL K H p ys ∨ SqT K H p ys) ∧ Q (.int ys.length) H) ∨ (∃ z, xs = [.str z] ∧ z.length ≤ sizeLine ∧ Q (.int z.length) H) ∨ ∃ a kvs, xs = [V.ref a] ∧ Rd H a (.dK kvs) ∧ Q (.int kvs.length) H) pLen := by
  intro F m h H xs ps Q Ew R rp w
  unfold pLen at w
  split at w
  · rename_i p
    obtain ⟨x, rfl, rx⟩ := rp.one
    split at w
    · rename_i n e
      unfold lenP at e
      split at e
      · cases rx
        split at e
        · rename_i hz
          simp only [Option.some.injEq] at e; subst e
          exact .inr (.inl ⟨_, rfl, by rw [S_len]; exact hz, by rw [S_len]; exact post_ok w R (.int _)⟩)
        · cases e
      · split at e
        · rename_i kvs ed
          simp only [Option.some.injEq] at e; subst e
          obtain ⟨a, ws, rfl, rd, kq, rr⟩ := dcR_rep R rx ed
          have hl : ws.length = kvs.length := by have := congrArg List.length kq; simpa using this
          exact .inr (.inr ⟨a, ws, rfl, rd, by rw [hl]; exact post_ok w R (.int _)⟩)
        · split at e
          · rename_i ys es
            simp only [Option.some.injEq] at e; subst e
            obtain ⟨a, ws, rfl, sq, rr⟩ := sqR_rep R rx es
            exact .inl ⟨a, ws, rfl, sq, by rw [← rr.length]; exact post_ok w R (.int _)⟩
          · cases e
    · exact w.elim
  · exact w.elim
def tyName (h : List PO) : PV → Option String
  | .non => some "NoneType"
  | .bl _ => some "bool"
  | .int _ => some "int"
  | .str _ => some "str"
  | .tup _ => some "tuple"
  | p => match dcR h p with
    | some _ => some "dict"
    | none => match lsR h p with
      | some _ => some "list"
      | none => none
def subTy (t c : String) : Bool := (t == c) || (t == "bool" && c == "int")
def isTys : List String := ["str", "int", "bool", "list", "tuple", "dict"]
def pIsinst (ps : List PV) (h : List PO) : Res PV := match ps with
  | [p, .ty c] => if isTys.contains c = true then match tyName h p with
      | some t => .ok (.bl (subTy t c)) h
      | none => .bad
    else .bad
  | _ => .bad
end
end L3
set_option Elab.async false
set_option linter.all false
set_option maxRecDepth 100000
set_option maxHeartbeats 4000000
set_option autoImplicit false
namespace L3
open PySem PySem.Spec PyProof.Rows L2
inductive TyN (K : PySem.W.Frag) (H : Hp) : V → String → Prop where
  | non : TyN K H .non "NoneType"
  | bl (x : Bool) : TyN K H (.bl x) "bool"
  | int (i : Int) : TyN K H (.int i) "int"
  | str (x : Str) : TyN K H (.str x) "str"
  | lst {a : Addr} {xs : List V} (e : SqL K H a xs) : TyN K H (.ref a) "list"
  | tup {a : Addr} {xs : List V} (e : SqT K H a xs) : TyN K H (.ref a) "tuple"
  | dct {a : Addr} {kvs : List (Key × V)} (e : Rd H a (.dK kvs)) : TyN K H (.ref a) "dict"
theorem call_isinstN {X : Cx} : CallR X (.builtin "isinstance") (fun xs H Q => ∃ x c t b, xs = [x, .ty c] ∧ TyN X.K H x t ∧ PySem.W.kitOne X.K (.type t) (.type c) = some b ∧ Q (.bl b) H) := by
  intro pins s σ H xs us Q I r h
  obtain ⟨x, c, t, b, rfl, ty, e, q⟩ := h
  obtain ⟨u, w', rfl, ru, rw'⟩ := vals2 r
  cases (show w' = Value.type c from rw')
  have fin : ∀ tk, EP X pins σ Q (.bool b) { s with toks := tk } := fun tk => ⟨.bl b, H, I.tok tk, rfl, q⟩
  cases ty with
  | non => cases (show u = Value.none from ru); exact PySem.W.kia_one PySem.W.kitx_none I.kIn True.intro e (fun z => nomatch z) fin
  | bl y => cases (show u = Value.bool y from ru); exact PySem.W.kia_one PySem.W.kitx_bool I.kIn True.intro e (fun z => nomatch z) fin
  | int i => obtain ⟨t, q⟩ := (show ∃ t, u = Value.int i t from ru); cases q; exact PySem.W.kia_one PySem.W.kitx_int I.kIn True.intro e (fun z => nomatch z) fin
  | str y => obtain ⟨t, q⟩ := (show ∃ t, u = Value.str y t from ru); cases q; exact PySem.W.kia_one PySem.W.kitx_str I.kIn True.intro e (fun z => nomatch z) fin
  | lst ea =>
    cases ru
    obtain ⟨its, _, ⟨o, n, h1, h2, _, _⟩, _⟩ := I.list ea
    exact PySem.W.kia_one PySem.W.kitx_list I.kIn ⟨_, h1, h2⟩ e (fun z => nomatch z) fin
  | tup ea =>
    cases ru
    obtain ⟨its, _, ⟨o, h1, h2, _⟩, _⟩ := I.tuple ea
    exact PySem.W.kia_one PySem.W.kitx_tuple I.kIn ⟨o, h1, h2⟩ e (fun z => nomatch z) fin
  | dct ea =>
    cases ru
    obtain ⟨_, _, vs, _, p⟩ := dk_rd I.hok ea
    obtain ⟨o, es, ep, h1, h2, _⟩ := p
    exact PySem.W.kia_one PySem.W.kitx_dict I.kIn ⟨o, h1, h2.1⟩ e (fun z => nomatch z) fin
theorem tyName_rep {K : PySem.W.Frag} {T : Tab} {F H : Hp} {m : List Addr} {h : List PO} {p : PV} {x : V} {t : String} (R : RelH K T F m h H) (r : RepV K T F m p x) (e : tyName h p = some t) : TyN K H x t := by
  unfold tyName at e
  split at e
  · cases e; cases r; exact .non
  · cases e; cases r; exact .bl _
  · cases e; cases r; exact .int _
  · cases e; cases r; exact .str _
  · cases e
    obtain ⟨a, vs, rfl, ea, _⟩ := tup_rep R r
    exact .tup ea
  · split at e
    · rename_i kvs ed
      cases e
      obtain ⟨a, ws, rfl, rd, _⟩ := dcR_rep R r ed
      exact .dct rd
    · split at e
      · rename_i xs es
        cases e
        obtain ⟨a, ws, rfl, sq, _⟩ := lsR_rep R r es
        exact .lst sq
      · cases e
theorem kitOne_of (K : PySem.W.Frag) {t c : String} (ht : t ∈ ["NoneType", "bool", "int", "str", "tuple", "dict", "list"]) (hc : isTys.contains c = true) : PySem.W.kitOne K (.type t) (.type c) = some (subTy t c) := by
  have hc' : c ∈ isTys := by simpa using hc
  simp only [isTys, List.mem_cons, List.not_mem_nil, or_false] at hc' ht
  rcases ht with rfl | rfl | rfl | rfl | rfl | rfl | rfl <;> rcases hc' with rfl | rfl | rfl | rfl | rfl | rfl <;> rfl
theorem tyName_mem {h : List PO} {p : PV} {t : String} (e : tyName h p = some t) : t ∈ ["NoneType", "bool", "int", "str", "tuple", "dict", "list"] := by
  unfold tyName at e
  split at e
  · cases e; simp
  · cases e; simp
  · cases e; simp
  · cases e; simp
  · cases e; simp
  · split at e
    · cases e; simp
    · split at e
      · cases e; simp
      · cases e
section
variable {X : Cx} {T : Tab} {Ew : VK} {a b : Expr} {fa fb : Ex} {pos p0 : Pos}
theorem prim_isinst {K : PySem.W.Frag} {T : Tab} : PrimN K T (fun xs H Q => ∃ x c t b, xs = [x, .ty c] ∧ TyN K H x t ∧ PySem.W.kitOne K (.type t) (.type c) = some b ∧ Q (.bl b) H) pIsinst := by
  intro F m h H xs ps Q Ew R rp w
  unfold pIsinst at w
  split at w
  · rename_i p c
    obtain ⟨x, y, rfl, rx, ry⟩ := rp.two
    cases ry
    split at w
    · rename_i hc
      split at w
      · rename_i t e
        exact ⟨x, c, t, _, rfl, tyName_rep R rx e, kitOne_of K (tyName_mem e) hc, post_ok w R (.bl _)⟩
      · exact w.elim
    · exact w.elim
  · exact w.elim
theorem re_tyN {x : Str} {n : String} {pos : Pos} (hg : Gl X x) (hm : X.mg x = none) (hv : bootBuiltins x = some (.type n)) (hn : x ≠ "__name__" := by decide) (hd : (x == ("__debug__" : Str)) = false := by decide) : RE X T Ew (.Name x pos) (cK (.ty n)) := by with_unfolding_all exact (
  re_const (pe_bltn (v := .ty n) hg hm hv rfl hn hd) fun _ _ => .ty n)
theorem re_isinst {e : Expr} {es : List Expr} {f : Ax} (hg : Gl X "isinstance") (hm : X.mg "isinstance" = none) (ha : RA X T Ew (e :: es) f)
    (he : starEach (e :: es) X.env = (false, eval e X.env) :: starEach es X.env := by rfl) (hpl : (backTo pos (starEach es X.env)).any (·.1) = false := by rfl) :
    RE X T Ew (.Call (.Name "isinstance" p0) (e :: es) [] pos) (cN pIsinst f) := by with_unfolding_all exact (
    re_callB call_isinstN prim_isinst hg hm (by decide +kernel) ha (by decide) (by decide) he hpl)
theorem re_len {e : Expr} {es : List Expr} {f : Ax} (hg : Gl X "len") (hm : X.mg "len" = none) (ha : RA X T Ew (e :: es) f)
    (he : starEach (e :: es) X.env = (false, eval e X.env) :: starEach es X.env := by rfl) (hpl : (backTo pos (starEach es X.env)).any (·.1) = false := by rfl) :
    RE X T Ew (.Call (.Name "len" p0) (e :: es) [] pos) (cN pLen f) := by with_unfolding_all exact (
    re_callB call_lenA prim_len hg hm (by decide +kernel) ha (by decide) (by decide) he hpl)
def pAbs (ps : List PV) (h : List PO) : Res PV := match ps with
  | [.int i] => .ok (.int (if i < 0 then -i else i)) h
  | _ => .bad
theorem re_abs {e : Expr} {es : List Expr} {f : Ax} (hg : Gl X "abs") (hm : X.mg "abs" = none) (ha : RA X T Ew (e :: es) f)
    (he : starEach (e :: es) X.env = (false, eval e X.env) :: starEach es X.env := by rfl) (hpl : (backTo pos (starEach es X.env)).any (·.1) = false := by rfl) :
    RE X T Ew (.Call (.Name "abs" p0) (e :: es) [] pos) (cN pAbs f) := by with_unfolding_all exact (
    re_callB call_abs (by
  intro F m h H xs ps Q Ew R rp w
  unfold pAbs at w
  split at w
  · obtain ⟨x, rfl, rx⟩ := rp.one
    cases rx
    exact ⟨_, rfl, post_ok w R (.int _)⟩
  · exact w.elim) hg hm (by decide +kernel) ha (by decide) (by decide) he hpl)
def strI (i : Int) : List Nat := (Str.ofString (toString i)).cps.toList
def pStr (ps : List PV) (h : List PO) : Res PV := match ps with
  | [.int i] => if i.natAbs.log2 < 1920 then .ok (.str (strI i)) h else .bad
  | _ => .bad
theorem re_strI {e : Expr} {es : List Expr} {f : Ax} (hg : Gl X "str") (hm : X.mg "str" = none) (ha : RA X T Ew (e :: es) f)
    (he : starEach (e :: es) X.env = (false, eval e X.env) :: starEach es X.env := by rfl) (hpl : (backTo pos (starEach es X.env)).any (·.1) = false := by rfl) :
    RE X T Ew (.Call (.Name "str" p0) (e :: es) [] pos) (cN pStr f) := by with_unfolding_all exact (
    re_callTy call_str_int (by
  intro F m h H xs ps Q Ew R rp w
  unfold pStr at w
  split at w
  · obtain ⟨x, rfl, rx⟩ := rp.one
    cases rx
    split at w
    · rename_i hz
      have q := post_ok w R (.str _)
      rw [strI, S_of] at q
      exact ⟨_, rfl, hz, q⟩
    · exact w.elim
  · exact w.elim) hg hm (by decide +kernel) ha (by decide) (by decide) he hpl)
def pInt (ps : List PV) (h : List PO) : Res PV := match ps with
  | [.int i] => .ok (.int i) h
  | [.bl b] => .ok (.int (if b then 1 else 0)) h
  | _ => .bad
theorem re_intB {e : Expr} {es : List Expr} {f : Ax} (hg : Gl X "int") (hm : X.mg "int" = none) (ha : RA X T Ew (e :: es) f)
    (he : starEach (e :: es) X.env = (false, eval e X.env) :: starEach es X.env := by rfl) (hpl : (backTo pos (starEach es X.env)).any (·.1) = false := by rfl) :
    RE X T Ew (.Call (.Name "int" p0) (e :: es) [] pos) (cN pInt f) := by with_unfolding_all exact (
    re_callTy call_int1 (by
  intro F m h H xs ps Q Ew R rp w
  unfold pInt at w
  split at w
  · obtain ⟨x, rfl, rx⟩ := rp.one
    cases rx
    exact .inl ⟨_, rfl, post_ok w R (.int _)⟩
  · obtain ⟨x, rfl, rx⟩ := rp.one
    cases rx
    exact .inr ⟨_, rfl, post_ok w R (.int _)⟩
  · exact w.elim) hg hm (by decide +kernel) ha (by decide) (by decide) he hpl)
def pLst (ps : List PV) (h : List PO) : Res PV := if ps.length ≤ sizeLine then .ok (.lst ps) h else .bad
def pLstM (ps : List PV) (h : List PO) : Res PV := if ps.length ≤ sizeLine then .ok (.ref h.length) (h ++ [.lst ps]) else .bad
def pTup (ps : List PV) (h : List PO) : Res PV := if ps.length ≤ sizeLine then .ok (.tup ps) h else .bad
theorem re_lst {es : List Expr} {f : Ax} (ha : RA X T Ew es f) : RE X T Ew (.List es pos) (cN pLst f) := by with_unfolding_all
  refine PE.imp (pe_lst ha) fun σ H Q ⟨F, m, ρ, h, R, p⟩ => ⟨F, m, ρ, h, R, (Post.bind p).mono fun xs H1 ⟨F1, m1, h1, ps, s1, R1, r1, w1⟩ => ?_⟩
  unfold pLst at w1
  split at w1
  · rename_i hz
    exact ⟨by rw [← r1.length]; exact hz, post_lst w1 R1 r1⟩
  · exact w1.elim
theorem re_lstM {es : List Expr} {f : Ax} (ha : RA X T Ew es f) : RE X T Ew (.List es pos) (cN pLstM f) := by with_unfolding_all
  refine PE.imp (pe_lst ha) fun σ H Q ⟨F, m, ρ, h, R, p⟩ => ⟨F, m, ρ, h, R, (Post.bind p).mono fun xs H1 ⟨F1, m1, h1, ps, s1, R1, r1, w1⟩ => ?_⟩
  unfold pLstM at w1
  split at w1
  · rename_i hz
    exact ⟨by rw [← r1.length]; exact hz, post_new w1 R1 r1⟩
  · exact w1.elim
theorem re_tup {es : List Expr} {f : Ax} {x1} (ha : RA X T Ew es f) : RE X T Ew (.Tuple es x1 pos) (cN pTup f) := by with_unfolding_all
  refine PE.imp (pe_tup ha) fun σ H Q ⟨F, m, ρ, h, R, p⟩ => ⟨F, m, ρ, h, R, (Post.bind p).mono fun xs H1 ⟨F1, m1, h1, ps, s1, R1, r1, w1⟩ => ?_⟩
  unfold pTup at w1
  split at w1
  · rename_i hz
    exact ⟨by rw [← r1.length]; exact hz, post_tup w1 R1 r1⟩
  · exact w1.elim
def dcM (h : List PO) : PV → Option (List (PK × PV))
  | .ref i => match h[i]? with
    | some (.dct kvs) => some kvs
    | _ => none
  | _ => none
theorem dcM_rep {K : PySem.W.Frag} {F H : Hp} {m : List Addr} {h : List PO} {p : PV} {x : V} {kps : List (PK × PV)} (R : RelH K T F m h H) (r : RepV K T F m p x) (e : dcM h p = some kps) : ∃ a kvs, x = .ref a ∧ H a = some (.dK kvs) ∧ kvs.map (·.1) = kps.map (fun p => tk p.1) ∧ RepVs K T F m (kps.map (·.2)) (kvs.map (·.2)) := by
  cases r with
  | @ref i a em =>
    have e : (match h[i]? with | some (.dct xs) => some xs | _ => none) = some kps := e
    cases q : h[i]? with
    | none => rw [q] at e; cases e
    | some o =>
      rw [q] at e
      cases o with
      | dct xs =>
        simp only [Option.some.injEq] at e; subst e
        obtain ⟨_, vs, e1, k, rr⟩ := R.obj i _ a q em
        exact ⟨a, vs, rfl, e1, k, rr⟩
      | lst _ => cases e
      | froz _ => cases e
  | _ => simp [dcM] at e
def truP (h : List PO) : PV → Option Bool
  | .non => some false
  | .bl b => some b
  | .int i => some (i != 0)
  | .str l => if l.length ≤ sizeLine then some (!l.isEmpty) else none
  | p => match sqR h p with
    | some xs => some (!xs.isEmpty)
    | none => match dcM h p with
      | some kvs => some (!kvs.isEmpty)
      | none => none
def tTruE (f : Ex) : Tx := fun ρ h => (f ρ h).bind fun p h1 => match truP h1 p with
  | some b => .ok b h1
  | none => .bad
theorem isEmpty_len {α β : Type} {xs : List α} {ys : List β} (h : xs.length = ys.length) : xs.isEmpty = ys.isEmpty := by
  cases xs <;> cases ys <;> simp at h ⊢
theorem truP_rep {K : PySem.W.Frag} {F H : Hp} {m : List Addr} {h : List PO} {p : PV} {x : V} {k : Bool} (R : RelH K T F m h H) (r : RepV K T F m p x) (e : truP h p = some k) : TruV K x H k := by
  unfold truP at e
  split at e
  · cases e; cases r; exact rfl
  · cases e; cases r; exact rfl
  · cases e; cases r; exact rfl
  · rename_i l
    cases r
    split at e
    · rename_i hz
      cases e
      refine ⟨by rw [S_len]; exact hz, ?_⟩
      rw [S_len]
      cases l <;> simp
      omega
    · cases e
  · split at e
    · rename_i xs es
      cases e
      obtain ⟨a, vs, rfl, ea, ra⟩ := sqR_rep R r es
      rcases ea with ea | ea
      · exact .inl ⟨vs, ea, by rw [isEmpty_len ra.length]⟩
      · exact .inr (.inl ⟨vs, ea, by rw [isEmpty_len ra.length]⟩)
    · split at e
      · rename_i kvs ed
        cases e
        obtain ⟨a, ws, rfl, e1, kq, _⟩ := dcM_rep R r ed
        have hl : ws.length = kvs.length := by have := congrArg List.length kq; simpa using this
        exact .inr (.inr ⟨ws, e1, by rw [isEmpty_len hl]⟩)
      · cases e
theorem rt_tru (ha : RE X T Ew a fa) (he : ∀ whole, isTrue a X.env whole = (do let v ← whole; standAt a.pos; holding [v] (truthy v)) := by intro _; rfl) : RT X T Ew a (tTruE fa) := by with_unfolding_all
  refine PT.imp (pt_truth ha he) fun σ H Q ⟨F, m, ρ, h, R, p⟩ => ⟨F, m, ρ, h, R, (Post.bind p).mono fun x H1 ⟨F1, m1, h1, p1, s1, R1, r1, w1⟩ => ?_⟩
  cases e : truP h1 p1 with
  | none => rw [e] at w1; exact w1.elim
  | some k => rw [e] at w1; exact ⟨k, truP_rep R1 r1 e, Post.here w1 R1 rfl⟩
def tCmpE (f : Ex) : Tx := fun ρ h => (f ρ h).bind fun p h1 => match p with
  | .bl b => .ok b h1
  | _ => .bad
theorem rt_cmp {op : CmpOp} {r : R2} {g : PV → PV → List PO → Res PV} (ho : OpR X (compareOp op) r) (P : Prim2 X.K T r g) (ha : RE X T Ew a fa) (hb : RE X T Ew b fb) (hm : behindInMarks op b = false) : RT X T Ew (.Compare a [op] [b] pos) (tCmpE (c2 g fa fb)) := by with_unfolding_all
  refine PT.imp (pt_cmpR ho ha hb hm) fun σ H Q ⟨F, m, ρ, h, R, p⟩ => ?_
  have p' := (Post.bind (R := RepV X.K T) p).mono (Q' := fun x H1 => ∃ k, x = .bl k ∧ Q k H1) fun x H1 ⟨F1, m1, h1, p1, s1, R1, r1, w1⟩ => by
    cases r1 with
    | bl k => exact ⟨k, rfl, Post.here w1 R1 rfl⟩
    | _ => exact w1.elim
  exact w2 P ⟨F, m, ρ, h, R, p'⟩
def tNotE (f : Tx) : Tx := fun ρ h => (f ρ h).bind fun b h1 => .ok (!b) h1
def tOrE (f g : Tx) : Tx := fun ρ h => (f ρ h).bind fun b h1 => if b = true then .ok true h1 else g ρ h1
theorem rt_not {f : Tx} (ha : RT X T Ew a f) : RT X T Ew (.UnaryOp .Not a pos) (tNotE f) := by with_unfolding_all exact (
  PT.imp (pt_not ha) fun σ H Q ⟨F, m, ρ, h, R, p⟩ => ⟨F, m, ρ, h, R, (Post.bind p).mono fun x H1 ⟨F1, m1, h1, p1, s1, R1, r1, w1⟩ => by cases r1; exact Post.here w1 R1 rfl⟩)
@[irreducible] def RW (X : Cx) (T : Tab) (Ew : VK) (e : Expr) (f : Tx) : Prop := PW X e (wT X T Ew f)
theorem RW.rt {e : Expr} {f : Tx} (h : RW X T Ew e f) : RT X T Ew e f := by with_unfolding_all exact (
    PW.pt h)
theorem rw_or1 {f : Tx} (ha : RT X T Ew a f) : RW X T Ew (.BoolOp .Or [a] pos) f := by with_unfolding_all exact (
    pw_or1 ha)
theorem rw_or {f g : Tx} {rest : List Expr} (ha : RT X T Ew a f) (hb : RW X T Ew (.BoolOp .Or (b :: rest) pos) g) : RW X T Ew (.BoolOp .Or (a :: b :: rest) pos) (tOrE f g) := by with_unfolding_all
  refine PW.imp (pw_or ha hb) fun σ H Q ⟨F, m, ρ, h, R, p⟩ => ⟨F, m, ρ, h, R, (Post.bind p).mono fun x H1 ⟨F1, m1, h1, p1, s1, R1, r1, w1⟩ => ?_⟩
  cases r1
  cases x with
  | true => exact iteT (Post.here w1 R1 rfl)
  | false => exact iteF ⟨F1, m1, ρ, h1, R.of s1 R1, w1⟩
def cAnd (f g : Ex) : Ex := fun ρ h => (f ρ h).bind fun p h1 => match p with
  | .bl b => if b = true then g ρ h1 else .ok (.bl false) h1
  | _ => .bad
def cNot (f : Ex) : Ex := fun ρ h => (f ρ h).bind fun p h1 => match p with
  | .bl b => .ok (.bl (!b)) h1
  | _ => .bad
theorem re_one {op} (ha : RE X T Ew a fa) : RE X T Ew (.BoolOp op [a] pos) fa := by with_unfolding_all exact (
    pe_one ha)
theorem re_and {rest : List Expr} (ha : RE X T Ew a fa) (hb : RE X T Ew (.BoolOp .And (b :: rest) pos) fb) : RE X T Ew (.BoolOp .And (a :: b :: rest) pos) (cAnd fa fb) := by with_unfolding_all
  refine PE.imp (pe_and ha hb) fun σ H Q ⟨F, m, ρ, h, R, p⟩ => ⟨F, m, ρ, h, R, (Post.bind p).mono fun x H1 ⟨F1, m1, h1, p1, s1, R1, r1, w1⟩ => ?_⟩
  cases r1 with
  | bl k =>
    refine ⟨k, rfl, ?_⟩
    cases k with
    | true => exact iteT ⟨F1, m1, ρ, h1, R.of s1 R1, w1⟩
    | false => exact iteF (Post.here w1 R1 (.bl _))
  | _ => exact w1.elim
theorem re_not (ha : RE X T Ew a fa) : RE X T Ew (.UnaryOp .Not a pos) (cNot fa) := by with_unfolding_all
  refine PE.imp (pe_not ha) fun σ H Q ⟨F, m, ρ, h, R, p⟩ => ⟨F, m, ρ, h, R, (Post.bind p).mono fun x H1 ⟨F1, m1, h1, p1, s1, R1, r1, w1⟩ => ?_⟩
  cases r1 with
  | bl k => exact ⟨k, rfl, Post.here w1 R1 (.bl _)⟩
  | _ => exact w1.elim
def cIfE (t : Tx) (f g : Ex) : Ex := fun ρ h => (t ρ h).bind fun b h1 => if b = true then f ρ h1 else g ρ h1
theorem re_ifExp {c : Expr} {t : Tx} (hc : RT X T Ew c t) (ha : RE X T Ew a fa) (hb : RE X T Ew b fb) : RE X T Ew (.IfExp c a b pos) (cIfE t fa fb) := by with_unfolding_all
  refine PE.imp (pe_ifExp hc ha hb) fun σ H Q ⟨F, m, ρ, h, R, p⟩ => ⟨F, m, ρ, h, R, (Post.bind p).mono fun x H1 ⟨F1, m1, h1, p1, s1, R1, r1, w1⟩ => ?_⟩
  cases r1
  cases x with
  | true => exact iteT ⟨F1, m1, ρ, h1, R.of s1 R1, w1⟩
  | false => exact iteF ⟨F1, m1, ρ, h1, R.of s1 R1, w1⟩
end
end L3
set_option Elab.async false
set_option linter.all false
set_option maxRecDepth 100000
set_option maxHeartbeats 4000000
set_option autoImplicit false
namespace L3
open PySem PySem.Spec PyProof.Rows L2
section
variable {K : PySem.W.Frag} {T : Tab} {F H : Hp} {m : List Addr} {h : List PO}
theorem RelH.upd {i : Nat} {a : Addr} {o' : PO} {ho : HO} (R : RelH K T F m h H) (em : m[i]? = some a) (hF : F a = none) (hH : ∃ u, H a = some u) (new : ObjR K T F m (upd H a ho) a o') :
    Step F m H F m (upd H a ho) ∧ RelH K T F m (h.set i o') (upd H a ho) := by
  have hi : i < h.length := by
    rw [R.len]
    rcases Nat.lt_or_ge i m.length with q | q
    · exact q
    · rw [List.getElem?_eq_none q] at em; cases em
  have am : a ∈ m := List.mem_of_getElem? em
  refine ⟨⟨Same.refl _, ⟨[], by simp⟩, fun b u e n => (upd_ne (fun z => n (by rw [z]; exact am))).trans e, fun b u e => ?_, fun j c hj e => (by rw [List.getElem?_eq_none hj] at e; cases e), fun c u e => .inl e⟩, ?_⟩
  · by_cases hb : b = a
    · subst hb; exact ⟨_, upd_same⟩
    · exact ⟨u, by rw [upd_ne hb]; exact e⟩
  · refine ⟨fun b u e => ?_, by rw [List.length_set]; exact R.len, fun j ob c e1 e2 => ?_, R.nd⟩
    · have hb : b ≠ a := fun z => by rw [z, hF] at e; cases e
      rw [upd_ne hb]; exact R.same b u e
    · by_cases hj : i = j
      · subst hj
        rw [List.getElem?_set_self hi] at e1
        cases e1
        rw [em] at e2; cases e2
        exact new
      · rw [List.getElem?_set_ne hj] at e1
        have hc : c ≠ a := fun z => by
          subst z
          exact hj (by
            have hi' : i < m.length := by rw [← R.len]; exact hi
            have hj' : j < m.length := by
              rcases Nat.lt_or_ge j m.length with q | q
              · exact q
              · rw [List.getElem?_eq_none q] at e2; cases e2
            rw [List.getElem?_eq_getElem hi', Option.some.injEq] at em
            rw [List.getElem?_eq_getElem hj', Option.some.injEq] at e2
            exact (List.getElem_inj R.nd).mp (em.trans e2.symm))
        have q := R.obj j ob c e1 e2
        cases ob with
        | lst xs => obtain ⟨f, vs, z, rr⟩ := q; exact ⟨f, vs, by rw [upd_ne hc]; exact z, rr⟩
        | dct xs => obtain ⟨f, vs, z, k, rr⟩ := q; exact ⟨f, vs, by rw [upd_ne hc]; exact z, k, rr⟩
        | froz q' => exact q
def liveL (h : List PO) : PV → Option (Nat × List PV)
  | .ref i => match h[i]? with
    | some (.lst xs) => some (i, xs)
    | _ => none
  | _ => none
theorem liveL_rep {p : PV} {x : V} {i : Nat} {ps : List PV} (R : RelH K T F m h H) (r : RepV K T F m p x) (e : liveL h p = some (i, ps)) : ∃ a vs, x = .ref a ∧ m[i]? = some a ∧ F a = none ∧ H a = some (.lst vs) ∧ RepVs K T F m ps vs := by
  cases r with
  | @ref j a em =>
    have e : (match h[j]? with | some (.lst xs) => some (j, xs) | _ => none) = some (i, ps) := e
    cases q : h[j]? with
    | none => rw [q] at e; cases e
    | some o =>
      rw [q] at e
      cases o with
      | lst xs =>
        simp only [Option.some.injEq, Prod.mk.injEq] at e
        obtain ⟨rfl, rfl⟩ := e
        obtain ⟨f, vs, e1, rr⟩ := R.obj j _ a q em
        exact ⟨a, vs, rfl, em, f, e1, rr⟩
      | dct _ => cases e
      | froz _ => cases e
  | _ => simp [liveL] at e
theorem post_set {Q : VK} {Ew : VK} {i : Nat} {a : Addr} {ps : List PV} {vs vs0 : List V} {p : PV} {x : V} (w : Post K T (RepV K T) F m H Q Ew (.ok p (h.set i (.lst ps)))) (R : RelH K T F m h H) (em : m[i]? = some a) (hF : F a = none) (hH : H a = some (.lst vs0)) (r : RepVs K T F m ps vs)
    (rp : RepV K T F m p x) : Q x (upd H a (.lst vs)) := by
  obtain ⟨s, R'⟩ := R.upd (o' := .lst ps) (ho := .lst vs) em hF ⟨_, hH⟩ ⟨hF, vs, upd_same, r⟩
  exact w F m _ _ s R' rp
def frzV (h : List PO) : PV → Option (PV × List PO)
  | .ref i => match h[i]? with
    | some (.lst xs) => if pures xs = true then some (.lst xs, h.set i (.froz (.lst xs))) else none
    | some (.dct kvs) => if pureks kvs = true then some (.dct kvs, h.set i (.froz (.dct kvs))) else none
    | some (.froz p) => some (p, h)
    | none => none
  | p => if p.pure = true then some (p, h) else none
theorem frz_obj {i : Nat} {a : Addr} {u : HO} {p : PV} (R : RelH K T F m h H) (em : m[i]? = some a) (hF : F a = none) (hH : H a = some u) (hp : p.pure = true) (r : RepV K T (upd F a u) m p (.ref a)) :
    Step F m H (upd F a u) m H ∧ RelH K T (upd F a u) m (h.set i (.froz p)) H := by
  have hi : i < h.length := by
    rw [R.len]
    rcases Nat.lt_or_ge i m.length with q | q
    · exact q
    · rw [List.getElem?_eq_none q] at em; cases em
  have am : a ∈ m := List.mem_of_getElem? em
  have sF : Same F (upd F a u) := same_new hF u
  refine ⟨⟨sF, ⟨[], by simp⟩, fun b o e _ => e, fun b o e => ⟨o, e⟩, fun j c hj e => (by rw [List.getElem?_eq_none hj] at e; cases e), fun c o e => ?_⟩, ?_⟩
  · by_cases hc : c = a
    · subst hc; exact .inr (.inr am)
    · rw [upd_ne hc] at e; exact .inl e
  · refine ⟨fun b o e => ?_, by rw [List.length_set]; exact R.len, fun j ob c e1 e2 => ?_, R.nd⟩
    · by_cases hb : b = a
      · subst hb; rw [upd_same] at e; cases e; exact hH
      · rw [upd_ne hb] at e; exact R.same b o e
    · by_cases hj : i = j
      · subst hj
        rw [List.getElem?_set_self hi] at e1
        cases e1
        rw [em] at e2; cases e2
        exact ⟨r, hp, u, upd_same⟩
      · rw [List.getElem?_set_ne hj] at e1
        have hc : c ≠ a := fun z => by
          subst z
          exact hj (by
            have hi' : i < m.length := by rw [← R.len]; exact hi
            have hj' : j < m.length := by
              rcases Nat.lt_or_ge j m.length with q | q
              · exact q
              · rw [List.getElem?_eq_none q] at e2; cases e2
            rw [List.getElem?_eq_getElem hi', Option.some.injEq] at em
            rw [List.getElem?_eq_getElem hj', Option.some.injEq] at e2
            exact (List.getElem_inj R.nd).mp (em.trans e2.symm))
        have q := R.obj j ob c e1 e2
        cases ob with
        | lst xs => obtain ⟨f, vs, z, rr⟩ := q; exact ⟨by rw [upd_ne hc]; exact f, vs, z, rr.mono sF fun _ _ h => h⟩
        | dct xs => obtain ⟨f, vs, z, k, rr⟩ := q; exact ⟨by rw [upd_ne hc]; exact f, vs, z, k, rr.mono sF fun _ _ h => h⟩
        | froz q' => obtain ⟨r1, r2, o, r3⟩ := q; exact ⟨r1.mono sF fun _ _ h => h, r2, o, sF _ _ r3⟩
theorem frzV_rep {p q : PV} {x : V} {h' : List PO} (R : RelH K T F m h H) (r : RepV K T F m p x) (e : frzV h p = some (q, h')) : ∃ F', Step F m H F' m H ∧ RelH K T F' m h' H ∧ RepV K T F' m q x ∧ q.pure = true := by
  by_cases hr : ∃ i, p = .ref i
  · obtain ⟨i, rfl⟩ := hr
    have e : (match h[i]? with
      | some (.lst xs) => if pures xs = true then some (PV.lst xs, h.set i (.froz (.lst xs))) else none
      | some (.dct kvs) => if pureks kvs = true then some (.dct kvs, h.set i (.froz (.dct kvs))) else none
      | some (.froz p) => some (p, h)
      | none => none) = some (q, h') := e
    cases r with
    | @ref _ a em =>
      cases z : h[i]? with
      | none => rw [z] at e; cases e
      | some o =>
        rw [z] at e
        have ob := R.obj i o a z em
        cases o with
        | lst xs =>
          by_cases hp : pures xs = true
          · simp only [hp, if_true, Option.some.injEq, Prod.mk.injEq] at e
            obtain ⟨rfl, rfl⟩ := e
            obtain ⟨f, vs, e1, rr⟩ := ob
            have rl : RepV K T (L2.upd F a (.lst vs)) m (.lst xs) (.ref a) := .lst upd_same (rr.mono (same_new f _) fun _ _ h => h)
            have pp : (PV.lst xs).pure = true := by simpa [PV.pure] using hp
            obtain ⟨s, R'⟩ := frz_obj R em f e1 pp rl
            exact ⟨_, s, R', rl, pp⟩
          · simp [hp] at e
        | dct kvs =>
          by_cases hp : pureks kvs = true
          · simp only [hp, if_true, Option.some.injEq, Prod.mk.injEq] at e
            obtain ⟨rfl, rfl⟩ := e
            obtain ⟨f, vs, e1, k, rr⟩ := ob
            have rl : RepV K T (L2.upd F a (.dK vs)) m (.dct kvs) (.ref a) := .dct (.inl upd_same) k (rr.mono (same_new f _) fun _ _ h => h)
            have pp : (PV.dct kvs).pure = true := by simpa [PV.pure] using hp
            obtain ⟨s, R'⟩ := frz_obj R em f e1 pp rl
            exact ⟨_, s, R', rl, pp⟩
          · simp [hp] at e
        | froz p =>
          simp only [Option.some.injEq, Prod.mk.injEq] at e
          obtain ⟨rfl, rfl⟩ := e
          exact ⟨F, .refl, R, ob.1, ob.2.1⟩
  · have e' : (if p.pure = true then some (p, h) else none) = some (q, h') := by
      unfold frzV at e
      split at e
      · exact absurd ⟨_, rfl⟩ hr
      · exact e
    by_cases hp : p.pure = true
    · simp only [hp, if_true, Option.some.injEq, Prod.mk.injEq] at e'
      obtain ⟨rfl, rfl⟩ := e'
      exact ⟨F, .refl, R, r, hp⟩
    · simp [hp] at e'
def frzs : List PV → List PO → Option (List PV × List PO)
  | [], h => some ([], h)
  | p :: r, h => match frzV h p with
    | some (q, h1) => match frzs r h1 with
      | some (qs, h2) => some (q :: qs, h2)
      | none => none
    | none => none
end
theorem frzs_rep {K : PySem.W.Frag} {T : Tab} {m : List Addr} {H : Hp} : ∀ {ps qs : List PV} {xs : List V} {h h' : List PO} {F : Hp}, RelH K T F m h H → RepVs K T F m ps xs → frzs ps h = some (qs, h') →
    ∃ F', Step F m H F' m H ∧ RelH K T F' m h' H ∧ RepVs K T F' m qs xs ∧ pures qs = true
  | [], qs, xs, h, h', F, R, r, e => by
    simp only [frzs, Option.some.injEq, Prod.mk.injEq] at e
    obtain ⟨rfl, rfl⟩ := e
    exact ⟨F, .refl, R, r, by simp [pures]⟩
  | p :: ps, qs, xs, h, h', F, R, r, e => by
    cases r with
    | cons r1 r2 =>
      unfold frzs at e
      cases z : frzV h p with
      | none => rw [z] at e; cases e
      | some a =>
        obtain ⟨q, h1⟩ := a
        rw [z] at e
        dsimp only at e
        cases z2 : frzs ps h1 with
        | none => rw [z2] at e; cases e
        | some b =>
          obtain ⟨qs2, h2⟩ := b
          rw [z2] at e
          simp only [Option.some.injEq, Prod.mk.injEq] at e
          obtain ⟨rfl, rfl⟩ := e
          obtain ⟨F1, s1, R1, ra, p1⟩ := frzV_rep R r1 z
          obtain ⟨F2, s2, R2, rb, p2⟩ := frzs_rep R1 (s1.reps r2) z2
          exact ⟨F2, s1.trans s2, R2, .cons (s2.rep ra) rb, by simp [pures, p1, p2]⟩
def PrimM (K : PySem.W.Frag) (T : Tab) (r : V → List V → Hp → VK → Prop) (g : PV → List PV → List PO → Res PV) : Prop :=
  ∀ F m h H x xs p ps Q Ew, RelH K T F m h H → RepV K T F m p x → RepVs K T F m ps xs → Post K T (RepV K T) F m H Q Ew (g p ps h) → r x xs H Q
def cM (recv : List PO → PV → Bool) (g : PV → List PV → List PO → Res PV) (o : Ex) (as : Ax) : Ex := fun ρ h => (o ρ h).bind fun p h1 => if recv h1 p = true then (as ρ h1).bind fun ps h2 => g p ps h2 else .bad
def isStr (_ : List PO) : PV → Bool
  | .str _ => true
  | _ => false
def isLst (h : List PO) (p : PV) : Bool := (lsR h p).isSome
section
variable {X : Cx} {T : Tab} {Ew : VK} {o e : Expr} {es : List Expr} {fo : Ex} {fs : Ax} {name : Str} {apos cpos : Pos} {id : String} {r : V → List V → Hp → VK → Prop} {g : PV → List PV → List PO → Res PV}
theorem re_bm {Ty : String} {recv : List PO → PV → Bool} (ty : ∀ F m h H p x, RelH X.K T F m h H → RepV X.K T F m p x → recv h p = true → tyV X.K Ty x H) (pa : PlainAttrs Ty) (slot : Slot Ty name id) (hty : typeOf (.builtin id) = pure (.type "method_descriptor")) (hm : MtR X id r) (P : PrimM X.K T r g)
    (ho : RE X T Ew o fo) (ha : RA X T Ew (e :: es) fs)
    (hbase : attributeBase o name X.env (eval o X.env) = eval o X.env := by rfl)
    (hfew : ((backTo cpos (starEach (e :: es) X.env)).all (fun x => !x.1) && (backToKw cpos (keywordEach [] X.env)).all (fun x => x.1.isSome)
      && decide ((e :: es).length + ([] : List Keyword).length + (if ([] : List Keyword).isEmpty then 0 else 1) < 30)) = true := by rfl)
    (hline : (apos.endLine == cpos.line) = true := by rfl) (hs : starEach (e :: es) X.env = (false, eval e X.env) :: starEach es X.env := by rfl) (hplain : (backTo cpos (starEach es X.env)).any (·.1) = false := by rfl) :
    RE X T Ew (.Call (.Attribute o name apos) (e :: es) [] cpos) (cM recv g fo fs) := by with_unfolding_all
  refine PE.imp (pe_bm pa slot hty hm ho ha hbase hfew hline hs hplain) fun σ H Q ⟨F, m, ρ, h, R, p⟩ => ⟨F, m, ρ, h, R, (Post.bind p).mono fun x H1 ⟨F1, m1, h1, p1, s1, R1, r1, w1⟩ => ?_⟩
  by_cases hr : recv h1 p1 = true
  · simp only [hr, if_true] at w1
    refine ⟨ty _ _ _ _ _ _ R1 r1 hr, F1, m1, ρ, h1, R.of s1 R1, (Post.bind w1).mono fun xs H2 ⟨F2, m2, h2, p2, s2, R2, r2, w2⟩ => ?_⟩
    exact P F2 m2 h2 H2 x xs p1 p2 Q Ew R2 (s2.rep r1) r2 w2
  · simp only [hr, if_false] at w1
    exact w1.elim
theorem re_bm0 {Ty : String} {recv : List PO → PV → Bool} (ty : ∀ F m h H p x, RelH X.K T F m h H → RepV X.K T F m p x → recv h p = true → tyV X.K Ty x H) (pa : PlainAttrs Ty) (slot : Slot Ty name id) (hty : typeOf (.builtin id) = pure (.type "method_descriptor")) (hm : MtR X id r) (P : PrimM X.K T r g)
    (ho : RE X T Ew o fo)
    (hbase : attributeBase o name X.env (eval o X.env) = eval o X.env := by rfl) (hline : (apos.endLine == cpos.line) = true := by rfl) :
    RE X T Ew (.Call (.Attribute o name apos) [] [] cpos) (cM recv g fo aNil) := by with_unfolding_all
  refine PE.imp (pe_bm0 pa slot hty hm ho hbase hline) fun σ H Q ⟨F, m, ρ, h, R, p⟩ => ⟨F, m, ρ, h, R, (Post.bind p).mono fun x H1 ⟨F1, m1, h1, p1, s1, R1, r1, w1⟩ => ?_⟩
  by_cases hr : recv h1 p1 = true
  · simp only [hr, if_true] at w1
    exact ⟨ty _ _ _ _ _ _ R1 r1 hr, P F1 m1 h1 H1 x [] p1 [] Q Ew R1 r1 .nil w1⟩
  · simp only [hr, if_false] at w1
    exact w1.elim
theorem ty_str (F : Hp) (m : List Addr) (h : List PO) (H : Hp) (p : PV) (x : V) (R : RelH X.K T F m h H) (r : RepV X.K T F m p x) (e : isStr h p = true) : tyV X.K "str" x H := by
  cases r with
  | str y => rfl
  | _ => simp [isStr] at e
theorem ty_lst (F : Hp) (m : List Addr) (h : List PO) (H : Hp) (p : PV) (x : V) (R : RelH X.K T F m h H) (r : RepV X.K T F m p x) (e : isLst h p = true) : tyV X.K "list" x H := by
  unfold isLst at e
  obtain ⟨xs, ex⟩ := Option.isSome_iff_exists.mp e
  obtain ⟨a, vs, rfl, sq, _⟩ := lsR_rep R r ex
  exact .inl ⟨rfl, vs, sq⟩
def joinL (sep : List Nat) : List (List Nat) → List Nat
  | [] => []
  | [x] => x
  | x :: rest => x ++ sep ++ joinL sep rest
theorem S_join (sep : List Nat) : ∀ xs : List (List Nat), Txt.join (S sep) (xs.map S) = S (joinL sep xs) := by
  have go : ∀ xs : List (List Nat), Str.join (S sep) (xs.map S) = S (joinL sep xs) := by
    intro xs
    induction xs with
    | nil => rfl
    | cons x r ih =>
      cases r with
      | nil => rfl
      | cons y r =>
        have e : joinL sep (x :: y :: r) = x ++ sep ++ joinL sep (y :: r) := rfl
        rw [e, ← S_append, ← S_append, ← ih]
        rfl
  intro xs
  show Builtin.Str.glued _ _ = _
  rw [StrLaws.glued_eq_join]
  exact go xs
def strsOf : List PV → Option (List (List Nat))
  | [] => some []
  | .str l :: r => (strsOf r).map (l :: ·)
  | _ :: _ => none
theorem strsOf_map : ∀ {ps : List PV} {ls : List (List Nat)}, strsOf ps = some ls → ps = ls.map PV.str
  | [], ls, e => by simp [strsOf] at e; subst e; rfl
  | p :: r, ls, e => by
    cases p with
    | str l =>
      simp only [strsOf, Option.map_eq_some_iff] at e
      obtain ⟨ls', e1, rfl⟩ := e
      rw [strsOf_map e1]; rfl
    | _ => simp [strsOf] at e
theorem strsOf_of (ls : List (List Nat)) : strsOf (ls.map PV.str) = some ls := by
  induction ls with
  | nil => rfl
  | cons l r ih => simp [strsOf, ih]
theorem reps_strs {K : PySem.W.Frag} {F : Hp} {m : List Addr} : ∀ {ls : List (List Nat)} {vs : List V}, RepVs K T F m (ls.map PV.str) vs → vs = (ls.map S).map V.str
  | [], _, .nil => rfl
  | l :: r, _, .cons h t => by cases h; rw [reps_strs t]; rfl
def pJoin (p : PV) (ps : List PV) (h : List PO) : Res PV := match p, ps with
  | .str sep, [q] => match lsR h q with
    | some xs => match strsOf xs with
      | some ls => if (ls.map (·.length)).sum + ls.length * sep.length ≤ 16777216 then .ok (.str (joinL sep ls)) h else .bad
      | none => .bad
    | none => .bad
  | _, _ => .bad
theorem prim_join {K : PySem.W.Frag} : PrimM K T (rJoin K) pJoin := by
  intro F m h H x xs p ps Q Ew R rp rs w
  unfold pJoin at w
  split at w
  · rename_i sep q
    cases rp
    obtain ⟨y, rfl, ry⟩ := rs.one
    split at w
    · rename_i zs ez
      split at w
      · rename_i ls el
        split at w
        · rename_i hz
          obtain ⟨a, vs, rfl, sq, rr⟩ := lsR_rep R ry ez
          have e1 := strsOf_map el
          subst e1
          rw [reps_strs rr] at sq
          refine ⟨_, a, ls.map S, rfl, rfl, sq, ?_, by rw [S_join]; exact post_ok w R (.str _)⟩
          have e2 : (ls.map S).map (·.length) = ls.map (·.length) := by
            rw [List.map_map]; apply List.map_congr_left; intro l _; exact S_len l
          rw [e2, List.length_map, S_len]; exact hz
        · exact w.elim
      · exact w.elim
    · exact w.elim
  · exact w.elim
def pFind (p : PV) (ps : List PV) (h : List PO) : Res PV := match p, ps with
  | .str x, [.str y] => .ok (.int (findI (firstFrom y x 0))) h
  | _, _ => .bad
theorem prim_find {K : PySem.W.Frag} : PrimM K T (fun x xs H Q => ∃ z y, x = .str z ∧ xs = [.str y] ∧ Q (.int (Txt.find z y)) H) pFind := by
  intro F m h H x xs p ps Q Ew R rp rs w
  unfold pFind at w
  split at w
  · cases rp
    obtain ⟨y, rfl, ry⟩ := rs.one
    cases ry
    exact ⟨_, _, rfl, rfl, by rw [S_find]; exact post_ok w R (.int _)⟩
  · exact w.elim
def pAppend (p : PV) (ps : List PV) (h : List PO) : Res PV := match ps with
  | [q] => match liveL h p with
    | some (i, xs) => if xs.length < sizeLine then .ok .non (h.set i (.lst (xs ++ [q]))) else .bad
    | none => .bad
  | _ => .bad
theorem prim_append {K : PySem.W.Frag} : PrimM K T rAppend pAppend := by
  intro F m h H x xs p ps Q Ew R rp rs w
  unfold pAppend at w
  split at w
  · obtain ⟨y, rfl, ry⟩ := rs.one
    split at w
    · rename_i i zs el
      split at w
      · rename_i hz
        obtain ⟨a, vs, rfl, em, hF, hH, rr⟩ := liveL_rep R rp el
        exact ⟨a, vs, y, rfl, rfl, hH, by rw [← rr.length]; exact hz, post_set w R em hF hH (rr.append (.cons ry .nil)) .non⟩
      · exact w.elim
    · exact w.elim
  · exact w.elim
end
end L3
set_option Elab.async false
set_option linter.all false
set_option maxRecDepth 100000
set_option maxHeartbeats 4000000
set_option autoImplicit false
namespace L3
open PySem PySem.Spec PyProof.Rows L2
structure GivP (K : PySem.W.Frag) (T : Tab) (J : It) (xs : List PV) (F : Hp) (m : List Addr) (H : Hp) : Prop where
  go : ∀ (i : Nat) F1 m1 h1 H1, Step F m H F1 m1 H1 → RelH K T F1 m1 h1 H1 → i < xs.length → J.go i H1
  yld : ∀ (i : Nat) F1 m1 h1 H1 v H2, Step F m H F1 m1 H1 → RelH K T F1 m1 h1 H1 → i < xs.length → J.yld i H1 v H2 → ∃ F2 m2 p, Step F1 m1 H1 F2 m2 H2 ∧ RelH K T F2 m2 h1 H2 ∧ xs[i]? = some p ∧ RepV K T F2 m2 p v
  stop : ∀ F1 m1 h1 H1, Step F m H F1 m1 H1 → RelH K T F1 m1 h1 H1 → J.stop xs.length H1
theorem GivP.step {K : PySem.W.Frag} {T : Tab} {J : It} {xs : List PV} {F F1 H H1 : Hp} {m m1 : List Addr} (G : GivP K T J xs F m H) (s : Step F m H F1 m1 H1) : GivP K T J xs F1 m1 H1 :=
  ⟨fun i F2 m2 h2 H2 t => G.go i F2 m2 h2 H2 (s.trans t), fun i F2 m2 h2 H2 v H3 t => G.yld i F2 m2 h2 H2 v H3 (s.trans t), fun F2 m2 h2 H2 t => G.stop F2 m2 h2 H2 (s.trans t)⟩
@[irreducible] def RI (X : Cx) (T : Tab) (Ew : VK) (tg e : Expr) (f : Ax) : Prop := PI X tg e (fun σ H R => ∃ F m ρ h, RelS X.K T F m ρ h σ H ∧ Post X.K T (fun F m xs J => ∀ H, GivP X.K T J xs F m H) F m H R Ew (f ρ h))
section
variable {K : PySem.W.Frag} {T : Tab} {F H : Hp} {m : List Addr}
theorem giv_rng (lo : Int) (n : Nat) : GivP K T (Itr lo n) ((List.range n).map fun i => PV.int (lo + (i : Nat))) F m H := by
  refine ⟨fun i F1 m1 h1 H1 s R hi => by show i < n; simpa using hi, fun i F1 m1 h1 H1 v H2 s R hi y => ?_, fun F1 m1 h1 H1 s R => by show n ≤ _; simp⟩
  obtain ⟨rfl, rfl⟩ := y
  have hi' : i < n := by simpa using hi
  exact ⟨F1, m1, _, .refl, R, by simp [hi'], .int _⟩
theorem giv_str (l : List Nat) : GivP K T (Its (S l)) (l.map fun c => PV.str [c]) F m H := by
  refine ⟨fun i F1 m1 h1 H1 s R hi => by show i < (S l).cps.size; simpa [S] using hi, fun i F1 m1 h1 H1 v H2 s R hi y => ?_, fun F1 m1 h1 H1 s R => by show _ = (S l).cps.size; simp [S]⟩
  obtain ⟨rfl, c, hc, rfl⟩ := y
  have hc' : l[i]? = some c := by simpa [S] using hc
  exact ⟨F1, m1, _, .refl, R, by simp [hc'], .str [c]⟩
theorem giv_lst {a : Addr} {xs : List PV} {vs : List V} (e : SqL K F a vs) (r : RepVs K T F m xs vs) : GivP K T (Itl K a) xs F m H := by
  have at' : ∀ {F1 : Hp} {m1 : List Addr} {h1 : List PO} {H1 : Hp}, Step F m H F1 m1 H1 → RelH K T F1 m1 h1 H1 → SqL K H1 a vs := fun s R => R.same.seq (s.fz.seq e)
  refine ⟨fun i F1 m1 h1 H1 s R hi => ?_, fun i F1 m1 h1 H1 v H2 s R hi y => ?_, fun F1 m1 h1 H1 s R => ⟨vs, at' s R, by rw [r.length]; exact Nat.le_refl _⟩⟩
  · rw [r.length] at hi
    exact ⟨vs, vs[i], at' s R, List.getElem?_eq_getElem hi⟩
  · obtain ⟨rfl, y⟩ := y
    obtain ⟨v', h1, h2⟩ := r.get (List.getElem?_eq_getElem hi)
    have := y vs (at' s R)
    rw [h1] at this; cases this
    exact ⟨F1, m1, _, .refl, R, List.getElem?_eq_getElem hi, s.rep h2⟩
theorem giv_tup {a : Addr} {xs : List PV} {vs : List V} (e : SqT K F a vs) (r : RepVs K T F m xs vs) : GivP K T (Itt K a) xs F m H := by
  have at' : ∀ {F1 : Hp} {m1 : List Addr} {h1 : List PO} {H1 : Hp}, Step F m H F1 m1 H1 → RelH K T F1 m1 h1 H1 → SqT K H1 a vs := fun s R => R.same.seqT (s.fz.seqT e)
  refine ⟨fun i F1 m1 h1 H1 s R hi => ?_, fun i F1 m1 h1 H1 v H2 s R hi y => ?_, fun F1 m1 h1 H1 s R => ⟨vs, at' s R, by rw [r.length]; exact Nat.le_refl _⟩⟩
  · rw [r.length] at hi
    exact ⟨vs, vs[i], at' s R, List.getElem?_eq_getElem hi⟩
  · obtain ⟨rfl, y⟩ := y
    obtain ⟨v', h1, h2⟩ := r.get (List.getElem?_eq_getElem hi)
    have := y vs (at' s R)
    rw [h1] at this; cases this
    exact ⟨F1, m1, _, .refl, R, List.getElem?_eq_getElem hi, s.rep h2⟩
end
section
variable {X : Cx} {T : Tab} {Ew : VK} {tg a b : Expr} {fa fb : Ex} {pos p0 : Pos}
theorem PI.or {X : Cx} {tg e : Expr} {w1 w2 : TI} (h1 : PI X tg e w1) (h2 : PI X tg e w2) : PI X tg e (fun σ H R => w1 σ H R ∨ w2 σ H R) := fun pins s σ H R I h => h.elim (h1 pins s σ H R I) (h2 pins s σ H R I)
def aRange1 (f : Ax) : Ax := fun ρ h => (f ρ h).bind fun ps h1 => match ps with
  | [.int j] => if bel 4611686018427387904 j = true then .ok ((List.range j.toNat).map fun i => PV.int (0 + (i : Nat))) h1 else .bad
  | _ => .bad
theorem ri_range1 {f : Ax} (hg : Gl X "range") (hm : X.mg "range" = none) (ha : RA X T Ew [a] f) (hs : starEach [a] X.env = [(false, eval a X.env)] := by rfl) : RI X T Ew tg (.Call (.Name "range" p0) [a] [] pos) (aRange1 f) := by with_unfolding_all
  intro pins s σ H R I ⟨F, m, ρ, h, RR, p⟩
  refine pi_range1 hg hm ha hs pins s σ H R I ⟨F, m, ρ, h, RR, (Post.bind p).mono fun xs H1 ⟨F1, m1, h1, ps, s1, R1, r1, w1⟩ => ?_⟩
  split at w1
  · rename_i j
    obtain ⟨x, rfl, rx⟩ := r1.one
    cases rx
    split at w1
    · rename_i hz
      have hz' := bel_iff.mp hz
      exact ⟨j, rfl, by omega, by omega, Post.here w1 R1 fun H => giv_rng 0 _⟩
    · exact w1.elim
  · exact w1.elim
def seqIt (p : PV) (h : List PO) : Res (List PV) := match p with
  | .str l => .ok (l.map fun c => PV.str [c]) h
  | .tup xs => .ok xs h
  | .lst xs => .ok xs h
  | .giv xs => .ok xs h
  | p => match frzV h p with
    | some (.lst xs, h2) => .ok xs h2
    | _ => .bad
def aSeq (f : Ex) : Ax := fun ρ h => (f ρ h).bind seqIt
theorem ri_seq (ha : RE X T Ew a fa) : RI X T Ew tg a (aSeq fa) := by with_unfolding_all
  intro pins s σ H R I ⟨F, m, ρ, h, RR, p⟩
  unfold aSeq at p
  have lst : (∀ p1 h1, fa ρ h = .ok p1 h1 → (∀ l, p1 ≠ .str l) ∧ (∀ l, p1 ≠ .tup l)) → wpAny (model X.prog X.w) X.A (eval a X.env) (fun v s1 => wpAny (model X.prog X.w) X.A (pyIter v) (PIE X pins σ tg R) X.xe s1) X.xe s := fun hsh => by
    refine pi_list ha pins s σ H R I ⟨F, m, ρ, h, RR, ?_⟩
    cases q : fa ρ h with
    | bad => rw [q] at p; exact p
    | exc e h' => rw [q] at p; exact p
    | ok p1 h1 =>
      obtain ⟨n1, n2⟩ := hsh p1 h1 q
      rw [q] at p
      intro F1 m1 H1 x s1 R1 r1
      have w1 := Post.step s1 (show Post X.K T _ F m H R Ew (seqIt p1 h1) from p)
      unfold seqIt at w1
      split at w1
      · exact absurd rfl (n1 _)
      · exact absurd rfl (n2 _)
      · cases r1 with
        | lst ef rr => exact ⟨_, rfl, ⟨_, SqL.of (R1.same _ _ ef)⟩, Post.here w1 R1 fun H => giv_lst (SqL.of ef) rr⟩
      · cases r1 with
        | giv ef rr => exact ⟨_, rfl, ⟨_, R1.same.seq ef⟩, Post.here w1 R1 fun H => giv_lst ef rr⟩
      · split at w1
        · rename_i xs h2 ef
          obtain ⟨F2, s2, R2, r2, _⟩ := frzV_rep R1 r1 ef
          cases r2 with
          | lst ef rr => exact ⟨_, rfl, ⟨_, SqL.of (R2.same _ _ ef)⟩, w1 F2 m1 H1 _ s2 R2 fun H => giv_lst (SqL.of ef) rr⟩
        · exact w1.elim
  cases q : fa ρ h with
  | bad => rw [q] at p; exact p.elim
  | exc e h' => exact lst fun p1 h1 z => by rw [q] at z; cases z
  | ok p1 h1 =>
    by_cases h1' : ∃ l, p1 = .str l
    · obtain ⟨l, rfl⟩ := h1'
      refine pi_str ha pins s σ H R I ⟨F, m, ρ, h, RR, ?_⟩
      rw [q] at p ⊢
      intro F1 m1 H1 x s1 R1 r1
      have w1 := Post.step s1 (show Post X.K T _ F m H R Ew (seqIt (.str l) h1) from p)
      cases r1
      exact ⟨_, rfl, Post.here w1 R1 fun H => giv_str l⟩
    · by_cases h2' : ∃ l, p1 = .tup l
      · obtain ⟨l, rfl⟩ := h2'
        refine pi_tup ha pins s σ H R I ⟨F, m, ρ, h, RR, ?_⟩
        rw [q] at p ⊢
        intro F1 m1 H1 x s1 R1 r1
        have w1 := Post.step s1 (show Post X.K T _ F m H R Ew (seqIt (.tup l) h1) from p)
        cases r1 with
        | tup ef rr => exact ⟨_, rfl, ⟨_, R1.same.seqT ef⟩, Post.here w1 R1 fun H => giv_tup ef rr⟩
      · exact lst fun p2 h2 z => by
          rw [q] at z; cases z
          exact ⟨fun l z => h1' ⟨l, z⟩, fun l z => h2' ⟨l, z⟩⟩
def capP (caps : List Nat) (ρ : Ev) : Ev := caps.map fun i => (ρ[i]?).getD none
def compL (tt : Tx) (te : Ex) (cp : Ev) : List PV → List PO → Res (List PV)
  | [], h => .ok [] h
  | p :: r, h => (tt (some p :: cp) h).bind fun b h1 => if b = true then (te (some p :: cp) h1).bind fun v h2 => (compL tt te cp r h2).bind fun vs h3 => .ok (v :: vs) h3 else compL tt te cp r h1
def aComp (caps : List Nat) (it : Ax) (tt : Tx) (te : Ex) : Ax := fun ρ h => (it ρ h).bind fun xs h1 => if xs.length < sizeLine then compL tt te (capP caps ρ) xs h1 else .bad
@[irreducible] def RFs (X : Cx) (T : Tab) (Ew : VK) (ifs : List Expr) (f : Tx) : Prop := PFs X ifs (wT X T Ew f)
def tYesE : Tx := fun _ h => .ok true h
theorem rf_nil : RFs X T Ew [] tYesE := by with_unfolding_all exact (
    fun pins s σ H Q I ⟨F, m, ρ, h, R, p⟩ => pf_nil pins s σ H Q I (Post.here p R.toRelH rfl))
theorem rf_one {c : Expr} {f : Tx} (h : RT X T Ew c f) : RFs X T Ew [c] f := by with_unfolding_all exact (
    pf_one h)
theorem RelE.cap {K : PySem.W.Frag} {F : Hp} {m : List Addr} {ρ : Ev} {σ : St} (r : RelE K T F m ρ σ) (caps : List Nat) {p : PV} {v : V} (rp : RepV K T F m p v) : RelE K T F m (some p :: capP caps ρ) (some v :: capS caps σ) := by
  refine ⟨by simp [capP, capS], fun i q e => ?_⟩
  cases i with
  | zero => simp at e; subst e; exact ⟨v, rfl, rp⟩
  | succ j =>
    simp only [List.getElem?_cons_succ, capP, capS, List.getElem?_map] at e ⊢
    cases z : caps[j]? with
    | none => rw [z] at e; simp at e
    | some k =>
      rw [z] at e
      simp only [Option.map_some, Option.some.injEq] at e ⊢
      have e' : ρ[k]? = some (some q) := by
        cases y : ρ[k]? with
        | none => rw [y] at e; cases e
        | some o => rw [y] at e; simpa using e
      obtain ⟨u, h1, h2⟩ := r.2 k q e'
      exact ⟨u, by rw [h1]; rfl, h2⟩
theorem comp_run {caps : List Nat} {it : Ax} {tt : Tx} {te : Ex} {σ : St} {H : Hp} {Q : VK} {g : List PV → List PO → Res PV} (hg : ∀ F m h H ps vs, RelH X.K T F m h H → RepVs X.K T F m ps vs → Post X.K T (RepV X.K T) F m H Q Ew (g ps h) → ∀ D, H D = none → Q (.ref D) (upd H D (.lst vs)))
    (w : wE X T Ew (cN g (aComp caps it tt te)) σ H Q) : tComp caps (fun σ H R => ∃ F m ρ h, RelS X.K T F m ρ h σ H ∧ Post X.K T (fun F m xs J => ∀ H, GivP X.K T J xs F m H) F m H R Ew (it ρ h)) (wT X T Ew tt) (wE X T Ew te) σ H Q := by
  obtain ⟨F, m, ρ, h, R, p⟩ := w
  have p0 : Post X.K T (RepV X.K T) F m H Q Ew ((it ρ h).bind fun xs h1 => (if xs.length < sizeLine then compL tt te (capP caps ρ) xs h1 else .bad).bind g) := by
    have : (aComp caps it tt te ρ h).bind g = (it ρ h).bind fun xs h1 => (if xs.length < sizeLine then compL tt te (capP caps ρ) xs h1 else .bad).bind g := by
      unfold aComp
      cases it ρ h <;> rfl
    rw [← this]; exact p
  refine ⟨F, m, ρ, h, R, (Post.bind p0).mono fun J H1 ⟨F1, m1, h1, xs, s1, R1, G, w1⟩ => ?_⟩
  by_cases hz : xs.length < sizeLine
  · rw [if_pos hz] at w1
    refine ⟨fun i n acc H2 => n = xs.length - i ∧ i ≤ xs.length ∧ acc.length ≤ i ∧ ∃ F2 m2 h2 as, Step F1 m1 H1 F2 m2 H2 ∧ RelH X.K T F2 m2 h2 H2 ∧ RepVs X.K T F2 m2 as acc ∧
      Post X.K T (RepV X.K T) F2 m2 H2 Q Ew (((compL tt te (capP caps ρ) (xs.drop i) h2).bind fun vs h3 => g (as ++ vs) h3)), ⟨_, rfl, Nat.zero_le _, Nat.le_refl _, F1, m1, h1, [], .refl, R1, .nil, by simpa using w1⟩, ?_⟩
    rintro i n acc H2 ⟨rfl, hi, hac, F2, m2, h2, as, s2, R2, ra, w2⟩
    rcases Nat.lt_or_ge i xs.length with hlt | hge
    · right
      refine ⟨(G H1).go i F2 m2 h2 H2 s2 R2 hlt, by omega, fun v H3 y => ?_⟩
      obtain ⟨F3, m3, p, s3, R3, ep, rp⟩ := (G H1).yld i F2 m2 h2 H2 v H3 s2 R2 hlt y
      have ed : xs.drop i = p :: xs.drop (i + 1) := by
        rw [List.drop_eq_getElem_cons hlt]
        rw [List.getElem?_eq_getElem hlt, Option.some.injEq] at ep
        rw [ep]
      rw [ed] at w2
      have w3 := Post.step s3 w2
      have eE : RelE X.K T F3 m3 (some p :: capP caps ρ) (some v :: capS caps σ) := (s3.env (s2.env (s1.env R.env))).cap caps rp
      have e0 : ((compL tt te (capP caps ρ) (p :: xs.drop (i + 1)) h2).bind fun vs h3 => g (as ++ vs) h3) = (tt (some p :: capP caps ρ) h2).bind fun b h1 =>
          if b = true then (te (some p :: capP caps ρ) h1).bind fun v h2 => (compL tt te (capP caps ρ) (xs.drop (i + 1)) h2).bind fun vs h3 => g (as ++ v :: vs) h3 else (compL tt te (capP caps ρ) (xs.drop (i + 1)) h1).bind fun vs h3 => g (as ++ vs) h3 := by
        rw [compL]
        cases tt (some p :: capP caps ρ) h2 with
        | bad => rfl
        | exc e h => rfl
        | ok b h1 =>
          cases b with
          | false => rfl
          | true =>
            simp only [Res.bind_ok, if_true]
            cases te (some p :: capP caps ρ) h1 with
            | bad => rfl
            | exc e h => rfl
            | ok v h4 =>
              simp only [Res.bind_ok]
              cases compL tt te (capP caps ρ) (xs.drop (i + 1)) h4 <;> rfl
      rw [e0] at w3
      refine ⟨F3, m3, _, h2, ⟨R3, eE⟩, (Post.bind w3).mono fun b H4 ⟨F4, m4, h4, b', s4, R4, eb, w4⟩ => ?_⟩
      cases eb
      have s24 : Step F1 m1 H1 F4 m4 H4 := (s2.trans s3).trans s4
      cases b with
      | false =>
        refine iteF ⟨xs.length - (i + 1), by omega, rfl, by omega, by omega, F4, m4, h4, as, s24, R4, s4.reps (s3.reps ra), ?_⟩
        simpa using w4
      | true =>
        simp only [if_true] at w4
        refine iteT ⟨F4, m4, _, h4, ⟨R4, s4.env eE⟩, (Post.bind w4).mono fun y H5 ⟨F5, m5, h5, q, s5, R5, rq, w5⟩ => ?_⟩
        refine ⟨xs.length - (i + 1), by omega, rfl, by omega, by rw [List.length_append]; simp; omega, F5, m5, h5, as ++ [q], s24.trans s5, R5, (s5.reps (s4.reps (s3.reps ra))).append (.cons rq .nil), ?_⟩
        have : (fun vs h3 => g (as ++ [q] ++ vs) h3) = fun vs h3 => g (as ++ q :: vs) h3 := by funext vs h3; simp
        rw [this]; exact w5
    · left
      have e : i = xs.length := by omega
      subst e
      refine ⟨(G H1).stop F2 m2 h2 H2 s2 R2, fun D hD => ?_⟩
      rw [List.drop_length] at w2
      have w3 : Post X.K T (RepV X.K T) F2 m2 H2 Q Ew (g as h2) := by simpa [compL] using w2
      exact hg F2 m2 h2 H2 as acc R2 ra w3 D hD
  · rw [if_neg hz] at w1
    exact w1.elim
def okL (ps : List PV) (h : List PO) : Res PV := .ok (.lst ps) h
theorem re_comp {elt iter : Expr} {x : Str} {px : Pos} {ifs : List Expr} {scope : Scope} {it : Ax} {tt : Tx} {te : Ex} {M : List Str} (caps : List Nat) (hcalm : X.calm = true) (S : CompOk X.N X.env.scope scope caps x M)
    (hi : RI X T Ew (.Name x px) iter it) (ht : ∀ cl C ex s H, RFs (cxComp X M scope cl C ex s H) T Ew ifs tt) (he : ∀ cl C ex s H, RE (cxComp X M scope cl C ex s H) T Ew elt te)
    (hs : ∀ y, foldedSetIterable iter X.env y = pure y := by intro _; rfl) : RE X T Ew (.ListComp elt [⟨.Name x px, iter, ifs, 0⟩] scope pos) (cN okL (aComp caps it tt te)) := by with_unfolding_all exact (
  PE.imp (pe_comp (tt := wT X T Ew tt) (te := wE X T Ew te) caps hcalm S hi ht he hs) fun σ H Q w => comp_run (fun F m h H ps vs R r w D hD => post_lst w R r D hD) w)
end
end L3
set_option Elab.async false
set_option linter.all false
set_option maxRecDepth 100000
set_option maxHeartbeats 4000000
set_option autoImplicit false
namespace L3
open PySem PySem.Spec PyProof.Rows L2
inductive SR where
  | nx (ρ : Ev) (h : List PO) | rt (v : PV) (h : List PO) | bk (ρ : Ev) (h : List PO) | ct (ρ : Ev) (h : List PO) | exc (e : PV) (h : List PO) | bad
abbrev Sx := Ev → List PO → SR
def PostS (K : PySem.W.Frag) (T : Tab) (F : Hp) (m : List Addr) (H : Hp) (D : Ends) (Ew : VK) : SR → Prop
  | .nx ρ h => ∀ F' m' H' σ', Step F m H F' m' H' → RelS K T F' m' ρ h σ' H' → D.nx σ' H'
  | .bk ρ h => ∀ F' m' H' σ', Step F m H F' m' H' → RelS K T F' m' ρ h σ' H' → D.bk σ' H'
  | .ct ρ h => ∀ F' m' H' σ', Step F m H F' m' H' → RelS K T F' m' ρ h σ' H' → D.ct σ' H'
  | .rt v h => ∀ F' m' H' x, Step F m H F' m' H' → RelH K T F' m' h H' → RepV K T F' m' v x → D.rt x H'
  | .exc v h => ∀ F' m' H' x, Step F m H F' m' H' → RelH K T F' m' h H' → RepV K T F' m' v x → Ew x H'
  | .bad => False
theorem PostS.step {K : PySem.W.Frag} {T : Tab} {F F1 H H1 : Hp} {m m1 : List Addr} {D : Ends} {Ew : VK} {r : SR} (s : Step F m H F1 m1 H1) (p : PostS K T F m H D Ew r) : PostS K T F1 m1 H1 D Ew r := by
  cases r with
  | nx ρ h => exact fun F' m' H' x t => p F' m' H' x (s.trans t)
  | bk ρ h => exact fun F' m' H' x t => p F' m' H' x (s.trans t)
  | ct ρ h => exact fun F' m' H' x t => p F' m' H' x (s.trans t)
  | rt v h => exact fun F' m' H' x t => p F' m' H' x (s.trans t)
  | exc v h => exact fun F' m' H' x t => p F' m' H' x (s.trans t)
  | bad => exact p
section
variable (X : Cx) (T : Tab) (Ew : VK)
def wS (f : Sx) : TS := fun D σ H => ∃ F m ρ h, RelS X.K T F m ρ h σ H ∧ PostS X.K T F m H D Ew (f ρ h)
@[irreducible] def RS (st : Stmt) (f : Sx) : Prop := PS X st (wS X T Ew f)
@[irreducible] def RSs (st : List Stmt) (f : Sx) : Prop := PSs X st (wS X T Ew f)
end
def sNil : Sx := fun ρ h => .nx ρ h
def sSeq (f g : Sx) : Sx := fun ρ h => match f ρ h with
  | .nx ρ1 h1 => g ρ1 h1
  | .rt v h1 => .rt v h1
  | .bk ρ1 h1 => .bk ρ1 h1
  | .ct ρ1 h1 => .ct ρ1 h1
  | .exc v h1 => .exc v h1
  | .bad => .bad
def eThen (f : Res PV) (k : PV → List PO → SR) : SR := match f with
  | .ok v h => k v h
  | .exc e h => .exc e h
  | .bad => .bad
def bThen (f : Res Bool) (k : Bool → List PO → SR) : SR := match f with
  | .ok v h => k v h
  | .exc e h => .exc e h
  | .bad => .bad
def lThen (f : Res (List PV)) (k : List PV → List PO → SR) : SR := match f with
  | .ok v h => k v h
  | .exc e h => .exc e h
  | .bad => .bad
@[simp] theorem eThen_ok (v : PV) (h : List PO) (k : PV → List PO → SR) : eThen (.ok v h) k = k v h := rfl
@[simp] theorem bThen_ok (v : Bool) (h : List PO) (k : Bool → List PO → SR) : bThen (.ok v h) k = k v h := rfl
@[simp] theorem lThen_ok (v : List PV) (h : List PO) (k : List PV → List PO → SR) : lThen (.ok v h) k = k v h := rfl
@[simp] theorem eThen_bad (k : PV → List PO → SR) : eThen .bad k = .bad := rfl
@[simp] theorem bThen_bad (k : Bool → List PO → SR) : bThen .bad k = .bad := rfl
@[simp] theorem lThen_bad (k : List PV → List PO → SR) : lThen .bad k = .bad := rfl
def sRet (f : Ex) : Sx := fun ρ h => eThen (f ρ h) fun v h1 => .rt v h1
def sDrop (f : Ex) : Sx := fun ρ h => eThen (f ρ h) fun _ h1 => .nx ρ h1
def sIf (t : Tx) (f g : Sx) : Sx := fun ρ h => bThen (t ρ h) fun b h1 => if b = true then f ρ h1 else g ρ h1
def sSet (i : Nat) (f : Ex) : Sx := fun ρ h => eThen (f ρ h) fun v h1 => .nx (ρ.set i (some v)) h1
def sNever : Sx := fun _ _ => .bad
section
variable {X : Cx} {T : Tab} {Ew : VK} {a b c : Expr} {fa fb : Ex} {pos : Pos} {st : Stmt} {rest : List Stmt} {f g : Sx}
theorem post_e {K : PySem.W.Frag} {F H : Hp} {m : List Addr} {D : Ends} {r : Res PV} {k : PV → List PO → SR} (p : PostS K T F m H D Ew (eThen r k)) : Post K T (RepV K T) F m H (fun x H1 => ∃ F1 m1 h1 a, Step F m H F1 m1 H1 ∧ RelH K T F1 m1 h1 H1 ∧ RepV K T F1 m1 a x ∧ PostS K T F1 m1 H1 D Ew (k a h1)) Ew r := by
  cases r with
  | ok a h => exact fun F' m' H' x s r q => ⟨F', m', h, a, s, r, q, PostS.step s p⟩
  | exc e h => exact p
  | bad => exact p
theorem post_b {K : PySem.W.Frag} {F H : Hp} {m : List Addr} {D : Ends} {r : Res Bool} {k : Bool → List PO → SR} (p : PostS K T F m H D Ew (bThen r k)) : Post K T RB F m H (fun x H1 => ∃ F1 m1 h1, Step F m H F1 m1 H1 ∧ RelH K T F1 m1 h1 H1 ∧ PostS K T F1 m1 H1 D Ew (k x h1)) Ew r := by
  cases r with
  | ok a h => exact fun F' m' H' x s r q => by cases q; exact ⟨F', m', h, s, r, PostS.step s p⟩
  | exc e h => exact p
  | bad => exact p
theorem post_l {K : PySem.W.Frag} {F H : Hp} {m : List Addr} {D : Ends} {β : Type} {RR : Hp → List Addr → List PV → β → Prop} {r : Res (List PV)} {k : List PV → List PO → SR} (p : PostS K T F m H D Ew (lThen r k)) : Post K T RR F m H (fun x H1 => ∃ F1 m1 h1 a, Step F m H F1 m1 H1 ∧ RelH K T F1 m1 h1 H1 ∧ RR F1 m1 a x ∧ PostS K T F1 m1 H1 D Ew (k a h1)) Ew r := by
  cases r with
  | ok a h => exact fun F' m' H' x s r q => ⟨F', m', h, a, s, r, q, PostS.step s p⟩
  | exc e h => exact p
  | bad => exact p
theorem rss_nil : RSs X T Ew [] sNil := by with_unfolding_all exact (
    PSs.imp pss_nil fun D σ H ⟨F, m, ρ, h, R, p⟩ => p F m H σ .refl R)
theorem rss_one (h : RS X T Ew st f) : RSs X T Ew [st] f := by with_unfolding_all exact (
    pss_one h)
theorem rss_cons (h1 : RS X T Ew st f) (h2 : RSs X T Ew rest g) : RSs X T Ew (st :: rest) (sSeq f g) := by with_unfolding_all
  refine PSs.imp (pss_cons h1 h2) fun D σ H ⟨F, m, ρ, h, R, p⟩ => ⟨F, m, ρ, h, R, ?_⟩
  unfold sSeq at p
  cases q : f ρ h with
  | nx ρ1 h1 => rw [q] at p; exact fun F' m' H' σ' s R' => ⟨F', m', ρ1, h1, R', PostS.step s p⟩
  | rt v h1 => rw [q] at p; exact p
  | bk v h1 => rw [q] at p; exact p
  | ct v h1 => rw [q] at p; exact p
  | exc v h1 => rw [q] at p; exact p
  | bad => rw [q] at p; exact p
theorem rs_never : RS X T Ew st sNever := by with_unfolding_all exact (
    PS.imp ps_never fun D σ H ⟨F, m, ρ, h, R, p⟩ => p.elim)
theorem rs_ret (ha : RE X T Ew a fa) : RS X T Ew (.Return (some a) pos) (sRet fa) := by with_unfolding_all exact (
  PS.imp (ps_ret ha) fun D σ H ⟨F, m, ρ, h, R, p⟩ => ⟨F, m, ρ, h, R, (post_e p).mono fun x H1 ⟨F1, m1, h1, v, s1, R1, r1, w1⟩ => w1 F1 m1 H1 x .refl R1 r1⟩)
theorem rs_expr (ha : RE X T Ew a fa) (hs : swapsWith a none pos.line X.env = pure false := by rfl) : RS X T Ew (.Expr a pos) (sDrop fa) := by with_unfolding_all exact (
  PS.imp (ps_expr ha hs) fun D σ H ⟨F, m, ρ, h, R, p⟩ => ⟨F, m, ρ, h, R, (post_e p).mono fun x H1 ⟨F1, m1, h1, v, s1, R1, r1, w1⟩ => w1 F1 m1 H1 σ .refl (R.of s1 R1)⟩)
theorem rs_if {t : Tx} {sa sb : List Stmt} (hc : RT X T Ew c t) (ha : RSs X T Ew sa f) (hb : RSs X T Ew sb g) : RS X T Ew (.If c sa sb pos) (sIf t f g) := by with_unfolding_all
  refine PS.imp (ps_if hc ha hb) fun D σ H ⟨F, m, ρ, h, R, p⟩ => ⟨F, m, ρ, h, R, (post_b p).mono fun x H1 ⟨F1, m1, h1, s1, R1, w1⟩ => ?_⟩
  cases x with
  | true => exact iteT ⟨F1, m1, ρ, h1, R.of s1 R1, w1⟩
  | false => exact iteF ⟨F1, m1, ρ, h1, R.of s1 R1, w1⟩
theorem RelE.set {K : PySem.W.Frag} {F : Hp} {m : List Addr} {ρ : Ev} {σ : St} (r : RelE K T F m ρ σ) (i : Nat) {p : PV} {v : V} (rp : RepV K T F m p v) : RelE K T F m (ρ.set i (some p)) (σ.set i (some v)) := by
  refine ⟨by simp [r.1], fun j q e => ?_⟩
  by_cases hj : i = j
  · subst hj
    have hi : i < ρ.length := by
      rcases Nat.lt_or_ge i ρ.length with z | z
      · exact z
      · rw [List.getElem?_eq_none (by simpa using z)] at e; cases e
    rw [List.getElem?_set_self hi] at e
    cases e
    exact ⟨v, List.getElem?_set_self (by rw [← r.1]; exact hi), rp⟩
  · rw [List.getElem?_set_ne hj] at e ⊢
    exact r.2 j q e
theorem rs_set {i : Nat} {x : Str} {pos' : Pos} (hN : X.N.Nodup) (hi : X.N[i]? = some x) (hx : Loc X.env.scope x) (ha : RE X T Ew a fa) (hs : swapsWith a (some (.Name x pos')) pos.line X.env = pure false := by rfl) (hf : X.fn x = true ∨ X.env.scope.names.lookup x = some .local := by first | exact .inl rfl | exact .inr rfl | assumption) :
    RS X T Ew (.Assign [.Name x pos'] a pos) (sSet i fa) := by with_unfolding_all exact (
  PS.imp (ps_set hN hi hx ha hs hf) fun D σ H ⟨F, m, ρ, h, R, p⟩ => ⟨F, m, ρ, h, R, (post_e p).mono fun v H1 ⟨F1, m1, h1, q, s1, R1, r1, w1⟩ => w1 F1 m1 H1 _ .refl ⟨R1, (s1.env R.env).set i r1⟩⟩)
abbrev Gx := PV → Ev → Option Ev
@[irreducible] def RG (X : Cx) (T : Tab) (tg : Expr) (g : Gx) : Prop := PG X tg (fun v σ H Q => ∃ F m ρ h p ρ', RelS X.K T F m ρ h σ H ∧ RepV X.K T F m p v ∧ g p ρ = some ρ' ∧ ∀ σ', RelE X.K T F m ρ' σ' → Q σ' H)
def gNm (i : Nat) : Gx := fun p ρ => some (ρ.set i (some p))
theorem rg_name {i : Nat} {x : Str} {pos : Pos} (hN : X.N.Nodup) (hi : X.N[i]? = some x) (hx : Loc X.env.scope x) (hf : X.fn x = true ∨ X.env.scope.names.lookup x = some .local := by first | exact .inl rfl | exact .inr rfl | assumption) : RG X T (.Name x pos) (gNm i) := by with_unfolding_all
  intro pins s σ H v u Q I r ⟨F, m, ρ, h, p, ρ', R, rp, e, q⟩
  cases e
  exact pg_name hN hi hx hf pins s σ H v u Q I r (q _ (R.env.set i rp))
def loopS (g : Gx) (body : Sx) : List PV → Sx
  | [], ρ, h => .nx ρ h
  | p :: r, ρ, h => match g p ρ with
    | some ρ1 => match body ρ1 h with
      | .nx ρ2 h2 => loopS g body r ρ2 h2
      | .ct ρ2 h2 => loopS g body r ρ2 h2
      | .bk ρ2 h2 => .nx ρ2 h2
      | .rt v h2 => .rt v h2
      | .exc v h2 => .exc v h2
      | .bad => .bad
    | none => .bad
def sFor (it : Ax) (g : Gx) (body : Sx) : Sx := fun ρ h => lThen (it ρ h) fun xs h1 => loopS g body xs ρ h1
theorem rs_for {tg iter : Expr} {it : Ax} {g : Gx} {body : List Stmt} (hp : PassesOwn (model X.prog X.w) X.A X.env X.xe) (hc : X.calm = true) (hi : RI X T Ew tg iter it) (hg : RG X T tg g) (hb : RSs X T Ew body f)
    (hs : ∀ x, foldedSetIterable iter X.env x = pure x := by intro _; rfl) : RS X T Ew (.For tg iter body [] pos) (sFor it g f) := by with_unfolding_all
  refine PS.imp (ps_for hp hc hi hg hb hs) fun D σ H ⟨F, m, ρ, h, R, p⟩ => ⟨F, m, ρ, h, R, (post_l p).mono fun J H1 ⟨F1, m1, h1, xs, s1, R1, G, w1⟩ => ?_⟩
  refine ⟨fun i n σ2 H2 => n = xs.length - i ∧ i ≤ xs.length ∧ ∃ F2 m2 ρ2 h2, Step F1 m1 H1 F2 m2 H2 ∧ RelS X.K T F2 m2 ρ2 h2 σ2 H2 ∧ PostS X.K T F2 m2 H2 D Ew (loopS g f (xs.drop i) ρ2 h2), ⟨_, rfl, Nat.zero_le _, F1, m1, ρ, h1, .refl, R.of s1 R1, w1⟩, ?_⟩
  rintro i n σ2 H2 ⟨rfl, hi', F2, m2, ρ2, h2, s2, R2, w2⟩
  rcases Nat.lt_or_ge i xs.length with hlt | hge
  · right
    refine ⟨(G H1).go i F2 m2 h2 H2 s2 R2.toRelH hlt, fun σ' H' => ∃ m', m' < xs.length - i ∧ m' = xs.length - (i + 1) ∧ i + 1 ≤ xs.length ∧ ∃ F2 m2 ρ2 h2, Step F1 m1 H1 F2 m2 H' ∧ RelS X.K T F2 m2 ρ2 h2 σ' H' ∧ PostS X.K T F2 m2 H' D Ew (loopS g f (xs.drop (i + 1)) ρ2 h2), fun σ' H' q => q, fun v H3 y => ?_⟩
    obtain ⟨F3, m3, p, s3, R3, ep, rp⟩ := (G H1).yld i F2 m2 h2 H2 v H3 s2 R2.toRelH hlt y
    have ed : xs.drop i = p :: xs.drop (i + 1) := by
      rw [List.drop_eq_getElem_cons hlt]
      rw [List.getElem?_eq_getElem hlt, Option.some.injEq] at ep
      rw [ep]
    rw [ed] at w2
    have w3 := PostS.step s3 w2
    unfold loopS at w3
    cases q : g p ρ2 with
    | none => rw [q] at w3; exact w3.elim
    | some ρ3 =>
      rw [q] at w3
      dsimp only at w3
      refine ⟨F3, m3, ρ2, h2, p, ρ3, ⟨R3, s3.env R2.env⟩, rp, q, fun σ3 r3 => ⟨F3, m3, ρ3, h2, ⟨R3, r3⟩, ?_⟩⟩
      cases z : f ρ3 h2 with
      | nx ρ4 h4 => rw [z] at w3; exact fun F' m' H' σ' s' R' => ⟨xs.length - (i + 1), by omega, rfl, by omega, F', m', ρ4, h4, (s2.trans s3).trans s', R', PostS.step s' w3⟩
      | ct ρ4 h4 => rw [z] at w3; exact fun F' m' H' σ' s' R' => ⟨xs.length - (i + 1), by omega, rfl, by omega, F', m', ρ4, h4, (s2.trans s3).trans s', R', PostS.step s' w3⟩
      | bk ρ4 h4 => rw [z] at w3; exact w3
      | rt v4 h4 => rw [z] at w3; exact w3
      | exc v4 h4 => rw [z] at w3; exact w3
      | bad => rw [z] at w3; exact w3
  · left
    have e : i = xs.length := by omega
    subst e
    rw [List.drop_length] at w2
    exact ⟨(G H1).stop F2 m2 h2 H2 s2 R2.toRelH, w2 F2 m2 H2 σ2 .refl R2⟩
end
end L3
set_option Elab.async false
set_option linter.all false
set_option maxRecDepth 100000
set_option maxHeartbeats 4000000
set_option autoImplicit false
namespace L3
open PySem PySem.Spec PyProof.Rows L2
inductive Out where
  | ok (v : PV) | bad
def finO (v : PV) (h : List PO) : Out := match frzV h v with
  | some (q, _) => .ok q
  | none => .bad
def runF (f : Sx) (np n : Nat) (ps : List PV) : Out := if ps.length = np then match f (ps.map some ++ List.replicate (n - ps.length) none) [] with
    | .nx _ _ => .ok .non
    | .rt v h => finO v h
    | _ => .bad
  else .bad
def spP (K : PySem.W.Frag) (T : Tab) (np : Nat) (fn : List PV → Out) : Sp := fun vs H Q _ => ∃ F ps v, ps.length = np ∧ Same F H ∧ RepVs K T F [] ps vs ∧ fn ps = .ok v ∧
  ∀ F' H' x, Same F F' → Same H H' → Same F' H' → (∀ a o, F' a = some o → F a = some o ∨ H a = none) → RepV K T F' [] v x → Q x H'
theorem spP_len {K : PySem.W.Frag} {T : Tab} {np : Nat} {fn : List PV → Out} {vs : List V} {H : Hp} {Q : VK} {E : XK} (h : spP K T np fn vs H Q E) : vs.length = np := by
  obtain ⟨F, ps, v, e, _, r, _⟩ := h
  rw [← r.length]; exact e
section
variable {P : Program} {w : World} {K : PySem.W.Frag} {mg : Str → Option Value} {base : Heap} {T : Tab}
theorem rel_start {N : List Str} {F : Hp} {ps : List PV} {vs : List V} (r : RepVs K T F [] ps vs) : RelE K T F [] (ps.map some ++ List.replicate (N.length - ps.length) none) (start N vs) := by
  unfold L2.start
  have hl := r.length
  refine ⟨by simp [hl], fun i p e => ?_⟩
  rcases Nat.lt_or_ge i ps.length with hi | hi
  · rw [List.getElem?_append_left (by simpa using hi), List.getElem?_map] at e
    cases q : ps[i]? with
    | none => rw [q] at e; cases e
    | some p' =>
      rw [q] at e
      cases e
      obtain ⟨v, h1, h2⟩ := r.get q
      exact ⟨v, by rw [List.getElem?_append_left (by simp; omega), List.getElem?_map, h1]; rfl, h2⟩
  · rw [List.getElem?_append_right (by simpa using hi)] at e
    rw [List.getElem?_replicate] at e
    split at e <;> cases e
theorem fn_pure {x qual : Str} {st : Stmt} {f : Addr} {fd : FuncData} {N ps : List Str} {k : Nat} {g : Sx} (Fn : Fun K x qual st f fd) (Sc : FnScope N ps (defScope st))
    (hb : ∀ (cdv : Value) (A : Around) (outer : List Env) (s : Shared) (H : Hp) (E : XK), Room k (A.deeper (envOfC qual (defScope st) s.heap.objs.size f cdv)) →
      RSs (cxOf CX0 P w K mg base N qual (defScope st) f cdv A outer s H E).nox T (fun _ _ => False) (defBody st) g) :
    FnOk P w K mg base CX0 (k + 1) f fd ps (spP K T ps.length (runF g ps.length N.length)) := by with_unfolding_all
  refine Fn.ok Sc (fun vs H Q E h => spP_len h) fun cdv A outer s H vs Q E hr h => ⟨_, hb cdv A outer s H E hr, ?_⟩
  obtain ⟨F, qs, v, hl, sm, r, e, q⟩ := h
  have R0 : RelS K T F [] (qs.map some ++ List.replicate (N.length - qs.length) none) [] (start N vs) H := ⟨⟨sm, rfl, fun i o a h1 h2 => by simp at h1, List.nodup_nil⟩, rel_start r⟩
  refine ⟨F, [], _, [], R0, ?_⟩
  unfold runF at e
  rw [if_pos hl] at e
  have sameH : ∀ {F' m' H'}, Step F [] H F' m' H' → Same H H' := fun s b o hb => s.fr b o hb (by simp)
  have fin : ∀ {F' m' H' h' p x}, Step F [] H F' m' H' → RelH K T F' m' h' H' → RepV K T F' m' p x → finO p h' = .ok v → Q x H' := by
    intro F' m' H' h' p x s R rp ef
    unfold finO at ef
    cases z : frzV h' p with
    | none => rw [z] at ef; cases ef
    | some ab =>
      obtain ⟨p2, h2⟩ := ab
      rw [z] at ef
      cases ef
      obtain ⟨F2, s2, R2, r2, hp⟩ := frzV_rep R rp z
      refine q F2 H' x (s.fz.trans s2.fz) (sameH s) R2.same (fun a o ea => ?_) (r2.unref hp)
      rcases (s.trans s2).fnew a o ea with z | z | z
      · exact .inl z
      · exact .inr z
      · simp at z
  cases z : g (qs.map some ++ List.replicate (N.length - qs.length) none) [] with
  | nx ρ h1 =>
    rw [z] at e
    cases e
    exact fun F' m' H' σ' s R => q F' H' .non s.fz (sameH s) R.same (fun a o ea => by
      rcases s.fnew a o ea with z | z | z
      · exact .inl z
      · exact .inr z
      · simp at z) .non
  | rt p h1 =>
    rw [z] at e
    exact fun F' m' H' x s R rp => fin s R rp e
  | bk _ _ => rw [z] at e; cases e
  | ct _ _ => rw [z] at e; cases e
  | exc _ _ => rw [z] at e; cases e
  | bad => rw [z] at e; cases e
end
def callO (fn : List PV → Out) (ps : List PV) (h : List PO) : Res PV := match frzs ps h with
  | some (qs, h2) => match fn qs with
    | .ok v => .ok v h2
    | .bad => .bad
  | none => .bad
def cCall (fn : List PV → Out) (as : Ax) : Ex := fun ρ h => (as ρ h).bind (callO fn)
section
variable {X : Cx} {T : Tab} {Ew : VK} {a b e : Expr} {es : List Expr} {fa fb : Ex} {fs : Ax} {pos p0 : Pos} {k : Nat} {f : Addr} {fd : FuncData} {ps : List Str} {fn : List PV → Out} {x : Str}
theorem call_post {F H : Hp} {m : List Addr} {h : List PO} {Q : VK} {K : PySem.W.Frag} {np : Nat} {qs : List PV} {vs : List V} {E : XK} (hfn : ∀ qs v, fn qs = .ok v → qs.length = np) (R : RelH K T F m h H) (r : RepVs K T F m qs vs) (w : Post K T (RepV K T) F m H Q Ew (callO fn qs h)) : spP K T np fn vs H Q E := by
  unfold callO at w
  cases z : frzs qs h with
  | none => rw [z] at w; exact w.elim
  | some ab =>
    obtain ⟨q2, h2⟩ := ab
    rw [z] at w
    dsimp only at w
    obtain ⟨F2, s2, R2, r2, hp⟩ := frzs_rep R r z
    cases y : fn q2 with
    | bad => rw [y] at w; exact w.elim
    | ok v =>
      rw [y] at w
      refine ⟨F2, q2, v, hfn _ _ y, R2.same, r2.unref hp, y, fun F' H' x a1 a2 a3 a4 rx => ?_⟩
      have s3 : Step F2 m H F' m H' := ⟨a1, ⟨[], by simp⟩, fun b o hb _ => a2 b o hb, fun b o hb => ⟨o, a2 b o hb⟩, fun i a hi e => (by rw [List.getElem?_eq_none hi] at e; cases e), fun a o ea => (a4 a o ea).elim .inl (fun z => .inr (.inl z))⟩
      refine w F' m H' x (s2.trans s3) ⟨a3, R2.len, fun i o a e1 e2 => ?_, R2.nd⟩ (rx.mono (Same.refl _) fun i a e => by simp at e)
      have q := R2.obj i o a e1 e2
      have live : F2 a = none → (∃ u, H a = some u) → F' a = none := fun n ⟨u, hu⟩ => by
        cases z : F' a with
        | none => rfl
        | some o =>
          rcases a4 a o z with y | y
          · rw [n] at y; cases y
          · rw [hu] at y; cases y
      cases o with
      | lst xs => obtain ⟨f0, ws, z, rr⟩ := q; exact ⟨live f0 ⟨_, z⟩, ws, a2 _ _ z, s3.reps rr⟩
      | dct xs => obtain ⟨f0, ws, z, kk, rr⟩ := q; exact ⟨live f0 ⟨_, z⟩, ws, a2 _ _ z, kk, s3.reps rr⟩
      | froz p' => obtain ⟨r1, r3, o, r4⟩ := q; exact ⟨s3.rep r1, r3, o, a1 _ _ r4⟩
theorem re_call (F : FnOk X.prog X.w X.K X.mg X.base CX0 k f fd ps (spP X.K T ps.length fn)) (hfn : ∀ qs v, fn qs = .ok v → qs.length = ps.length) (hr : Room k X.A) (hg : Gl X x) (hm : X.mg x = some (.ref f)) (hk : PySem.W.keepIn X.K (.ref f) = true) (hb : Binds X.K fd ps [])
    (ha : RA X T Ew (e :: es) fs) (hdb : (x == ("__debug__" : Str)) = false := by decide) (he : starEach (e :: es) X.env = (false, eval e X.env) :: starEach es X.env := by rfl) (hpl : (backTo pos (starEach es X.env)).any (·.1) = false := by rfl) :
    RE X T Ew (.Call (.Name x p0) (e :: es) [] pos) (cCall fn fs) := by with_unfolding_all
  refine PE.imp (pe_call F hr hg hm hk hb .nil pass0 ha hdb he hpl) fun σ H Q ⟨F, m, ρ, h, R, p⟩ => ⟨F, m, ρ, h, R, (Post.bind p).mono fun vs H1 ⟨F1, m1, h1, qs, s1, R1, r1, w1⟩ => ?_⟩
  rw [List.append_nil]
  exact call_post hfn R1 r1 w1
theorem re_call0 (F : FnOk X.prog X.w X.K X.mg X.base CX0 k f fd ps (spP X.K T ps.length fn)) (hfn : ∀ qs v, fn qs = .ok v → qs.length = ps.length) (hr : Room k X.A) (hg : Gl X x) (hm : X.mg x = some (.ref f)) (hk : PySem.W.keepIn X.K (.ref f) = true) (hb : Binds X.K fd ps [])
    (hdb : (x == ("__debug__" : Str)) = false := by decide) : RE X T Ew (.Call (.Name x p0) [] [] pos) (cCall fn aNil) := by with_unfolding_all
  refine PE.imp (pe_call0 F hr hg hm hk hb .nil pass0 hdb) fun σ H Q ⟨F, m, ρ, h, R, p⟩ => ?_
  exact call_post (qs := []) (vs := []) (E := E0) hfn R.toRelH .nil p
theorem runF_len {f : Sx} {np n : Nat} : ∀ qs v, runF f np n qs = .ok v → qs.length = np := fun qs v h => by
  unfold runF at h
  split at h
  · assumption
  · cases h
structure MethOk (X : Cx) (T : Tab) (k : Nat) (m : Str) (C : Addr) (np : Nat) (fn : List PV → Out) : Prop where
  c : Cls X.K C
  ex : ∃ (f : Addr) (fd : FuncData) (ps : List Str), ps.length = np ∧ Meth X.K C m f ∧ FnOk X.prog X.w X.K X.mg X.base CX0 k f fd ps (spP X.K T np fn) ∧ Binds X.K fd ps []
  len : ∀ qs v, fn qs = .ok v → qs.length = np
theorem pe_methD {k : Nat} {m : Str} {o : Expr} {ta : TE} {t : TA} {apos : Pos} {pl : Sem Bool} (he : PE X o ta) (hr : Room k X.A) (ha : PA X (e :: es) t)
    (hst : starEach (e :: es) X.env = (false, eval e X.env) :: starEach es X.env := by rfl) (hpl : (backTo pos (starEach es X.env)).any (·.1) = false := by rfl)
    (ht : eval (.Call (.Attribute o m apos) (e :: es) [] pos) X.env = (do
      let ov ← eval o X.env
      standAt apos.atName
      let (f, first) ← holding [ov] (getMethod ov m pl)
      callWith pos f first (backTo pos (starEach (e :: es) X.env)) (backToKw pos (keywordEach [] X.env))) := by rfl) :
    PE X (.Call (.Attribute o m apos) (e :: es) [] pos) (fun σ H Q => ta σ H fun x H1 => ∃ a C dx fs np fn, x = .ref a ∧ H1 a = some (.ins C dx fs) ∧ fs.lookup m = none ∧ MethOk X T k m C np fn ∧ t σ H1 fun vs H2 => spP X.K T np fn (x :: vs) H2 Q E0) := by
  intro pins s σ H Q I h
  refine PySem.W.methodCall_KW (pl := pl) (thn (he pins s σ H _ I h) fun u s1 ⟨x, H1, I1, rx, a, C, dx, fs, np, fn, ex, ea, l, M, q⟩ => ?_) ht
  subst ex
  obtain rfl : u = Value.ref a := rx
  obtain ⟨f, fd, ps, hl, hm, F, hb⟩ := M.ex
  refine getmeth_ok I1 ea M.c hm l ?_
  refine PySem.W.callWith_K (first := [.ref a]) (h₀ := X.base) I.ok.mod.kin hm.kp (thn (ha pos pins s1 σ H1 _ I1 q) fun us s2 ⟨vs, H2, I2, r, q2⟩ => ⟨I2.kIn, ?_⟩) hst hpl
  exact run_fn (us := .ref a :: us) (vs := .ref a :: vs) (dvs := []) F hr hb .nil pass0 I2 (.cons rfl r) (by rw [List.append_nil]; exact q2)
theorem pe_methD0 {k : Nat} {m : Str} {o : Expr} {ta : TE} {apos : Pos} {pl : Sem Bool} (he : PE X o ta) (hr : Room k X.A)
    (ht : eval (.Call (.Attribute o m apos) [] [] pos) X.env = (do
      let ov ← eval o X.env
      standAt apos.atName
      let (f, first) ← holding [ov] (getMethod ov m pl)
      callWith pos f first (backTo pos (starEach [] X.env)) (backToKw pos (keywordEach [] X.env))) := by rfl) :
    PE X (.Call (.Attribute o m apos) [] [] pos) (fun σ H Q => ta σ H fun x H1 => ∃ a C dx fs np fn, x = .ref a ∧ H1 a = some (.ins C dx fs) ∧ fs.lookup m = none ∧ MethOk X T k m C np fn ∧ spP X.K T np fn [x] H1 Q E0) := by
  intro pins s σ H Q I h
  refine PySem.W.methodCall_KW (pl := pl) (thn (he pins s σ H _ I h) fun u s1 ⟨x, H1, I1, rx, a, C, dx, fs, np, fn, ex, ea, l, M, q⟩ => ?_) ht
  subst ex
  obtain rfl : u = Value.ref a := rx
  obtain ⟨f, fd, ps, hl, hm, F, hb⟩ := M.ex
  refine getmeth_ok I1 ea M.c hm l ?_
  exact PySem.W.callWith_K0 (first := [.ref a]) I1.kIn hm.kp (run_fn (us := [.ref a]) (vs := [.ref a]) (dvs := []) F hr hb .nil pass0 I1 (.cons rfl .nil) q)
def cMeth (res : Nat → Option (List PV → Out)) (o : Ex) (as : Ax) : Ex := fun ρ h => (o ρ h).bind fun p h1 => match p with
  | .ins C [] => match res C with
    | some fn => (as ρ h1).bind fun ps h2 => callO fn (.ins C [] :: ps) h2
    | none => .bad
  | _ => .bad
theorem re_meth {res : Nat → Option (List PV → Out)} {m : Str} {o : Expr} {fo : Ex} {apos : Pos} {pl : Sem Bool} (hres : ∀ C fn, res C = some fn → ∀ a, T C = some a → ∃ np, MethOk X T k m a np fn) (ho : RE X T Ew o fo) (hr : Room k X.A) (ha : RA X T Ew (e :: es) fs)
    (hst : starEach (e :: es) X.env = (false, eval e X.env) :: starEach es X.env := by rfl) (hpl : (backTo pos (starEach es X.env)).any (·.1) = false := by rfl)
    (ht : eval (.Call (.Attribute o m apos) (e :: es) [] pos) X.env = (do
      let ov ← eval o X.env
      standAt apos.atName
      let (f, first) ← holding [ov] (getMethod ov m pl)
      callWith pos f first (backTo pos (starEach (e :: es) X.env)) (backToKw pos (keywordEach [] X.env))) := by rfl) :
    RE X T Ew (.Call (.Attribute o m apos) (e :: es) [] pos) (cMeth res fo fs) := by with_unfolding_all
  refine PE.imp (pe_methD (T := T) ho hr ha hst hpl ht) fun σ H Q ⟨F, m', ρ, h, R, p⟩ => ⟨F, m', ρ, h, R, (Post.bind p).mono fun x H1 ⟨F1, m1, h1, p1, s1, R1, r1, w1⟩ => ?_⟩
  cases r1 with
  | @ins C fs a Ca dx fvs c ef d kk rr =>
    cases fs with
    | cons _ _ => exact w1.elim
    | nil =>
      have hf : fvs = [] := by cases fvs with
        | nil => rfl
        | cons _ _ => simp at kk
      subst hf
      dsimp only at w1
      cases z : res C with
      | none => rw [z] at w1; exact w1.elim
      | some fn =>
        rw [z] at w1
        obtain ⟨np, M⟩ := hres C fn z Ca c
        refine ⟨a, Ca, dx, [], np, fn, rfl, R1.same _ _ ef, rfl, M, F1, m1, ρ, h1, R.of s1 R1, (Post.bind w1).mono fun vs H2 ⟨F2, m2, h2, qs, s2, R2, r2, w2⟩ => ?_⟩
        exact call_post M.len R2 (.cons (s2.rep (.ins c ef d kk rr)) r2) w2
  | _ => exact w1.elim
theorem re_meth0 {res : Nat → Option (List PV → Out)} {m : Str} {o : Expr} {fo : Ex} {apos : Pos} {pl : Sem Bool} (hres : ∀ C fn, res C = some fn → ∀ a, T C = some a → ∃ np, MethOk X T k m a np fn) (ho : RE X T Ew o fo) (hr : Room k X.A)
    (ht : eval (.Call (.Attribute o m apos) [] [] pos) X.env = (do
      let ov ← eval o X.env
      standAt apos.atName
      let (f, first) ← holding [ov] (getMethod ov m pl)
      callWith pos f first (backTo pos (starEach [] X.env)) (backToKw pos (keywordEach [] X.env))) := by rfl) :
    RE X T Ew (.Call (.Attribute o m apos) [] [] pos) (cMeth res fo aNil) := by with_unfolding_all
  refine PE.imp (pe_methD0 (T := T) ho hr ht) fun σ H Q ⟨F, m', ρ, h, R, p⟩ => ⟨F, m', ρ, h, R, (Post.bind p).mono fun x H1 ⟨F1, m1, h1, p1, s1, R1, r1, w1⟩ => ?_⟩
  cases r1 with
  | @ins C fs a Ca dx fvs c ef d kk rr =>
    cases fs with
    | cons _ _ => exact w1.elim
    | nil =>
      have hf : fvs = [] := by cases fvs with
        | nil => rfl
        | cons _ _ => simp at kk
      subst hf
      dsimp only at w1
      cases z : res C with
      | none => rw [z] at w1; exact w1.elim
      | some fn =>
        rw [z] at w1
        obtain ⟨np, M⟩ := hres C fn z Ca c
        refine ⟨a, Ca, dx, [], np, fn, rfl, R1.same _ _ ef, rfl, M, ?_⟩
        exact call_post M.len R1 (.cons (.ins c ef d kk rr) .nil) w1
  | _ => exact w1.elim
theorem run_make0 {pins : List (Addr × Obj)} {σ : St} {H : Hp} {s : Shared} {Q : VK} {C : Addr} (hm : PySem.W.makesIn X.K C = true) (hi : PySem.W.findIn X.K (.ref C) "__init__" = some (some (.builtin "object.__init__"))) (I : Inv X pins σ H s)
    (h : ∀ x dx, H x = none → H dx = none → dx ≠ x → Q (.ref x) (upd (upd H dx (.own x)) x (.ins C dx []))) : wpAny (model X.prog X.w) X.A (call (.ref C) []) (EP X pins σ Q) X.xe s := by
  have hq := h (s.heap.objs.size + 1) s.heap.objs.size (I.hok.fresh (Nat.le_succ _)) (I.hok.fresh (Nat.le_refl _)) (Nat.ne_of_lt (Nat.lt_succ_self _))
  have I2 := Inv.made (C := C) I
  have e2 : ((s.heap.push PySem.W.emptyDict).push (PySem.W.instObj C s.heap.objs.size)).get? (s.heap.objs.size + 1) = some (PySem.W.instObj C s.heap.objs.size) := by
    have := Heap.get?_push_size (s.heap.push PySem.W.emptyDict) (o := PySem.W.instObj C s.heap.objs.size) rfl
    rwa [Heap.size_push] at this
  have Y := PySem.W.makes_of (M := model X.prog X.w) I.kIn hm
  have t1 : PySem.W.Looks (model X.prog X.w) ((s.heap.push PySem.W.emptyDict).push (PySem.W.instObj C s.heap.objs.size)) (typeOf (.ref (s.heap.objs.size + 1))) (.ref C) := (PySem.W.Looks.ld e2).andThen .now
  have t2 : PySem.W.Looks (model X.prog X.w) ((s.heap.push PySem.W.emptyDict).push (PySem.W.instObj C s.heap.objs.size)) (isInstance (.ref (s.heap.objs.size + 1)) (.type "object")) true := t1.andThen (Y.top.keeps fun b o e => Heap.get?_push_of_some _ (Heap.get?_push_of_some _ e))
  refine wpAny_call (make_map0 I.kIn hm hi (fun self => PySem.W.Looks.of_pure (PySem.W.oi_bind self)) ?_)
  refine codeAny_call_builtin PySem.W.oi_plain PySem.W.entry_oi (@PySem.W.check_slot (model X.prog X.w) _ _ _ "object.__init__" "object" "__init__" (.ref (s.heap.objs.size + 1)) [] [] _ PySem.W.oi_kind PySem.W.oi_split t2 (PySem.W.oi_args (.ref (s.heap.objs.size + 1))) ?_)
  rw [PySem.W.oi_run]
  exact wpAny_pure (And.intro rfl ⟨.ref (s.heap.objs.size + 1), _, I2, rfl, hq⟩)
def cMake (C : Nat) : Ex := fun _ h => .ok (.ins C []) h
theorem re_make0 {Cn : Nat} {C : Addr} (hT : T Cn = some C) (hm : PySem.W.makesIn X.K C = true) (hi : PySem.W.findIn X.K (.ref C) "__init__" = some (some (.builtin "object.__init__"))) (hk : PySem.W.keepIn X.K (.ref C) = true) (hg : Gl X x) (hx : X.mg x = some (.ref C))
    (hdb : (x == ("__debug__" : Str)) = false := by decide) : RE X T Ew (.Call (.Name x p0) [] [] pos) (cMake Cn) := by with_unfolding_all
  intro pins s σ H Q I ⟨F, m, ρ, h, R, p⟩
  refine wpAny_Call_Name_kw (ld_glob I hg hx ?_ hdb)
  refine PySem.W.callWith_K0 I.kIn hk (run_make0 hm hi I fun x dx nx ndx ne => ?_)
  obtain ⟨s1, R1⟩ := Step.lay (o := .own x) R.toRelH ndx
  obtain ⟨s2, R2⟩ := Step.lay (p := x) (o := .ins C dx []) R1 (by rw [upd_ne (fun z => ne z.symm)]; exact nx)
  exact p _ m _ _ (s1.trans s2) R2 (.ins hT upd_same (by rw [upd_ne ne, upd_same]) rfl .nil)
theorem re_globS {u : Value} {l : List Nat} (hg : Gl X x) (hm : X.mg x = some u) (r : RelV (.str (S l)) u) (hd : (x == ("__debug__" : Str)) = false := by decide) : RE X T Ew (.Name x pos) (cK (.str l)) := by with_unfolding_all exact (
    re_const (pe_glob hg hm r hd) fun _ _ => .str l)
theorem re_globI {u : Value} {i : Int} (hg : Gl X x) (hm : X.mg x = some u) (r : RelV (.int i) u) (hd : (x == ("__debug__" : Str)) = false := by decide) : RE X T Ew (.Name x pos) (cK (.int i)) := by with_unfolding_all exact (
    re_const (pe_glob hg hm r hd) fun _ _ => .int i)
end
end L3
set_option Elab.async false
set_option linter.all false
set_option maxRecDepth 100000
set_option maxHeartbeats 4000000
set_option autoImplicit false
namespace L3
open PySem PySem.Spec PyProof.Rows L2
def putP (kvs : List (PK × PV)) (k : PK) (v : PV) : List (PK × PV) :=
  if (kvs.any fun kv => decide (kv.1 = k)) = true then kvs.map (fun kv => if kv.1 = k then (kv.1, v) else kv) else kvs ++ [(k, v)]
section
variable {K : PySem.W.Frag} {T : Tab} {F H : Hp} {m : List Addr}
def RepK (K : PySem.W.Frag) (T : Tab) (F : Hp) (m : List Addr) (kps : List (PK × PV)) (kvs : List (Key × V)) : Prop := kvs.map (·.1) = kps.map (fun p => tk p.1) ∧ RepVs K T F m (kps.map (·.2)) (kvs.map (·.2))
theorem RepK.nil : RepK K T F m [] [] := ⟨rfl, .nil⟩
theorem RepK.any (k : PK) : ∀ {kps : List (PK × PV)} {kvs : List (Key × V)}, kvs.map (·.1) = kps.map (fun p => tk p.1) → (kvs.any fun kv => decide (kv.1 = tk k)) = kps.any fun kv => decide (kv.1 = k)
  | [], [], _ => rfl
  | [], _ :: _, h => by simp at h
  | _ :: _, [], h => by simp at h
  | (k1, p1) :: kps, (k2, v2) :: kvs, h => by
    simp only [List.map_cons, List.cons.injEq] at h
    rw [List.any_cons, List.any_cons, RepK.any k h.2]
    congr 1
    rw [h.1]
    by_cases e : k1 = k
    · subst e; simp
    · have : ¬ tk k1 = tk k := fun z => e (tk_inj z)
      simp [e, this]
theorem RepK.repl {k : PK} {p : PV} {v : V} (r : RepV K T F m p v) : ∀ {kps : List (PK × PV)} {kvs : List (Key × V)}, RepK K T F m kps kvs → RepK K T F m (kps.map fun kv => if kv.1 = k then (kv.1, p) else kv) (kvs.map fun kv => if kv.1 = tk k then (kv.1, v) else kv)
  | [], [], _ => .nil
  | [], _ :: _, h => by have := h.1; simp at this
  | _ :: _, [], h => by have := h.1; simp at this
  | (k1, p1) :: kps, (k2, v2) :: kvs, ⟨h1, h2⟩ => by
    simp only [List.map_cons, List.cons.injEq] at h1 h2
    cases h2 with
    | cons a b =>
      obtain ⟨i1, i2⟩ := RepK.repl (k := k) r (kps := kps) (kvs := kvs) ⟨h1.2, b⟩
      simp only [List.map_cons]
      by_cases e : k1 = k
      · subst e
        rw [if_pos h1.1, if_pos rfl]
        exact ⟨by simp only [List.map_cons, h1.1, i1], .cons r i2⟩
      · have e2 : ¬ k2 = tk k := fun z => e (tk_inj (h1.1.symm.trans z))
        rw [if_neg e2, if_neg e]
        exact ⟨by simp only [List.map_cons, h1.1, i1], .cons a i2⟩
theorem RepK.put {k : PK} {p : PV} {v : V} {kps : List (PK × PV)} {kvs : List (Key × V)} (h : RepK K T F m kps kvs) (r : RepV K T F m p v) : RepK K T F m (putP kps k p) (putK kvs (tk k) v) := by
  unfold putP putK
  rw [RepK.any k h.1]
  split
  · exact h.repl r
  · exact ⟨by rw [List.map_append, List.map_append, h.1]; rfl, by rw [List.map_append, List.map_append]; exact h.2.append (.cons r .nil)⟩
theorem RepK.merge : ∀ {more : List (PK × PV)} {mv : List (Key × V)} {kps : List (PK × PV)} {kvs : List (Key × V)}, RepK K T F m more mv → RepK K T F m kps kvs → RepK K T F m (more.foldl (fun acc kv => putP acc kv.1 kv.2) kps) (mergeK kvs mv)
  | [], [], _, _, _, h => h
  | [], _ :: _, _, _, h, _ => by have := h.1; simp at this
  | _ :: _, [], _, _, h, _ => by have := h.1; simp at this
  | (k1, p1) :: more, (k2, v2) :: mv, kps, kvs, ⟨h1, h2⟩, h => by
    simp only [List.map_cons, List.cons.injEq] at h1 h2
    cases h2 with
    | cons a b =>
      show RepK K T F m (more.foldl _ (putP kps k1 p1)) (mergeK (putK kvs k2 v2) mv)
      rw [h1.1]
      exact RepK.merge ⟨h1.2, b⟩ (h.put a)
end
def cPairs : List (Ex × Ex) → Ev → List PO → Res (List (PK × PV))
  | [], _, h => .ok [] h
  | (a, b) :: r, ρ, h => (a ρ h).bind fun x h1 => (b ρ h1).bind fun y h2 => match keyOf x with
    | some k => (cPairs r ρ h2).bind fun ps h3 => .ok ((k, y) :: ps) h3
    | none => .bad
def mkD (ps : List (PK × PV)) : List (PK × PV) := ps.foldl (fun acc kv => putP acc kv.1 kv.2) []
def cDict (fs : List (Ex × Ex)) : Ex := fun ρ h => (cPairs fs ρ h).bind fun ps h1 => .ok (.dct (mkD ps)) h1
@[irreducible] def RPs (X : Cx) (T : Tab) (Ew : VK) (pos : Pos) (keys : List (Option Expr)) (values : List Expr) (fs : List (Ex × Ex)) : Prop := PPs X pos keys values (fs.map fun p => (wE X T Ew p.1, wE X T Ew p.2))
section
variable {X : Cx} {T : Tab} {Ew : VK} {a b k v o e f : Expr} {fa fb fo : Ex} {pos apos cpos : Pos} {keys : List (Option Expr)} {values : List Expr} {fs : List (Ex × Ex)}
theorem rps_nil : RPs X T Ew pos [] [] [] := by with_unfolding_all exact (
    pps_nil)
theorem rps_cons (hk : RE X T Ew k fa) (hv : RE X T Ew v fb) (hr : RPs X T Ew pos keys values fs) : RPs X T Ew pos (some k :: keys) (v :: values) ((fa, fb) :: fs) := by with_unfolding_all exact (
    pps_cons hk hv hr)
theorem pairs_run {σ : St} {ρ : Ev} : ∀ (fs : List (Ex × Ex)) {F : Hp} {m : List Addr} {h : List PO} {H : Hp} {Q : List (V × V) → Hp → Prop}, RelS X.K T F m ρ h σ H →
    Post X.K T (fun F m ps vs => ∃ kvs : List (Key × V), vs = kvs.map (fun kv => (kV kv.1, kv.2)) ∧ RepK X.K T F m ps kvs) F m H Q Ew (cPairs fs ρ h) → tPairs (fs.map fun p => (wE X T Ew p.1, wE X T Ew p.2)) σ H Q
  | [], F, m, h, H, Q, R, p => Post.here p R.toRelH ⟨[], rfl, .nil⟩
  | (fa, fb) :: fs, F, m, h, H, Q, R, p => by
    refine ⟨F, m, ρ, h, R, (Post.bind p).mono fun x H1 ⟨F1, m1, h1, px, s1, R1, r1, w1⟩ => ?_⟩
    refine ⟨F1, m1, ρ, h1, R.of s1 R1, (Post.bind w1).mono fun y H2 ⟨F2, m2, h2, py, s2, R2, r2, w2⟩ => ?_⟩
    cases q : keyOf px with
    | none => rw [q] at w2; exact w2.elim
    | some kk =>
      rw [q] at w2
      refine pairs_run fs ((R.of s1 R1).of s2 R2) ((Post.bind w2).mono fun vs H3 ⟨F3, m3, h3, ps, s3, R3, ⟨kvs, e3, r3⟩, w3⟩ => ?_)
      subst e3
      have ex := keyOf_rep (s2.rep r1) q
      subst ex
      exact Post.here w3 R3 ⟨(tk kk, y) :: kvs, rfl, by simp only [List.map_cons, r3.1], .cons (s3.rep r2) r3.2⟩
theorem disp_go {F F2 H H2 : Hp} {m m2 : List Addr} {p : Addr} {o u : HO} {h2 : List PO} (R : ∀ a o, F a = some o → H a = some o) (hp : H p = none) (s : Step F m (upd H p o) F2 m2 H2) (R2 : RelH X.K T F2 m2 h2 H2) (hm : p ∉ m) : H2 p = some o ∧ F2 p = none ∧ p ∉ m2 ∧
    Step F m H (upd F2 p u) m2 (upd H2 p u) ∧ RelH X.K T (upd F2 p u) m2 h2 (upd H2 p u) := by
  have e1 : H2 p = some o := s.fr p o upd_same hm
  have hF : F p = none := by
    cases q : F p with
    | none => rfl
    | some z => rw [R p z q] at hp; cases hp
  have e2 : F2 p = none := by
    cases q : F2 p with
    | none => rfl
    | some z =>
      rcases s.fnew p z q with y | y | y
      · rw [hF] at y; cases y
      · rw [upd_same] at y; cases y
      · exact absurd y hm
  have e3 : p ∉ m2 := fun z => by
    rcases s.mem z with y | y
    · exact hm y
    · rw [upd_same] at y; cases y
  have sF : Same F2 (upd F2 p u) := same_new e2 u
  refine ⟨e1, e2, e3, ⟨s.fz.trans sF, s.pre, fun b z hb n => ?_, fun b z hb => ?_, fun i a hi ea => ?_, fun a z ea => ?_⟩, ⟨fun b z hb => ?_, R2.len, fun i ob a h1 h2' => ?_, R2.nd⟩⟩
  · have hb' : b ≠ p := ne_of_none hb hp
    rw [upd_ne hb']
    exact s.fr b z (by rw [upd_ne hb']; exact hb) n
  · have hb' : b ≠ p := ne_of_none hb hp
    obtain ⟨z', ez⟩ := s.dom b z (by rw [upd_ne hb']; exact hb)
    exact ⟨z', by rw [upd_ne hb']; exact ez⟩
  · have q := s.new i a hi ea
    have hb' : a ≠ p := fun z => by rw [z, upd_same] at q; cases q
    rw [upd_ne hb'] at q; exact q
  · by_cases ha : a = p
    · subst ha; exact .inr (.inl hp)
    · rw [upd_ne ha] at ea
      rcases s.fnew a z ea with y | y | y
      · exact .inl y
      · rw [upd_ne ha] at y; exact .inr (.inl y)
      · exact .inr (.inr y)
  · by_cases ha : b = p
    · subst ha; rw [upd_same] at hb ⊢; exact hb
    · rw [upd_ne ha] at hb ⊢; exact R2.same b z hb
  · have hap : a ≠ p := fun z => e3 (by rw [← z]; exact List.mem_of_getElem? h2')
    have q := R2.obj i ob a h1 h2'
    cases ob with
    | lst xs => obtain ⟨f0, ws, z, rr⟩ := q; exact ⟨by rw [upd_ne hap]; exact f0, ws, by rw [upd_ne hap]; exact z, rr.mono sF fun _ _ h => h⟩
    | dct xs => obtain ⟨f0, ws, z, kk, rr⟩ := q; exact ⟨by rw [upd_ne hap]; exact f0, ws, by rw [upd_ne hap]; exact z, kk, rr.mono sF fun _ _ h => h⟩
    | froz p' => obtain ⟨r1, r3, o, r4⟩ := q; exact ⟨r1.mono sF fun _ _ h => h, r3, o, sF _ _ r4⟩
theorem RelH.fresh {K : PySem.W.Frag} {F H : Hp} {m : List Addr} {h : List PO} (R : RelH K T F m h H) {p : Addr} (hp : H p = none) : p ∉ m := fun z => by
  obtain ⟨i, e⟩ := List.mem_iff_getElem?.mp z
  have hi : i < h.length := by
    rw [R.len]
    rcases Nat.lt_or_ge i m.length with q | q
    · exact q
    · rw [List.getElem?_eq_none q] at e; cases e
  have q := R.obj i _ p (List.getElem?_eq_getElem hi) e
  cases ho : h[i] with
  | lst xs => rw [ho] at q; obtain ⟨_, vs, z, _⟩ := q; rw [hp] at z; cases z
  | dct xs => rw [ho] at q; obtain ⟨_, vs, z, _⟩ := q; rw [hp] at z; cases z
  | froz xs => rw [ho] at q; obtain ⟨_, _, o, z⟩ := q; rw [R.same _ _ z] at hp; cases hp
theorem relS_lay {F H : Hp} {m : List Addr} {ρ : Ev} {h : List PO} {σ : St} (R : RelS X.K T F m ρ h σ H) {p : Addr} (hp : H p = none) (o : HO) : RelS X.K T F m ρ h σ (upd H p o) := by
  have hm := R.toRelH.fresh hp
  refine ⟨⟨fun b u e => ?_, R.len, fun i ob a h1 h2 => ?_, R.nd⟩, R.env⟩
  · rw [upd_ne (ne_of_none (R.same _ _ e) hp)]; exact R.same b u e
  · have hap : a ≠ p := fun z => hm (by rw [← z]; exact List.mem_of_getElem? h2)
    have q := R.obj i ob a h1 h2
    cases ob with
    | lst xs => obtain ⟨f0, ws, z, rr⟩ := q; exact ⟨f0, ws, by rw [upd_ne hap]; exact z, rr⟩
    | dct xs => obtain ⟨f0, ws, z, kk, rr⟩ := q; exact ⟨f0, ws, by rw [upd_ne hap]; exact z, kk, rr⟩
    | froz p' => exact q
theorem re_dict (h : RPs X T Ew pos keys values fs) (hall : keys.all (·.isSome) = true) (hl : keys.length = values.length) (h0 : keys ≠ []) (h15 : keys.length ≤ 15) (hfl : fs.length = keys.length) : RE X T Ew (.Dict keys values pos) (cDict fs) := by with_unfolding_all
  refine PE.imp (pe_disp h hall hl h0 h15) fun σ H Q ⟨F, m, ρ, hh, R, p⟩ pp hp => ?_
  have hm := R.toRelH.fresh hp
  have R' := relS_lay R hp (.dK [])
  have hlen : ∀ {fs : List (Ex × Ex)} {h ps h'}, cPairs fs ρ h = .ok ps h' → ps.length = fs.length := by
    intro fs
    induction fs with
    | nil => intro h ps h' e; simp [cPairs] at e; rw [e.1]; rfl
    | cons x r ih =>
      intro h ps h' e
      obtain ⟨fa, fb⟩ := x
      simp only [cPairs] at e
      cases q1 : fa ρ h with
      | bad => rw [q1] at e; cases e
      | exc _ _ => rw [q1] at e; cases e
      | ok x1 h1 =>
        rw [q1] at e
        simp only [Res.bind_ok] at e
        cases q2 : fb ρ h1 with
        | bad => rw [q2] at e; cases e
        | exc _ _ => rw [q2] at e; cases e
        | ok y1 h2 =>
          rw [q2] at e
          simp only [Res.bind_ok] at e
          cases q3 : keyOf x1 with
          | none => rw [q3] at e; cases e
          | some kk =>
            rw [q3] at e
            dsimp only at e
            cases q4 : cPairs r ρ h2 with
            | bad => rw [q4] at e; cases e
            | exc _ _ => rw [q4] at e; cases e
            | ok ps3 h3 =>
              rw [q4] at e
              cases e
              simp [ih q4]
  unfold cDict at p
  refine pairs_run fs R' ?_
  cases q : cPairs fs ρ hh with
  | bad => rw [q] at p; exact p
  | exc e1 h1 =>
    rw [q] at p
    intro F2 m2 H2 x s2 R2 rx
    obtain ⟨e1, e2, e3, s3, R3⟩ := disp_go (u := .dK []) R.same hp s2 R2 hm
    have hs : upd H2 pp (.dK []) = H2 := by
      funext b
      by_cases hb : b = pp
      · subst hb; rw [upd_same, e1]
      · rw [upd_ne hb]
    rw [hs] at s3 R3
    exact p _ m2 H2 x s3 R3 (rx.mono (same_new e2 _) fun _ _ h => h)
  | ok ps h1 =>
    rw [q] at p
    intro F2 m2 H2 vs s2 R2 ⟨kvs, ev, rk⟩
    obtain ⟨e1, e2, e3, s3, R3⟩ := disp_go (u := .dK (mergeK [] kvs)) R.same hp s2 R2 hm
    have hkl : kvs.length = ps.length := by have := congrArg List.length rk.1; simpa using this
    refine ⟨e1, kvs, ev, by rw [hkl, hlen q, hfl]; exact h15, ?_⟩
    have rm : RepK X.K T F2 m2 (mkD ps) (mergeK [] kvs) := RepK.merge rk .nil
    have sF : Same F2 (upd F2 pp (.dK (mergeK [] kvs))) := same_new e2 _
    exact p _ m2 _ _ s3 R3 (.dct (.inl upd_same) rm.1 (rm.2.mono sF fun _ _ h => h))
def cGet2 (d k x : Ex) : Ex := fun ρ h => (d ρ h).bind fun p h1 => if (dcR h1 p).isSome = true then (k ρ h1).bind fun q h2 => (x ρ h2).bind fun z h3 => match dcR h3 p with
    | some kvs => match keyOf q with
      | some kk => .ok (match valP kvs kk with | some v => derefP h3 v | none => z) h3
      | none => .bad
    | none => .bad
  else .bad
theorem re_get2 {fx : Ex} (hu : X.A.units + 64 < cLine) (ho : RE X T Ew o fo) (he : RE X T Ew e fa) (hf : RE X T Ew f fx) (mm : M2 X o "get" apos e f cpos) : RE X T Ew (.Call (.Attribute o "get" apos) [e, f] [] cpos) (cGet2 fo fa fx) := by with_unfolding_all
  refine PE.imp (pe_dget2 (by omega) ho he hf mm) fun σ H Q ⟨F, m, ρ, h, R, p⟩ => ⟨F, m, ρ, h, R, (Post.bind p).mono fun x H1 ⟨F1, m1, h1, p1, s1, R1, r1, w1⟩ => ?_⟩
  by_cases hd : (dcR h1 p1).isSome = true
  · rw [if_pos hd] at w1
    obtain ⟨kvs1, ek1⟩ := Option.isSome_iff_exists.mp hd
    obtain ⟨a, ws, rfl, rd, _, _⟩ := dcR_rep R1 r1 ek1
    refine ⟨a, rfl, .inl ⟨ws, rd⟩, F1, m1, ρ, h1, R.of s1 R1, (Post.bind w1).mono fun y H2 ⟨F2, m2, h2, p2, s2, R2, r2, w2⟩ => ?_⟩
    refine ⟨F2, m2, ρ, h2, (R.of s1 R1).of s2 R2, (Post.bind w2).mono fun z H3 ⟨F3, m3, h3, p3, s3, R3, r3, w3⟩ => ?_⟩
    cases q : dcR h3 p1 with
    | none => rw [q] at w3; exact w3.elim
    | some kvs =>
      rw [q] at w3
      dsimp only at w3
      cases q2 : keyOf p2 with
      | none => rw [q2] at w3; exact w3.elim
      | some kk =>
        rw [q2] at w3
        dsimp only at w3
        obtain ⟨a', ws', ea, rd', kq, rr⟩ := dcR_rep R3 (s3.rep (s2.rep r1)) q
        cases ea
        have ey := keyOf_rep (s3.rep r2) q2
        subst ey
        refine ⟨valV ws' (tk kk), .inl ⟨ws', tk kk, rd', rfl, rfl⟩, ?_⟩
        rcases valP_rep kq rr kk with ⟨v1, u1, e1, e2, rv⟩ | ⟨e1, e2⟩
        · rw [e1] at w3; rw [e2]; exact Post.here w3 R3 (R3.deref rv)
        · rw [e1] at w3; rw [e2]; exact Post.here w3 R3 r3
  · rw [if_neg hd] at w1; exact w1.elim
end
end L3
set_option Elab.async false
set_option linter.all false
set_option maxRecDepth 100000
set_option maxHeartbeats 4000000
set_option autoImplicit false
namespace L3
open PySem PySem.Spec PyProof.Rows L2
section
variable {X : Cx} {T : Tab} {Ew : VK} {a b c : Expr} {fa fb fc : Ex} {pos : Pos} {op op' : CmpOp} {r r' : R2} {g g' : PV → PV → List PO → Res PV}
end
end L3
set_option Elab.async false
set_option linter.all false
set_option maxRecDepth 100000
set_option maxHeartbeats 4000000
set_option autoImplicit false
namespace L3
open PySem PySem.Spec PyProof.Rows L2
def spLaw (K : PySem.W.Frag) : Sp := fun vs H Q _ => ∃ (a : Addr) (ns : List Int), vs = [.ref a] ∧ SqL K H a (ns.map V.int) ∧ ns.length ≤ 63 ∧ ∀ H', Q (.bl true) H'
theorem reps_ints {K : PySem.W.Frag} {T : Tab} {F : Hp} {m : List Addr} : ∀ ns : List Int, RepVs K T F m (ns.map PV.int) (ns.map V.int)
  | [] => .nil
  | n :: r => .cons (.int n) (reps_ints r)
theorem spLaw_imp {K : PySem.W.Frag} {T : Tab} {fn : List PV → Out} (h : ∀ ns : List Int, ns.length ≤ 63 → fn [.giv (ns.map PV.int)] = .ok (.bl true)) : ∀ vs H Q E, spLaw K vs H Q E → spP K T 1 fn vs H Q E := by
  rintro vs H Q E ⟨a, ns, rfl, sq, hl, q⟩
  refine ⟨fun b => if b = a then H a else none, [.giv (ns.map PV.int)], .bl true, rfl, fun b o e => ?_, .cons (.giv ?_ (reps_ints ns)) .nil, h ns hl, fun F' H' x _ _ _ _ r => ?_⟩
  · by_cases hb : b = a
    · subst hb; have e' : H b = some o := by simpa using e
      exact e'
    · have e' : (none : Option HO) = some o := by simpa [hb] using e
      cases e'
  · rcases sq with (sq | ⟨o, sq⟩) | sq
    · exact .inl (.inl (by simpa using sq))
    · exact .inl (.inr ⟨o, by simpa using sq⟩)
    · exact .inr sq
  · cases r; exact q H'
theorem law_walk {l : PySem.W.OpenLaw} {k : Nat} {q : Program} {loose : List Str} {XP : (Str → Option Value) → Heap → Prop} {YP : World → Heap → Prop} {d : DefRec} {K : Params → PySem.W.Frag} {x : Str} (hn : l.most = some 63) (hdf : d.params.defaults = []) (hr : Room k callerA)
    (hY : ∀ (w : World) (h : Heap), YP w h → (K w.params).In h)
    (F : ∀ (w : World) (mg : Str → Option Value) (fa : Addr) (h : Heap), (K w.params).In h → h.Ns mainGlobals mg → mg d.name = some (.ref fa) →
      ∃ fd : FuncData, (∀ (s : Shared) (u : Value), BindsTo s fd ⟨[u], []⟩ [(x, u)]) ∧ ∀ base : Heap, (K w.params).In base → base.Ns mainGlobals mg → FnOk l.prog w (K w.params) mg base CX0 k fa fd [x] (spLaw (K w.params))) :
    PySem.W.WalkO q loose XP YP l.row.toRowW d [] (fun f vs => PySem.call f vs) :=
  L2.walk_of (n := 63) (k := k) (x := x) (CX := fun _ => CX0) (sp := fun w => spLaw (K w.params)) hn (by decide) hdf hr hY F (fun _ _ a ns hl _ hS => ⟨a, ns, rfl, hS, hl, fun _ => rfl⟩) fun _ _ _ _ _ z => z
end L3
set_option Elab.async false
set_option linter.all false
set_option maxRecDepth 100000
set_option maxHeartbeats 4000000
set_option autoImplicit false
namespace L2
open PySem PySem.Spec PyProof.Rows
section
variable {X : Cx}
end
end L2
namespace L3
open PySem PySem.Spec PyProof.Rows L2
section
variable {X : Cx} {T : Tab} {Ew : VK} {pos p0 : Pos}
end
end L3
set_option Elab.async false
set_option linter.all false
set_option maxRecDepth 100000
set_option maxHeartbeats 4000000
set_option autoImplicit false
namespace L2
open PySem PySem.Spec PyProof.Rows PySem.Builtin PySem.Builtin.Str
section
variable {X : Cx}
def kvD (D : List (List Nat × List Nat)) : List (Key × V) := D.map fun p => (.inr (L3.S p.1), .str (L3.S p.2))
structure GDict (P : Program) (w : World) (K : PySem.W.Frag) (a : Addr) (D : List (List Nat × List Nat)) : Prop where
  ns : (a == sysModules) = false
  ex : ∃ (o : Obj) (es : Array DictEntry) (ep : Nat) (vs : List (Key × Value)), K.lookup a = some o ∧ o.ExactDict ∧ o.data = .dict es ep ∧ KeysOf (mixKind P w) es ∧ Pairs (mixKind P w) es.toList vs ∧ (vs.map (·.1)).Nodup ∧ KV (kvD D) vs
theorem GDict.of {P : Program} {w : World} {K : PySem.W.Frag} {a : Addr} {D : List (List Nat × List Nat)} (g : GDict P w K a D) {h : Heap} (k : K.In h) : ∃ vs, KV (kvD D) vs ∧ h.DictOf (mixKind P w) a vs := by
  obtain ⟨o, es, ep, vs, e1, e2, e3, e4, e5, e6, e7⟩ := g.ex
  exact ⟨vs, e7, o, es, ep, k a o e1, e2, e3, e4, e5, e6⟩
end
end L2
namespace L3
open PySem PySem.Spec PyProof.Rows L2
section
variable {X : Cx} {T : Tab} {Ew : VK} {pos p0 : Pos}
theorem re_globC {x : Str} {a : Addr} {C : Nat} (hg : Gl X x) (hm : X.mg x = some (.ref a)) (hT : T C = some a) (hd : (x == ("__debug__" : Str)) = false := by decide) : RE X T Ew (.Name x pos) (cK (.cls C)) := by with_unfolding_all exact (
    re_const (pe_glob (v := .ref a) hg hm rfl hd) fun _ _ => .cls hT)
end
end L3
namespace L3
open PySem PySem.Spec PyProof.Rows L2
section
variable {X : Cx} {T : Tab} {Ew : VK} {a b : Expr} {fa fb : Ex} {pos : Pos}
end
end L3
set_option Elab.async false
set_option linter.all false
set_option maxRecDepth 100000
set_option maxHeartbeats 4000000
set_option autoImplicit false
namespace L2
open PySem PySem.Spec PyProof.Rows PySem.Builtin
section
variable {κ : Type} [DecidableEq κ]
end
section
variable {P : Program} {w : World} {A : Around} {R : Result → Shared → Prop} {it : Addr} {fp wr : List Addr} {G : Array GenState → Array GenState → Prop} {n : Nat} {Pn : Nat → Value → Prop} {St : Nat → Shared → Prop}
end
section
variable {P : Program} {w : World} {A : Around} {E : Value → Shared → Prop} {s : Shared}
end
section
variable {X : Cx} {e : Expr} {te : TE} {p1 p2 pos pos2 : Pos}
end
end L2
namespace L3
open PySem PySem.Spec PyProof.Rows L2
section
variable {X : Cx} {T : Tab} {Ew : VK} {e : Expr} {f : Ex} {p1 p2 pos pos2 : Pos}
end
end L3
namespace L2
open PySem PySem.Spec PyProof.Rows
end L2
set_option Elab.async false
set_option linter.all false
set_option maxRecDepth 100000
set_option maxHeartbeats 4000000
set_option autoImplicit false
namespace L3
open PySem PySem.Spec PyProof.Rows L2
section
variable {X : Cx} {T : Tab} {Ew : VK} {pos spos : Pos}
end
end L3
set_option Elab.async false
set_option linter.all false
set_option maxRecDepth 100000
set_option maxHeartbeats 4000000
set_option autoImplicit false
namespace L3
open PySem PySem.Spec PyProof.Rows L2
inductive OutX where
  | ok (v : PV) | exc (C : Nat) | bad
def finX (v : PV) (h : List PO) : OutX := match finO v h with
  | .ok q => .ok q
  | .bad => .bad
def runX (f : Sx) (np n : Nat) (ps : List PV) : OutX := if ps.length = np then match f (ps.map some ++ List.replicate (n - ps.length) none) [] with
    | .nx _ _ => .ok .non
    | .rt v h => finX v h
    | .exc (.cls C) _ => .exc C
    | _ => .bad
  else .bad
def Ahead (F H F' H' : Hp) : Prop := Same F F' ∧ Same H H' ∧ Same F' H' ∧ ∀ a o, F' a = some o → F a = some o ∨ H a = none
def spX (K : PySem.W.Frag) (T : Tab) (np : Nat) (fn : List PV → OutX) : Sp := fun vs H Q E => ∃ F ps, ps.length = np ∧ Same F H ∧ RepVs K T F [] ps vs ∧ match fn ps with
  | .ok v => ∀ F' H' x, Ahead F H F' H' → RepV K T F' [] v x → Q x H'
  | .exc C => ∃ Ca, T C = some Ca ∧ ∀ F' H', Ahead F H F' H' → E (.ref Ca) none H'
  | .bad => False
theorem spX_len {K : PySem.W.Frag} {T : Tab} {np : Nat} {fn : List PV → OutX} {vs : List V} {H : Hp} {Q : VK} {E : XK} (h : spX K T np fn vs H Q E) : vs.length = np := by
  obtain ⟨F, ps, e, _, r, _⟩ := h
  rw [← r.length]; exact e
def EwOf (E : XK) : VK := fun x H' => ∃ a, x = V.ref a ∧ E (.ref a) none H'
section
variable {P : Program} {w : World} {K : PySem.W.Frag} {mg : Str → Option Value} {base : Heap} {T : Tab}
theorem step_ahead {F H F' H' : Hp} {m' : List Addr} (s : Step F [] H F' m' H') (sm : Same F' H') : Ahead F H F' H' := ⟨s.fz, fun b o hb => s.fr b o hb (by simp), sm, fun a o ea => by
  rcases s.fnew a o ea with z | z | z
  · exact .inl z
  · exact .inr z
  · simp at z⟩
theorem fn_raise {x qual : Str} {st : Stmt} {f : Addr} {fd : FuncData} {N ps : List Str} {k : Nat} {g : Sx} (Fn : Fun K x qual st f fd) (Sc : FnScope N ps (defScope st))
    (hb : ∀ (cdv : Value) (A : Around) (outer : List Env) (s : Shared) (H : Hp) (E : XK), Room k (A.deeper (envOfC qual (defScope st) s.heap.objs.size f cdv)) →
      RSs (cxOf (CXE P w) P w K mg base N qual (defScope st) f cdv A outer s H E) T (EwOf E) (defBody st) g) :
    FnOk P w K mg base (CXE P w) (k + 1) f fd ps (spX K T ps.length (runX g ps.length N.length)) := by with_unfolding_all
  obtain ⟨oc, od, kV, doc, pm, an, cdv, ct, osl, rfl, lk, hcd⟩ := Fn.ex
  refine fn_of lk hcd Sc (fun vs H Q E h => spX_len h) fun A outer s H vs Q E hr h => ⟨_, hb cdv A outer s H E hr, ?_⟩
  obtain ⟨F, qs, hl, sm, r, q⟩ := h
  have R0 : RelS K T F [] (qs.map some ++ List.replicate (N.length - qs.length) none) [] (start N vs) H := ⟨⟨sm, rfl, fun i o a h1 h2 => by simp at h1, List.nodup_nil⟩, rel_start r⟩
  refine ⟨F, [], _, [], R0, ?_⟩
  unfold runX at q
  rw [if_pos hl] at q
  cases z : g (qs.map some ++ List.replicate (N.length - qs.length) none) [] with
  | nx ρ h1 =>
    rw [z] at q
    exact fun F' m' H' σ' s R => q F' H' .non (step_ahead s R.same) .non
  | rt p h1 =>
    rw [z] at q
    intro F' m' H' x s R rp
    dsimp only [finX, finO] at q
    cases y : frzV h1 p with
    | none => rw [y] at q; exact q.elim
    | some ab =>
      obtain ⟨p2, h2⟩ := ab
      rw [y] at q
      obtain ⟨F2, s2, R2, r2, hp⟩ := frzV_rep R rp y
      exact q F2 H' x (step_ahead (s.trans s2) R2.same) (r2.unref hp)
  | exc e h1 =>
    rw [z] at q
    cases e with
    | cls C =>
      intro F' m' H' x s R rp
      obtain ⟨Ca, hCa, q⟩ := q
      cases rp with
      | cls c =>
        rw [hCa] at c
        cases c
        exact ⟨_, rfl, q F' H' (step_ahead s R.same)⟩
    | _ => exact q.elim
  | bk _ _ => rw [z] at q; exact q.elim
  | ct _ _ => rw [z] at q; exact q.elim
  | bad => rw [z] at q; exact q.elim
end
def callX (fn : List PV → OutX) (ps : List PV) (h : List PO) : Res PV := match frzs ps h with
  | some (qs, h2) => match fn qs with
    | .ok v => .ok v h2
    | .exc C => .exc (.cls C) h2
    | .bad => .bad
  | none => .bad
def cCallX (fn : List PV → OutX) (as : Ax) : Ex := fun ρ h => (as ρ h).bind (callX fn)
structure FnX (T : Tab) (np : Nat) (fn : List PV → OutX) : Prop where
  len : ∀ qs, fn qs ≠ .bad → qs.length = np
  cls : ∀ qs C, fn qs = .exc C → ∃ Ca, T C = some Ca
section
variable {X : Cx} {T : Tab} {E : XK} {a b e : Expr} {es : List Expr} {fa fb : Ex} {fs : Ax} {pos p0 : Pos} {k : Nat} {f : Addr} {fd : FuncData} {ps : List Str} {fn : List PV → OutX} {x : Str}
theorem callX_post {F H : Hp} {m : List Addr} {h : List PO} {Q : VK} {K : PySem.W.Frag} {np : Nat} {qs : List PV} {vs : List V} (hfn : FnX T np fn) (R : RelH K T F m h H) (r : RepVs K T F m qs vs) (w : Post K T (RepV K T) F m H Q (EwOf E) (callX fn qs h)) : spX K T np fn vs H Q E := by
  unfold callX at w
  cases z : frzs qs h with
  | none => rw [z] at w; exact w.elim
  | some ab =>
    obtain ⟨q2, h2⟩ := ab
    rw [z] at w
    dsimp only at w
    obtain ⟨F2, s2, R2, r2, hp⟩ := frzs_rep R r z
    have go : ∀ {F' H'}, Ahead F2 H F' H' → Step F m H F' m H' ∧ RelH K T F' m h2 H' := by
      intro F' H' ⟨a1, a2, a3, a4⟩
      have s3 : Step F2 m H F' m H' := ⟨a1, ⟨[], by simp⟩, fun b o hb _ => a2 b o hb, fun b o hb => ⟨o, a2 b o hb⟩, fun i a hi e => (by rw [List.getElem?_eq_none hi] at e; cases e), fun a o ea => (a4 a o ea).elim .inl (fun z => .inr (.inl z))⟩
      refine ⟨s2.trans s3, a3, R2.len, fun i o a e1 e2 => ?_, R2.nd⟩
      have q := R2.obj i o a e1 e2
      have live : F2 a = none → (∃ u, H a = some u) → F' a = none := fun n ⟨u, hu⟩ => by
        cases z : F' a with
        | none => rfl
        | some o =>
          rcases a4 a o z with y | y
          · rw [n] at y; cases y
          · rw [hu] at y; cases y
      cases o with
      | lst xs => obtain ⟨f0, ws, z, rr⟩ := q; exact ⟨live f0 ⟨_, z⟩, ws, a2 _ _ z, s3.reps rr⟩
      | dct xs => obtain ⟨f0, ws, z, kk, rr⟩ := q; exact ⟨live f0 ⟨_, z⟩, ws, a2 _ _ z, kk, s3.reps rr⟩
      | froz p' => obtain ⟨r1, r3, o, r4⟩ := q; exact ⟨s3.rep r1, r3, o, a1 _ _ r4⟩
    refine ⟨F2, q2, hfn.len q2 (fun y => by rw [y] at w; exact w.elim), R2.same, r2.unref hp, ?_⟩
    cases y : fn q2 with
    | bad => rw [y] at w; exact w.elim
    | ok v =>
      rw [y] at w
      intro F' H' x ah rx
      obtain ⟨s, R'⟩ := go ah
      exact w F' m H' x s R' (rx.mono (Same.refl _) fun i a e => by simp at e)
    | exc C =>
      rw [y] at w
      obtain ⟨Ca, hC⟩ := hfn.cls q2 C y
      refine ⟨Ca, hC, fun F' H' ah => ?_⟩
      obtain ⟨s, R'⟩ := go ah
      obtain ⟨a, e1, e2⟩ := w F' m H' (.ref Ca) s R' (.cls hC)
      cases e1
      exact e2
theorem re_callX (F : FnOk X.prog X.w X.K X.mg X.base (CXE X.prog X.w) k f fd ps (spX X.K T ps.length fn)) (hfn : FnX T ps.length fn) (hp : Passes (CXE X.prog X.w) X E) (hr : Room k X.A) (hg : Gl X x) (hm : X.mg x = some (.ref f)) (hk : PySem.W.keepIn X.K (.ref f) = true) (hb : Binds X.K fd ps [])
    (ha : RA X T (EwOf E) (e :: es) fs) (hdb : (x == ("__debug__" : Str)) = false := by decide) (he : starEach (e :: es) X.env = (false, eval e X.env) :: starEach es X.env := by rfl) (hpl : (backTo pos (starEach es X.env)).any (·.1) = false := by rfl) :
    RE X T (EwOf E) (.Call (.Name x p0) (e :: es) [] pos) (cCallX fn fs) := by with_unfolding_all
  refine PE.imp (pe_call F hr hg hm hk hb .nil hp ha hdb he hpl) fun σ H Q ⟨F, m, ρ, h, R, p⟩ => ⟨F, m, ρ, h, R, (Post.bind p).mono fun vs H1 ⟨F1, m1, h1, qs, s1, R1, r1, w1⟩ => ?_⟩
  rw [List.append_nil]
  exact callX_post hfn R1 r1 w1
structure MethX (X : Cx) (T : Tab) (k : Nat) (m : Str) (C : Addr) (np : Nat) (fn : List PV → OutX) : Prop where
  c : Cls X.K C
  ex : ∃ (f : Addr) (fd : FuncData) (ps : List Str), ps.length = np ∧ Meth X.K C m f ∧ FnOk X.prog X.w X.K X.mg X.base (CXE X.prog X.w) k f fd ps (spX X.K T np fn) ∧ Binds X.K fd ps []
  fx : FnX T np fn
def cMethX (res : Nat → Option (List PV → OutX)) (o : Ex) (as : Ax) : Ex := fun ρ h => (o ρ h).bind fun p h1 => match p with
  | .ins C [] => match res C with
    | some fn => (as ρ h1).bind fun ps h2 => callX fn (.ins C [] :: ps) h2
    | none => .bad
  | _ => .bad
theorem pe_methX {k : Nat} {m : Str} {o : Expr} {ta : TE} {t : TA} {apos : Pos} {pl : Sem Bool} (he : PE X o ta) (hp : Passes (CXE X.prog X.w) X E) (hr : Room k X.A) (ha : PA X (e :: es) t)
    (hst : starEach (e :: es) X.env = (false, eval e X.env) :: starEach es X.env := by rfl) (hpl : (backTo pos (starEach es X.env)).any (·.1) = false := by rfl)
    (ht : eval (.Call (.Attribute o m apos) (e :: es) [] pos) X.env = (do
      let ov ← eval o X.env
      standAt apos.atName
      let (f, first) ← holding [ov] (getMethod ov m pl)
      callWith pos f first (backTo pos (starEach (e :: es) X.env)) (backToKw pos (keywordEach [] X.env))) := by rfl) :
    PE X (.Call (.Attribute o m apos) (e :: es) [] pos) (fun σ H Q => ta σ H fun x H1 => ∃ a C dx fs np fn, x = .ref a ∧ H1 a = some (.ins C dx fs) ∧ fs.lookup m = none ∧ MethX X T k m C np fn ∧ t σ H1 fun vs H2 => spX X.K T np fn (x :: vs) H2 Q E) := by
  intro pins s σ H Q I h
  refine PySem.W.methodCall_KW (pl := pl) (thn (he pins s σ H _ I h) fun u s1 ⟨x, H1, I1, rx, a, C, dx, fs, np, fn, ex, ea, l, M, q⟩ => ?_) ht
  subst ex
  obtain rfl : u = Value.ref a := rx
  obtain ⟨f, fd, ps, hl, hm, F, hb⟩ := M.ex
  refine getmeth_ok I1 ea M.c hm l ?_
  refine PySem.W.callWith_K (first := [.ref a]) (h₀ := X.base) I.ok.mod.kin hm.kp (thn (ha pos pins s1 σ H1 _ I1 q) fun us s2 ⟨vs, H2, I2, r, q2⟩ => ⟨I2.kIn, ?_⟩) hst hpl
  exact run_fn (us := .ref a :: us) (vs := .ref a :: vs) (dvs := []) F hr hb .nil hp I2 (.cons rfl r) (by rw [List.append_nil]; exact q2)
theorem re_methX {res : Nat → Option (List PV → OutX)} {m : Str} {o : Expr} {fo : Ex} {apos : Pos} {pl : Sem Bool} (hres : ∀ C fn, res C = some fn → ∀ a, T C = some a → ∃ np, MethX X T k m a np fn) (hp : Passes (CXE X.prog X.w) X E) (ho : RE X T (EwOf E) o fo) (hr : Room k X.A) (ha : RA X T (EwOf E) (e :: es) fs)
    (hst : starEach (e :: es) X.env = (false, eval e X.env) :: starEach es X.env := by rfl) (hpl : (backTo pos (starEach es X.env)).any (·.1) = false := by rfl)
    (ht : eval (.Call (.Attribute o m apos) (e :: es) [] pos) X.env = (do
      let ov ← eval o X.env
      standAt apos.atName
      let (f, first) ← holding [ov] (getMethod ov m pl)
      callWith pos f first (backTo pos (starEach (e :: es) X.env)) (backToKw pos (keywordEach [] X.env))) := by rfl) :
    RE X T (EwOf E) (.Call (.Attribute o m apos) (e :: es) [] pos) (cMethX res fo fs) := by with_unfolding_all
  refine PE.imp (pe_methX (T := T) ho hp hr ha hst hpl ht) fun σ H Q ⟨F, m', ρ, h, R, p⟩ => ⟨F, m', ρ, h, R, (Post.bind p).mono fun x H1 ⟨F1, m1, h1, p1, s1, R1, r1, w1⟩ => ?_⟩
  cases r1 with
  | @ins C fs a Ca dx fvs c ef d kk rr =>
    cases fs with
    | cons _ _ => exact w1.elim
    | nil =>
      have hf : fvs = [] := by cases fvs with
        | nil => rfl
        | cons _ _ => simp at kk
      subst hf
      dsimp only at w1
      cases z : res C with
      | none => rw [z] at w1; exact w1.elim
      | some fn =>
        rw [z] at w1
        obtain ⟨np, M⟩ := hres C fn z Ca c
        refine ⟨a, Ca, dx, [], np, fn, rfl, R1.same _ _ ef, rfl, M, F1, m1, ρ, h1, R.of s1 R1, (Post.bind w1).mono fun vs H2 ⟨F2, m2, h2, qs, s2, R2, r2, w2⟩ => ?_⟩
        exact callX_post M.fx R2 (.cons (s2.rep (.ins c ef d kk rr)) r2) w2
  | _ => exact w1.elim
end
def sRaise (C : Nat) (as : Ax) : Sx := fun ρ h => match as ρ h with
  | .ok qs h1 => if qs.length ≤ sizeLine then .exc (.cls C) h1 else .bad
  | .exc e h1 => .exc e h1
  | .bad => .bad
theorem rs_raise {X : Cx} {T : Tab} {E : XK} {x : Str} {C : Nat} {Ca : Addr} {np cpos pos : Pos} {e0 : Expr} {es : List Expr} {fs : Ax} {bmB bmN : List Value} {B Bn newId nid initId inN : String}
    (Fn : ExcBaseFacts Bn newId inN bmN) (hBn : bmB.contains (.type Bn) = true) (FB : ExcBaseFacts B nid initId bmB) (ok : PySem.W.excIn X.K Ca bmB newId = true) (hC : T C = some Ca) (hg : Gl X x) (hm : X.mg x = some (.ref Ca)) (l : Lv X E)
    (ha : RA X T (EwOf E) (e0 :: es) fs) (hc : X.calm = true := by rfl) (hdb : (x == ("__debug__" : Str)) = false := by decide) (he : starEach (e0 :: es) X.env = (false, eval e0 X.env) :: starEach es X.env := by rfl) (hpl : (backTo cpos (starEach es X.env)).any (·.1) = false := by rfl) :
    RS X T (EwOf E) (.Raise (some (.Call (.Name x np) (e0 :: es) [] cpos)) none pos) (sRaise C fs) := by with_unfolding_all
  refine PS.imp (ps_raise Fn hBn FB ok hg hm hc l ha hdb he hpl) fun D σ H ⟨F, m, ρ, h, R, p⟩ => ⟨F, m, ρ, h, R, ?_⟩
  unfold sRaise at p
  cases z : fs ρ h with
  | ok qs h1 =>
    rw [z] at p
    dsimp only at p
    split at p
    · rename_i hl
      intro F' m' H' vs s R' r
      refine ⟨by rw [← r.length]; exact hl, ?_⟩
      obtain ⟨a, e1, e2⟩ := p F' m' H' (.ref Ca) s R' (.cls hC)
      cases e1
      exact e2
    · exact p.elim
  | exc e h1 => rw [z] at p; exact p
  | bad => rw [z] at p; exact p
def sTry (cat : Nat → Bool) (g : Sx) (i n : Nat) (gs : Sx) : Sx := fun ρ h => match g ρ h with
  | .exc (.cls C) h1 => if cat C = true then (match gs ((List.replicate n none).set i (some (.exc C))) h1 with
    | .rt v h2 => .rt v h2
    | _ => .bad) else .bad
  | .exc _ _ => .bad
  | r => r
theorem rs_try {X : Cx} {T : Tab} {Ew : VK} {cat : Nat → Bool} {body suite : List Stmt} {b0 : Stmt} {g gs : Sx} {t n : Str} {Ta : Addr} {i : Nat} {tp hpos pos : Pos} (hcat : ∀ C Ca, cat C = true → T C = some Ca → PySem.W.exmOne X.K (.ref Ca) (.ref Ta) = some true)
    (hb : ∀ pn W Eb, Passes (CXE X.prog X.w) (X.tried pn W) Eb → RSs (X.tried pn W) T (EwOf Eb) body g) (hs : ∀ pn a, RSs (X.suite pn a) T (fun _ _ => False) (b0 :: suite) gs)
    (hN : X.N.Nodup) (hi : X.N[i]? = some n) (hn : X.env.scope.names.lookup n = some .local) (hg : Gl X t) (hm : X.mg t = some (.ref Ta)) (stk : X.stack = X.env :: X.outer := by rfl) (hf : X.env.frame = some X.env.locals := by rfl) (hdb : (t == ("__debug__" : Str)) = false := by decide) :
    RS X T Ew (.Try body [.ExceptHandler (some (.Name t tp)) (some n) (b0 :: suite) hpos] [] [] pos) (sTry cat g i X.N.length gs) := by with_unfolding_all
  refine PS.imp (ps_try (tb := fun Eb => wS X T (EwOf Eb) g) (ts := wS X T (fun _ _ => False) gs) stk hf hb hs hN hi hn hg hm hdb) fun D σ H ⟨F, m, ρ, h, R, p⟩ => ⟨F, m, ρ, h, R, ?_⟩
  unfold sTry at p
  cases z : g ρ h with
  | nx ρ1 h1 => rw [z] at p; exact p
  | rt v h1 => rw [z] at p; exact p
  | bk ρ1 h1 => rw [z] at p; exact p
  | ct ρ1 h1 => rw [z] at p; exact p
  | bad => rw [z] at p; exact p
  | exc e h1 =>
    rw [z] at p
    cases e with
    | cls C =>
      dsimp only at p
      split at p
      · rename_i hC
        intro F' m' H' x s R' rx
        cases rx with
        | @cls _ Ca c =>
          refine ⟨Ca, rfl, hcat C Ca hC c, fun a σ' hl na => ?_⟩
          obtain ⟨s2, R2⟩ := Step.lay (o := ExcO a (.ref Ca)) R' na
          have re : RepV X.K T (upd F' a (ExcO a (.ref Ca))) m' (.exc C) (.ref a) := .exc c upd_same
          refine ⟨_, m', (List.replicate X.N.length none).set i (some (.exc C)), h1, ⟨R2, by simp [hl], fun j q ej => ?_⟩, ?_⟩
          · by_cases hj : i = j
            · subst hj
              rw [List.getElem?_set_self (by
                rcases Nat.lt_or_ge i (List.replicate X.N.length (none : Option PV)).length with y | y
                · exact y
                · rw [List.getElem?_eq_none (by simpa using y)] at ej; cases ej)] at ej
              cases ej
              have hi' : i < σ'.length := by rw [hl]; exact (List.getElem?_eq_some_iff.mp hi).1
              exact ⟨_, List.getElem?_set_self hi', re⟩
            · rw [List.getElem?_set_ne hj, List.getElem?_replicate] at ej
              split at ej <;> cases ej
          · cases y : gs ((List.replicate X.N.length none).set i (some (.exc C))) h1 with
            | rt v h2 =>
              rw [y] at p
              exact fun F2 m2 H2 x t2 R3 rx => p F2 m2 H2 x ((s.trans s2).trans t2) R3 rx
            | nx _ _ => rw [y] at p; exact p.elim
            | bk _ _ => rw [y] at p; exact p.elim
            | ct _ _ => rw [y] at p; exact p.elim
            | exc _ _ => rw [y] at p; exact p.elim
            | bad => rw [y] at p; exact p.elim
      · exact p.elim
    | _ => exact p.elim
end L3
set_option Elab.async false
set_option linter.all false
set_option maxRecDepth 100000
set_option maxHeartbeats 4000000
set_option autoImplicit false
namespace L3
open PySem PySem.Spec PyProof.Rows L2
section
variable {P : Program} {w : World} {K : PySem.W.Frag} {mg : Str → Option Value} {base : Heap} {T : Tab}
theorem fn_pureH {x qual : Str} {st : Stmt} {f : Addr} {fd : FuncData} {N ps : List Str} {k : Nat} {g : Sx} (Fn : Fun K x qual st f fd) (Sc : FnScope N ps (defScope st))
    (hb : ∀ (cdv : Value) (A : Around) (outer : List Env) (s : Shared) (H : Hp) (E : XK), RoomH k (A.deeper (envOfC qual (defScope st) s.heap.objs.size f cdv)) →
      RSs (cxH P w K mg base N qual (defScope st) f cdv A outer s H E) T (fun _ _ => False) (defBody st) g) :
    FnOkH P w K mg base (k + 1) f fd ps (spP K T ps.length (runF g ps.length N.length)) := by with_unfolding_all
  refine fn_ofH Fn Sc (fun vs H Q E h => spP_len h) fun cdv A outer s H vs Q E hr h => ⟨_, hb cdv A outer s H E hr, ?_⟩
  obtain ⟨F, qs, v, hl, sm, r, e, q⟩ := h
  have R0 : RelS K T F [] (qs.map some ++ List.replicate (N.length - qs.length) none) [] (start N vs) H := ⟨⟨sm, rfl, fun i o a h1 h2 => by simp at h1, List.nodup_nil⟩, rel_start r⟩
  refine ⟨F, [], _, [], R0, ?_⟩
  unfold runF at e
  rw [if_pos hl] at e
  cases z : g (qs.map some ++ List.replicate (N.length - qs.length) none) [] with
  | nx ρ h1 =>
    rw [z] at e
    cases e
    intro F' m' H' σ' s R
    obtain ⟨a1, a2, a3, a4⟩ := step_ahead s R.same
    exact q F' H' .non a1 a2 a3 a4 .non
  | rt p h1 =>
    rw [z] at e
    intro F' m' H' x s R rp
    dsimp only [finO] at e
    cases y : frzV h1 p with
    | none => rw [y] at e; cases e
    | some ab =>
      obtain ⟨p2, h2⟩ := ab
      rw [y] at e
      cases e
      obtain ⟨F2, s2, R2, r2, hp⟩ := frzV_rep R rp y
      obtain ⟨a1, a2, a3, a4⟩ := step_ahead (s.trans s2) R2.same
      exact q F2 H' x a1 a2 a3 a4 (r2.unref hp)
  | bk _ _ => rw [z] at e; cases e
  | ct _ _ => rw [z] at e; cases e
  | exc _ _ => rw [z] at e; cases e
  | bad => rw [z] at e; cases e
end
section
variable {X : Cx} {T : Tab} {Ew : VK} {e : Expr} {es : List Expr} {fs : Ax} {pos p0 : Pos} {k : Nat} {f : Addr} {fd : FuncData} {ps : List Str} {fn : List PV → Out} {x : Str}
theorem re_callH (F : FnOkH X.prog X.w X.K X.mg X.base k f fd ps (spP X.K T ps.length fn)) (hfn : ∀ qs v, fn qs = .ok v → qs.length = ps.length) (hr : RoomH k X.A) (hg : Gl X x) (hm : X.mg x = some (.ref f)) (hk : PySem.W.keepIn X.K (.ref f) = true) (hb : Binds X.K fd ps [])
    (ha : RA X T Ew (e :: es) fs) (hdb : (x == ("__debug__" : Str)) = false := by decide) (he : starEach (e :: es) X.env = (false, eval e X.env) :: starEach es X.env := by rfl) (hpl : (backTo pos (starEach es X.env)).any (·.1) = false := by rfl) :
    RE X T Ew (.Call (.Name x p0) (e :: es) [] pos) (cCall fn fs) := by with_unfolding_all
  refine PE.imp (pe_callH F hr hg hm hk hb ha hdb he hpl) fun σ H Q ⟨F, m, ρ, h, R, p⟩ => ⟨F, m, ρ, h, R, (Post.bind p).mono fun vs H1 ⟨F1, m1, h1, qs, s1, R1, r1, w1⟩ => ?_⟩
  rw [List.append_nil]
  exact call_post hfn R1 r1 w1
end
end L3
set_option Elab.async false
set_option linter.all false
set_option maxRecDepth 100000
set_option maxHeartbeats 4000000
set_option autoImplicit false
namespace L3
open PySem PySem.Spec PyProof.Rows L2
def cBad : Ex := fun _ _ => .bad
section
variable {X : Cx} {T : Tab} {Ew : VK} {a b e : Expr} {es : List Expr} {fa fb : Ex} {fs : Ax} {pos : Pos}
theorem re_bad : RE X T Ew e cBad := by with_unfolding_all exact (
    fun pins s σ H Q I ⟨F, m, ρ, h, R, p⟩ => p.elim)
theorem re_dict0 : RE X T Ew (.Dict [] [] pos) (cK (.dct [])) := by with_unfolding_all exact (
    PE.imp pe_dnewK fun σ H Q ⟨F, m, ρ, h, R, p⟩ l hl => by
      obtain ⟨s, R'⟩ := Step.lay (o := .dK []) R.toRelH hl
      exact p _ m _ _ s R' (.dct (kvs := []) (.inl upd_same) rfl .nil))
def pAddM (p q : PV) (h : List PO) : Res PV := match lsM h p, lsM h q with
  | some a, some b => if a.length + b.length ≤ sizeLine then .ok (.ref h.length) (h ++ [.lst (a ++ b)]) else .bad
  | _, _ => .bad
theorem prim_addM {K : PySem.W.Frag} {T : Tab} : Prim2 K T (rAddA K) pAddM := by
  intro F m h H x y p q Q Ew R rp rq w
  unfold pAddM at w
  split at w
  · rename_i a b e1 e2
    split at w
    · rename_i hz
      obtain ⟨pa, va, rfl, ea, ra⟩ := lsM_rep R rp e1
      obtain ⟨pb, vb, rfl, eb, rb⟩ := lsM_rep R rq e2
      exact .inr (.inr (.inr (.inr ⟨pa, pb, va, vb, rfl, rfl, ea, eb, by rw [← ra.length, ← rb.length]; exact hz, post_new w R (ra.append rb)⟩)))
    · exact w.elim
  · exact w.elim
theorem re_addM (ha : RE X T Ew a fa) (hb : RE X T Ew b fb) : RE X T Ew (.BinOp a .Add b pos) (c2 pAddM fa fb) := by with_unfolding_all exact (
    re_op op_addA prim_addM ha hb)
end
def pIsNotB (p q : PV) (h : List PO) : Res PV := match p, q with
  | .bl b, .bl c => .ok (.bl (b != c)) h
  | _, _ => .bad
theorem op_isNotB {X : Cx} : OpR X (compareOp .IsNot) (fun x y H Q => ∃ c d, x = .bl c ∧ y = .bl d ∧ Q (.bl (c != d)) H) := by
  intro pins s σ H x y v u Q I rx ry h
  obtain ⟨c, d, rfl, rfl, q⟩ := h
  cases rx; cases ry
  exact isnot_bool ⟨.bl _, H, I, rfl, q⟩
theorem prim_isNotB {K : PySem.W.Frag} {T : Tab} : Prim2 K T (fun x y H Q => ∃ c d, x = .bl c ∧ y = .bl d ∧ Q (.bl (c != d)) H) pIsNotB := by
  intro F m h H x y p q Q Ew R rp rq w
  unfold pIsNotB at w
  split at w
  · cases rp; cases rq; exact ⟨_, _, rfl, rfl, post_ok w R (.bl _)⟩
  · exact w.elim
def pIsalnum (p : PV) (ps : List PV) (h : List PO) : Res PV := match p, ps with
  | .str x, [] => .ok (.bl (Txt.isalnum (S x))) h
  | _, _ => .bad
theorem prim_isalnum {K : PySem.W.Frag} {T : Tab} : PrimM K T (fun x xs H Q => ∃ z, x = .str z ∧ xs = [] ∧ Q (.bl (Txt.isalnum z)) H) pIsalnum := by
  intro F m h H x xs p ps Q Ew R rp rs w
  unfold pIsalnum at w
  split at w
  · cases rp
    cases rs
    exact ⟨_, rfl, rfl, post_ok w R (.bl _)⟩
  · exact w.elim
def blsOf : List PV → Option (List Bool)
  | [] => some []
  | .bl b :: r => (blsOf r).map (b :: ·)
  | _ => none
theorem blsOf_map : ∀ {ps : List PV} {bs : List Bool}, blsOf ps = some bs → ps = bs.map PV.bl
  | [], _, e => by cases e; rfl
  | p :: r, bs, e => by
    unfold blsOf at e
    split at e
    · rename_i h; cases h
    · rename_i b r' h
      cases h
      obtain ⟨cs, hc, rfl⟩ := Option.map_eq_some_iff.mp e
      rw [blsOf_map hc]; rfl
    · cases e
theorem reps_bls {K : PySem.W.Frag} {T : Tab} {F : Hp} {m : List Addr} : ∀ {bs : List Bool} {vs : List V}, RepVs K T F m (bs.map PV.bl) vs → vs = bs.map V.bl
  | [], _, .nil => rfl
  | b :: r, _, .cons q t => by cases q; rw [reps_bls t]; rfl
theorem vals_bls : ∀ {bs : List Bool} {us : List Value}, Vals (bs.map V.bl) us → us = bs.map Value.bool
  | [], _, .nil => rfl
  | b :: r, _, .cons q t => by cases (show _ = Value.bool b from q); rw [vals_bls t]; rfl
def isB (k : Bool) : Value → Bool
  | .bool b => b == k
  | _ => false
theorem isB_eq {A : Around} {s : Shared} (k : Bool) {bs : List Bool} : ∀ v, v ∈ (bs.map Value.bool).toArray → SeqAt.EqAt A s v (.bool k) (isB k v) := fun v hv => by
  obtain ⟨b, _, rfl⟩ := List.mem_map.mp (show v ∈ bs.map Value.bool from List.mem_toArray.mp hv)
  exact SeqAt.EqAt.bool_bool b k
section
variable {X : Cx}
def rCountB (K : PySem.W.Frag) : V → List V → Hp → VK → Prop := fun x xs H Q => ∃ (a : Addr) (bs : List Bool) (k : Bool), x = .ref a ∧ SqL K H a (bs.map V.bl) ∧ xs = [.bl k] ∧ Q (.int (bs.count k : Nat)) H
def rIndexB (K : PySem.W.Frag) : V → List V → Hp → VK → Prop := fun x xs H Q => ∃ (a : Addr) (bs : List Bool) (k : Bool), x = .ref a ∧ SqL K H a (bs.map V.bl) ∧ xs = [.bl k] ∧ bs.length ≤ sizeLine ∧ bs.idxOf k < bs.length ∧ Q (.int (bs.idxOf k : Nat)) H
theorem mt_countB : MtR X "list.count" (rCountB X.K) := by
  intro pins s σ H x xs v us Q I rx rv h
  obtain ⟨a, bs, k, rfl, sq, rfl, q⟩ := h
  cases rx
  obtain ⟨u, rfl, ru⟩ := rv.one
  cases (show u = Value.bool k from ru)
  obtain ⟨its, r, pl, _⟩ := I.list sq
  have e := vals_bls r
  subst e
  obtain ⟨⟨cls, dd, data, sl⟩, ho, hc, n, hd⟩ := pl.isList
  simp only at hc hd
  subst hc hd
  refine call_meets PySem.F.slot_list_count ⟨_, ho, rfl⟩ PySem.F.entry_list_count (PySem.F.args_list_count_2 _ _) (SeqAt.list_countAt a _ n dd sl (.bool k) (isB k)) ⟨ho, fun y hy => isB_eq k y hy, ?_⟩
  have e2 : List.countP (isB k) (bs.map Value.bool) = bs.count k := by
    rw [List.countP_map]; rfl
  rw [show (bs.map Value.bool).toArray.toList = bs.map Value.bool from rfl, e2]
  exact ⟨.int (bs.count k : Nat), H, I.tok _, ⟨_, rfl⟩, q⟩
theorem mt_indexB : MtR X "list.index" (rIndexB X.K) := by
  intro pins s σ H x xs v us Q I rx rv h
  obtain ⟨a, bs, k, rfl, sq, rfl, hz, hi, q⟩ := h
  cases rx
  obtain ⟨u, rfl, ru⟩ := rv.one
  cases (show u = Value.bool k from ru)
  obtain ⟨its, r, pl, _⟩ := I.list sq
  have e := vals_bls r
  subst e
  obtain ⟨⟨cls, dd, data, sl⟩, ho, hc, n, hd⟩ := pl.isList
  simp only at hc hd
  subst hc hd
  have hj : bs.idxOf k < (bs.map Value.bool).toArray.size := by simpa using hi
  have hsm : ((bs.idxOf k : Nat) : Int) < 2 ^ 63 - 1 := by rw [sizeLine_eq] at hz; omega
  have hit : isB k (bs.map Value.bool).toArray[bs.idxOf k] = true := by
    simp [isB]
  have hno : ∀ m (hm : m < (bs.map Value.bool).toArray.size), m < bs.idxOf k → isB k (bs.map Value.bool).toArray[m] = false := by
    intro m hm hlt
    have := List.not_of_lt_findIdx (p := (· == k)) (xs := bs) (i := m) hlt
    simpa [isB] using this
  refine call_meets PySem.F.slot_list_index ⟨_, ho, rfl⟩ PySem.F.entry_list_index (PySem.F.args_list_index_2 _ _) (SeqAt.list_indexAt a _ n dd sl (.bool k) (isB k) (bs.idxOf k) hj hsm hit hno) ⟨ho, fun y hy => isB_eq k y hy, ?_⟩
  exact ⟨.int (bs.idxOf k : Nat), H, I.tok _, ⟨_, rfl⟩, q⟩
end
def pCountB (p : PV) (ps : List PV) (h : List PO) : Res PV := match ps with
  | [.bl k] => match (lsR h p).bind blsOf with
    | some bs => .ok (.int (bs.count k : Nat)) h
    | none => .bad
  | _ => .bad
def pIndexB (p : PV) (ps : List PV) (h : List PO) : Res PV := match ps with
  | [.bl k] => match (lsR h p).bind blsOf with
    | some bs => if bs.length ≤ sizeLine ∧ bs.idxOf k < bs.length then .ok (.int (bs.idxOf k : Nat)) h else .bad
    | none => .bad
  | _ => .bad
theorem prim_countB {K : PySem.W.Frag} {T : Tab} : PrimM K T (rCountB K) pCountB := by
  intro F m h H x xs p ps Q Ew R rp rs w
  unfold pCountB at w
  split at w
  · rename_i k
    obtain ⟨y, rfl, ry⟩ := rs.one
    cases ry
    split at w
    · rename_i bs e
      obtain ⟨zs, e1, e2⟩ := Option.bind_eq_some_iff.mp e
      obtain ⟨a, vs, rfl, sq, rr⟩ := lsR_rep R rp e1
      rw [blsOf_map e2] at rr
      have := reps_bls rr
      subst this
      exact ⟨a, bs, k, rfl, sq, rfl, post_ok w R (.int _)⟩
    · exact w.elim
  · exact w.elim
theorem prim_indexB {K : PySem.W.Frag} {T : Tab} : PrimM K T (rIndexB K) pIndexB := by
  intro F m h H x xs p ps Q Ew R rp rs w
  unfold pIndexB at w
  split at w
  · rename_i k
    obtain ⟨y, rfl, ry⟩ := rs.one
    cases ry
    split at w
    · rename_i bs e
      split at w
      · rename_i hz
        obtain ⟨zs, e1, e2⟩ := Option.bind_eq_some_iff.mp e
        obtain ⟨a, vs, rfl, sq, rr⟩ := lsR_rep R rp e1
        rw [blsOf_map e2] at rr
        have := reps_bls rr
        subst this
        exact ⟨a, bs, k, rfl, sq, rfl, hz.1, hz.2, post_ok w R (.int _)⟩
      · exact w.elim
    · exact w.elim
  · exact w.elim
structure ClsGet (K : PySem.W.Frag) : Prop where
  get : PySem.W.specialIn K (.builtin "object.__class__") "__get__" = some (some (.builtin "getset_descriptor.__get__"))
  tk : PySem.W.takesIn K (.builtin "object.__class__") = some true
structure KCls (K : PySem.W.Frag) (C : Addr) : Prop where
  at_ : PySem.W.findIn K (.ref C) "__class__" = some (some (.builtin "object.__class__"))
  mo : PySem.W.mroIn K C (.type "object") = some true
  is_ : (PySem.W.clsIn K C).isSome = true
theorem kitx_exc {K : PySem.W.Frag} {a C : Addr} (g : ClsGet K) (c : KCls K C) (x : XCls K C) : PySem.W.KitX K (.ref a) (.ref C) (fun h => ∃ o vs, h.get? a = some o ∧ o.cls = .ref C ∧ o.data = .fields vs) := by
  obtain ⟨cd, hcd⟩ := Option.isSome_iff_exists.mp c.is_
  obtain ⟨oc, od, osl, hlk⟩ : ∃ oc od osl, K.lookup C = some ⟨oc, od, .cls cd, osl⟩ := by
    unfold PySem.W.clsIn at hcd
    split at hcd
    · rename_i c1 d1 cd1 s1 z; cases hcd; exact ⟨_, _, _, z⟩
    · cases hcd
  have ty : ∀ (M : Model) (h : Heap), (∃ o vs, h.get? a = some o ∧ o.cls = .ref C ∧ o.data = .fields vs) → PySem.W.Looks M h (typeOf (.ref a)) (.ref C) := fun M h ⟨o, vs, h1, h2, _⟩ => h2 ▸ (PySem.W.Looks.ld h1).andThen .now
  refine ⟨fun M h _ p => ty M h p, fun M h kin _ => ?_, fun h tp dd its n sl kin htp => ?_, fun {prog w A E Q s} kin p q => ?_⟩
  · intro A' Q' E' s' k z
    unfold isType loadHead
    exact wpAny_bind (wpAny_loadPart (k _ _ (kin _ _ hlk)) (wpAny_pure z))
  · refine Bool.eq_false_iff.mpr fun z => ?_
    cases beq_iff_eq.mp z
    have := (kin _ _ hlk).symm.trans htp
    cases this
  · exact x_class x kin (ty _ _ p) c.at_ g.get g.tk c.mo q
inductive ClO (K : PySem.W.Frag) (H : Hp) : V → Addr → Prop where
  | ins {a C dx : Addr} {fs : List (Str × V)} (e : H a = some (.ins C dx fs)) (cl : Cls K C) : ClO K H (.ref a) C
  | exc {a C : Addr} (e : H a = some (ExcO a (.ref C))) (x : XCls K C) : ClO K H (.ref a) C
def clV : V → Option Value
  | .ref D => some (.ref D)
  | .ty n => some (.type n)
  | _ => none
theorem call_isC {X : Cx} (g : ClsGet X.K) : CallR X (.builtin "isinstance") (fun xs H Q => ∃ x c t C b, xs = [x, c] ∧ clV c = some t ∧ ClO X.K H x C ∧ KCls X.K C ∧ PySem.W.kitOne X.K (.ref C) t = some b ∧ Q (.bl b) H) := by
  intro pins s σ H xs us Q I r h
  obtain ⟨x, c, t, C, b, rfl, ec, co, kc, e, q⟩ := h
  obtain ⟨u, w', rfl, ru, rw'⟩ := vals2 r
  have ew : w' = t := by
    unfold clV at ec
    split at ec
    · cases ec; exact rw'
    · cases ec; exact rw'
    · cases ec
  subst ew
  have fin : ∀ tk, EP X pins σ Q (.bool b) { s with toks := tk } := fun tk => ⟨.bl b, H, I.tok tk, rfl, q⟩
  cases co with
  | ins ea cl =>
    cases ru
    obtain ⟨mA, O, _⟩ := ins_get I.hok ea
    obtain ⟨od, J, _⟩ := O.look
    exact PySem.W.kia_one (PySem.W.kitx_own (cl.get _) cl.hd kc.at_ g.get g.tk kc.mo) I.kIn J e (fun z => nomatch z) fin
  | @exc a _ ea xc =>
    cases ru
    obtain ⟨p, _, _⟩ := (show ObjOk X.prog X.w H s.heap a (ExcO a (.ref C)) from I.hok a _ ea)
    exact PySem.W.kia_one (kitx_exc g kc xc) I.kIn p e (fun z => nomatch z) fin
structure IsTab (K : PySem.W.Frag) (T : Tab) (kd : Nat → Option Bool) (sC : Nat → Nat → Option Bool) (sT : Nat → String → Option Bool) : Prop where
  g : ClsGet K
  ins : ∀ C a, kd C = some false → T C = some a → Cls K a ∧ KCls K a
  exc : ∀ C a, kd C = some true → T C = some a → XCls K a ∧ KCls K a
  cls : ∀ C D a b r, sC C D = some r → T C = some a → T D = some b → PySem.W.kitOne K (.ref a) (.ref b) = some r
  ty : ∀ C t a r, sT C t = some r → T C = some a → PySem.W.kitOne K (.ref a) (.type t) = some r
def lookT : List (Nat × Nat × Bool) → Nat → Nat → Option Bool
  | [], _, _ => none
  | (a, b, r) :: l, C, D => if a = C ∧ b = D then some r else lookT l C D
def AllT (P : Nat → Nat → Bool → Prop) : List (Nat × Nat × Bool) → Prop
  | [] => True
  | (a, b, r) :: l => P a b r ∧ AllT P l
theorem lookT_all {P : Nat → Nat → Bool → Prop} : ∀ {l : List (Nat × Nat × Bool)} {C D : Nat} {r : Bool}, AllT P l → lookT l C D = some r → P C D r
  | [], _, _, _, _, e => by cases e
  | (a, b, q) :: l, C, D, r, h, e => by
    unfold lookT at e
    split at e
    · rename_i z
      obtain ⟨rfl, rfl⟩ := z
      cases e
      exact h.1
    · exact lookT_all h.2 e
def kindP : PV → Option (Nat × Bool)
  | .ins C _ => some (C, false)
  | .exc C => some (C, true)
  | _ => none
def subP (sC : Nat → Nat → Option Bool) (sT : Nat → String → Option Bool) (C : Nat) : PV → Option Bool
  | .cls D => sC C D
  | .ty t => sT C t
  | _ => none
def pIsC (kd : Nat → Option Bool) (sC : Nat → Nat → Option Bool) (sT : Nat → String → Option Bool) (ps : List PV) (h : List PO) : Res PV := match ps with
  | [p, q] => match kindP p with
    | some (C, b) => if kd C = some b then (match subP sC sT C q with
      | some r => .ok (.bl r) h
      | none => .bad) else .bad
    | none => .bad
  | _ => .bad
theorem prim_isC {K : PySem.W.Frag} {T : Tab} {kd : Nat → Option Bool} {sC : Nat → Nat → Option Bool} {sT : Nat → String → Option Bool} (tb : IsTab K T kd sC sT) :
    PrimN K T (fun xs H Q => ∃ x c t C b, xs = [x, c] ∧ clV c = some t ∧ ClO K H x C ∧ KCls K C ∧ PySem.W.kitOne K (.ref C) t = some b ∧ Q (.bl b) H) (pIsC kd sC sT) := by
  intro F m h H xs ps Q Ew R rs w
  unfold pIsC at w
  split at w
  · rename_i p q
    obtain ⟨x, y, rfl, rx, ry⟩ := rs.two
    split at w
    · rename_i C b ek
      split at w
      · rename_i hk
        split at w
        · rename_i r er
          have hq : Q (.bl r) H := post_ok w R (.bl _)
          have cy : ∀ {Ca}, T C = some Ca → ∃ t, clV y = some t ∧ PySem.W.kitOne K (.ref Ca) t = some r := fun hC => by
            unfold subP at er
            split at er
            · cases ry with | cls hD => exact ⟨_, rfl, tb.cls _ _ _ _ _ er hC hD⟩
            · cases ry; exact ⟨_, rfl, tb.ty _ _ _ _ er hC⟩
            · cases er
          unfold kindP at ek
          split at ek
          · cases ek
            cases rx with
            | @ins _ _ a Ca dx fvs c e d kk rr =>
              obtain ⟨cl, kc⟩ := tb.ins _ _ hk c
              obtain ⟨t, e1, e2⟩ := cy c
              exact ⟨_, _, t, Ca, r, rfl, e1, .ins (R.same _ _ e) cl, kc, e2, hq⟩
          · cases ek
            cases rx with
            | @exc _ a Ca c e =>
              obtain ⟨cl, kc⟩ := tb.exc _ _ hk c
              obtain ⟨t, e1, e2⟩ := cy c
              exact ⟨_, _, t, Ca, r, rfl, e1, .exc (R.same _ _ e) cl, kc, e2, hq⟩
          · cases ek
        · exact w.elim
      · exact w.elim
    · exact w.elim
  · exact w.elim
section
variable {X : Cx} {T : Tab} {Ew : VK} {e : Expr} {es : List Expr} {f : Ax} {p : Pos}
theorem re_isC {kd : Nat → Option Bool} {sC : Nat → Nat → Option Bool} {sT : Nat → String → Option Bool} {p0 : Pos} (tb : IsTab X.K T kd sC sT) (hg : Gl X "isinstance") (hm : X.mg "isinstance" = none) (ha : RA X T Ew (e :: es) f)
    (he : starEach (e :: es) X.env = (false, eval e X.env) :: starEach es X.env := by rfl) (hpl : (backTo p (starEach es X.env)).any (·.1) = false := by rfl) : RE X T Ew (.Call (.Name "isinstance" p0) (e :: es) [] p) (cN (pIsC kd sC sT) f) := by with_unfolding_all exact (
    re_callB (call_isC tb.g) (prim_isC tb) hg hm (by decide +kernel) ha (by decide) (by decide) he hpl)
end
def pEqU (p q : PV) (h : List PO) : Res PV := match p with
  | .dct _ => (match q with
    | .str _ => .ok (.bl false) h
    | _ => .bad)
  | p => pEq p q h
section
variable {X : Cx}
theorem dict_no_str (l : Addr) (es : Array DictEntry) (n : Nat) (dd : Option Addr) (sl : Array (Option Value)) (z : Str) (u : Tok) :
    Meets (Builtin.«dict.__eq__» ⟨[.ref l, .str z u], []⟩) (fun _ R s => s.heap.get? l = some { cls := .type "dict", dict := dd, data := .dict es n, slots := sl } ∧ R (.ok (.ret .notImplemented)) s) :=
  .of_wp fun prog w A R s h => by
    obtain ⟨hp, g, d, tk, os⟩ := s
    obtain ⟨hl, h⟩ := h
    have f1 := PySem.F.sub_str_dict
    wp_walk using PySem.AutoSeq1.wpAny_loadPart' hl
    exact ⟨_, rfl, h⟩
theorem str_no_dict (l : Addr) (es : Array DictEntry) (n : Nat) (dd : Option Addr) (sl : Array (Option Value)) (z : Str) (u : Tok) :
    Meets (Builtin.«str.__eq__» ⟨[.str z u, .ref l], []⟩) (fun _ R s => s.heap.get? l = some { cls := .type "dict", dict := dd, data := .dict es n, slots := sl } ∧ R (.ok (.ret .notImplemented)) s) :=
  .of_wp fun prog w A R s h => by
    obtain ⟨hp, g, d, tk, os⟩ := s
    obtain ⟨hl, h⟩ := h
    wp_walk using PySem.AutoSeq1.wpAny_loadPart' hl, wpAny_load hl
    exact ⟨_, rfl, h⟩
def rEqU (K : PySem.W.Frag) : R2 := fun x y H Q => rEqD K false x y H Q ∨ ∃ a kvs z, x = .ref a ∧ y = .str z ∧ Rd H a (.dK kvs) ∧ Q (.bl false) H
theorem op_eqU (hu : X.A.units + 64 < cLine) : OpR X (compareOp .Eq) (rEqU X.K) := OpR.or (op_eqD hu) (by
  intro pins s σ H x y v u Q I rx ry h
  obtain ⟨a, kvs, z, rfl, rfl, rd, q⟩ := h
  cases rx
  obtain ⟨t, rfl⟩ := ry
  obtain ⟨_, _, vs, _, o, es, ep, h1, h2, h3, _⟩ := dk_rd I.hok rd
  obtain ⟨oc, od, odt, osl⟩ := o
  have hc : oc = .type "dict" := h2.1
  dsimp only at h3
  subst hc h3
  show wpAny _ _ (richCompare .Eq _ _) _ _ _
  exact SeqAt.rc_eq_decline_or (k := false) ⟨_, h1, rfl⟩ (typeIs_str s z t) (by decide) PySem.F.sub_str_dict PySem.F.slot_dict_eq PySem.F.slot_str_eq_refl
    (fun _ hq => call_meets PySem.F.slot_dict_eq ⟨_, h1, rfl⟩ PySem.F.entry_dict_eq (PySem.F.args_dict_eq_2 _ _) (dict_no_str a _ _ _ _ z t) ⟨h1, hq⟩)
    (fun _ hq => call_meets PySem.F.slot_str_eq_refl (typeIs_str s z t) PySem.F.entry_str_eq (PySem.F.args_str_eq_2 _ _) (str_no_dict a _ _ _ _ z t) ⟨h1, hq⟩)
    (fun _ hq => wpAny_of_eq (rfl : isSame (.ref a) (.str z t) = pure false) hq) (.inr (by omega)) ⟨.bl false, H, I, rfl, q⟩)
theorem prim_eqU {K : PySem.W.Frag} {T : Tab} : Prim2 K T (rEqU K) pEqU := by
  intro F m h H x y p q Q Ew R rp rq w
  unfold pEqU at w
  split at w
  · split at w
    · cases rq
      cases rp with
      | dct e k r => exact .inr ⟨_, _, _, rfl, rfl, Rd.same R.same e, post_ok w R (.bl _)⟩
    · exact w.elim
  · exact .inl (prim_eq F m h H x y _ q Q Ew R rp rq w)
end
def onlyX (ok : Nat → Bool) : OutX → OutX
  | .exc C => if ok C = true then .exc C else .bad
  | r => r
theorem fx_only {T : Tab} {np n : Nat} {g : Sx} {ok : Nat → Bool} (h : ∀ C, ok C = true → ∃ a, T C = some a) : FnX T np (fun ps => onlyX ok (runX g np n ps)) := by
  refine ⟨fun qs z => ?_, fun qs C z => ?_⟩
  · unfold runX at z
    by_cases hl : qs.length = np
    · exact hl
    · simp only [if_neg hl] at z
      exact absurd rfl z
  · cases y : runX g np n qs with
    | ok v => rw [y] at z; cases z
    | bad => rw [y] at z; cases z
    | exc D =>
      rw [y] at z
      by_cases hD : ok D = true
      · rw [show onlyX ok (.exc D) = .exc D from if_pos hD] at z
        cases z; exact h _ hD
      · rw [show onlyX ok (.exc D) = .bad from if_neg hD] at z
        cases z
theorem fn_only {P : Program} {w : World} {K : PySem.W.Frag} {mg : Str → Option Value} {base : Heap} {CX : CXT} {k : Nat} {f : Addr} {fd : FuncData} {ps : List Str} {T : Tab} {np : Nat} {fn : List PV → OutX} {ok : Nat → Bool} (G : FnOk P w K mg base CX k f fd ps (spX K T np fn)) :
    FnOk P w K mg base CX k f fd ps (spX K T np fun qs => onlyX ok (fn qs)) := by
  refine G.imp fun vs H Q E h => ?_
  obtain ⟨F, qs, hl, sm, r, q⟩ := h
  refine ⟨F, qs, hl, sm, r, ?_⟩
  dsimp only at q
  cases y : fn qs with
  | ok v => rw [y] at q; exact q
  | bad => rw [y] at q; exact q.elim
  | exc C =>
    rw [y] at q
    by_cases hC : ok C = true
    · rw [show onlyX ok (.exc C) = .exc C from if_pos hC] at q
      exact q
    · rw [show onlyX ok (.exc C) = .bad from if_neg hC] at q
      exact q.elim
def oneP (ps : List PV) (h : List PO) : Res PV := match ps with
  | [p] => .ok p h
  | _ => .bad
def cXAt (z : Bool) (as : Ax) : Ex := if z = true then fun ρ h => (as ρ h).bind oneP else cBad
section
variable {X : Cx} {T : Tab} {Ew : VK} {C fI : Addr} {fd : FuncData} {ps : List Str} {f x : Str} {e : Expr} {pos p apos : Pos} {fs : Ax} {k : Nat}
theorem re_xat (G : FnOk X.prog X.w X.K X.mg X.base CX0 1 fI fd ps (spXI X.K f)) (c : XIn X.K C fI f) (hb : Binds X.K fd ps []) (hr : Room k X.A) (hg : Gl X x) (hm : X.mg x = some (.ref C)) (ha : RA X T Ew [e] fs) (hl : ps.length = 2 := by rfl)
    (hbase : attributeBase (.Call (.Name x p) [e] [] pos) f X.env (eval (.Call (.Name x p) [e] [] pos) X.env) = eval (.Call (.Name x p) [e] [] pos) X.env := by rfl)
    (hdb : (x == ("__debug__" : Str)) = false := by decide) (he : starEach [e] X.env = [(false, eval e X.env)] := by rfl) (hpl : (backTo pos (starEach [] X.env)).any (·.1) = false := by rfl) :
    RE X T Ew (.Attribute (.Call (.Name x p) [e] [] pos) f apos) (cXAt (Nat.ble 2 k) fs) := by with_unfolding_all
  by_cases hz : Nat.ble 2 k = true
  · unfold cXAt
    rw [if_pos hz]
    refine PE.imp (pe_xat G c hb hl (hr.mono (Nat.le_of_ble_eq_true hz)) hg hm ha hbase hdb he hpl) fun σ H Q ⟨F, m, ρ, h, R, q⟩ => ⟨F, m, ρ, h, R, (Post.bind q).mono fun vs H1 ⟨F1, m1, h1, qs, s1, R1, r1, w1⟩ => ?_⟩
    unfold oneP at w1
    split at w1
    · rename_i p1
      obtain ⟨y, rfl, ry⟩ := r1.one
      refine ⟨y, rfl, c, fun a dx na nd ne => ?_⟩
      obtain ⟨s2, R2⟩ := Step.lay (o := ExcD a (.ref C) dx) R1 na
      have nd2 : upd H1 a (ExcD a (.ref C) dx) dx = none := by rw [upd_ne (Ne.symm ne)]; exact nd
      obtain ⟨s3, R3⟩ := Step.lay (o := XdO dx f y) R2 nd2
      exact w1 _ m1 _ y (s2.trans s3) R3 ((s2.trans s3).rep ry)
    · exact w1.elim
  · unfold cXAt
    rw [if_neg hz]
    exact re_bad
end
end L3
set_option Elab.async false
set_option linter.all false
set_option maxRecDepth 100000
set_option maxHeartbeats 4000000
set_option autoImplicit false
namespace L3
open PySem L2
section
variable (ρ : Ev) (h : List PO)
@[simp] theorem ev_var (i : Nat) : cVar i ρ h = match ρ[i]? with | some (some p) => .ok (derefP h p) h | _ => .bad := id rfl
@[simp] theorem ev_K (v : PV) : cK v ρ h = .ok v h := id rfl
@[simp] theorem ev_c1 (g : PV → List PO → Res PV) (a : Ex) : c1 g a ρ h = (a ρ h).bind g := id rfl
@[simp] theorem ev_c2 (g : PV → PV → List PO → Res PV) (a b : Ex) : c2 g a b ρ h = (a ρ h).bind fun x h1 => (b ρ h1).bind fun y h2 => g x y h2 := id rfl
@[simp] theorem ev_cN (g : List PV → List PO → Res PV) (a : Ax) : cN g a ρ h = (a ρ h).bind g := id rfl
@[simp] theorem ev_nil : aNil ρ h = .ok [] h := id rfl
@[simp] theorem ev_cons (a : Ex) (r : Ax) : aCons a r ρ h = (a ρ h).bind fun x h1 => (r ρ h1).bind fun xs h2 => .ok (x :: xs) h2 := id rfl
@[simp] theorem ev_and (f g : Ex) : cAnd f g ρ h = (f ρ h).bind fun p h1 => match p with | .bl b => if b = true then g ρ h1 else .ok (.bl false) h1 | _ => .bad := id rfl
@[simp] theorem ev_not (f : Ex) : cNot f ρ h = (f ρ h).bind fun p h1 => match p with | .bl b => .ok (.bl (!b)) h1 | _ => .bad := id rfl
@[simp] theorem ev_ifE (t : Tx) (f g : Ex) : cIfE t f g ρ h = (t ρ h).bind fun b h1 => if b = true then f ρ h1 else g ρ h1 := id rfl
@[simp] theorem ev_sl (a : Ex) (lo hi : Ox) : cSl a lo hi ρ h = (a ρ h).bind fun p h1 => (lo ρ h1).bind fun l h2 => (hi ρ h2).bind fun u h3 => pSl p l u h3 := id rfl
@[simp] theorem ev_oNone : oNone ρ h = .ok none h := id rfl
@[simp] theorem ev_oSome (f : Ex) : oSome f ρ h = (f ρ h).bind fun p h1 => match p with | .int i => .ok (some i) h1 | _ => .bad := id rfl
@[simp] theorem ev_cM (recv : List PO → PV → Bool) (g : PV → List PV → List PO → Res PV) (o : Ex) (as : Ax) : cM recv g o as ρ h = (o ρ h).bind fun p h1 => if recv h1 p = true then (as ρ h1).bind fun ps h2 => g p ps h2 else .bad := id rfl
@[simp] theorem ev_call (fn : List PV → Out) (as : Ax) : cCall fn as ρ h = (as ρ h).bind (callO fn) := id rfl
@[simp] theorem ev_meth (res : Nat → Option (List PV → Out)) (o : Ex) (as : Ax) : cMeth res o as ρ h = (o ρ h).bind fun p h1 => match p with | .ins C [] => (match res C with | some fn => (as ρ h1).bind fun ps h2 => callO fn (.ins C [] :: ps) h2 | none => .bad) | _ => .bad := id rfl
@[simp] theorem ev_make (C : Nat) : cMake C ρ h = .ok (.ins C []) h := id rfl
@[simp] theorem ev_get2 (d k x : Ex) : cGet2 d k x ρ h = (d ρ h).bind fun p h1 => if (dcR h1 p).isSome = true then (k ρ h1).bind fun q h2 => (x ρ h2).bind fun z h3 => (match dcR h3 p with | some kvs => (match keyOf q with | some kk => .ok (match valP kvs kk with | some v => derefP h3 v | none => z) h3 | none => .bad) | none => .bad) else .bad := id rfl
@[simp] theorem ev_tTru (f : Ex) : tTruE f ρ h = (f ρ h).bind fun p h1 => match truP h1 p with | some b => .ok b h1 | none => .bad := id rfl
@[simp] theorem ev_tCmp (f : Ex) : tCmpE f ρ h = (f ρ h).bind fun p h1 => match p with | .bl b => .ok b h1 | _ => .bad := id rfl
@[simp] theorem ev_tNot (f : Tx) : tNotE f ρ h = (f ρ h).bind fun b h1 => .ok (!b) h1 := id rfl
@[simp] theorem ev_tOr (f g : Tx) : tOrE f g ρ h = (f ρ h).bind fun b h1 => if b = true then .ok true h1 else g ρ h1 := id rfl
@[simp] theorem ev_range1 (f : Ax) : aRange1 f ρ h = (f ρ h).bind fun ps h1 => match ps with | [.int j] => if bel 4611686018427387904 j = true then .ok ((List.range j.toNat).map fun i => PV.int (0 + (i : Nat))) h1 else .bad | _ => .bad := id rfl
@[simp] theorem ev_aSeq (f : Ex) : aSeq f ρ h = (f ρ h).bind seqIt := id rfl
@[simp] theorem ev_aComp (caps : List Nat) (it : Ax) (tt : Tx) (te : Ex) : aComp caps it tt te ρ h = (it ρ h).bind fun xs h1 => if xs.length < sizeLine then compL tt te (capP caps ρ) xs h1 else .bad := id rfl
@[simp] theorem ev_sNil : sNil ρ h = .nx ρ h := id rfl
@[simp] theorem ev_sSeq (f g : Sx) : sSeq f g ρ h = match f ρ h with | .nx ρ1 h1 => g ρ1 h1 | .rt v h1 => .rt v h1 | .bk ρ1 h1 => .bk ρ1 h1 | .ct ρ1 h1 => .ct ρ1 h1 | .exc v h1 => .exc v h1 | .bad => .bad := id rfl
@[simp] theorem ev_sRet (f : Ex) : sRet f ρ h = eThen (f ρ h) fun v h1 => .rt v h1 := id rfl
@[simp] theorem ev_sDrop (f : Ex) : sDrop f ρ h = eThen (f ρ h) fun _ h1 => .nx ρ h1 := id rfl
@[simp] theorem ev_sIf (t : Tx) (f g : Sx) : sIf t f g ρ h = bThen (t ρ h) fun b h1 => if b = true then f ρ h1 else g ρ h1 := id rfl
@[simp] theorem ev_sSet (i : Nat) (f : Ex) : sSet i f ρ h = eThen (f ρ h) fun v h1 => .nx (ρ.set i (some v)) h1 := id rfl
@[simp] theorem ev_sFor (it : Ax) (g : Gx) (body : Sx) : sFor it g body ρ h = lThen (it ρ h) fun xs h1 => loopS g body xs ρ h1 := id rfl
@[simp] theorem ev_loop0 (g : Gx) (body : Sx) : loopS g body [] ρ h = .nx ρ h := id rfl
@[simp] theorem ev_gNm (i : Nat) (p : PV) : gNm i p ρ = some (ρ.set i (some p)) := id rfl
end
theorem ev_loop (g : Gx) (body : Sx) (p : PV) (r : List PV) (ρ : Ev) (h : List PO) : loopS g body (p :: r) ρ h = match g p ρ with
    | some ρ1 => (match body ρ1 h with
      | .nx ρ2 h2 => loopS g body r ρ2 h2
      | .ct ρ2 h2 => loopS g body r ρ2 h2
      | .bk ρ2 h2 => .nx ρ2 h2
      | .rt v h2 => .rt v h2
      | .exc v h2 => .exc v h2
      | .bad => .bad)
    | none => .bad := rfl
section
variable (h : List PO)
@[simp] theorem dr_int (i : Int) : derefP h (.int i) = .int i := id rfl
@[simp] theorem dr_bl (i : Bool) : derefP h (.bl i) = .bl i := id rfl
@[simp] theorem dr_str (i : List Nat) : derefP h (.str i) = .str i := id rfl
@[simp] theorem dr_non : derefP h .non = .non := id rfl
@[simp] theorem dr_tup (i : List PV) : derefP h (.tup i) = .tup i := id rfl
@[simp] theorem dr_lst (i : List PV) : derefP h (.lst i) = .lst i := id rfl
@[simp] theorem dr_giv (i : List PV) : derefP h (.giv i) = .giv i := id rfl
@[simp] theorem dr_dct (i : List (PK × PV)) : derefP h (.dct i) = .dct i := id rfl
@[simp] theorem dr_ins (c : Nat) (i : List (Str × PV)) : derefP h (.ins c i) = .ins c i := id rfl
@[simp] theorem dr_ref0 (xs : List PV) (r : List PO) : derefP (.lst xs :: r) (.ref 0) = .ref 0 := id rfl
@[simp] theorem add_ii (i j : Int) : pAdd (.int i) (.int j) h = .ok (.int (i + j)) h := id rfl
@[simp] theorem add_ss (a b : List Nat) : pAdd (.str a) (.str b) h = if a.length + b.length ≤ sizeLine then .ok (.str (a ++ b)) h else .bad := id rfl
@[simp] theorem add_ll (a b : List PV) : pAdd (.lst a) (.lst b) h = if a.length + b.length ≤ sizeLine then .ok (.lst (a ++ b)) h else .bad := id rfl
@[simp] theorem sub_ii (i j : Int) : pSub (.int i) (.int j) h = .ok (.int (i - j)) h := id rfl
@[simp] theorem mul_ii (i j : Int) : pMul (.int i) (.int j) h = if mulC i j = true then .ok (.int (i * j)) h else .bad := id rfl
@[simp] theorem mul_si (a : List Nat) (k : Int) : pMul (.str a) (.int k) h = if bel 1048576 k = true ∧ a.length * k.toNat ≤ 1048576 then .ok (.str (repL a k)) h else .bad := id rfl
@[simp] theorem pI_ii (C : Int → Int → Bool) (g : Int → Int → Int) (i j : Int) : pI C g (.int i) (.int j) h = if C i j = true then .ok (.int (g i j)) h else .bad := id rfl
@[simp] theorem neg_i (i : Int) : pNeg (.int i) h = .ok (.int (-i)) h := id rfl
@[simp] theorem cmp_ii (g : Int → Int → Bool) (i j : Int) : pCmp g (.int i) (.int j) h = .ok (.bl (g i j)) h := id rfl
@[simp] theorem ix_si (l : List Nat) (i : Int) : pIx (.str l) (.int i) h = match atI l i with | some c => if l.length ≤ sizeLine then .ok (.str [c]) h else .bad | none => .bad := id rfl
@[simp] theorem ix_ti (l : List PV) (i : Int) : pIx (.tup l) (.int i) h = match atI l i with | some v => .ok (derefP h v) h | none => .bad := id rfl
@[simp] theorem ix_li (l : List PV) (i : Int) : pIx (.lst l) (.int i) h = match atI l i with | some v => .ok (derefP h v) h | none => .bad := id rfl
@[simp] theorem ix_gi (l : List PV) (i : Int) : pIx (.giv l) (.int i) h = match atI l i with | some v => .ok (derefP h v) h | none => .bad := id rfl
@[simp] theorem sl_s (l : List Nat) (lo hi : Option Int) : pSl (.str l) lo hi h = if l.length ≤ sizeLine then .ok (.str (cut l lo hi)) h else .bad := id rfl
@[simp] theorem len_s (l : List Nat) : pLen [.str l] h = match (if l.length ≤ sizeLine then some l.length else none) with | some n => .ok (.int n) h | none => .bad := id rfl
@[simp] theorem len_t (l : List PV) : pLen [.tup l] h = .ok (.int l.length) h := id rfl
@[simp] theorem len_l (l : List PV) : pLen [.lst l] h = .ok (.int l.length) h := id rfl
@[simp] theorem len_g (l : List PV) : pLen [.giv l] h = .ok (.int l.length) h := id rfl
@[simp] theorem lst_mk (ps : List PV) : pLst ps h = if ps.length ≤ sizeLine then .ok (.lst ps) h else .bad := id rfl
@[simp] theorem lstM_mk (ps : List PV) : pLstM ps h = if ps.length ≤ sizeLine then .ok (.ref h.length) (h ++ [.lst ps]) else .bad := id rfl
@[simp] theorem tup_mk (ps : List PV) : pTup ps h = if ps.length ≤ sizeLine then .ok (.tup ps) h else .bad := id rfl
@[simp] theorem okL_mk (ps : List PV) : okL ps h = .ok (.lst ps) h := id rfl
@[simp] theorem int_b (b : Bool) : pInt [.bl b] h = .ok (.int (if b then 1 else 0)) h := id rfl
@[simp] theorem abs_i (i : Int) : pAbs [.int i] h = .ok (.int (if i < 0 then -i else i)) h := id rfl
@[simp] theorem str_i (i : Int) : pStr [.int i] h = if i.natAbs.log2 < 1920 then .ok (.str (strI i)) h else .bad := id rfl
@[simp] theorem seqIt_s (l : List Nat) : seqIt (.str l) h = .ok (l.map fun c => PV.str [c]) h := id rfl
@[simp] theorem find_ss (x y : List Nat) : pFind (.str x) [.str y] h = .ok (.int (findI (firstFrom y x 0))) h := id rfl
@[simp] theorem isStr_s (x : List Nat) : isStr h (.str x) = true := id rfl
@[simp] theorem frz_int (i : Int) : frzV h (.int i) = some (.int i, h) := by simp [frzV, PV.pure]
@[simp] theorem frz_bl (i : Bool) : frzV h (.bl i) = some (.bl i, h) := by simp [frzV, PV.pure]
@[simp] theorem frz_non : frzV h .non = some (.non, h) := by simp [frzV, PV.pure]
@[simp] theorem frz_str (i : List Nat) : frzV h (.str i) = some (.str i, h) := by simp [frzV, PV.pure]
@[simp] theorem frz_ins (c : Nat) : frzV h (.ins c []) = some (.ins c [], h) := by simp [frzV, PV.pure, purefs]
theorem frz_giv {l : List PV} (q : pures l = true) : frzV h (.giv l) = some (.giv l, h) := by simp [frzV, PV.pure, q]
theorem frz_lst {l : List PV} (q : pures l = true) : frzV h (.lst l) = some (.lst l, h) := by simp [frzV, PV.pure, q]
theorem frz_tup {l : List PV} (q : pures l = true) : frzV h (.tup l) = some (.tup l, h) := by simp [frzV, PV.pure, q]
@[simp] theorem frzs_nil : frzs [] h = some ([], h) := id rfl
@[simp] theorem frzs_cons (p : PV) (r : List PV) : frzs (p :: r) h = match frzV h p with | some (q, h1) => (match frzs r h1 with | some (qs, h2) => some (q :: qs, h2) | none => none) | none => none := id rfl
@[simp] theorem notin_ss (a b : List Nat) : pNotIn (.str a) (.str b) h = .ok (.bl (!inStr a b)) h := id rfl
@[simp] theorem tru_b (b : Bool) : truP h (.bl b) = some b := id rfl
@[simp] theorem isin_s_str (l : List Nat) : pIsinst [.str l, .ty "str"] h = .ok (.bl true) h := id rfl
@[simp] theorem isin_s_int (l : List Nat) : pIsinst [.str l, .ty "int"] h = .ok (.bl false) h := id rfl
@[simp] theorem isin_s_bool (l : List Nat) : pIsinst [.str l, .ty "bool"] h = .ok (.bl false) h := id rfl
@[simp] theorem isin_i_str (l : Int) : pIsinst [.int l, .ty "str"] h = .ok (.bl false) h := id rfl
@[simp] theorem isin_i_int (l : Int) : pIsinst [.int l, .ty "int"] h = .ok (.bl true) h := id rfl
@[simp] theorem isin_i_bool (l : Int) : pIsinst [.int l, .ty "bool"] h = .ok (.bl false) h := id rfl
@[simp] theorem isin_b_str (l : Bool) : pIsinst [.bl l, .ty "str"] h = .ok (.bl false) h := id rfl
@[simp] theorem isin_b_int (l : Bool) : pIsinst [.bl l, .ty "int"] h = .ok (.bl true) h := id rfl
@[simp] theorem isin_b_bool (l : Bool) : pIsinst [.bl l, .ty "bool"] h = .ok (.bl true) h := id rfl
@[simp] theorem isin_n_str  : pIsinst [.non, .ty "str"] h = .ok (.bl false) h := id rfl
@[simp] theorem isin_n_int  : pIsinst [.non, .ty "int"] h = .ok (.bl false) h := id rfl
@[simp] theorem isin_n_bool  : pIsinst [.non, .ty "bool"] h = .ok (.bl false) h := id rfl
@[simp] theorem isin_t_str (l : List PV) : pIsinst [.tup l, .ty "str"] h = .ok (.bl false) h := id rfl
@[simp] theorem isin_t_int (l : List PV) : pIsinst [.tup l, .ty "int"] h = .ok (.bl false) h := id rfl
@[simp] theorem isin_t_bool (l : List PV) : pIsinst [.tup l, .ty "bool"] h = .ok (.bl false) h := id rfl
@[simp] theorem isin_t_tuple (l : List PV) : pIsinst [.tup l, .ty "tuple"] h = .ok (.bl true) h := id rfl
@[simp] theorem isin_l_str (l : List PV) : pIsinst [.lst l, .ty "str"] h = .ok (.bl false) h := id rfl
@[simp] theorem isin_l_int (l : List PV) : pIsinst [.lst l, .ty "int"] h = .ok (.bl false) h := id rfl
@[simp] theorem isin_l_bool (l : List PV) : pIsinst [.lst l, .ty "bool"] h = .ok (.bl false) h := id rfl
@[simp] theorem isin_d_str (l : List (PK × PV)) : pIsinst [.dct l, .ty "str"] h = .ok (.bl false) h := id rfl
@[simp] theorem isin_d_int (l : List (PK × PV)) : pIsinst [.dct l, .ty "int"] h = .ok (.bl false) h := id rfl
@[simp] theorem isin_d_bool (l : List (PK × PV)) : pIsinst [.dct l, .ty "bool"] h = .ok (.bl false) h := id rfl
end
theorem szl : (sizeLine : Nat) = 16777216 := by decide
theorem callO_def (fn : List PV → Out) (ps : List PV) (h : List PO) : callO fn ps h = match frzs ps h with | some (qs, h2) => (match fn qs with | .ok v => .ok v h2 | .bad => .bad) | none => .bad := rfl
theorem mulC_r {i j : Int} (h : bel 18446744073709551616 j = true) : mulC i j = true := by unfold mulC; rw [h, Bool.or_true]
theorem mulC_l {i j : Int} (h : bel 18446744073709551616 i = true) : mulC i j = true := by unfold mulC; rw [h, Bool.true_or]
theorem pEq_ss (a b : List Nat) (h : List PO) (ha : ∀ c ∈ a, c < 1114112) (hb : ∀ c ∈ b, c < 1114112) : pEq (.str a) (.str b) h = .ok (.bl (decide (a = b))) h := by
  have ok : ∀ l : List Nat, (∀ c ∈ l, c < 1114112) → okD h (.str l) = true := by
    intro l hl
    unfold okD dOf
    simp only [toD, PyData.canLay0, PyData.depth]
    simp [PyData.strOk, S]
    exact hl
  unfold pEq
  rw [if_pos ⟨ok a ha, ok b hb⟩]
  have e : PyData.eqv (dOf h (.str a)) (dOf h (.str b)) = decide (a = b) := by
    show PyData.eqv (toD (.str a)) (toD (.str b)) = _
    simp only [toD, PyData.eqv]
    by_cases q : a = b
    · subst q; simp
    · have : ¬ S a = S b := fun z => q (S_inj z)
      simp [q, this]
  rw [e]
end L3
set_option Elab.async false
set_option linter.all false
set_option maxRecDepth 100000
set_option maxHeartbeats 4000000
set_option autoImplicit false
namespace L3
open PySem L2
theorem compL_filter {tt : Tx} {te : Ex} {cp : Ev} {h : List L3.PO} {t : PV → Bool} {f : PV → PV} : ∀ (xs : List PV), (∀ p ∈ xs, tt (some p :: cp) h = .ok (t p) h) → (∀ p ∈ xs, te (some p :: cp) h = .ok (f p) h) →
    compL tt te cp xs h = .ok ((xs.filter t).map f) h
  | [], _, _ => rfl
  | p :: r, h1, h2 => by
    have ih := compL_filter r (fun q hq => h1 q (List.mem_cons_of_mem _ hq)) (fun q hq => h2 q (List.mem_cons_of_mem _ hq))
    rw [compL, h1 p List.mem_cons_self]
    cases e : t p with
    | true => simp only [Res.bind_ok, if_true, h2 p List.mem_cons_self, ih, List.filter_cons, e, List.map_cons]
    | false => simp only [Res.bind_ok, Bool.false_eq_true, if_false, ih, List.filter_cons, e]
theorem compL_map {te : Ex} {cp : Ev} {h : List L3.PO} {f : PV → PV} (xs : List PV) (h2 : ∀ p ∈ xs, te (some p :: cp) h = .ok (f p) h) : compL tYesE te cp xs h = .ok (xs.map f) h := by
  have := compL_filter (tt := tYesE) (t := fun _ => true) xs (fun _ _ => rfl) h2
  rw [this, List.filter_eq_self.mpr (fun _ _ => rfl)]
theorem atI_getD {α : Type} {xs : List α} {i : Int} (d : α) (h0 : 0 ≤ i) (h1 : i < (xs.length : Int)) : atI xs i = some (xs.getD i.toNat d) := by
  refine atI_at h0 ?_
  rw [List.getD_eq_getElem?_getD, List.getElem?_eq_getElem (by omega)]; rfl
theorem getD_mem {α : Type} {xs : List α} {n : Nat} {d : α} (h : n < xs.length) : xs.getD n d ∈ xs := by
  rw [List.getD_eq_getElem?_getD, List.getElem?_eq_getElem h]; exact List.getElem_mem h
theorem joinL_nil : ∀ ls : List (List Nat), joinL [] ls = ls.flatten
  | [] => rfl
  | [x] => by simp [joinL]
  | x :: y :: r => by
    show x ++ [] ++ joinL [] (y :: r) = _
    rw [joinL_nil (y :: r), List.append_nil]; rfl
theorem pJoin_of {sep : List Nat} {q : PV} {ls : List (List Nat)} {h : List L3.PO} (e : lsR h q = some (ls.map PV.str)) (hz : (ls.map (fun l => l.length)).sum + ls.length * sep.length ≤ 16777216) : pJoin (.str sep) [q] h = .ok (.str (joinL sep ls)) h := by
  unfold pJoin
  simp only [e, strsOf_of, hz, if_true]
theorem pJoin_l {ls : List (List Nat)} {h : List L3.PO} (hz : (ls.map (fun l => l.length)).sum ≤ 16777216) : pJoin (.str []) [.lst (ls.map PV.str)] h = .ok (.str ls.flatten) h := by
  rw [pJoin_of (ls := ls) rfl (by simpa using hz), joinL_nil]
theorem pJoin_r {ls : List (List Nat)} {r : List L3.PO} (hz : (ls.map (fun l => l.length)).sum ≤ 16777216) : pJoin (.str []) [.ref 0] (.lst (ls.map PV.str) :: r) = .ok (.str ls.flatten) (.lst (ls.map PV.str) :: r) := by
  rw [pJoin_of (ls := ls) rfl (by simpa using hz), joinL_nil]
theorem app0 (xs : List PV) (r : List L3.PO) (p : PV) : pAppend (.ref 0) [p] (.lst xs :: r) = if xs.length < sizeLine then .ok .non (.lst (xs ++ [p]) :: r) else .bad := rfl
theorem isLst0 (xs : List PV) (r : List L3.PO) : isLst (.lst xs :: r) (.ref 0) = true := rfl
theorem pEq_ii (a b : Int) (h : List L3.PO) : pEq (.int a) (.int b) h = .ok (.bl (decide (a = b))) h := by
  have ok : ∀ l : Int, okD h (.int l) = true := fun l => by unfold okD dOf; simp [toD, PyData.canLay0, PyData.depth]
  unfold pEq
  rw [if_pos ⟨ok a, ok b⟩]
  have e : PyData.eqv (dOf h (.int a)) (dOf h (.int b)) = decide (a = b) := by
    show PyData.eqv (toD (.int a)) (toD (.int b)) = _
    simp only [toD, PyData.eqv]
    by_cases q : a = b <;> simp [q]
  rw [e]
theorem pNe_ss (a b : List Nat) (h : List L3.PO) (ha : ∀ c ∈ a, c < 1114112) (hb : ∀ c ∈ b, c < 1114112) : pNe (.str a) (.str b) h = .ok (.bl (!decide (a = b))) h := by
  have e := pEq_ss a b h ha hb
  unfold pEq at e
  unfold pNe
  split at e
  · rename_i hc
    rw [if_pos hc]
    injection e with e1 e2
    injection e1 with e1
    rw [e1]
  · cases e
def dig (n : Nat) : List Nat := (Nat.toDigits 10 n).map Char.toNat
theorem dig_all (n : Nat) : ∀ c ∈ dig n, 48 ≤ c ∧ c ≤ 57 := by
  intro c hc
  obtain ⟨ch, h1, rfl⟩ := List.mem_map.mp hc
  exact PyProof.Rows.digit_range (Nat.isDigit_of_mem_toDigits (by decide) (by decide) h1)
theorem dig_ne (n : Nat) : dig n ≠ [] := by
  unfold dig
  intro h
  have : Nat.toDigits 10 n = [] := by simpa using h
  exact absurd this (by
    rcases Nat.lt_or_ge n 10 with q | q
    · rw [Nat.toDigits_of_lt_base q]; simp
    · have t : Nat.toDigits 10 (n / 10) ++ Nat.toDigits 10 (n % 10) = Nat.toDigits 10 (10 * (n / 10) + n % 10) := Nat.toDigits_append_toDigits (by decide) (by omega) (Nat.mod_lt n (by decide))
      rw [Nat.div_add_mod] at t
      rw [← t, Nat.toDigits_of_lt_base (Nat.mod_lt n (by decide))]; simp)
theorem strI_eq (i : Int) : strI i = if 0 ≤ i then dig i.toNat else 45 :: dig (-i).toNat := by
  unfold strI dig
  rw [PyProof.Rows.signs_ofString, Int.toString_eq_repr, Int.repr_eq_if]
  split
  · rw [Nat.toList_repr]
  · rw [String.toList_append, List.map_append, Nat.toList_repr]; rfl
theorem sum_one {α : Type} (f : α → List Nat) (h : ∀ x, (f x).length = 1) {l : List α} : ((l.map f).map (fun l => l.length)).sum = l.length := by
  induction l with
  | nil => rfl
  | cons a r ih => rw [List.map_cons, List.map_cons, List.sum_cons, ih, h, List.length_cons, Nat.add_comm]
theorem sum_le {α : Type} (f : α → List Nat) (n : Nat) (h : ∀ x, (f x).length ≤ n) (l : List α) : ((l.map f).map (fun l => l.length)).sum ≤ l.length * n := by
  induction l with
  | nil => simp
  | cons a r ih =>
    rw [List.map_cons, List.map_cons, List.sum_cons, List.length_cons, Nat.succ_mul]
    have := h a
    omega
end L3
set_option Elab.async false
set_option linter.all false
set_option maxRecDepth 100000
set_option maxHeartbeats 4000000
set_option autoImplicit false
namespace L3
open PySem L2
section
variable (h : List L3.PO)
end
theorem pre1 (c : Nat) (x : List Nat) (i : Nat) : [c].isPrefixOf (x.drop i) = decide (x[i]? = some c) := by
  rw [Bool.eq_iff_iff, decide_eq_true_eq]
  cases e : x.drop i with
  | nil =>
    have : x.length ≤ i := List.drop_eq_nil_iff.mp e
    simp [List.isPrefixOf, this]
  | cons a r =>
    have : x[i]? = some a := by
      have := List.head?_drop (l := x) (i := i)
      rw [e] at this
      simpa using this.symm
    rw [this]
    show (c == a && true) = true ↔ some a = some c
    rw [Bool.and_true, beq_iff_eq, Option.some.injEq]
    exact ⟨Eq.symm, Eq.symm⟩
theorem split_at_sign {c : Nat} : ∀ {s : List Nat}, c ∈ s → ∃ a b, s = a ++ c :: b ∧ (∀ z ∈ a, z ≠ c)
  | [], h => by cases h
  | z :: r, h => by
    by_cases q : z = c
    · subst q; exact ⟨[], r, rfl, by simp⟩
    · obtain ⟨a, b, e, n⟩ := split_at_sign (c := c) (s := r) (by rcases List.mem_cons.mp h with w | w; exact absurd w.symm q; exact w)
      exact ⟨z :: a, b, by rw [e]; rfl, by
        intro y hy
        rcases List.mem_cons.mp hy with w | w
        · rw [w]; exact q
        · exact n y w⟩
theorem first1_some {c : Nat} {x : List Nat} {lo : Nat} (h : c ∈ x.drop lo) : firstFrom [c] x lo = some (lo + ((x.drop lo).takeWhile (· != c)).length) := by
  unfold firstFrom
  rw [List.find?_range_eq_some]
  obtain ⟨a, b, e, n⟩ := split_at_sign h
  have tw : (x.drop lo).takeWhile (· != c) = a := by
    rw [e, List.takeWhile_append_of_pos (by intro z hz; simpa using n z hz)]
    simp
  rw [tw]
  have ln : x.length = lo + a.length + 1 + b.length := by
    have : (x.drop lo).length = a.length + (b.length + 1) := by rw [e]; simp
    rw [List.length_drop] at this
    omega
  have at_ : ∀ j, x[lo + j]? = (a ++ c :: b)[j]? := fun j => by rw [← e, List.getElem?_drop]
  refine ⟨?_, List.mem_range.mpr (by omega), fun j hj => ?_⟩
  · rw [pre1, at_, Bool.and_eq_true]
    refine ⟨decide_eq_true (by omega), decide_eq_true ?_⟩
    rw [List.getElem?_append_right (Nat.le_refl _), Nat.sub_self]; rfl
  · rw [Bool.not_eq_true', Bool.and_eq_false_iff]
    by_cases q : lo ≤ j
    · right
      obtain ⟨d, rfl⟩ := Nat.exists_eq_add_of_le q
      rw [pre1, at_]
      apply decide_eq_false
      have hd : d < a.length := by omega
      rw [List.getElem?_append_left hd]
      intro z
      exact n _ (List.mem_of_getElem? z) rfl
    · left
      exact decide_eq_false q
theorem first1_none {c : Nat} {x : List Nat} {lo : Nat} (h : c ∉ x.drop lo) : firstFrom [c] x lo = none := by
  unfold firstFrom
  rw [List.find?_eq_none]
  intro j hj
  rw [pre1, Bool.and_eq_true, decide_eq_true_eq, decide_eq_true_eq]
  rintro ⟨q, e⟩
  apply h
  obtain ⟨d, rfl⟩ := Nat.exists_eq_add_of_le q
  rw [← List.getElem?_drop] at e
  exact List.mem_of_getElem? e
end L3
set_option Elab.async false
set_option linter.all false
set_option maxRecDepth 100000
set_option maxHeartbeats 4000000
set_option autoImplicit false
namespace L3
open PySem L2
def esc1 (mark raw letters : List Nat) (c : Nat) : List Nat := match firstFrom [c] raw 0 with
  | some i => mark ++ [letters.getD i 0]
  | none => [c]
def escL (mark raw letters l : List Nat) : List Nat := (l.map (esc1 mark raw letters)).flatten
structure Tb (m : Nat) (raw letters : List Nat) : Prop where
  ten : (10 : Nat) ≠ m
  mr : m ∈ raw
  tr : (10 : Nat) ∈ raw
  go : ∀ p, p < letters.length → esc1 [m] raw letters (raw.getD p 0) = [m, letters.getD p 0]
  bk : ∀ p, p < raw.length → firstFrom [letters.getD p 0] letters 0 = some p
  rl : raw.length ≤ letters.length
theorem first0_none {c : Nat} {x : List Nat} : firstFrom [c] x 0 = none ↔ c ∉ x := by
  constructor
  · intro h q
    rw [first1_some (by rw [List.drop_zero]; exact q)] at h; cases h
  · intro h; exact first1_none (by rw [List.drop_zero]; exact h)
theorem esc1_no {mark raw letters : List Nat} {c : Nat} (h : c ∉ raw) : esc1 mark raw letters c = [c] := by
  unfold esc1; rw [first0_none.mpr h]
variable {m : Nat} {raw letters : List Nat}
end L3
set_option Elab.async false
set_option linter.all false
set_option maxRecDepth 100000
set_option maxHeartbeats 4000000
set_option autoImplicit false
namespace L3
open PySem L2
open PySem.NumText (digitsVal AllDigits)
end L3
set_option Elab.async false
set_option linter.all false
set_option maxRecDepth 100000
set_option maxHeartbeats 4000000
set_option autoImplicit false
namespace L3
open PySem L2
end L3
set_option Elab.async false
set_option linter.all false
set_option maxRecDepth 100000
set_option maxHeartbeats 4000000
set_option autoImplicit false
namespace L3
open PySem L2
section
variable (h : List L3.PO) (ρ : Ev)
end
theorem ok_str {l : List Nat} (h : List L3.PO) (hl : ∀ c ∈ l, c < 1114112) : okD h (.str l) = true := by
  unfold okD dOf
  simp only [toD, PyData.canLay0, PyData.depth]
  simp [PyData.strOk, S]
  exact hl
theorem all_ok : ∀ {ls : List (List Nat)}, (∀ l ∈ ls, ∀ c ∈ l, c < 1114112) → (ls.map PV.str).all (okD []) = true
  | [], _ => rfl
  | l :: r, h => by rw [List.map_cons, List.all_cons, ok_str [] (h l (by simp)), all_ok fun z hz => h z (List.mem_cons_of_mem _ hz)]; rfl
end L3
set_option Elab.async false
set_option linter.all false
set_option maxRecDepth 100000
set_option maxHeartbeats 4000000
set_option autoImplicit false
namespace L3
open PySem L2
section
variable (ρ : Ev) (h : List PO)
theorem ev_methX (res : Nat → Option (List PV → OutX)) (o : Ex) (as : Ax) : cMethX res o as ρ h = (o ρ h).bind fun p h1 => match p with | .ins C [] => (match res C with | some fn => (as ρ h1).bind fun ps h2 => callX fn (.ins C [] :: ps) h2 | none => .bad) | _ => .bad := id rfl
theorem ev_callX (fn : List PV → OutX) (as : Ax) : cCallX fn as ρ h = (as ρ h).bind (callX fn) := id rfl
theorem callX_def (fn : List PV → OutX) (ps : List PV) : callX fn ps h = match frzs ps h with | some (qs, h2) => (match fn qs with | .ok v => .ok v h2 | .exc C => .exc (.cls C) h2 | .bad => .bad) | none => .bad := id rfl
theorem ev_sTry (cat : Nat → Bool) (g : Sx) (i n : Nat) (gs : Sx) : sTry cat g i n gs ρ h = match g ρ h with
  | .exc (.cls C) h1 => if cat C = true then (match gs ((List.replicate n none).set i (some (.exc C))) h1 with
    | .rt v h2 => .rt v h2
    | _ => .bad) else .bad
  | .exc _ _ => .bad
  | r => r := id rfl
theorem ev_sRaise (C : Nat) (as : Ax) : sRaise C as ρ h = match as ρ h with
  | .ok qs h1 => if qs.length ≤ sizeLine then .exc (.cls C) h1 else .bad
  | .exc e h1 => .exc e h1
  | .bad => .bad := id rfl
theorem eThen_exc (e : PV) (k : PV → List PO → SR) : eThen (.exc e h) k = .exc e h := id rfl
theorem eqU_s (l : List Nat) (q : PV) : pEqU (.str l) q h = pEq (.str l) q h := id rfl
theorem isalnum_s (l : List Nat) : pIsalnum (.str l) [] h = .ok (.bl (Txt.isalnum (S l))) h := id rfl
theorem isnotb (b c : Bool) : pIsNotB (.bl b) (.bl c) h = .ok (.bl (b != c)) h := id rfl
theorem frz_exc (C : Nat) : frzV h (.exc C) = some (.exc C, h) := by simp [frzV, PV.pure]
theorem frz_dct0 : frzV h (.dct []) = some (.dct [], h) := by simp [frzV, PV.pure, pureks]
end
end L3
set_option Elab.async false
set_option linter.all false
set_option maxRecDepth 100000
set_option maxHeartbeats 4000000
set_option autoImplicit false
namespace K1
open PySem PySem.Spec PyProof.Rows L2 L3
def top (i : Nat) : Stmt := PySem.Challenge.pw_formsmith_k01_ways_of_coding.main.body.getD i (.Pass ⟨0, 0, 0, 0⟩)
def q_0379d6 : List Nat := [116, 104, 101, 114, 101, 32, 105, 115, 32, 110, 111, 32, 115, 117, 99, 104, 32, 119, 97, 121]
def q_46cf18 : List Nat := [48, 49, 50, 51, 52, 53, 54, 55, 56, 57, 65, 66, 67, 68, 69, 70, 71, 72, 73, 74, 75, 76, 77, 78, 79, 80, 81, 82, 83, 84, 85, 86, 87, 88, 89, 90, 97, 98, 99, 100, 101, 102, 103, 104, 105, 106, 107, 108, 109, 110, 111, 112, 113, 114, 115, 116, 117, 118, 119, 120, 121, 122]
def q_4b491e : List Nat := [116, 104, 101, 32, 118, 97, 108, 117, 101, 32, 100, 111, 101, 115, 32, 110, 111, 116, 32, 102, 105, 116, 32, 116, 104, 101, 32, 119, 97, 121]
def q_76658d : List Nat := [97, 98, 99, 100, 101, 102, 103, 104, 105, 106, 107, 108, 109, 110, 111, 112, 113, 114, 115, 116, 117, 118, 119, 120, 121, 122, 65, 66, 67, 68, 69, 70, 71, 72, 73, 74, 75, 76, 77, 78, 79, 80, 81, 82, 83, 84, 85, 86, 87, 88, 89, 90, 48, 49, 50, 51, 52, 53, 54, 55, 56, 57]
def q_d08fa1 : List Nat := [10, 32, 33, 34, 35, 36, 38, 39, 40, 41, 42, 43, 44, 45, 46, 47, 48, 49, 50, 51, 52, 53, 54, 55, 56, 57, 58, 59, 60, 61, 62, 63, 64, 65, 66, 67, 68, 69, 70, 71, 72, 73, 74, 75, 76, 77, 78, 79, 80, 81, 82, 83, 84, 85, 86, 87, 88, 89, 90, 91, 92, 93, 94, 95, 96]
def q_dae21e : List Nat := [97, 98, 99, 100, 101, 102, 103, 104, 105, 106, 107, 108, 109, 110, 111, 112, 113, 114, 115, 116, 117, 118, 119, 120, 121, 122, 123, 124, 125, 126]
def q_e84fa8 : List Nat := [10, 32, 33, 34, 35, 36, 38, 39, 40, 41, 42, 43, 44, 45, 46, 47, 48, 49, 50, 51, 52, 53, 54, 55, 56, 57, 58, 59, 60, 61, 62, 63, 64, 65, 66, 67, 68, 69, 70, 71, 72, 73, 74, 75, 76, 77, 78, 79, 80, 81, 82, 83, 84, 85, 86, 87, 88, 89, 90, 91, 92, 93, 94, 95, 96, 97, 98, 99, 100, 101, 102, 103, 104, 105, 106, 107, 108, 109, 110, 111, 112, 113, 114, 115, 116, 117, 118, 119, 120, 121, 122, 123, 124, 125, 126]
def q_f0ad16 : List Nat := [126, 94, 34, 60, 62, 38, 124, 10, 123, 125, 45, 48, 97, 65, 57, 108, 103, 97, 98, 110, 113]
inductive Fn where
  | law | way_of | l_refusals_made | l_value_by | l_made | l_odd | l_cell_at | l_way | l_mixed | Word_begins | Number_begins | Quoted_begins | Plain_begins | Line_begins | Word_ends | Number_ends | Quoted_ends | Plain_ends | Line_ends | Way_is_void | Plain_is_void | Line_is_void | l_sorts | l_coded | Word_fits | Number_fits | Quoted_fits | Plain_fits | Line_fits | BadText___init__ | BadName___init__ | Unclear___init__ | NoFill___init__ | l_text_by | l_word_by | l_number_by | Way_coded | l_class | l_signs | signs_but | signs | is_text | is_made_of | is_short_number | Word_spelling | Number_spelling | Quoted_spelling | Plain_spelling | Line_spelling | escaped
def stOf : Fn → Stmt
  | .law => top 62
  | .way_of => top 39
  | .l_refusals_made => top 61
  | .l_value_by => top 54
  | .l_made => top 58
  | .l_odd => top 57
  | .l_cell_at => top 46
  | .l_way => top 59
  | .l_mixed => top 48
  | .Word_begins => inClass (top 34) 4
  | .Number_begins => inClass (top 35) 4
  | .Quoted_begins => inClass (top 36) 4
  | .Plain_begins => inClass (top 37) 4
  | .Line_begins => inClass (top 38) 4
  | .Word_ends => inClass (top 34) 5
  | .Number_ends => inClass (top 35) 5
  | .Quoted_ends => inClass (top 36) 5
  | .Plain_ends => inClass (top 37) 5
  | .Line_ends => inClass (top 38) 5
  | .Way_is_void => inClass (top 33) 2
  | .Plain_is_void => inClass (top 37) 6
  | .Line_is_void => inClass (top 38) 6
  | .l_sorts => top 60
  | .l_coded => top 55
  | .Word_fits => inClass (top 34) 0
  | .Number_fits => inClass (top 35) 0
  | .Quoted_fits => inClass (top 36) 0
  | .Plain_fits => inClass (top 37) 0
  | .Line_fits => inClass (top 38) 0
  | .BadText___init__ => inClass (top 7) 0
  | .BadName___init__ => inClass (top 8) 0
  | .Unclear___init__ => inClass (top 9) 0
  | .NoFill___init__ => inClass (top 10) 0
  | .l_text_by => top 51
  | .l_word_by => top 52
  | .l_number_by => top 53
  | .Way_coded => inClass (top 33) 0
  | .l_class => top 50
  | .l_signs => top 47
  | .signs_but => top 40
  | .signs => top 13
  | .is_text => top 14
  | .is_made_of => top 15
  | .is_short_number => top 18
  | .Word_spelling => inClass (top 34) 1
  | .Number_spelling => inClass (top 35) 1
  | .Quoted_spelling => inClass (top 36) 1
  | .Plain_spelling => inClass (top 37) 1
  | .Line_spelling => inClass (top 38) 1
  | .escaped => top 43
def nmOf : Fn → Str
  | .law => "law"
  | .way_of => "way_of"
  | .l_refusals_made => "_law_refusals_made"
  | .l_value_by => "_law_value_by"
  | .l_made => "_law_made"
  | .l_odd => "_law_odd"
  | .l_cell_at => "_law_cell_at"
  | .l_way => "_law_way"
  | .l_mixed => "_law_mixed"
  | .Word_begins => "begins"
  | .Number_begins => "begins"
  | .Quoted_begins => "begins"
  | .Plain_begins => "begins"
  | .Line_begins => "begins"
  | .Word_ends => "ends"
  | .Number_ends => "ends"
  | .Quoted_ends => "ends"
  | .Plain_ends => "ends"
  | .Line_ends => "ends"
  | .Way_is_void => "is_void"
  | .Plain_is_void => "is_void"
  | .Line_is_void => "is_void"
  | .l_sorts => "_law_sorts"
  | .l_coded => "_law_coded"
  | .Word_fits => "fits"
  | .Number_fits => "fits"
  | .Quoted_fits => "fits"
  | .Plain_fits => "fits"
  | .Line_fits => "fits"
  | .BadText___init__ => "__init__"
  | .BadName___init__ => "__init__"
  | .Unclear___init__ => "__init__"
  | .NoFill___init__ => "__init__"
  | .l_text_by => "_law_text_by"
  | .l_word_by => "_law_word_by"
  | .l_number_by => "_law_number_by"
  | .Way_coded => "coded"
  | .l_class => "_law_class"
  | .l_signs => "_law_signs"
  | .signs_but => "signs_but"
  | .signs => "signs"
  | .is_text => "is_text"
  | .is_made_of => "is_made_of"
  | .is_short_number => "is_short_number"
  | .Word_spelling => "spelling"
  | .Number_spelling => "spelling"
  | .Quoted_spelling => "spelling"
  | .Plain_spelling => "spelling"
  | .Line_spelling => "spelling"
  | .escaped => "escaped"
def qlOf : Fn → Str
  | .law => "law"
  | .way_of => "way_of"
  | .l_refusals_made => "_law_refusals_made"
  | .l_value_by => "_law_value_by"
  | .l_made => "_law_made"
  | .l_odd => "_law_odd"
  | .l_cell_at => "_law_cell_at"
  | .l_way => "_law_way"
  | .l_mixed => "_law_mixed"
  | .Word_begins => "Word.begins"
  | .Number_begins => "Number.begins"
  | .Quoted_begins => "Quoted.begins"
  | .Plain_begins => "Plain.begins"
  | .Line_begins => "Line.begins"
  | .Word_ends => "Word.ends"
  | .Number_ends => "Number.ends"
  | .Quoted_ends => "Quoted.ends"
  | .Plain_ends => "Plain.ends"
  | .Line_ends => "Line.ends"
  | .Way_is_void => "Way.is_void"
  | .Plain_is_void => "Plain.is_void"
  | .Line_is_void => "Line.is_void"
  | .l_sorts => "_law_sorts"
  | .l_coded => "_law_coded"
  | .Word_fits => "Word.fits"
  | .Number_fits => "Number.fits"
  | .Quoted_fits => "Quoted.fits"
  | .Plain_fits => "Plain.fits"
  | .Line_fits => "Line.fits"
  | .BadText___init__ => "BadText.__init__"
  | .BadName___init__ => "BadName.__init__"
  | .Unclear___init__ => "Unclear.__init__"
  | .NoFill___init__ => "NoFill.__init__"
  | .l_text_by => "_law_text_by"
  | .l_word_by => "_law_word_by"
  | .l_number_by => "_law_number_by"
  | .Way_coded => "Way.coded"
  | .l_class => "_law_class"
  | .l_signs => "_law_signs"
  | .signs_but => "signs_but"
  | .signs => "signs"
  | .is_text => "is_text"
  | .is_made_of => "is_made_of"
  | .is_short_number => "is_short_number"
  | .Word_spelling => "Word.spelling"
  | .Number_spelling => "Number.spelling"
  | .Quoted_spelling => "Quoted.spelling"
  | .Plain_spelling => "Plain.spelling"
  | .Line_spelling => "Line.spelling"
  | .escaped => "escaped"
def psOf : Fn → List Str
  | .law => ["_law_script"]
  | .way_of => ["word"]
  | .l_refusals_made => ["_law_n"]
  | .l_value_by => ["_law_word", "_law_cell"]
  | .l_made => ["_law_way_here", "_law_value"]
  | .l_odd => ["_law_word", "_law_cell"]
  | .l_cell_at => ["_law_script", "_law_k"]
  | .l_way => ["_law_word"]
  | .l_mixed => ["_law_cell", "_law_k"]
  | .Word_begins => ["self"]
  | .Number_begins => ["self"]
  | .Quoted_begins => ["self"]
  | .Plain_begins => ["self"]
  | .Line_begins => ["self"]
  | .Word_ends => ["self"]
  | .Number_ends => ["self"]
  | .Quoted_ends => ["self"]
  | .Plain_ends => ["self"]
  | .Line_ends => ["self"]
  | .Way_is_void => ["self"]
  | .Plain_is_void => ["self"]
  | .Line_is_void => ["self"]
  | .l_sorts => ["_law_way_here"]
  | .l_coded => ["_law_word", "_law_value"]
  | .Word_fits => ["self", "value"]
  | .Number_fits => ["self", "value"]
  | .Quoted_fits => ["self", "value"]
  | .Plain_fits => ["self", "value"]
  | .Line_fits => ["self", "value"]
  | .BadText___init__ => ["self", "at"]
  | .BadName___init__ => ["self", "at"]
  | .Unclear___init__ => ["self", "at"]
  | .NoFill___init__ => ["self", "at"]
  | .l_text_by => ["_law_cell", "_law_most"]
  | .l_word_by => ["_law_cell"]
  | .l_number_by => ["_law_cell"]
  | .Way_coded => ["self", "value"]
  | .l_class => ["_law_e"]
  | .l_signs => []
  | .signs_but => ["left_out"]
  | .signs => []
  | .is_text => ["thing", "most"]
  | .is_made_of => ["text", "allowed"]
  | .is_short_number => ["number"]
  | .Word_spelling => ["self", "value"]
  | .Number_spelling => ["self", "value"]
  | .Quoted_spelling => ["self", "value"]
  | .Plain_spelling => ["self", "value"]
  | .Line_spelling => ["self", "value"]
  | .escaped => ["text", "mark", "raw", "letters"]
def d_begins (C : Fn → List PV → Out) : Nat → Option (List PV → Out)
  | 0 => some (C .Word_begins)
  | 1 => some (C .Number_begins)
  | 2 => some (C .Quoted_begins)
  | 3 => some (C .Plain_begins)
  | 4 => some (C .Line_begins)
  | _ => none
def d_coded (C : Fn → List PV → Out) : Nat → Option (List PV → Out)
  | 0 => some (C .Way_coded)
  | 1 => some (C .Way_coded)
  | 2 => some (C .Way_coded)
  | 3 => some (C .Way_coded)
  | 4 => some (C .Way_coded)
  | _ => none
def d_ends (C : Fn → List PV → Out) : Nat → Option (List PV → Out)
  | 0 => some (C .Word_ends)
  | 1 => some (C .Number_ends)
  | 2 => some (C .Quoted_ends)
  | 3 => some (C .Plain_ends)
  | 4 => some (C .Line_ends)
  | _ => none
def d_fits (C : Fn → List PV → Out) : Nat → Option (List PV → Out)
  | 0 => some (C .Word_fits)
  | 1 => some (C .Number_fits)
  | 2 => some (C .Quoted_fits)
  | 3 => some (C .Plain_fits)
  | 4 => some (C .Line_fits)
  | _ => none
def d_is_void (C : Fn → List PV → Out) : Nat → Option (List PV → Out)
  | 0 => some (C .Way_is_void)
  | 1 => some (C .Way_is_void)
  | 2 => some (C .Way_is_void)
  | 3 => some (C .Plain_is_void)
  | 4 => some (C .Line_is_void)
  | _ => none
def d_spelling (C : Fn → List PV → Out) : Nat → Option (List PV → Out)
  | 0 => some (C .Word_spelling)
  | 1 => some (C .Number_spelling)
  | 2 => some (C .Quoted_spelling)
  | 3 => some (C .Plain_spelling)
  | 4 => some (C .Line_spelling)
  | _ => none
def kd_ : Nat → Option Bool
  | 0 => some false
  | 1 => some false
  | 2 => some false
  | 3 => some false
  | 4 => some false
  | 6 => some true
  | 7 => some true
  | _ => none
def tC_ : List (Nat × Nat × Bool) := [(6, 12, false), (6, 11, false), (6, 7, false), (6, 8, false), (6, 6, true), (6, 10, false), (6, 14, false), (6, 9, false), (6, 13, false), (7, 12, false), (7, 11, false), (7, 7, true), (7, 8, false), (7, 6, false), (7, 10, false), (7, 14, false), (7, 9, false), (7, 13, false), (0, 4, false), (0, 1, false), (0, 3, false), (0, 2, false), (0, 15, true), (0, 0, true), (1, 4, false), (1, 1, true), (1, 3, false), (1, 2, false), (1, 15, true), (1, 0, false), (2, 4, false), (2, 1, false), (2, 3, false), (2, 2, true), (2, 15, true), (2, 0, false), (3, 4, false), (3, 1, false), (3, 3, true), (3, 2, false), (3, 15, true), (3, 0, false), (4, 4, true), (4, 1, false), (4, 3, false), (4, 2, false), (4, 15, true), (4, 0, false)]
def sC_ : Nat → Nat → Option Bool := lookT tC_
def sT_ : Nat → String → Option Bool
  | 6, "ValueError" => some true
  | 7, "ValueError" => some true
  | _, _ => none
def cat_FormError : Nat → Bool
  | 6 => true
  | 7 => true
  | _ => false
inductive Fx where
  | way_of | Way_coded
inductive Fh where
  | l_class
def xFn : Fx → Fn
  | .way_of => .way_of
  | .Way_coded => .Way_coded
def hFn : Fh → Fn
  | .l_class => .l_class
def exs_ : Nat → Bool
  | 6 => true
  | 7 => true
  | _ => false
def x_coded (Z : Fx → List PV → OutX) : Nat → Option (List PV → OutX)
  | 0 => some (Z .Way_coded)
  | 1 => some (Z .Way_coded)
  | 2 => some (Z .Way_coded)
  | 3 => some (Z .Way_coded)
  | 4 => some (Z .Way_coded)
  | _ => none
noncomputable def h_l_class : Sx :=
  (sSeq (sSet 1 (cN pLstM (aCons (cN (pIsC kd_ sC_ sT_) (aCons (cVar 0) (aCons (cK (.cls 6)) aNil))) (aCons (cN (pIsC kd_ sC_ sT_) (aCons (cVar 0) (aCons (cK (.cls 7)) aNil))) (aCons (cN (pIsC kd_ sC_ sT_) (aCons (cVar 0) (aCons (cK (.cls 8)) aNil))) (aCons (cN (pIsC kd_ sC_ sT_) (aCons (cVar 0) (aCons (cK (.cls 11)) aNil))) aNil))))))
    (sSeq (sSet 1 (c2 pAddM (cVar 1) (cN pLst (aCons (cN (pIsC kd_ sC_ sT_) (aCons (cVar 0) (aCons (cK (.cls 12)) aNil))) (aCons (cN (pIsC kd_ sC_ sT_) (aCons (cVar 0) (aCons (cK (.cls 9)) aNil))) (aCons (cN (pIsC kd_ sC_ sT_) (aCons (cVar 0) (aCons (cK (.cls 13)) aNil))) (aCons (cN (pIsC kd_ sC_ sT_) (aCons (cVar 0) (aCons (cK (.cls 14)) aNil))) aNil)))))))
    (sSeq (sDrop (cM isLst pAppend (cVar 1) (aCons (cN (pIsC kd_ sC_ sT_) (aCons (cVar 0) (aCons (cK (.cls 10)) aNil))) aNil)))
    (sSeq (sIf (tOrE (tCmpE (c2 pNe (cM isLst pCountB (cVar 1) (aCons (cK (.bl true)) aNil)) (cK (.int 1)))) (tNotE (tTruE (cN (pIsC kd_ sC_ sT_) (aCons (cVar 0) (aCons (cK (.ty "ValueError")) aNil)))))) (sRet (cN pLst (aCons (cK (.str [111, 116, 104, 101, 114])) aNil))) sNil)
    (sSeq (sSet 2 (c2 pIx (cN pLst (aCons (cK (.str [119, 97, 121])) (aCons (cK (.str [118, 97, 108, 117, 101])) (aCons (cK (.str [118, 97, 108, 117, 101, 115])) (aCons (cK (.str [116, 101, 120, 116])) (aCons (cK (.str [110, 97, 109, 101])) (aCons (cK (.str [109, 97, 110, 121])) (aCons (cK (.str [117, 110, 99, 108, 101, 97, 114])) (aCons (cK (.str [102, 105, 108, 108])) (aCons (cK (.str [99, 108, 97, 115, 104])) aNil)))))))))) (cM isLst pIndexB (cVar 1) (aCons (cK (.bl true)) aNil))))
    (sSeq (sIf (tCmpE (c2 pIn (cVar 2) (cN pTup (aCons (cK (.str [116, 101, 120, 116])) (aCons (cK (.str [110, 97, 109, 101])) (aCons (cK (.str [117, 110, 99, 108, 101, 97, 114])) (aCons (cK (.str [102, 105, 108, 108])) aNil))))))) (sRet (cN pLst (aCons (cVar 2) (aCons cBad aNil)))) sNil)
    (sRet (cN pLst (aCons (cVar 2) aNil)))))))))
noncomputable def FH : Fh → List PV → Out
  | .l_class, ps => runF h_l_class 1 3 ps
noncomputable def x_way_of (C : Fn → List PV → Out) : Sx :=
  (sSeq (sIf (tCmpE (c2 pEqU (cVar 0) (cK (.str [119, 111, 114, 100])))) (sRet (cMake 0)) sNil)
    (sSeq (sIf (tCmpE (c2 pEqU (cVar 0) (cK (.str [110, 117, 109, 98, 101, 114])))) (sRet (cMake 1)) sNil)
    (sSeq (sIf (tCmpE (c2 pEqU (cVar 0) (cK (.str [113, 117, 111, 116, 101, 100])))) (sRet (cMake 2)) sNil)
    (sSeq (sIf (tCmpE (c2 pEqU (cVar 0) (cK (.str [112, 108, 97, 105, 110])))) (sRet (cMake 3)) sNil)
    (sSeq (sIf (tCmpE (c2 pEqU (cVar 0) (cK (.str [108, 105, 110, 101])))) (sRet (cMake 4)) sNil)
    (sRaise 6 (aCons (cK (.str q_0379d6)) aNil)))))))
noncomputable def x_Way_coded (C : Fn → List PV → Out) : Sx :=
  (sSeq (sIf (tNotE (tTruE (cMeth (d_fits C) (cVar 0) (aCons (cVar 1) aNil)))) (sRaise 7 (aCons (cK (.str q_4b491e)) aNil)) sNil)
    (sRet (cMeth (d_spelling C) (cVar 0) (aCons (cVar 1) aNil))))
noncomputable def XO (C : Fn → List PV → Out) : Fx → List PV → OutX
  | .way_of, ps => onlyX exs_ (runX (x_way_of C) 1 1 ps)
  | .Way_coded, ps => onlyX exs_ (runX (x_Way_coded C) 2 2 ps)
noncomputable def e_law_1 (C : Fn → List PV → Out) : Ex := (c2 pEq (cVar 0) (cVar 1))
noncomputable def w_law_2 (C : Fn → List PV → Out) : Sx := (sSeq (sSet 6 (cCall (C .l_value_by) (aCons (c2 pIx (cVar 1) (cVar 2)) (aCons (cCall (C .l_mixed) (aCons (cCall (C .l_cell_at) (aCons (cVar 0) (aCons (c2 pAdd (c2 pMul (cK (.int 3)) (cVar 2)) (cVar 5)) aNil))) (aCons (cVar 2) aNil))) aNil))))
    (sSeq (sIf (tCmpE (c2 pEq (cVar 5) (cK (.int 1)))) (sSet 3 (cVar 4)) sNil)
    (sSeq (sSet 7 (cCall (C .l_made) (aCons (cVar 3) (aCons (cVar 6) aNil))))
    (sSeq (sIf (tOrE (tCmpE (c2 pIsNotB (cMeth (d_fits C) (cVar 3) (aCons (cVar 6) aNil)) (cK (.bl true)))) (tOrE (tNotE (tTruE (cN pIsinst (aCons (cVar 7) (aCons (cK (.ty "tuple")) aNil))))) (tNotE (tTruE (cN pIsinst (aCons (c2 pIx (cVar 7) (cK (.int 0))) (aCons (cK (.ty "str")) aNil))))))) (sRet (cK (.bl false))) sNil)
    (sSeq (sIf (tCmpE (c2 pNe (c2 pIx (cVar 7) (cK (.int 0))) (cCall (C .l_coded) (aCons (c2 pIx (cVar 1) (cVar 2)) (aCons (cVar 6) aNil))))) (sRet (cK (.bl false))) sNil)
    (sSeq (sSet 8 (cCall (C .l_odd) (aCons (c2 pIx (cVar 1) (cVar 2)) (aCons (cCall (C .l_mixed) (aCons (cCall (C .l_cell_at) (aCons (cVar 0) (aCons (c2 pAdd (c2 pAdd (cK (.int 15)) (c2 pMul (cK (.int 3)) (cVar 2))) (cVar 5)) aNil))) (aCons (cVar 2) aNil))) aNil))))
    (sIf (tOrE (tCmpE (c2 pIsNotB (cMeth (d_fits C) (cVar 3) (aCons (cVar 8) aNil)) (cK (.bl false)))) (tCmpE (c2 pNe (cCall (C .l_made) (aCons (cVar 3) (aCons (cVar 8) aNil))) (cN pLst (aCons (cK (.str [118, 97, 108, 117, 101])) aNil))))) (sRet (cK (.bl false))) sNil)))))))
noncomputable def w_law_3 (C : Fn → List PV → Out) : Sx := (sSeq (sSet 3 (cCall (C .way_of) (aCons (c2 pIx (cVar 1) (cVar 2)) aNil)))
    (sSeq (sSet 4 (c2 pIx (cN pLst (aCons (cMake 0) (aCons (cMake 1) (aCons (cMake 2) (aCons (cMake 3) (aCons (cMake 4) aNil)))))) (cVar 2)))
    (sSeq (sIf (tOrE (tCmpE (c2 pNe (cMeth (d_begins C) (cVar 4) aNil) (cMeth (d_begins C) (cVar 3) aNil))) (tOrE (tCmpE (c2 pNe (cMeth (d_ends C) (cVar 4) aNil) (cMeth (d_ends C) (cVar 3) aNil))) (tCmpE (c2 pNe (cMeth (d_is_void C) (cVar 4) aNil) (cMeth (d_is_void C) (cVar 3) aNil))))) (sRet (cK (.bl false))) sNil)
    (sSeq (sIf (tOrE (tNotE (tTruE (cN (pIsC kd_ sC_ sT_) (aCons (cVar 3) (aCons (cK (.cls 15)) aNil))))) (tCmpE (c2 pNe (cCall (C .l_sorts) (aCons (cVar 3) aNil)) (cN okL (aComp [2] (aRange1 (aCons (cK (.int 5)) aNil)) tYesE (e_law_1 C)))))) (sRet (cK (.bl false))) sNil)
    (sFor (aRange1 (aCons (cK (.int 3)) aNil)) (gNm 5) (w_law_2 C))))))
noncomputable def b_law (C : Fn → List PV → Out) : Sx :=
  (sSeq (sSet 1 (cN pLst (aCons (cK (.str [119, 111, 114, 100])) (aCons (cK (.str [110, 117, 109, 98, 101, 114])) (aCons (cK (.str [113, 117, 111, 116, 101, 100])) (aCons (cK (.str [112, 108, 97, 105, 110])) (aCons (cK (.str [108, 105, 110, 101])) aNil)))))))
    (sSeq (sFor (aRange1 (aCons (cK (.int 5)) aNil)) (gNm 2) (w_law_3 C))
    (sSeq (sSet 9 (c2 pIx (cN pLst (aCons (cK (.str [119, 111, 114, 100, 115])) (aCons (cK (.str [])) (aCons (cK .non) (aCons (cK (.int 5)) (aCons (cN pLst (aCons (cK (.str [119, 111, 114, 100])) aNil)) (aCons (cK (.str [80, 108, 97, 105, 110])) (aCons (cK (.str [108, 105, 110, 101, 101])) (aCons (cN pTup (aCons (cK (.str [119, 111, 114, 100])) aNil)) (aCons (cK (.bl true)) (aCons (cK (.dct [])) aNil))))))))))) (c2 pMod (cCall (C .l_cell_at) (aCons (cVar 0) (aCons (cK (.int 30)) aNil))) (cK (.int 10)))))
    (sRet (cAnd (c2 pEq (cCall (C .l_way) (aCons (cVar 9) aNil)) (cN pLst (aCons (cK (.str [119, 97, 121])) aNil))) (cCall (C .l_refusals_made) (aCons (cCall (C .l_mixed) (aCons (cCall (C .l_cell_at) (aCons (cVar 0) (aCons (cK (.int 31)) aNil))) (aCons (cK (.int 1)) aNil))) aNil)))))))
noncomputable def b_way_of (C : Fn → List PV → Out) : Sx :=
  (sSeq (sIf (tCmpE (c2 pEqU (cVar 0) (cK (.str [119, 111, 114, 100])))) (sRet (cMake 0)) sNil)
    (sSeq (sIf (tCmpE (c2 pEqU (cVar 0) (cK (.str [110, 117, 109, 98, 101, 114])))) (sRet (cMake 1)) sNil)
    (sSeq (sIf (tCmpE (c2 pEqU (cVar 0) (cK (.str [113, 117, 111, 116, 101, 100])))) (sRet (cMake 2)) sNil)
    (sSeq (sIf (tCmpE (c2 pEqU (cVar 0) (cK (.str [112, 108, 97, 105, 110])))) (sRet (cMake 3)) sNil)
    (sSeq (sIf (tCmpE (c2 pEqU (cVar 0) (cK (.str [108, 105, 110, 101])))) (sRet (cMake 4)) sNil)
    sNever)))))
noncomputable def b_l_refusals_made (C : Fn → List PV → Out) (z : Bool) : Sx :=
  (sSeq (sSet 1 (cN pLst (aCons (cXAt z (aCons (cVar 0) aNil)) (aCons (cXAt z (aCons (cN pTup (aCons (cVar 0) (aCons (cK (.int 0)) aNil))) aNil)) (aCons (cXAt z (aCons (cN pTup (aCons (cVar 0) aNil)) aNil)) (aCons (cXAt z (aCons (cK .non) aNil)) (aCons (cXAt z (aCons (cVar 0) aNil)) aNil)))))))
    (sRet (c2 pEq (cVar 1) (cN pLst (aCons (cVar 0) (aCons (cN pTup (aCons (cVar 0) (aCons (cK (.int 0)) aNil))) (aCons (cN pTup (aCons (cVar 0) aNil)) (aCons (cK .non) (aCons (cVar 0) aNil)))))))))
noncomputable def b_l_value_by (C : Fn → List PV → Out) : Sx :=
  (sSeq (sIf (tCmpE (c2 pEq (cVar 0) (cK (.str [119, 111, 114, 100])))) (sRet (cCall (C .l_word_by) (aCons (cVar 1) aNil))) sNil)
    (sSeq (sIf (tCmpE (c2 pEq (cVar 0) (cK (.str [110, 117, 109, 98, 101, 114])))) (sRet (cCall (C .l_number_by) (aCons (cVar 1) aNil))) sNil)
    (sRet (cCall (C .l_text_by) (aCons (cVar 1) (aCons (cK (.int 400)) aNil))))))
noncomputable def b_l_made (C : Fn → List PV → Out) (Z : Fx → List PV → OutX) (U : Fh → List PV → Out) : Sx :=
  (sTry cat_FormError (sRet (cN pTup (aCons (cMethX (x_coded Z) (cVar 0) (aCons (cVar 1) aNil)) aNil))) 2 3 (sRet (cCall (U .l_class) (aCons (cVar 2) aNil))))
noncomputable def b_l_odd (C : Fn → List PV → Out) : Sx :=
  (sSeq (sSet 2 (cN pLst (aCons (cK (.bl true)) (aCons (cK .non) (aCons (cN pLst (aCons (cK (.str [97])) aNil)) (aCons (cN pTup (aCons (cK (.str [97])) aNil)) (aCons (cK (.dct [])) (aCons (cK (.bl false)) aNil))))))))
    (sSeq (sSet 3 (cCall (C .l_value_by) (aCons (cVar 0) (aCons (c2 pDiv (cVar 1) (cK (.int 64))) aNil))))
    (sSeq (sIf (tCmpE (c2 pEq (cVar 0) (cK (.str [110, 117, 109, 98, 101, 114])))) (sRet (c2 pIx (c2 pAdd (cVar 2) (cN pLst (aCons (c2 pPow (cK (.int 10)) (cK (.int 30))) (aCons (c1 pNeg (c2 pPow (cK (.int 10)) (cK (.int 30)))) (aCons (cK (.str [53])) (aCons (cK (.str [])) (aCons (c2 pAdd (c2 pPow (cK (.int 10)) (cK (.int 31))) (c2 pMod (cVar 1) (cK (.int 7)))) aNil))))))) (c2 pMod (cVar 1) (cK (.int 11))))) sNil)
    (sSeq (sSet 2 (c2 pAdd (cVar 2) (cN pLst (aCons (cK (.int 5)) (aCons (c1 pNeg (cK (.int 1))) (aCons (cN pLst (aCons (cK (.str [97])) (aCons (cK (.str [98])) aNil))) aNil))))))
    (sSeq (sIf (tCmpE (c2 pEq (cVar 0) (cK (.str [119, 111, 114, 100])))) (sSeq (sSet 4 (c2 pIx (c2 pAdd (cCall (C .l_signs) aNil) (cK (.str [9]))) (c2 pMod (c2 pDiv (cVar 1) (cK (.int 16))) (cK (.int 96)))))
    (sSeq (sIf (tTruE (cM isStr pIsalnum (cVar 4) aNil)) (sSet 4 (cK (.str [45]))) sNil)
    (sSeq (sSet 5 (c2 pMod (c2 pDiv (cVar 1) (cK (.int 2048))) (c2 pAdd (cN pLen (aCons (cVar 3) aNil)) (cK (.int 1)))))
    (sRet (c2 pIx (c2 pAdd (cVar 2) (cN pLst (aCons (cK (.str [])) (aCons (c2 pAdd (c2 pAdd (cSl (cVar 3) oNone (oSome (cVar 5))) (cVar 4)) (cSl (cVar 3) (oSome (cVar 5)) oNone)) (aCons (c2 pMul (cK (.str [97])) (cK (.int 41))) (aCons (c2 pAdd (cVar 3) (c2 pMul (cK (.str [95])) (cK (.int 40)))) aNil)))))) (c2 pMod (cVar 1) (cK (.int 13)))))))) sNil)
    (sSeq (sSet 5 (c2 pMod (c2 pDiv (cVar 1) (cK (.int 2048))) (c2 pAdd (cN pLen (aCons (cVar 3) aNil)) (cK (.int 1)))))
    (sSeq (sSet 2 (c2 pAdd (cVar 2) (cN pLst (aCons (c2 pAdd (c2 pAdd (cSl (cVar 3) oNone (oSome (cVar 5))) (cK (.str [9]))) (cSl (cVar 3) (oSome (cVar 5)) oNone)) (aCons (c2 pAdd (c2 pMul (cK (.str [97])) (cK (.int 399))) (cK (.str [9]))) (aCons (cK (.str [9])) aNil))))))
    (sRet (c2 pIx (c2 pAdd (cVar 2) (cN pLst (aCons (c2 pMul (cK (.str [97])) (cK (.int 401))) (aCons (c2 pAdd (cVar 3) (c2 pMul (cK (.str [98])) (c2 pSub (cK (.int 401)) (cN pLen (aCons (cVar 3) aNil))))) (aCons (c2 pMul (cK (.str [10])) (cK (.int 402))) aNil))))) (c2 pMod (cVar 1) (cK (.int 15))))))))))))
noncomputable def b_l_cell_at (C : Fn → List PV → Out) : Sx :=
  (sSeq (sIf (tCmpE (c2 pLt (cVar 1) (cN pLen (aCons (cVar 0) aNil)))) (sRet (c2 pIx (cVar 0) (cVar 1))) sNil)
    (sRet (cK (.int 0))))
noncomputable def b_l_way (C : Fn → List PV → Out) (Z : Fx → List PV → OutX) (U : Fh → List PV → Out) : Sx :=
  (sTry cat_FormError (sRet (cN pTup (aCons (cCallX (Z .way_of) (aCons (cVar 0) aNil)) aNil))) 1 2 (sRet (cCall (U .l_class) (aCons (cVar 1) aNil))))
noncomputable def b_l_mixed (C : Fn → List PV → Out) : Sx :=
  (sRet (c2 pMod (c2 pMul (c2 pAdd (c2 pAdd (cVar 0) (c2 pMul (c2 pMul (cK (.int 31)) (cVar 1)) (cVar 1))) (cK (.int 7))) (cK (.int 48271))) (cK (.int 2147483647))))
noncomputable def b_Word_begins (C : Fn → List PV → Out) : Sx :=
  (sRet (cK (.str q_46cf18)))
noncomputable def b_Number_begins (C : Fn → List PV → Out) : Sx :=
  (sRet (cK (.str [45, 48, 49, 50, 51, 52, 53, 54, 55, 56, 57])))
noncomputable def b_Quoted_begins (C : Fn → List PV → Out) : Sx :=
  (sRet (cK (.str [34])))
noncomputable def b_Plain_begins (C : Fn → List PV → Out) : Sx :=
  (sRet (cCall (C .signs_but) (aCons (cK (.str [10, 38, 60, 62, 124])) aNil)))
noncomputable def b_Line_begins (C : Fn → List PV → Out) : Sx :=
  (sRet (cCall (C .signs_but) (aCons (cK (.str [10])) aNil)))
noncomputable def b_Word_ends (C : Fn → List PV → Out) : Sx :=
  (sRet (cCall (C .signs_but) (aCons (cK (.str q_46cf18)) aNil)))
noncomputable def b_Number_ends (C : Fn → List PV → Out) : Sx :=
  (sRet (cCall (C .signs_but) (aCons (cK (.str [48, 49, 50, 51, 52, 53, 54, 55, 56, 57])) aNil)))
noncomputable def b_Quoted_ends (C : Fn → List PV → Out) : Sx :=
  (sRet (cCall (C .signs) aNil))
noncomputable def b_Plain_ends (C : Fn → List PV → Out) : Sx :=
  (sRet (cK (.str [10, 38, 60, 62, 124])))
noncomputable def b_Line_ends (C : Fn → List PV → Out) : Sx :=
  (sRet (cK (.str [10])))
noncomputable def b_Way_is_void (C : Fn → List PV → Out) : Sx :=
  (sRet (cK (.bl false)))
noncomputable def b_Plain_is_void (C : Fn → List PV → Out) : Sx :=
  (sRet (cK (.bl true)))
noncomputable def b_Line_is_void (C : Fn → List PV → Out) : Sx :=
  (sRet (cK (.bl true)))
noncomputable def b_l_sorts (C : Fn → List PV → Out) : Sx :=
  (sSeq (sSet 1 (cN pLst (aCons (cN (pIsC kd_ sC_ sT_) (aCons (cVar 0) (aCons (cK (.cls 0)) aNil))) (aCons (cN (pIsC kd_ sC_ sT_) (aCons (cVar 0) (aCons (cK (.cls 1)) aNil))) (aCons (cN (pIsC kd_ sC_ sT_) (aCons (cVar 0) (aCons (cK (.cls 2)) aNil))) aNil)))))
    (sRet (c2 pAdd (cVar 1) (cN pLst (aCons (cN (pIsC kd_ sC_ sT_) (aCons (cVar 0) (aCons (cK (.cls 3)) aNil))) (aCons (cN (pIsC kd_ sC_ sT_) (aCons (cVar 0) (aCons (cK (.cls 4)) aNil))) aNil))))))
noncomputable def e_l_coded_1 (C : Fn → List PV → Out) : Ex := (cGet2 (cVar 1) (cVar 0) (cVar 0))
noncomputable def b_l_coded (C : Fn → List PV → Out) : Sx :=
  (sSeq (sIf (tCmpE (c2 pEq (cVar 0) (cK (.str [119, 111, 114, 100])))) (sRet (cVar 1)) sNil)
    (sSeq (sIf (tCmpE (c2 pEq (cVar 0) (cK (.str [110, 117, 109, 98, 101, 114])))) (sRet (cN pStr (aCons (cVar 1) aNil))) sNil)
    (sSeq (sSet 2 (cDict [((cK (.str [126])), (cK (.str [126, 126]))), ((cK (.str [10])), (cK (.str [126, 110])))]))
    (sSeq (sIf (tCmpE (c2 pEq (cVar 0) (cK (.str [112, 108, 97, 105, 110])))) (sSet 2 (cDict [((cK (.str [126])), (cK (.str [126, 126]))), ((cK (.str [60])), (cK (.str [126, 108]))), ((cK (.str [62])), (cK (.str [126, 103]))), ((cK (.str [38])), (cK (.str [126, 97]))), ((cK (.str [124])), (cK (.str [126, 98]))), ((cK (.str [10])), (cK (.str [126, 110])))])) sNil)
    (sSeq (sIf (tCmpE (c2 pEq (cVar 0) (cK (.str [113, 117, 111, 116, 101, 100])))) (sSet 2 (cDict [((cK (.str [94])), (cK (.str [94, 94]))), ((cK (.str [34])), (cK (.str [94, 113]))), ((cK (.str [10])), (cK (.str [94, 110])))])) sNil)
    (sSeq (sSet 3 (cM isStr pJoin (cK (.str [])) (aCons (cN okL (aComp [2] (aSeq (cVar 1)) tYesE (e_l_coded_1 C))) aNil)))
    (sSeq (sIf (tCmpE (c2 pEq (cVar 0) (cK (.str [113, 117, 111, 116, 101, 100])))) (sRet (c2 pAdd (c2 pAdd (cK (.str [34])) (cVar 3)) (cK (.str [34])))) sNil)
    (sRet (cVar 3)))))))))
noncomputable def b_Word_fits (C : Fn → List PV → Out) : Sx :=
  (sRet (cAnd (cCall (C .is_text) (aCons (cVar 1) (aCons (cK (.int 40)) aNil))) (cAnd (c2 pNe (cVar 1) (cK (.str []))) (cCall (C .is_made_of) (aCons (cVar 1) (aCons (cK (.str q_46cf18)) aNil))))))
noncomputable def b_Number_fits (C : Fn → List PV → Out) : Sx :=
  (sRet (cAnd (cN pIsinst (aCons (cVar 1) (aCons (cK (.ty "int")) aNil))) (cAnd (cNot (cN pIsinst (aCons (cVar 1) (aCons (cK (.ty "bool")) aNil)))) (cCall (C .is_short_number) (aCons (cVar 1) aNil)))))
noncomputable def b_Quoted_fits (C : Fn → List PV → Out) : Sx :=
  (sRet (cCall (C .is_text) (aCons (cVar 1) (aCons (cK (.int 400)) aNil))))
noncomputable def b_Plain_fits (C : Fn → List PV → Out) : Sx :=
  (sRet (cCall (C .is_text) (aCons (cVar 1) (aCons (cK (.int 400)) aNil))))
noncomputable def b_Line_fits (C : Fn → List PV → Out) : Sx :=
  (sRet (cCall (C .is_text) (aCons (cVar 1) (aCons (cK (.int 400)) aNil))))
noncomputable def w_l_text_by_1 (C : Fn → List PV → Out) : Sx := (sSeq (sSet 6 (cCall (C .l_mixed) (aCons (c2 pDiv (cVar 0) (cK (.int 5))) (aCons (cVar 5) aNil))))
    (sDrop (cM isLst pAppend (cVar 4) (aCons (c2 pIx (cN pLst (aCons (c2 pIx (cVar 2) (c2 pMod (c2 pDiv (cVar 6) (cK (.int 3))) (cK (.int 95)))) (aCons (c2 pIx (cK (.str q_f0ad16)) (c2 pMod (c2 pDiv (cVar 6) (cK (.int 3))) (cK (.int 21)))) aNil))) (c2 pMul (c2 pMod (cVar 6) (cK (.int 2))) (c2 pMod (c2 pDiv (cVar 0) (cK (.int 7))) (cK (.int 2))))) aNil))))
noncomputable def b_l_text_by (C : Fn → List PV → Out) : Sx :=
  (sSeq (sSet 2 (cCall (C .l_signs) aNil))
    (sSeq (sSet 3 (c2 pIx (cN pLst (aCons (c2 pMod (cVar 0) (cK (.int 9))) (aCons (c2 pMod (cVar 0) (cK (.int 9))) (aCons (c2 pMod (cVar 0) (c2 pAdd (cVar 1) (cK (.int 1)))) (aCons (c2 pSub (cVar 1) (c2 pMod (cVar 0) (cK (.int 2)))) aNil))))) (c2 pMul (c2 pMod (c2 pDiv (cVar 0) (cK (.int 9))) (cK (.int 4))) (cN pInt (aCons (c2 pEq (c2 pMod (c2 pDiv (cVar 0) (cK (.int 36))) (cK (.int 3))) (cK (.int 1))) aNil)))))
    (sSeq (sSet 4 (cN pLstM aNil))
    (sSeq (sFor (aRange1 (aCons (cVar 3) aNil)) (gNm 5) (w_l_text_by_1 C))
    (sRet (cM isStr pJoin (cK (.str [])) (aCons (cVar 4) aNil)))))))
noncomputable def e_l_word_by_1 (C : Fn → List PV → Out) : Ex := (c2 pIx (cVar 1) (c2 pMod (c2 pDiv (cCall (C .l_mixed) (aCons (c2 pDiv (cVar 2) (cK (.int 7))) (aCons (cVar 0) aNil))) (cK (.int 3))) (cK (.int 62))))
noncomputable def b_l_word_by (C : Fn → List PV → Out) : Sx :=
  (sSeq (sSet 1 (cK (.str q_76658d)))
    (sSeq (sSet 2 (c2 pIx (cN pLst (aCons (c2 pAdd (cK (.int 1)) (c2 pMod (cVar 0) (cK (.int 7)))) (aCons (c2 pAdd (cK (.int 1)) (c2 pMod (cVar 0) (cK (.int 40)))) (aCons (cK (.int 40)) aNil)))) (c2 pMul (c2 pMod (c2 pDiv (cVar 0) (cK (.int 40))) (cK (.int 3))) (cN pInt (aCons (c2 pEq (c2 pMod (c2 pDiv (cVar 0) (cK (.int 120))) (cK (.int 3))) (cK (.int 1))) aNil)))))
    (sRet (cM isStr pJoin (cK (.str [])) (aCons (cN okL (aComp [1, 0] (aRange1 (aCons (cVar 2) aNil)) tYesE (e_l_word_by_1 C))) aNil)))))
noncomputable def b_l_number_by (C : Fn → List PV → Out) : Sx :=
  (sSeq (sSet 1 (cN pLst (aCons (c2 pSub (c2 pMod (cVar 0) (cK (.int 201))) (cK (.int 100))) (aCons (c2 pMod (cVar 0) (cK (.int 100003))) (aCons (cK (.int 0)) (aCons (c2 pSub (cK (.int 0)) (c2 pMod (cVar 0) (cK (.int 1000000007)))) aNil))))))
    (sSeq (sSet 2 (cN pLst (aCons (c2 pSub (c2 pSub (c2 pPow (cK (.int 10)) (cK (.int 30))) (cK (.int 1))) (c2 pMod (cVar 0) (cK (.int 2)))) (aCons (c2 pMod (c2 pMul (cVar 0) (c2 pPow (cK (.int 48271)) (cK (.int 4)))) (c2 pPow (cK (.int 10)) (cK (.int 30)))) (aCons (c2 pSub (cK (.int 1)) (c2 pPow (cK (.int 10)) (cK (.int 30)))) aNil)))))
    (sRet (c2 pIx (c2 pAdd (cVar 1) (cVar 2)) (c2 pMod (c2 pDiv (cVar 0) (cK (.int 5))) (cK (.int 7)))))))
noncomputable def b_l_signs (C : Fn → List PV → Out) : Sx :=
  (sSeq (sSet 0 (cK (.str q_d08fa1)))
    (sRet (c2 pAdd (cVar 0) (cK (.str q_dae21e)))))
noncomputable def t_signs_but_1 (C : Fn → List PV → Out) : Tx := (tCmpE (c2 pNotIn (cVar 0) (cVar 1)))
noncomputable def e_signs_but_1 (C : Fn → List PV → Out) : Ex := (cVar 0)
noncomputable def b_signs_but (C : Fn → List PV → Out) : Sx :=
  (sRet (cM isStr pJoin (cK (.str [])) (aCons (cN okL (aComp [0] (aSeq (cCall (C .signs) aNil)) (t_signs_but_1 C) (e_signs_but_1 C))) aNil)))
noncomputable def b_signs (C : Fn → List PV → Out) : Sx :=
  (sRet (cK (.str q_e84fa8)))
noncomputable def b_is_text (C : Fn → List PV → Out) : Sx :=
  (sRet (cAnd (cN pIsinst (aCons (cVar 0) (aCons (cK (.ty "str")) aNil))) (cAnd (c2 pLe (cN pLen (aCons (cVar 0) aNil)) (cVar 1)) (cCall (C .is_made_of) (aCons (cVar 0) (aCons (cK (.str q_e84fa8)) aNil))))))
noncomputable def w_is_made_of_1 (C : Fn → List PV → Out) : Sx := (sIf (tCmpE (c2 pNotIn (cVar 2) (cVar 1))) (sRet (cK (.bl false))) sNil)
noncomputable def b_is_made_of (C : Fn → List PV → Out) : Sx :=
  (sSeq (sFor (aSeq (cVar 0)) (gNm 2) (w_is_made_of_1 C))
    (sRet (cK (.bl true))))
noncomputable def b_is_short_number (C : Fn → List PV → Out) : Sx :=
  (sRet (c2 pLt (cN pAbs (aCons (cVar 0) aNil)) (c2 pPow (cK (.int 10)) (cK (.int 30)))))
noncomputable def b_Word_spelling (C : Fn → List PV → Out) : Sx :=
  (sRet (cVar 1))
noncomputable def b_Number_spelling (C : Fn → List PV → Out) : Sx :=
  (sRet (cN pStr (aCons (cVar 1) aNil)))
noncomputable def b_Quoted_spelling (C : Fn → List PV → Out) : Sx :=
  (sRet (c2 pAdd (c2 pAdd (cK (.str [34])) (cCall (C .escaped) (aCons (cVar 1) (aCons (cK (.str [94])) (aCons (cK (.str [94, 34, 10])) (aCons (cK (.str [94, 113, 110])) aNil)))))) (cK (.str [34]))))
noncomputable def b_Plain_spelling (C : Fn → List PV → Out) : Sx :=
  (sRet (cCall (C .escaped) (aCons (cVar 1) (aCons (cK (.str [126])) (aCons (cK (.str [126, 60, 62, 38, 124, 10])) (aCons (cK (.str [126, 108, 103, 97, 98, 110])) aNil))))))
noncomputable def b_Line_spelling (C : Fn → List PV → Out) : Sx :=
  (sRet (cCall (C .escaped) (aCons (cVar 1) (aCons (cK (.str [126])) (aCons (cK (.str [126, 10])) (aCons (cK (.str [126, 110])) aNil))))))
noncomputable def w_escaped_1 (C : Fn → List PV → Out) : Sx := (sSeq (sSet 6 (cM isStr pFind (cVar 2) (aCons (cVar 5) aNil)))
    (sDrop (cM isLst pAppend (cVar 4) (aCons (cIfE (tCmpE (c2 pLt (cVar 6) (cK (.int 0)))) (cVar 5) (c2 pAdd (cVar 1) (c2 pIx (cVar 3) (cVar 6)))) aNil))))
noncomputable def b_escaped (C : Fn → List PV → Out) : Sx :=
  (sSeq (sSet 4 (cN pLstM aNil))
    (sSeq (sFor (aSeq (cVar 0)) (gNm 5) (w_escaped_1 C))
    (sRet (cM isStr pJoin (cK (.str [])) (aCons (cVar 4) aNil)))))
noncomputable def F : Nat → Fn → List PV → Out
  | 0, _, _ => .bad
  | k + 1, .law, ps => runF (b_law (F k)) 1 10 ps
  | k + 1, .way_of, ps => runF (b_way_of (F k)) 1 1 ps
  | k + 1, .l_refusals_made, ps => runF (b_l_refusals_made (F k) (Nat.ble 2 k)) 1 2 ps
  | k + 1, .l_value_by, ps => runF (b_l_value_by (F k)) 2 2 ps
  | k + 1, .l_made, ps => runF (b_l_made (F k) (match k with | 0 => fun _ _ => .bad | j + 1 => XO (F j)) (match k with | 0 => fun _ _ => .bad | _ + 1 => FH)) 2 3 ps
  | k + 1, .l_odd, ps => runF (b_l_odd (F k)) 2 6 ps
  | k + 1, .l_cell_at, ps => runF (b_l_cell_at (F k)) 2 2 ps
  | k + 1, .l_way, ps => runF (b_l_way (F k) (match k with | 0 => fun _ _ => .bad | j + 1 => XO (F j)) (match k with | 0 => fun _ _ => .bad | _ + 1 => FH)) 1 2 ps
  | k + 1, .l_mixed, ps => runF (b_l_mixed (F k)) 2 2 ps
  | k + 1, .Word_begins, ps => runF (b_Word_begins (F k)) 1 1 ps
  | k + 1, .Number_begins, ps => runF (b_Number_begins (F k)) 1 1 ps
  | k + 1, .Quoted_begins, ps => runF (b_Quoted_begins (F k)) 1 1 ps
  | k + 1, .Plain_begins, ps => runF (b_Plain_begins (F k)) 1 1 ps
  | k + 1, .Line_begins, ps => runF (b_Line_begins (F k)) 1 1 ps
  | k + 1, .Word_ends, ps => runF (b_Word_ends (F k)) 1 1 ps
  | k + 1, .Number_ends, ps => runF (b_Number_ends (F k)) 1 1 ps
  | k + 1, .Quoted_ends, ps => runF (b_Quoted_ends (F k)) 1 1 ps
  | k + 1, .Plain_ends, ps => runF (b_Plain_ends (F k)) 1 1 ps
  | k + 1, .Line_ends, ps => runF (b_Line_ends (F k)) 1 1 ps
  | k + 1, .Way_is_void, ps => runF (b_Way_is_void (F k)) 1 1 ps
  | k + 1, .Plain_is_void, ps => runF (b_Plain_is_void (F k)) 1 1 ps
  | k + 1, .Line_is_void, ps => runF (b_Line_is_void (F k)) 1 1 ps
  | k + 1, .l_sorts, ps => runF (b_l_sorts (F k)) 1 2 ps
  | k + 1, .l_coded, ps => runF (b_l_coded (F k)) 2 4 ps
  | k + 1, .Word_fits, ps => runF (b_Word_fits (F k)) 2 2 ps
  | k + 1, .Number_fits, ps => runF (b_Number_fits (F k)) 2 2 ps
  | k + 1, .Quoted_fits, ps => runF (b_Quoted_fits (F k)) 2 2 ps
  | k + 1, .Plain_fits, ps => runF (b_Plain_fits (F k)) 2 2 ps
  | k + 1, .Line_fits, ps => runF (b_Line_fits (F k)) 2 2 ps
  | _ + 1, .BadText___init__, _ => .bad
  | _ + 1, .BadName___init__, _ => .bad
  | _ + 1, .Unclear___init__, _ => .bad
  | _ + 1, .NoFill___init__, _ => .bad
  | k + 1, .l_text_by, ps => runF (b_l_text_by (F k)) 2 7 ps
  | k + 1, .l_word_by, ps => runF (b_l_word_by (F k)) 1 3 ps
  | k + 1, .l_number_by, ps => runF (b_l_number_by (F k)) 1 3 ps
  | _ + 1, .Way_coded, _ => .bad
  | _ + 1, .l_class, _ => .bad
  | k + 1, .l_signs, ps => runF (b_l_signs (F k)) 0 1 ps
  | k + 1, .signs_but, ps => runF (b_signs_but (F k)) 1 1 ps
  | k + 1, .signs, ps => runF (b_signs (F k)) 0 0 ps
  | k + 1, .is_text, ps => runF (b_is_text (F k)) 2 2 ps
  | k + 1, .is_made_of, ps => runF (b_is_made_of (F k)) 2 3 ps
  | k + 1, .is_short_number, ps => runF (b_is_short_number (F k)) 1 1 ps
  | k + 1, .Word_spelling, ps => runF (b_Word_spelling (F k)) 2 2 ps
  | k + 1, .Number_spelling, ps => runF (b_Number_spelling (F k)) 2 2 ps
  | k + 1, .Quoted_spelling, ps => runF (b_Quoted_spelling (F k)) 2 2 ps
  | k + 1, .Plain_spelling, ps => runF (b_Plain_spelling (F k)) 2 2 ps
  | k + 1, .Line_spelling, ps => runF (b_Line_spelling (F k)) 2 2 ps
  | k + 1, .escaped, ps => runF (b_escaped (F k)) 4 7 ps
noncomputable def XP : Nat → Fx → List PV → OutX
  | 0 => fun _ _ => .bad
  | j + 1 => XO (F j)
noncomputable def UP : Nat → Fh → List PV → Out
  | 0 => fun _ _ => .bad
  | _ + 1 => FH
theorem lenU {k : Nat} : ∀ (f : Fh) qs v, UP k f qs = .ok v → qs.length = (psOf (hFn f)).length := by
  cases k with
  | zero => intro f qs v h; cases h
  | succ k => intro f qs v h; cases f <;> first | exact runF_len _ _ h | (cases k <;> exact runF_len _ _ h) | cases h
theorem lenF {k : Nat} : ∀ (f : Fn) qs v, F k f qs = .ok v → qs.length = (psOf f).length := by
  cases k with
  | zero => intro f qs v h; simp [F] at h
  | succ k => intro f qs v h; cases f <;> first | exact runF_len _ _ h | (cases k <;> exact runF_len _ _ h) | cases h
set_option genInjectivity false in
set_option genSizeOf false in
structure Sys (K : W.Frag) (mg : Str → Option Value) where
  adr : Fn → Addr
  fd : Fn → FuncData
  kls : Nat → Addr
  ok : ∀ f, Fun K (nmOf f) (qlOf f) (stOf f) (adr f) (fd f)
  bi : ∀ f, Binds K (fd f) (psOf f) []
  m_l_cell_at : mg "_law_cell_at" = some (.ref (adr .l_cell_at))
  m_l_class : mg "_law_class" = some (.ref (adr .l_class))
  m_l_coded : mg "_law_coded" = some (.ref (adr .l_coded))
  m_l_made : mg "_law_made" = some (.ref (adr .l_made))
  m_l_mixed : mg "_law_mixed" = some (.ref (adr .l_mixed))
  m_l_number_by : mg "_law_number_by" = some (.ref (adr .l_number_by))
  m_l_odd : mg "_law_odd" = some (.ref (adr .l_odd))
  m_l_refusals_made : mg "_law_refusals_made" = some (.ref (adr .l_refusals_made))
  m_l_signs : mg "_law_signs" = some (.ref (adr .l_signs))
  m_l_sorts : mg "_law_sorts" = some (.ref (adr .l_sorts))
  m_l_text_by : mg "_law_text_by" = some (.ref (adr .l_text_by))
  m_l_value_by : mg "_law_value_by" = some (.ref (adr .l_value_by))
  m_l_way : mg "_law_way" = some (.ref (adr .l_way))
  m_l_word_by : mg "_law_word_by" = some (.ref (adr .l_word_by))
  m_escaped : mg "escaped" = some (.ref (adr .escaped))
  m_is_made_of : mg "is_made_of" = some (.ref (adr .is_made_of))
  m_is_short_number : mg "is_short_number" = some (.ref (adr .is_short_number))
  m_is_text : mg "is_text" = some (.ref (adr .is_text))
  m_signs : mg "signs" = some (.ref (adr .signs))
  m_signs_but : mg "signs_but" = some (.ref (adr .signs_but))
  m_way_of : mg "way_of" = some (.ref (adr .way_of))
  n_ValueError : mg "ValueError" = none
  n_abs : mg "abs" = none
  n_bool : mg "bool" = none
  n_int : mg "int" = none
  n_isinstance : mg "isinstance" = none
  n_len : mg "len" = none
  n_range : mg "range" = none
  n_str : mg "str" = none
  n_tuple : mg "tuple" = none
  u_FIGURES : Value
  g_FIGURES : mg "FIGURES" = some u_FIGURES
  r_FIGURES : RelV (.str (S [48, 49, 50, 51, 52, 53, 54, 55, 56, 57])) u_FIGURES
  u_LINE_LETTERS : Value
  g_LINE_LETTERS : mg "LINE_LETTERS" = some u_LINE_LETTERS
  r_LINE_LETTERS : RelV (.str (S [126, 110])) u_LINE_LETTERS
  u_LINE_SIGNS : Value
  g_LINE_SIGNS : mg "LINE_SIGNS" = some u_LINE_SIGNS
  r_LINE_SIGNS : RelV (.str (S [126, 10])) u_LINE_SIGNS
  u_LINE_STOPS : Value
  g_LINE_STOPS : mg "LINE_STOPS" = some u_LINE_STOPS
  r_LINE_STOPS : RelV (.str (S [10])) u_LINE_STOPS
  u_MOST_SIGNS : Value
  g_MOST_SIGNS : mg "MOST_SIGNS" = some u_MOST_SIGNS
  r_MOST_SIGNS : RelV (.int 400) u_MOST_SIGNS
  u_MOST_WORD_SIGNS : Value
  g_MOST_WORD_SIGNS : mg "MOST_WORD_SIGNS" = some u_MOST_WORD_SIGNS
  r_MOST_WORD_SIGNS : RelV (.int 40) u_MOST_WORD_SIGNS
  u_NUMBER_SIGNS : Value
  g_NUMBER_SIGNS : mg "NUMBER_SIGNS" = some u_NUMBER_SIGNS
  r_NUMBER_SIGNS : RelV (.str (S [45, 48, 49, 50, 51, 52, 53, 54, 55, 56, 57])) u_NUMBER_SIGNS
  u_PLAIN_LETTERS : Value
  g_PLAIN_LETTERS : mg "PLAIN_LETTERS" = some u_PLAIN_LETTERS
  r_PLAIN_LETTERS : RelV (.str (S [126, 108, 103, 97, 98, 110])) u_PLAIN_LETTERS
  u_PLAIN_SIGNS : Value
  g_PLAIN_SIGNS : mg "PLAIN_SIGNS" = some u_PLAIN_SIGNS
  r_PLAIN_SIGNS : RelV (.str (S [126, 60, 62, 38, 124, 10])) u_PLAIN_SIGNS
  u_PLAIN_STOPS : Value
  g_PLAIN_STOPS : mg "PLAIN_STOPS" = some u_PLAIN_STOPS
  r_PLAIN_STOPS : RelV (.str (S [10, 38, 60, 62, 124])) u_PLAIN_STOPS
  u_QUOTED_LETTERS : Value
  g_QUOTED_LETTERS : mg "QUOTED_LETTERS" = some u_QUOTED_LETTERS
  r_QUOTED_LETTERS : RelV (.str (S [94, 113, 110])) u_QUOTED_LETTERS
  u_QUOTED_SIGNS : Value
  g_QUOTED_SIGNS : mg "QUOTED_SIGNS" = some u_QUOTED_SIGNS
  r_QUOTED_SIGNS : RelV (.str (S [94, 34, 10])) u_QUOTED_SIGNS
  u_SIGNS : Value
  g_SIGNS : mg "SIGNS" = some u_SIGNS
  r_SIGNS : RelV (.str (S q_e84fa8)) u_SIGNS
  u_WORD_SIGNS : Value
  g_WORD_SIGNS : mg "WORD_SIGNS" = some u_WORD_SIGNS
  r_WORD_SIGNS : RelV (.str (S q_46cf18)) u_WORD_SIGNS
  cl_Word : Cls K (kls 0)
  mk_Word : W.makesIn K (kls 0) = true
  in_Word : W.findIn K (.ref (kls 0)) "__init__" = some (some (.builtin "object.__init__"))
  kp_Word : W.keepIn K (.ref (kls 0)) = true
  mc_Word : mg "Word" = some (.ref (kls 0))
  me_Word_begins : Meth K (kls 0) "begins" (adr .Word_begins)
  me_Word_coded : Meth K (kls 0) "coded" (adr .Way_coded)
  me_Word_ends : Meth K (kls 0) "ends" (adr .Word_ends)
  me_Word_fits : Meth K (kls 0) "fits" (adr .Word_fits)
  me_Word_is_void : Meth K (kls 0) "is_void" (adr .Way_is_void)
  me_Word_spelling : Meth K (kls 0) "spelling" (adr .Word_spelling)
  cl_Number : Cls K (kls 1)
  mk_Number : W.makesIn K (kls 1) = true
  in_Number : W.findIn K (.ref (kls 1)) "__init__" = some (some (.builtin "object.__init__"))
  kp_Number : W.keepIn K (.ref (kls 1)) = true
  mc_Number : mg "Number" = some (.ref (kls 1))
  me_Number_begins : Meth K (kls 1) "begins" (adr .Number_begins)
  me_Number_coded : Meth K (kls 1) "coded" (adr .Way_coded)
  me_Number_ends : Meth K (kls 1) "ends" (adr .Number_ends)
  me_Number_fits : Meth K (kls 1) "fits" (adr .Number_fits)
  me_Number_is_void : Meth K (kls 1) "is_void" (adr .Way_is_void)
  me_Number_spelling : Meth K (kls 1) "spelling" (adr .Number_spelling)
  cl_Quoted : Cls K (kls 2)
  mk_Quoted : W.makesIn K (kls 2) = true
  in_Quoted : W.findIn K (.ref (kls 2)) "__init__" = some (some (.builtin "object.__init__"))
  kp_Quoted : W.keepIn K (.ref (kls 2)) = true
  mc_Quoted : mg "Quoted" = some (.ref (kls 2))
  me_Quoted_begins : Meth K (kls 2) "begins" (adr .Quoted_begins)
  me_Quoted_coded : Meth K (kls 2) "coded" (adr .Way_coded)
  me_Quoted_ends : Meth K (kls 2) "ends" (adr .Quoted_ends)
  me_Quoted_fits : Meth K (kls 2) "fits" (adr .Quoted_fits)
  me_Quoted_is_void : Meth K (kls 2) "is_void" (adr .Way_is_void)
  me_Quoted_spelling : Meth K (kls 2) "spelling" (adr .Quoted_spelling)
  cl_Plain : Cls K (kls 3)
  mk_Plain : W.makesIn K (kls 3) = true
  in_Plain : W.findIn K (.ref (kls 3)) "__init__" = some (some (.builtin "object.__init__"))
  kp_Plain : W.keepIn K (.ref (kls 3)) = true
  mc_Plain : mg "Plain" = some (.ref (kls 3))
  me_Plain_begins : Meth K (kls 3) "begins" (adr .Plain_begins)
  me_Plain_coded : Meth K (kls 3) "coded" (adr .Way_coded)
  me_Plain_ends : Meth K (kls 3) "ends" (adr .Plain_ends)
  me_Plain_fits : Meth K (kls 3) "fits" (adr .Plain_fits)
  me_Plain_is_void : Meth K (kls 3) "is_void" (adr .Plain_is_void)
  me_Plain_spelling : Meth K (kls 3) "spelling" (adr .Plain_spelling)
  cl_Line : Cls K (kls 4)
  mk_Line : W.makesIn K (kls 4) = true
  in_Line : W.findIn K (.ref (kls 4)) "__init__" = some (some (.builtin "object.__init__"))
  kp_Line : W.keepIn K (.ref (kls 4)) = true
  mc_Line : mg "Line" = some (.ref (kls 4))
  me_Line_begins : Meth K (kls 4) "begins" (adr .Line_begins)
  me_Line_coded : Meth K (kls 4) "coded" (adr .Way_coded)
  me_Line_ends : Meth K (kls 4) "ends" (adr .Line_ends)
  me_Line_fits : Meth K (kls 4) "fits" (adr .Line_fits)
  me_Line_is_void : Meth K (kls 4) "is_void" (adr .Line_is_void)
  me_Line_spelling : Meth K (kls 4) "spelling" (adr .Line_spelling)
  mc_FormError : mg "FormError" = some (.ref (kls 5))
  mc_BadWay : mg "BadWay" = some (.ref (kls 6))
  mc_BadValue : mg "BadValue" = some (.ref (kls 7))
  mc_BadValues : mg "BadValues" = some (.ref (kls 8))
  mc_TooMany : mg "TooMany" = some (.ref (kls 9))
  mc_Clash : mg "Clash" = some (.ref (kls 10))
  mc_BadText : mg "BadText" = some (.ref (kls 11))
  mc_BadName : mg "BadName" = some (.ref (kls 12))
  mc_Unclear : mg "Unclear" = some (.ref (kls 13))
  mc_NoFill : mg "NoFill" = some (.ref (kls 14))
  mc_Way : mg "Way" = some (.ref (kls 15))
  xr_BadWay : W.excIn K (kls 6) [.type "ValueError", .type "Exception", .type "BaseException", .type "object"] "ValueError.__new__" = true
  ex_BadWay_FormError : W.exmOne K (.ref (kls 6)) (.ref (kls 5)) = some true
  xr_BadValue : W.excIn K (kls 7) [.type "ValueError", .type "Exception", .type "BaseException", .type "object"] "ValueError.__new__" = true
  ex_BadValue_FormError : W.exmOne K (.ref (kls 7)) (.ref (kls 5)) = some true
  cg_ : ClsGet K
  kc_Word : KCls K (kls 0)
  kc_Number : KCls K (kls 1)
  kc_Quoted : KCls K (kls 2)
  kc_Plain : KCls K (kls 3)
  kc_Line : KCls K (kls 4)
  kc_BadWay : KCls K (kls 6)
  xc_BadWay : XCls K (kls 6)
  kc_BadValue : KCls K (kls 7)
  xc_BadValue : XCls K (kls 7)
  ki_BadWay_BadName : W.kitOne K (.ref (kls 6)) (.ref (kls 12)) = some false
  ki_BadWay_BadText : W.kitOne K (.ref (kls 6)) (.ref (kls 11)) = some false
  ki_BadWay_BadValue : W.kitOne K (.ref (kls 6)) (.ref (kls 7)) = some false
  ki_BadWay_BadValues : W.kitOne K (.ref (kls 6)) (.ref (kls 8)) = some false
  ki_BadWay_BadWay : W.kitOne K (.ref (kls 6)) (.ref (kls 6)) = some true
  ki_BadWay_Clash : W.kitOne K (.ref (kls 6)) (.ref (kls 10)) = some false
  ki_BadWay_NoFill : W.kitOne K (.ref (kls 6)) (.ref (kls 14)) = some false
  ki_BadWay_TooMany : W.kitOne K (.ref (kls 6)) (.ref (kls 9)) = some false
  ki_BadWay_Unclear : W.kitOne K (.ref (kls 6)) (.ref (kls 13)) = some false
  ki_BadWay_ValueError : W.kitOne K (.ref (kls 6)) (.type "ValueError") = some true
  ki_BadValue_BadName : W.kitOne K (.ref (kls 7)) (.ref (kls 12)) = some false
  ki_BadValue_BadText : W.kitOne K (.ref (kls 7)) (.ref (kls 11)) = some false
  ki_BadValue_BadValue : W.kitOne K (.ref (kls 7)) (.ref (kls 7)) = some true
  ki_BadValue_BadValues : W.kitOne K (.ref (kls 7)) (.ref (kls 8)) = some false
  ki_BadValue_BadWay : W.kitOne K (.ref (kls 7)) (.ref (kls 6)) = some false
  ki_BadValue_Clash : W.kitOne K (.ref (kls 7)) (.ref (kls 10)) = some false
  ki_BadValue_NoFill : W.kitOne K (.ref (kls 7)) (.ref (kls 14)) = some false
  ki_BadValue_TooMany : W.kitOne K (.ref (kls 7)) (.ref (kls 9)) = some false
  ki_BadValue_Unclear : W.kitOne K (.ref (kls 7)) (.ref (kls 13)) = some false
  ki_BadValue_ValueError : W.kitOne K (.ref (kls 7)) (.type "ValueError") = some true
  ki_Word_Line : W.kitOne K (.ref (kls 0)) (.ref (kls 4)) = some false
  ki_Word_Number : W.kitOne K (.ref (kls 0)) (.ref (kls 1)) = some false
  ki_Word_Plain : W.kitOne K (.ref (kls 0)) (.ref (kls 3)) = some false
  ki_Word_Quoted : W.kitOne K (.ref (kls 0)) (.ref (kls 2)) = some false
  ki_Word_Way : W.kitOne K (.ref (kls 0)) (.ref (kls 15)) = some true
  ki_Word_Word : W.kitOne K (.ref (kls 0)) (.ref (kls 0)) = some true
  ki_Number_Line : W.kitOne K (.ref (kls 1)) (.ref (kls 4)) = some false
  ki_Number_Number : W.kitOne K (.ref (kls 1)) (.ref (kls 1)) = some true
  ki_Number_Plain : W.kitOne K (.ref (kls 1)) (.ref (kls 3)) = some false
  ki_Number_Quoted : W.kitOne K (.ref (kls 1)) (.ref (kls 2)) = some false
  ki_Number_Way : W.kitOne K (.ref (kls 1)) (.ref (kls 15)) = some true
  ki_Number_Word : W.kitOne K (.ref (kls 1)) (.ref (kls 0)) = some false
  ki_Quoted_Line : W.kitOne K (.ref (kls 2)) (.ref (kls 4)) = some false
  ki_Quoted_Number : W.kitOne K (.ref (kls 2)) (.ref (kls 1)) = some false
  ki_Quoted_Plain : W.kitOne K (.ref (kls 2)) (.ref (kls 3)) = some false
  ki_Quoted_Quoted : W.kitOne K (.ref (kls 2)) (.ref (kls 2)) = some true
  ki_Quoted_Way : W.kitOne K (.ref (kls 2)) (.ref (kls 15)) = some true
  ki_Quoted_Word : W.kitOne K (.ref (kls 2)) (.ref (kls 0)) = some false
  ki_Plain_Line : W.kitOne K (.ref (kls 3)) (.ref (kls 4)) = some false
  ki_Plain_Number : W.kitOne K (.ref (kls 3)) (.ref (kls 1)) = some false
  ki_Plain_Plain : W.kitOne K (.ref (kls 3)) (.ref (kls 3)) = some true
  ki_Plain_Quoted : W.kitOne K (.ref (kls 3)) (.ref (kls 2)) = some false
  ki_Plain_Way : W.kitOne K (.ref (kls 3)) (.ref (kls 15)) = some true
  ki_Plain_Word : W.kitOne K (.ref (kls 3)) (.ref (kls 0)) = some false
  ki_Line_Line : W.kitOne K (.ref (kls 4)) (.ref (kls 4)) = some true
  ki_Line_Number : W.kitOne K (.ref (kls 4)) (.ref (kls 1)) = some false
  ki_Line_Plain : W.kitOne K (.ref (kls 4)) (.ref (kls 3)) = some false
  ki_Line_Quoted : W.kitOne K (.ref (kls 4)) (.ref (kls 2)) = some false
  ki_Line_Way : W.kitOne K (.ref (kls 4)) (.ref (kls 15)) = some true
  ki_Line_Word : W.kitOne K (.ref (kls 4)) (.ref (kls 0)) = some false
  xi_BadName : XIn K (kls 12) (adr .BadName___init__) "at"
  xi_BadText : XIn K (kls 11) (adr .BadText___init__) "at"
  xi_NoFill : XIn K (kls 14) (adr .NoFill___init__) "at"
  xi_Unclear : XIn K (kls 13) (adr .Unclear___init__) "at"
def Sys.tab {K : W.Frag} {mg : Str → Option Value} (Y : Sys K mg) : Tab
  | 0 => some (Y.kls 0)
  | 1 => some (Y.kls 1)
  | 2 => some (Y.kls 2)
  | 3 => some (Y.kls 3)
  | 4 => some (Y.kls 4)
  | 5 => some (Y.kls 5)
  | 6 => some (Y.kls 6)
  | 7 => some (Y.kls 7)
  | 8 => some (Y.kls 8)
  | 9 => some (Y.kls 9)
  | 10 => some (Y.kls 10)
  | 11 => some (Y.kls 11)
  | 12 => some (Y.kls 12)
  | 13 => some (Y.kls 13)
  | 14 => some (Y.kls 14)
  | 15 => some (Y.kls 15)
  | _ => none
section
variable (P : Program) (w : World) {K : W.Frag} {mg : Str → Option Value} {base : Heap}
abbrev All (Y : Sys K mg) (base : Heap) (k : Nat) : Prop := ∀ f, FnOk P w K mg base CX0 k (Y.adr f) (Y.fd f) (psOf f) (spP K Y.tab (psOf f).length (F k f))
theorem MM_begins (Y : Sys K mg) {k : Nat} {X : Cx} (G : All P w Y base k) (hp : X.prog = P := by rfl) (hw : X.w = w := by rfl) (hK : X.K = K := by rfl) (hm : X.mg = mg := by rfl) (hb : X.base = base := by rfl) : ∀ C fn, d_begins (F k) C = some fn → ∀ a, Y.tab C = some a → ∃ np, MethOk X Y.tab k "begins" a np fn := by
  subst hp hw hK hm hb
  intro C fn h a ha
  unfold d_begins at h
  split at h
  · cases h; cases ha; exact ⟨_, Y.cl_Word, ⟨_, _, _, rfl, Y.me_Word_begins, G .Word_begins, Y.bi .Word_begins⟩, lenF .Word_begins⟩
  · cases h; cases ha; exact ⟨_, Y.cl_Number, ⟨_, _, _, rfl, Y.me_Number_begins, G .Number_begins, Y.bi .Number_begins⟩, lenF .Number_begins⟩
  · cases h; cases ha; exact ⟨_, Y.cl_Quoted, ⟨_, _, _, rfl, Y.me_Quoted_begins, G .Quoted_begins, Y.bi .Quoted_begins⟩, lenF .Quoted_begins⟩
  · cases h; cases ha; exact ⟨_, Y.cl_Plain, ⟨_, _, _, rfl, Y.me_Plain_begins, G .Plain_begins, Y.bi .Plain_begins⟩, lenF .Plain_begins⟩
  · cases h; cases ha; exact ⟨_, Y.cl_Line, ⟨_, _, _, rfl, Y.me_Line_begins, G .Line_begins, Y.bi .Line_begins⟩, lenF .Line_begins⟩
  · cases h
theorem MM_coded (Y : Sys K mg) {k : Nat} {X : Cx} (G : All P w Y base k) (hp : X.prog = P := by rfl) (hw : X.w = w := by rfl) (hK : X.K = K := by rfl) (hm : X.mg = mg := by rfl) (hb : X.base = base := by rfl) : ∀ C fn, d_coded (F k) C = some fn → ∀ a, Y.tab C = some a → ∃ np, MethOk X Y.tab k "coded" a np fn := by
  subst hp hw hK hm hb
  intro C fn h a ha
  unfold d_coded at h
  split at h
  · cases h; cases ha; exact ⟨_, Y.cl_Word, ⟨_, _, _, rfl, Y.me_Word_coded, G .Way_coded, Y.bi .Way_coded⟩, lenF .Way_coded⟩
  · cases h; cases ha; exact ⟨_, Y.cl_Number, ⟨_, _, _, rfl, Y.me_Number_coded, G .Way_coded, Y.bi .Way_coded⟩, lenF .Way_coded⟩
  · cases h; cases ha; exact ⟨_, Y.cl_Quoted, ⟨_, _, _, rfl, Y.me_Quoted_coded, G .Way_coded, Y.bi .Way_coded⟩, lenF .Way_coded⟩
  · cases h; cases ha; exact ⟨_, Y.cl_Plain, ⟨_, _, _, rfl, Y.me_Plain_coded, G .Way_coded, Y.bi .Way_coded⟩, lenF .Way_coded⟩
  · cases h; cases ha; exact ⟨_, Y.cl_Line, ⟨_, _, _, rfl, Y.me_Line_coded, G .Way_coded, Y.bi .Way_coded⟩, lenF .Way_coded⟩
  · cases h
theorem MM_ends (Y : Sys K mg) {k : Nat} {X : Cx} (G : All P w Y base k) (hp : X.prog = P := by rfl) (hw : X.w = w := by rfl) (hK : X.K = K := by rfl) (hm : X.mg = mg := by rfl) (hb : X.base = base := by rfl) : ∀ C fn, d_ends (F k) C = some fn → ∀ a, Y.tab C = some a → ∃ np, MethOk X Y.tab k "ends" a np fn := by
  subst hp hw hK hm hb
  intro C fn h a ha
  unfold d_ends at h
  split at h
  · cases h; cases ha; exact ⟨_, Y.cl_Word, ⟨_, _, _, rfl, Y.me_Word_ends, G .Word_ends, Y.bi .Word_ends⟩, lenF .Word_ends⟩
  · cases h; cases ha; exact ⟨_, Y.cl_Number, ⟨_, _, _, rfl, Y.me_Number_ends, G .Number_ends, Y.bi .Number_ends⟩, lenF .Number_ends⟩
  · cases h; cases ha; exact ⟨_, Y.cl_Quoted, ⟨_, _, _, rfl, Y.me_Quoted_ends, G .Quoted_ends, Y.bi .Quoted_ends⟩, lenF .Quoted_ends⟩
  · cases h; cases ha; exact ⟨_, Y.cl_Plain, ⟨_, _, _, rfl, Y.me_Plain_ends, G .Plain_ends, Y.bi .Plain_ends⟩, lenF .Plain_ends⟩
  · cases h; cases ha; exact ⟨_, Y.cl_Line, ⟨_, _, _, rfl, Y.me_Line_ends, G .Line_ends, Y.bi .Line_ends⟩, lenF .Line_ends⟩
  · cases h
theorem MM_fits (Y : Sys K mg) {k : Nat} {X : Cx} (G : All P w Y base k) (hp : X.prog = P := by rfl) (hw : X.w = w := by rfl) (hK : X.K = K := by rfl) (hm : X.mg = mg := by rfl) (hb : X.base = base := by rfl) : ∀ C fn, d_fits (F k) C = some fn → ∀ a, Y.tab C = some a → ∃ np, MethOk X Y.tab k "fits" a np fn := by
  subst hp hw hK hm hb
  intro C fn h a ha
  unfold d_fits at h
  split at h
  · cases h; cases ha; exact ⟨_, Y.cl_Word, ⟨_, _, _, rfl, Y.me_Word_fits, G .Word_fits, Y.bi .Word_fits⟩, lenF .Word_fits⟩
  · cases h; cases ha; exact ⟨_, Y.cl_Number, ⟨_, _, _, rfl, Y.me_Number_fits, G .Number_fits, Y.bi .Number_fits⟩, lenF .Number_fits⟩
  · cases h; cases ha; exact ⟨_, Y.cl_Quoted, ⟨_, _, _, rfl, Y.me_Quoted_fits, G .Quoted_fits, Y.bi .Quoted_fits⟩, lenF .Quoted_fits⟩
  · cases h; cases ha; exact ⟨_, Y.cl_Plain, ⟨_, _, _, rfl, Y.me_Plain_fits, G .Plain_fits, Y.bi .Plain_fits⟩, lenF .Plain_fits⟩
  · cases h; cases ha; exact ⟨_, Y.cl_Line, ⟨_, _, _, rfl, Y.me_Line_fits, G .Line_fits, Y.bi .Line_fits⟩, lenF .Line_fits⟩
  · cases h
theorem MM_is_void (Y : Sys K mg) {k : Nat} {X : Cx} (G : All P w Y base k) (hp : X.prog = P := by rfl) (hw : X.w = w := by rfl) (hK : X.K = K := by rfl) (hm : X.mg = mg := by rfl) (hb : X.base = base := by rfl) : ∀ C fn, d_is_void (F k) C = some fn → ∀ a, Y.tab C = some a → ∃ np, MethOk X Y.tab k "is_void" a np fn := by
  subst hp hw hK hm hb
  intro C fn h a ha
  unfold d_is_void at h
  split at h
  · cases h; cases ha; exact ⟨_, Y.cl_Word, ⟨_, _, _, rfl, Y.me_Word_is_void, G .Way_is_void, Y.bi .Way_is_void⟩, lenF .Way_is_void⟩
  · cases h; cases ha; exact ⟨_, Y.cl_Number, ⟨_, _, _, rfl, Y.me_Number_is_void, G .Way_is_void, Y.bi .Way_is_void⟩, lenF .Way_is_void⟩
  · cases h; cases ha; exact ⟨_, Y.cl_Quoted, ⟨_, _, _, rfl, Y.me_Quoted_is_void, G .Way_is_void, Y.bi .Way_is_void⟩, lenF .Way_is_void⟩
  · cases h; cases ha; exact ⟨_, Y.cl_Plain, ⟨_, _, _, rfl, Y.me_Plain_is_void, G .Plain_is_void, Y.bi .Plain_is_void⟩, lenF .Plain_is_void⟩
  · cases h; cases ha; exact ⟨_, Y.cl_Line, ⟨_, _, _, rfl, Y.me_Line_is_void, G .Line_is_void, Y.bi .Line_is_void⟩, lenF .Line_is_void⟩
  · cases h
theorem MM_spelling (Y : Sys K mg) {k : Nat} {X : Cx} (G : All P w Y base k) (hp : X.prog = P := by rfl) (hw : X.w = w := by rfl) (hK : X.K = K := by rfl) (hm : X.mg = mg := by rfl) (hb : X.base = base := by rfl) : ∀ C fn, d_spelling (F k) C = some fn → ∀ a, Y.tab C = some a → ∃ np, MethOk X Y.tab k "spelling" a np fn := by
  subst hp hw hK hm hb
  intro C fn h a ha
  unfold d_spelling at h
  split at h
  · cases h; cases ha; exact ⟨_, Y.cl_Word, ⟨_, _, _, rfl, Y.me_Word_spelling, G .Word_spelling, Y.bi .Word_spelling⟩, lenF .Word_spelling⟩
  · cases h; cases ha; exact ⟨_, Y.cl_Number, ⟨_, _, _, rfl, Y.me_Number_spelling, G .Number_spelling, Y.bi .Number_spelling⟩, lenF .Number_spelling⟩
  · cases h; cases ha; exact ⟨_, Y.cl_Quoted, ⟨_, _, _, rfl, Y.me_Quoted_spelling, G .Quoted_spelling, Y.bi .Quoted_spelling⟩, lenF .Quoted_spelling⟩
  · cases h; cases ha; exact ⟨_, Y.cl_Plain, ⟨_, _, _, rfl, Y.me_Plain_spelling, G .Plain_spelling, Y.bi .Plain_spelling⟩, lenF .Plain_spelling⟩
  · cases h; cases ha; exact ⟨_, Y.cl_Line, ⟨_, _, _, rfl, Y.me_Line_spelling, G .Line_spelling, Y.bi .Line_spelling⟩, lenF .Line_spelling⟩
  · cases h
theorem istab (Y : Sys K mg) : IsTab K Y.tab kd_ sC_ sT_ := by
  refine ⟨Y.cg_, fun C a h ha => ?_, fun C a h ha => ?_, fun C D a b r h ha hb => ?_, fun C t a r h ha => ?_⟩
  · unfold kd_ at h; split at h
    · cases ha; exact ⟨Y.cl_Word, Y.kc_Word⟩
    · cases ha; exact ⟨Y.cl_Number, Y.kc_Number⟩
    · cases ha; exact ⟨Y.cl_Quoted, Y.kc_Quoted⟩
    · cases ha; exact ⟨Y.cl_Plain, Y.kc_Plain⟩
    · cases ha; exact ⟨Y.cl_Line, Y.kc_Line⟩
    · cases h
    · cases h
    · cases h
  · unfold kd_ at h; split at h
    · cases h
    · cases h
    · cases h
    · cases h
    · cases h
    · cases ha; exact ⟨Y.xc_BadWay, Y.kc_BadWay⟩
    · cases ha; exact ⟨Y.xc_BadValue, Y.kc_BadValue⟩
    · cases h
  · refine lookT_all (P := fun C D r => ∀ a b, Y.tab C = some a → Y.tab D = some b → W.kitOne K (.ref a) (.ref b) = some r) ?_ h a b ha hb
    exact ⟨fun _ _ ha hb => (by cases ha; cases hb; exact Y.ki_BadWay_BadName), ⟨fun _ _ ha hb => (by cases ha; cases hb; exact Y.ki_BadWay_BadText), ⟨fun _ _ ha hb => (by cases ha; cases hb; exact Y.ki_BadWay_BadValue), ⟨fun _ _ ha hb => (by cases ha; cases hb; exact Y.ki_BadWay_BadValues), ⟨fun _ _ ha hb => (by cases ha; cases hb; exact Y.ki_BadWay_BadWay), ⟨fun _ _ ha hb => (by cases ha; cases hb; exact Y.ki_BadWay_Clash), ⟨fun _ _ ha hb => (by cases ha; cases hb; exact Y.ki_BadWay_NoFill), ⟨fun _ _ ha hb => (by cases ha; cases hb; exact Y.ki_BadWay_TooMany), ⟨fun _ _ ha hb => (by cases ha; cases hb; exact Y.ki_BadWay_Unclear), ⟨fun _ _ ha hb => (by cases ha; cases hb; exact Y.ki_BadValue_BadName), ⟨fun _ _ ha hb => (by cases ha; cases hb; exact Y.ki_BadValue_BadText), ⟨fun _ _ ha hb => (by cases ha; cases hb; exact Y.ki_BadValue_BadValue), ⟨fun _ _ ha hb => (by cases ha; cases hb; exact Y.ki_BadValue_BadValues), ⟨fun _ _ ha hb => (by cases ha; cases hb; exact Y.ki_BadValue_BadWay), ⟨fun _ _ ha hb => (by cases ha; cases hb; exact Y.ki_BadValue_Clash), ⟨fun _ _ ha hb => (by cases ha; cases hb; exact Y.ki_BadValue_NoFill), ⟨fun _ _ ha hb => (by cases ha; cases hb; exact Y.ki_BadValue_TooMany), ⟨fun _ _ ha hb => (by cases ha; cases hb; exact Y.ki_BadValue_Unclear), ⟨fun _ _ ha hb => (by cases ha; cases hb; exact Y.ki_Word_Line), ⟨fun _ _ ha hb => (by cases ha; cases hb; exact Y.ki_Word_Number), ⟨fun _ _ ha hb => (by cases ha; cases hb; exact Y.ki_Word_Plain), ⟨fun _ _ ha hb => (by cases ha; cases hb; exact Y.ki_Word_Quoted), ⟨fun _ _ ha hb => (by cases ha; cases hb; exact Y.ki_Word_Way), ⟨fun _ _ ha hb => (by cases ha; cases hb; exact Y.ki_Word_Word), ⟨fun _ _ ha hb => (by cases ha; cases hb; exact Y.ki_Number_Line), ⟨fun _ _ ha hb => (by cases ha; cases hb; exact Y.ki_Number_Number), ⟨fun _ _ ha hb => (by cases ha; cases hb; exact Y.ki_Number_Plain), ⟨fun _ _ ha hb => (by cases ha; cases hb; exact Y.ki_Number_Quoted), ⟨fun _ _ ha hb => (by cases ha; cases hb; exact Y.ki_Number_Way), ⟨fun _ _ ha hb => (by cases ha; cases hb; exact Y.ki_Number_Word), ⟨fun _ _ ha hb => (by cases ha; cases hb; exact Y.ki_Quoted_Line), ⟨fun _ _ ha hb => (by cases ha; cases hb; exact Y.ki_Quoted_Number), ⟨fun _ _ ha hb => (by cases ha; cases hb; exact Y.ki_Quoted_Plain), ⟨fun _ _ ha hb => (by cases ha; cases hb; exact Y.ki_Quoted_Quoted), ⟨fun _ _ ha hb => (by cases ha; cases hb; exact Y.ki_Quoted_Way), ⟨fun _ _ ha hb => (by cases ha; cases hb; exact Y.ki_Quoted_Word), ⟨fun _ _ ha hb => (by cases ha; cases hb; exact Y.ki_Plain_Line), ⟨fun _ _ ha hb => (by cases ha; cases hb; exact Y.ki_Plain_Number), ⟨fun _ _ ha hb => (by cases ha; cases hb; exact Y.ki_Plain_Plain), ⟨fun _ _ ha hb => (by cases ha; cases hb; exact Y.ki_Plain_Quoted), ⟨fun _ _ ha hb => (by cases ha; cases hb; exact Y.ki_Plain_Way), ⟨fun _ _ ha hb => (by cases ha; cases hb; exact Y.ki_Plain_Word), ⟨fun _ _ ha hb => (by cases ha; cases hb; exact Y.ki_Line_Line), ⟨fun _ _ ha hb => (by cases ha; cases hb; exact Y.ki_Line_Number), ⟨fun _ _ ha hb => (by cases ha; cases hb; exact Y.ki_Line_Plain), ⟨fun _ _ ha hb => (by cases ha; cases hb; exact Y.ki_Line_Quoted), ⟨fun _ _ ha hb => (by cases ha; cases hb; exact Y.ki_Line_Way), ⟨fun _ _ ha hb => (by cases ha; cases hb; exact Y.ki_Line_Word), True.intro⟩⟩⟩⟩⟩⟩⟩⟩⟩⟩⟩⟩⟩⟩⟩⟩⟩⟩⟩⟩⟩⟩⟩⟩⟩⟩⟩⟩⟩⟩⟩⟩⟩⟩⟩⟩⟩⟩⟩⟩⟩⟩⟩⟩⟩⟩⟩⟩
  · unfold sT_ at h; split at h
    · cases ha; cases h; exact Y.ki_BadWay_ValueError
    · cases ha; cases h; exact Y.ki_BadValue_ValueError
    · cases h
theorem catOk_FormError (Y : Sys K mg) : ∀ C Ca, cat_FormError C = true → Y.tab C = some Ca → W.exmOne K (.ref Ca) (.ref (Y.kls 5)) = some true := by
  intro C Ca h ha; unfold cat_FormError at h; split at h
  · cases ha; exact Y.ex_BadWay_FormError
  · cases ha; exact Y.ex_BadValue_FormError
  · cases h
theorem exsOk (Y : Sys K mg) : ∀ C, exs_ C = true → ∃ a, Y.tab C = some a := by
  intro C h; unfold exs_ at h; split at h
  · exact ⟨_, rfl⟩
  · exact ⟨_, rfl⟩
  · cases h
theorem fxP (Y : Sys K mg) {k : Nat} : ∀ f : Fx, FnX Y.tab (psOf (xFn f)).length (XP k f) := by
  cases k with
  | zero => exact fun f => ⟨fun qs h => absurd rfl h, fun qs C h => by cases h⟩
  | succ k => exact fun f => by cases f with
    | way_of => exact fx_only (exsOk Y)
    | Way_coded => exact fx_only (exsOk Y)
abbrev AllX (Y : Sys K mg) (base : Heap) (k : Nat) : Prop := ∀ f : Fx, FnOk P w K mg base (CXE P w) k (Y.adr (xFn f)) (Y.fd (xFn f)) (psOf (xFn f)) (spX K Y.tab (psOf (xFn f)).length (XP k f))
abbrev AllH (Y : Sys K mg) (base : Heap) (k : Nat) : Prop := ∀ f : Fh, FnOkH P w K mg base k (Y.adr (hFn f)) (Y.fd (hFn f)) (psOf (hFn f)) (spP K Y.tab (psOf (hFn f)).length (UP k f))
theorem MX_coded (Y : Sys K mg) {k : Nat} {X : Cx} (GX : AllX P w Y base k) (hp : X.prog = P := by rfl) (hw : X.w = w := by rfl) (hK : X.K = K := by rfl) (hm : X.mg = mg := by rfl) (hb : X.base = base := by rfl) : ∀ C fn, x_coded (XP k) C = some fn → ∀ a, Y.tab C = some a → ∃ np, MethX X Y.tab k "coded" a np fn := by
  subst hp hw hK hm hb
  intro C fn h a ha
  unfold x_coded at h
  split at h
  · cases h; cases ha; exact ⟨_, Y.cl_Word, ⟨_, _, _, rfl, Y.me_Word_coded, GX .Way_coded, Y.bi .Way_coded⟩, fxP Y .Way_coded⟩
  · cases h; cases ha; exact ⟨_, Y.cl_Number, ⟨_, _, _, rfl, Y.me_Number_coded, GX .Way_coded, Y.bi .Way_coded⟩, fxP Y .Way_coded⟩
  · cases h; cases ha; exact ⟨_, Y.cl_Quoted, ⟨_, _, _, rfl, Y.me_Quoted_coded, GX .Way_coded, Y.bi .Way_coded⟩, fxP Y .Way_coded⟩
  · cases h; cases ha; exact ⟨_, Y.cl_Plain, ⟨_, _, _, rfl, Y.me_Plain_coded, GX .Way_coded, Y.bi .Way_coded⟩, fxP Y .Way_coded⟩
  · cases h; cases ha; exact ⟨_, Y.cl_Line, ⟨_, _, _, rfl, Y.me_Line_coded, GX .Way_coded, Y.bi .Way_coded⟩, fxP Y .Way_coded⟩
  · cases h
theorem sc_law : FnScope ["_law_script", "_law_words", "_law_k", "_law_way_here", "_law_made_here", "_law_turn", "_law_value", "_law_found", "_law_odd_here", "_law_bad"] ["_law_script"] (defScope (stOf .law)) := ⟨rfl, rfl, rfl, by decide +kernel, rfl, by decide +kernel, by decide +kernel⟩
theorem sc_way_of : FnScope ["word"] ["word"] (defScope (stOf .way_of)) := ⟨rfl, rfl, rfl, by decide +kernel, rfl, by decide +kernel, by decide +kernel⟩
theorem sc_l_refusals_made : FnScope ["_law_n", "_law_found"] ["_law_n"] (defScope (stOf .l_refusals_made)) := ⟨rfl, rfl, rfl, by decide +kernel, rfl, by decide +kernel, by decide +kernel⟩
theorem sc_l_value_by : FnScope ["_law_word", "_law_cell"] ["_law_word", "_law_cell"] (defScope (stOf .l_value_by)) := ⟨rfl, rfl, rfl, by decide +kernel, rfl, by decide +kernel, by decide +kernel⟩
theorem sc_l_made : FnScope ["_law_way_here", "_law_value", "_law_e"] ["_law_way_here", "_law_value"] (defScope (stOf .l_made)) := ⟨rfl, rfl, rfl, by decide +kernel, rfl, by decide +kernel, by decide +kernel⟩
theorem sc_l_odd : FnScope ["_law_word", "_law_cell", "_law_some", "_law_value", "_law_bad", "_law_at"] ["_law_word", "_law_cell"] (defScope (stOf .l_odd)) := ⟨rfl, rfl, rfl, by decide +kernel, rfl, by decide +kernel, by decide +kernel⟩
theorem sc_l_cell_at : FnScope ["_law_script", "_law_k"] ["_law_script", "_law_k"] (defScope (stOf .l_cell_at)) := ⟨rfl, rfl, rfl, by decide +kernel, rfl, by decide +kernel, by decide +kernel⟩
theorem sc_l_way : FnScope ["_law_word", "_law_e"] ["_law_word"] (defScope (stOf .l_way)) := ⟨rfl, rfl, rfl, by decide +kernel, rfl, by decide +kernel, by decide +kernel⟩
theorem sc_l_mixed : FnScope ["_law_cell", "_law_k"] ["_law_cell", "_law_k"] (defScope (stOf .l_mixed)) := ⟨rfl, rfl, rfl, by decide +kernel, rfl, by decide +kernel, by decide +kernel⟩
theorem sc_Word_begins : FnScope ["self"] ["self"] (defScope (stOf .Word_begins)) := ⟨rfl, rfl, rfl, by decide +kernel, rfl, by decide +kernel, by decide +kernel⟩
theorem sc_Number_begins : FnScope ["self"] ["self"] (defScope (stOf .Number_begins)) := ⟨rfl, rfl, rfl, by decide +kernel, rfl, by decide +kernel, by decide +kernel⟩
theorem sc_Quoted_begins : FnScope ["self"] ["self"] (defScope (stOf .Quoted_begins)) := ⟨rfl, rfl, rfl, by decide +kernel, rfl, by decide +kernel, by decide +kernel⟩
theorem sc_Plain_begins : FnScope ["self"] ["self"] (defScope (stOf .Plain_begins)) := ⟨rfl, rfl, rfl, by decide +kernel, rfl, by decide +kernel, by decide +kernel⟩
theorem sc_Line_begins : FnScope ["self"] ["self"] (defScope (stOf .Line_begins)) := ⟨rfl, rfl, rfl, by decide +kernel, rfl, by decide +kernel, by decide +kernel⟩
theorem sc_Word_ends : FnScope ["self"] ["self"] (defScope (stOf .Word_ends)) := ⟨rfl, rfl, rfl, by decide +kernel, rfl, by decide +kernel, by decide +kernel⟩
theorem sc_Number_ends : FnScope ["self"] ["self"] (defScope (stOf .Number_ends)) := ⟨rfl, rfl, rfl, by decide +kernel, rfl, by decide +kernel, by decide +kernel⟩
theorem sc_Quoted_ends : FnScope ["self"] ["self"] (defScope (stOf .Quoted_ends)) := ⟨rfl, rfl, rfl, by decide +kernel, rfl, by decide +kernel, by decide +kernel⟩
theorem sc_Plain_ends : FnScope ["self"] ["self"] (defScope (stOf .Plain_ends)) := ⟨rfl, rfl, rfl, by decide +kernel, rfl, by decide +kernel, by decide +kernel⟩
theorem sc_Line_ends : FnScope ["self"] ["self"] (defScope (stOf .Line_ends)) := ⟨rfl, rfl, rfl, by decide +kernel, rfl, by decide +kernel, by decide +kernel⟩
theorem sc_Way_is_void : FnScope ["self"] ["self"] (defScope (stOf .Way_is_void)) := ⟨rfl, rfl, rfl, by decide +kernel, rfl, by decide +kernel, by decide +kernel⟩
theorem sc_Plain_is_void : FnScope ["self"] ["self"] (defScope (stOf .Plain_is_void)) := ⟨rfl, rfl, rfl, by decide +kernel, rfl, by decide +kernel, by decide +kernel⟩
theorem sc_Line_is_void : FnScope ["self"] ["self"] (defScope (stOf .Line_is_void)) := ⟨rfl, rfl, rfl, by decide +kernel, rfl, by decide +kernel, by decide +kernel⟩
theorem sc_l_sorts : FnScope ["_law_way_here", "_law_found"] ["_law_way_here"] (defScope (stOf .l_sorts)) := ⟨rfl, rfl, rfl, by decide +kernel, rfl, by decide +kernel, by decide +kernel⟩
theorem sc_l_coded : FnScope ["_law_word", "_law_value", "_law_marks", "_law_found"] ["_law_word", "_law_value"] (defScope (stOf .l_coded)) := ⟨rfl, rfl, rfl, by decide +kernel, rfl, by decide +kernel, by decide +kernel⟩
theorem sc_Word_fits : FnScope ["self", "value"] ["self", "value"] (defScope (stOf .Word_fits)) := ⟨rfl, rfl, rfl, by decide +kernel, rfl, by decide +kernel, by decide +kernel⟩
theorem sc_Number_fits : FnScope ["self", "value"] ["self", "value"] (defScope (stOf .Number_fits)) := ⟨rfl, rfl, rfl, by decide +kernel, rfl, by decide +kernel, by decide +kernel⟩
theorem sc_Quoted_fits : FnScope ["self", "value"] ["self", "value"] (defScope (stOf .Quoted_fits)) := ⟨rfl, rfl, rfl, by decide +kernel, rfl, by decide +kernel, by decide +kernel⟩
theorem sc_Plain_fits : FnScope ["self", "value"] ["self", "value"] (defScope (stOf .Plain_fits)) := ⟨rfl, rfl, rfl, by decide +kernel, rfl, by decide +kernel, by decide +kernel⟩
theorem sc_Line_fits : FnScope ["self", "value"] ["self", "value"] (defScope (stOf .Line_fits)) := ⟨rfl, rfl, rfl, by decide +kernel, rfl, by decide +kernel, by decide +kernel⟩
theorem sc_BadText___init__ : FnScope ["self", "at"] ["self", "at"] (defScope (stOf .BadText___init__)) := ⟨rfl, rfl, rfl, by decide +kernel, rfl, by decide +kernel, by decide +kernel⟩
theorem sc_BadName___init__ : FnScope ["self", "at"] ["self", "at"] (defScope (stOf .BadName___init__)) := ⟨rfl, rfl, rfl, by decide +kernel, rfl, by decide +kernel, by decide +kernel⟩
theorem sc_Unclear___init__ : FnScope ["self", "at"] ["self", "at"] (defScope (stOf .Unclear___init__)) := ⟨rfl, rfl, rfl, by decide +kernel, rfl, by decide +kernel, by decide +kernel⟩
theorem sc_NoFill___init__ : FnScope ["self", "at"] ["self", "at"] (defScope (stOf .NoFill___init__)) := ⟨rfl, rfl, rfl, by decide +kernel, rfl, by decide +kernel, by decide +kernel⟩
theorem sc_l_text_by : FnScope ["_law_cell", "_law_most", "_law_all_signs", "_law_size", "_law_found", "_law_k", "_law_n"] ["_law_cell", "_law_most"] (defScope (stOf .l_text_by)) := ⟨rfl, rfl, rfl, by decide +kernel, rfl, by decide +kernel, by decide +kernel⟩
theorem sc_l_word_by : FnScope ["_law_cell", "_law_some", "_law_size"] ["_law_cell"] (defScope (stOf .l_word_by)) := ⟨rfl, rfl, rfl, by decide +kernel, rfl, by decide +kernel, by decide +kernel⟩
theorem sc_l_number_by : FnScope ["_law_cell", "_law_small", "_law_great"] ["_law_cell"] (defScope (stOf .l_number_by)) := ⟨rfl, rfl, rfl, by decide +kernel, rfl, by decide +kernel, by decide +kernel⟩
theorem sc_Way_coded : FnScope ["self", "value"] ["self", "value"] (defScope (stOf .Way_coded)) := ⟨rfl, rfl, rfl, by decide +kernel, rfl, by decide +kernel, by decide +kernel⟩
theorem sc_l_class : FnScope ["_law_e", "_law_mine", "_law_word"] ["_law_e"] (defScope (stOf .l_class)) := ⟨rfl, rfl, rfl, by decide +kernel, rfl, by decide +kernel, by decide +kernel⟩
theorem sc_l_signs : FnScope ["_law_some"] [] (defScope (stOf .l_signs)) := ⟨rfl, rfl, rfl, by decide +kernel, rfl, by decide +kernel, by decide +kernel⟩
theorem sc_signs_but : FnScope ["left_out"] ["left_out"] (defScope (stOf .signs_but)) := ⟨rfl, rfl, rfl, by decide +kernel, rfl, by decide +kernel, by decide +kernel⟩
theorem sc_signs : FnScope [] [] (defScope (stOf .signs)) := ⟨rfl, rfl, rfl, by decide +kernel, rfl, by decide +kernel, by decide +kernel⟩
theorem sc_is_text : FnScope ["thing", "most"] ["thing", "most"] (defScope (stOf .is_text)) := ⟨rfl, rfl, rfl, by decide +kernel, rfl, by decide +kernel, by decide +kernel⟩
theorem sc_is_made_of : FnScope ["text", "allowed", "sign"] ["text", "allowed"] (defScope (stOf .is_made_of)) := ⟨rfl, rfl, rfl, by decide +kernel, rfl, by decide +kernel, by decide +kernel⟩
theorem sc_is_short_number : FnScope ["number"] ["number"] (defScope (stOf .is_short_number)) := ⟨rfl, rfl, rfl, by decide +kernel, rfl, by decide +kernel, by decide +kernel⟩
theorem sc_Word_spelling : FnScope ["self", "value"] ["self", "value"] (defScope (stOf .Word_spelling)) := ⟨rfl, rfl, rfl, by decide +kernel, rfl, by decide +kernel, by decide +kernel⟩
theorem sc_Number_spelling : FnScope ["self", "value"] ["self", "value"] (defScope (stOf .Number_spelling)) := ⟨rfl, rfl, rfl, by decide +kernel, rfl, by decide +kernel, by decide +kernel⟩
theorem sc_Quoted_spelling : FnScope ["self", "value"] ["self", "value"] (defScope (stOf .Quoted_spelling)) := ⟨rfl, rfl, rfl, by decide +kernel, rfl, by decide +kernel, by decide +kernel⟩
theorem sc_Plain_spelling : FnScope ["self", "value"] ["self", "value"] (defScope (stOf .Plain_spelling)) := ⟨rfl, rfl, rfl, by decide +kernel, rfl, by decide +kernel, by decide +kernel⟩
theorem sc_Line_spelling : FnScope ["self", "value"] ["self", "value"] (defScope (stOf .Line_spelling)) := ⟨rfl, rfl, rfl, by decide +kernel, rfl, by decide +kernel, by decide +kernel⟩
theorem sc_escaped : FnScope ["text", "mark", "raw", "letters", "parts", "sign", "place"] ["text", "mark", "raw", "letters"] (defScope (stOf .escaped)) := ⟨rfl, rfl, rfl, by decide +kernel, rfl, by decide +kernel, by decide +kernel⟩
theorem xa_BadName (Y : Sys K mg) : FnOk P w K mg base CX0 1 (Y.adr .BadName___init__) (Y.fd .BadName___init__) (psOf .BadName___init__) (spXI K "at") := fn_xinit (Y.ok .BadName___init__) sc_BadName___init__ rfl fun _ _ _ _ _ _ => pss_one (ps_xset (pv 0) (pv 1) rfl)
theorem xa_BadText (Y : Sys K mg) : FnOk P w K mg base CX0 1 (Y.adr .BadText___init__) (Y.fd .BadText___init__) (psOf .BadText___init__) (spXI K "at") := fn_xinit (Y.ok .BadText___init__) sc_BadText___init__ rfl fun _ _ _ _ _ _ => pss_one (ps_xset (pv 0) (pv 1) rfl)
theorem xa_NoFill (Y : Sys K mg) : FnOk P w K mg base CX0 1 (Y.adr .NoFill___init__) (Y.fd .NoFill___init__) (psOf .NoFill___init__) (spXI K "at") := fn_xinit (Y.ok .NoFill___init__) sc_NoFill___init__ rfl fun _ _ _ _ _ _ => pss_one (ps_xset (pv 0) (pv 1) rfl)
theorem xa_Unclear (Y : Sys K mg) : FnOk P w K mg base CX0 1 (Y.adr .Unclear___init__) (Y.fd .Unclear___init__) (psOf .Unclear___init__) (spXI K "at") := fn_xinit (Y.ok .Unclear___init__) sc_Unclear___init__ rfl fun _ _ _ _ _ _ => pss_one (ps_xset (pv 0) (pv 1) rfl)
theorem rh_l_class (Y : Sys K mg) {k : Nat} (cdv : Value) (A : Around) (outer : List Env) (s : Shared) (H : Hp) (E : XK) (f : Addr) (hr : RoomH k (A.deeper (envOfC (qlOf .l_class) (defScope (stOf .l_class)) s.heap.objs.size f cdv))) :
    RSs (cxH P w K mg base ["_law_e", "_law_mine", "_law_word"] (qlOf .l_class) (defScope (stOf .l_class)) f cdv A outer s H E) Y.tab (fun _ _ => False) (defBody (stOf .l_class)) h_l_class := by
  have hu := hr.units
  exact (rss_cons (rs_set (i := 1) sc_l_class.nd rfl (Or.inl rfl) (re_lstM (ra_cons (re_isC (istab Y) rfl Y.n_isinstance (ra_cons (rv 0) (ra_cons (re_globC rfl Y.mc_BadWay rfl) ra_nil))) (ra_cons (re_isC (istab Y) rfl Y.n_isinstance (ra_cons (rv 0) (ra_cons (re_globC rfl Y.mc_BadValue rfl) ra_nil))) (ra_cons (re_isC (istab Y) rfl Y.n_isinstance (ra_cons (rv 0) (ra_cons (re_globC rfl Y.mc_BadValues rfl) ra_nil))) (ra_cons (re_isC (istab Y) rfl Y.n_isinstance (ra_cons (rv 0) (ra_cons (re_globC rfl Y.mc_BadText rfl) ra_nil))) ra_nil))))))
    (rss_cons (rs_set (i := 1) sc_l_class.nd rfl (Or.inl rfl) (re_addM (rv 1) (re_lst (ra_cons (re_isC (istab Y) rfl Y.n_isinstance (ra_cons (rv 0) (ra_cons (re_globC rfl Y.mc_BadName rfl) ra_nil))) (ra_cons (re_isC (istab Y) rfl Y.n_isinstance (ra_cons (rv 0) (ra_cons (re_globC rfl Y.mc_TooMany rfl) ra_nil))) (ra_cons (re_isC (istab Y) rfl Y.n_isinstance (ra_cons (rv 0) (ra_cons (re_globC rfl Y.mc_Unclear rfl) ra_nil))) (ra_cons (re_isC (istab Y) rfl Y.n_isinstance (ra_cons (rv 0) (ra_cons (re_globC rfl Y.mc_NoFill rfl) ra_nil))) ra_nil)))))))
    (rss_cons (rs_expr (re_bm ty_lst PySem.F.plainAttrs_list PySem.F.slot_list_append PySem.F.type_list_append mt_append prim_append (rv 1) (ra_cons (re_isC (istab Y) rfl Y.n_isinstance (ra_cons (rv 0) (ra_cons (re_globC rfl Y.mc_Clash rfl) ra_nil))) ra_nil)))
    (rss_cons (rs_if (RW.rt (rw_or (rt_cmp (op_neD hu) prim_ne (re_bm ty_lst PySem.F.plainAttrs_list PySem.F.slot_list_count PySem.F.type_list_count mt_countB prim_countB (rv 1) (ra_cons re_bl ra_nil)) re_int (nomark _)) (rw_or1 (rt_not (rt_tru (re_isC (istab Y) rfl Y.n_isinstance (ra_cons (rv 0) (ra_cons (re_tyN rfl Y.n_ValueError (by decide +kernel)) ra_nil)))))))) (rss_one (rs_ret (re_lst (ra_cons (re_str [111, 116, 104, 101, 114] (by kernel_rfl)) ra_nil)))) rss_nil)
    (rss_cons (rs_set (i := 2) sc_l_class.nd rfl (Or.inl rfl) (re_ix hu (re_lst (ra_cons (re_str [119, 97, 121] (by kernel_rfl)) (ra_cons (re_str [118, 97, 108, 117, 101] (by kernel_rfl)) (ra_cons (re_str [118, 97, 108, 117, 101, 115] (by kernel_rfl)) (ra_cons (re_str [116, 101, 120, 116] (by kernel_rfl)) (ra_cons (re_str [110, 97, 109, 101] (by kernel_rfl)) (ra_cons (re_str [109, 97, 110, 121] (by kernel_rfl)) (ra_cons (re_str [117, 110, 99, 108, 101, 97, 114] (by kernel_rfl)) (ra_cons (re_str [102, 105, 108, 108] (by kernel_rfl)) (ra_cons (re_str [99, 108, 97, 115, 104] (by kernel_rfl)) ra_nil)))))))))) (re_bm ty_lst PySem.F.plainAttrs_list PySem.F.slot_list_index PySem.F.type_list_index mt_indexB prim_indexB (rv 1) (ra_cons re_bl ra_nil))))
    (rss_cons (rs_if (rt_cmp (op_inA hu) prim_in (rv 2) (re_tup (ra_cons (re_str [116, 101, 120, 116] (by kernel_rfl)) (ra_cons (re_str [110, 97, 109, 101] (by kernel_rfl)) (ra_cons (re_str [117, 110, 99, 108, 101, 97, 114] (by kernel_rfl)) (ra_cons (re_str [102, 105, 108, 108] (by kernel_rfl)) ra_nil))))) (by with_unfolding_all rfl)) (rss_one (rs_ret (re_lst (ra_cons (rv 2) (ra_cons re_bad ra_nil))))) rss_nil)
    (rss_one (rs_ret (re_lst (ra_cons (rv 2) ra_nil))))))))))
theorem rx_way_of (Y : Sys K mg) {k : Nat} (G : All P w Y base k) (cdv : Value) (A : Around) (outer : List Env) (s : Shared) (H : Hp) (E : XK) (f : Addr) (hr : Room k (A.deeper (envOfC (qlOf .way_of) (defScope (stOf .way_of)) s.heap.objs.size f cdv))) :
    RSs (cxOf (CXE P w) P w K mg base ["word"] (qlOf .way_of) (defScope (stOf .way_of)) f cdv A outer s H E) Y.tab (EwOf E) (defBody (stOf .way_of)) (x_way_of (F k)) := by
  have hu := hr.units
  exact (rss_cons (rs_if (rt_cmp (op_eqU hu) prim_eqU (rv 0) (re_str [119, 111, 114, 100] (by kernel_rfl)) (nomark _)) (rss_one (rs_ret (re_make0 (Cn := 0) rfl Y.mk_Word Y.in_Word Y.kp_Word rfl Y.mc_Word))) rss_nil)
    (rss_cons (rs_if (rt_cmp (op_eqU hu) prim_eqU (rv 0) (re_str [110, 117, 109, 98, 101, 114] (by kernel_rfl)) (nomark _)) (rss_one (rs_ret (re_make0 (Cn := 1) rfl Y.mk_Number Y.in_Number Y.kp_Number rfl Y.mc_Number))) rss_nil)
    (rss_cons (rs_if (rt_cmp (op_eqU hu) prim_eqU (rv 0) (re_str [113, 117, 111, 116, 101, 100] (by kernel_rfl)) (nomark _)) (rss_one (rs_ret (re_make0 (Cn := 2) rfl Y.mk_Quoted Y.in_Quoted Y.kp_Quoted rfl Y.mc_Quoted))) rss_nil)
    (rss_cons (rs_if (rt_cmp (op_eqU hu) prim_eqU (rv 0) (re_str [112, 108, 97, 105, 110] (by kernel_rfl)) (nomark _)) (rss_one (rs_ret (re_make0 (Cn := 3) rfl Y.mk_Plain Y.in_Plain Y.kp_Plain rfl Y.mc_Plain))) rss_nil)
    (rss_cons (rs_if (rt_cmp (op_eqU hu) prim_eqU (rv 0) (re_str [108, 105, 110, 101] (by kernel_rfl)) (nomark _)) (rss_one (rs_ret (re_make0 (Cn := 4) rfl Y.mk_Line Y.in_Line Y.kp_Line rfl Y.mc_Line))) rss_nil)
    (rss_one (rs_raise PySem.F.excBase_ValueError (by decide +kernel) PySem.F.excBase_ValueError Y.xr_BadWay rfl rfl Y.mc_BadWay lv_cxOf (ra_cons (re_str q_0379d6 (by kernel_rfl)) ra_nil))))))))
theorem rx_Way_coded (Y : Sys K mg) {k : Nat} (G : All P w Y base k) (cdv : Value) (A : Around) (outer : List Env) (s : Shared) (H : Hp) (E : XK) (f : Addr) (hr : Room k (A.deeper (envOfC (qlOf .Way_coded) (defScope (stOf .Way_coded)) s.heap.objs.size f cdv))) :
    RSs (cxOf (CXE P w) P w K mg base ["self", "value"] (qlOf .Way_coded) (defScope (stOf .Way_coded)) f cdv A outer s H E) Y.tab (EwOf E) (defBody (stOf .Way_coded)) (x_Way_coded (F k)) := by
  have hu := hr.units
  exact (rss_cons (rs_if (rt_not (rt_tru (re_meth (MM_fits P w Y G) (rv 0) hr (ra_cons (rv 1) ra_nil)))) (rss_one (rs_raise PySem.F.excBase_ValueError (by decide +kernel) PySem.F.excBase_ValueError Y.xr_BadValue rfl rfl Y.mc_BadValue lv_cxOf (ra_cons (re_str q_4b491e (by kernel_rfl)) ra_nil))) rss_nil)
    (rss_one (rs_ret (re_meth (MM_spelling P w Y G) (rv 0) hr (ra_cons (rv 1) ra_nil)))))
theorem allH (Y : Sys K mg) : ∀ k, AllH P w Y base k
  | 0 => fun f => ⟨fun vs H Q E h => (by obtain ⟨_, _, _, _, _, _, e, _⟩ := h; cases e), fun A outer s H args us vs Q E _ _ _ _ h => (by obtain ⟨_, _, _, _, _, _, e, _⟩ := h; cases e)⟩
  | k + 1 => fun f => by
    cases f with
    | l_class => exact fn_pureH (Y.ok .l_class) sc_l_class fun cdv A outer s H E hr => rh_l_class P w Y cdv A outer s H E _ hr
theorem allX (Y : Sys K mg) : ∀ k, All P w Y base (k - 1) → AllX P w Y base k
  | 0, _ => fun f => ⟨fun vs H Q E h => by obtain ⟨_, _, _, _, _, e⟩ := h; exact e.elim, fun A outer s H args us vs Q E _ _ _ _ h => by obtain ⟨_, _, _, _, _, e⟩ := h; exact e.elim⟩
  | k + 1, G => fun f => by
    cases f with
    | way_of => exact fn_only (fn_raise (Y.ok .way_of) sc_way_of fun cdv A outer s H E hr => rx_way_of P w Y G cdv A outer s H E _ hr)
    | Way_coded => exact fn_only (fn_raise (Y.ok .Way_coded) sc_Way_coded fun cdv A outer s H E hr => rx_Way_coded P w Y G cdv A outer s H E _ hr)
theorem r_law (Y : Sys K mg) {k : Nat} (G : All P w Y base k) (cdv : Value) (A : Around) (outer : List Env) (s : Shared) (H : Hp) (E : XK) (f : Addr) (hr : Room k (A.deeper (envOfC (qlOf .law) (defScope (stOf .law)) s.heap.objs.size f cdv))) :
    RSs (cxOf CX0 P w K mg base ["_law_script", "_law_words", "_law_k", "_law_way_here", "_law_made_here", "_law_turn", "_law_value", "_law_found", "_law_odd_here", "_law_bad"] (qlOf .law) (defScope (stOf .law)) f cdv A outer s H E).nox Y.tab (fun _ _ => False) (defBody (stOf .law)) (b_law (F k)) := by
  have hu := hr.units
  exact (rss_cons (rs_set (i := 1) sc_law.nd rfl (Or.inl rfl) (re_lst (ra_cons (re_str [119, 111, 114, 100] (by kernel_rfl)) (ra_cons (re_str [110, 117, 109, 98, 101, 114] (by kernel_rfl)) (ra_cons (re_str [113, 117, 111, 116, 101, 100] (by kernel_rfl)) (ra_cons (re_str [112, 108, 97, 105, 110] (by kernel_rfl)) (ra_cons (re_str [108, 105, 110, 101] (by kernel_rfl)) ra_nil)))))))
    (rss_cons (rs_for PassesOwn.never rfl (ri_range1 rfl Y.n_range (ra_cons re_int ra_nil)) (rg_name (i := 2) sc_law.nd rfl (Or.inr rfl)) (rss_cons (rs_set (i := 3) sc_law.nd rfl (Or.inl rfl) (re_call (G .way_of) (lenF .way_of) hr rfl Y.m_way_of (Y.ok .way_of).kp (Y.bi .way_of) (ra_cons (re_ix hu (rv 1) (rv 2)) ra_nil)))
    (rss_cons (rs_set (i := 4) sc_law.nd rfl (Or.inl rfl) (re_ix hu (re_lst (ra_cons (re_make0 (Cn := 0) rfl Y.mk_Word Y.in_Word Y.kp_Word rfl Y.mc_Word) (ra_cons (re_make0 (Cn := 1) rfl Y.mk_Number Y.in_Number Y.kp_Number rfl Y.mc_Number) (ra_cons (re_make0 (Cn := 2) rfl Y.mk_Quoted Y.in_Quoted Y.kp_Quoted rfl Y.mc_Quoted) (ra_cons (re_make0 (Cn := 3) rfl Y.mk_Plain Y.in_Plain Y.kp_Plain rfl Y.mc_Plain) (ra_cons (re_make0 (Cn := 4) rfl Y.mk_Line Y.in_Line Y.kp_Line rfl Y.mc_Line) ra_nil)))))) (rv 2)))
    (rss_cons (rs_if (RW.rt (rw_or (rt_cmp (op_neD hu) prim_ne (re_meth0 (MM_begins P w Y G) (rv 4) hr) (re_meth0 (MM_begins P w Y G) (rv 3) hr) (nomark _)) (rw_or (rt_cmp (op_neD hu) prim_ne (re_meth0 (MM_ends P w Y G) (rv 4) hr) (re_meth0 (MM_ends P w Y G) (rv 3) hr) (nomark _)) (rw_or1 (rt_cmp (op_neD hu) prim_ne (re_meth0 (MM_is_void P w Y G) (rv 4) hr) (re_meth0 (MM_is_void P w Y G) (rv 3) hr) (nomark _)))))) (rss_one (rs_ret re_bl)) rss_nil)
    (rss_cons (rs_if (RW.rt (rw_or (rt_not (rt_tru (re_isC (istab Y) rfl Y.n_isinstance (ra_cons (rv 3) (ra_cons (re_globC rfl Y.mc_Way rfl) ra_nil))))) (rw_or1 (rt_cmp (op_neD hu) prim_ne (re_call (G .l_sorts) (lenF .l_sorts) hr rfl Y.m_l_sorts (Y.ok .l_sorts).kp (Y.bi .l_sorts) (ra_cons (rv 3) ra_nil)) (re_comp (M := ["_law_j", "_law_k"]) [2] rfl (CompOk.of (by kernel_rfl)) (ri_range1 rfl Y.n_range (ra_cons re_int ra_nil)) (fun _ _ _ _ _ => rf_nil) (fun _ _ _ _ _ => (re_cmp (op_eqD hu) prim_eq (rv 0) (rv 1) (nomark _)))) (nomark _))))) (rss_one (rs_ret re_bl)) rss_nil)
    (rss_one (rs_for PassesOwn.never rfl (ri_range1 rfl Y.n_range (ra_cons re_int ra_nil)) (rg_name (i := 5) sc_law.nd rfl (Or.inl rfl)) (rss_cons (rs_set (i := 6) sc_law.nd rfl (Or.inl rfl) (re_call (G .l_value_by) (lenF .l_value_by) hr rfl Y.m_l_value_by (Y.ok .l_value_by).kp (Y.bi .l_value_by) (ra_cons (re_ix hu (rv 1) (rv 2)) (ra_cons (re_call (G .l_mixed) (lenF .l_mixed) hr rfl Y.m_l_mixed (Y.ok .l_mixed).kp (Y.bi .l_mixed) (ra_cons (re_call (G .l_cell_at) (lenF .l_cell_at) hr rfl Y.m_l_cell_at (Y.ok .l_cell_at).kp (Y.bi .l_cell_at) (ra_cons (rv 0) (ra_cons (re_add (re_mul re_int (rv 2)) (rv 5)) ra_nil))) (ra_cons (rv 2) ra_nil))) ra_nil))))
    (rss_cons (rs_if (rt_cmp (op_eqD hu) prim_eq (rv 5) re_int (nomark _)) (rss_one (rs_set (i := 3) sc_law.nd rfl (Or.inl rfl) (rv 4))) rss_nil)
    (rss_cons (rs_set (i := 7) sc_law.nd rfl (Or.inl rfl) (re_call (G .l_made) (lenF .l_made) hr rfl Y.m_l_made (Y.ok .l_made).kp (Y.bi .l_made) (ra_cons (rv 3) (ra_cons (rv 6) ra_nil))))
    (rss_cons (rs_if (RW.rt (rw_or (rt_cmp op_isNotB prim_isNotB (re_meth (MM_fits P w Y G) (rv 3) hr (ra_cons (rv 6) ra_nil)) re_bl (nomark _)) (rw_or (rt_not (rt_tru (re_isinst rfl Y.n_isinstance (ra_cons (rv 7) (ra_cons (re_tyN rfl Y.n_tuple (by decide +kernel)) ra_nil))))) (rw_or1 (rt_not (rt_tru (re_isinst rfl Y.n_isinstance (ra_cons (re_ix hu (rv 7) re_int) (ra_cons (re_tyN rfl Y.n_str (by decide +kernel)) ra_nil))))))))) (rss_one (rs_ret re_bl)) rss_nil)
    (rss_cons (rs_if (rt_cmp (op_neD hu) prim_ne (re_ix hu (rv 7) re_int) (re_call (G .l_coded) (lenF .l_coded) hr rfl Y.m_l_coded (Y.ok .l_coded).kp (Y.bi .l_coded) (ra_cons (re_ix hu (rv 1) (rv 2)) (ra_cons (rv 6) ra_nil))) (nomark _)) (rss_one (rs_ret re_bl)) rss_nil)
    (rss_cons (rs_set (i := 8) sc_law.nd rfl (Or.inl rfl) (re_call (G .l_odd) (lenF .l_odd) hr rfl Y.m_l_odd (Y.ok .l_odd).kp (Y.bi .l_odd) (ra_cons (re_ix hu (rv 1) (rv 2)) (ra_cons (re_call (G .l_mixed) (lenF .l_mixed) hr rfl Y.m_l_mixed (Y.ok .l_mixed).kp (Y.bi .l_mixed) (ra_cons (re_call (G .l_cell_at) (lenF .l_cell_at) hr rfl Y.m_l_cell_at (Y.ok .l_cell_at).kp (Y.bi .l_cell_at) (ra_cons (rv 0) (ra_cons (re_add (re_add re_int (re_mul re_int (rv 2))) (rv 5)) ra_nil))) (ra_cons (rv 2) ra_nil))) ra_nil))))
    (rss_one (rs_if (RW.rt (rw_or (rt_cmp op_isNotB prim_isNotB (re_meth (MM_fits P w Y G) (rv 3) hr (ra_cons (rv 8) ra_nil)) re_bl (nomark _)) (rw_or1 (rt_cmp (op_neD hu) prim_ne (re_call (G .l_made) (lenF .l_made) hr rfl Y.m_l_made (Y.ok .l_made).kp (Y.bi .l_made) (ra_cons (rv 3) (ra_cons (rv 8) ra_nil))) (re_lst (ra_cons (re_str [118, 97, 108, 117, 101] (by kernel_rfl)) ra_nil)) (nomark _))))) (rss_one (rs_ret re_bl)) rss_nil)))))))))))))))
    (rss_cons (rs_set (i := 9) sc_law.nd rfl (Or.inl rfl) (re_ix hu (re_lst (ra_cons (re_str [119, 111, 114, 100, 115] (by kernel_rfl)) (ra_cons (re_str [] (by kernel_rfl)) (ra_cons re_non (ra_cons re_int (ra_cons (re_lst (ra_cons (re_str [119, 111, 114, 100] (by kernel_rfl)) ra_nil)) (ra_cons (re_str [80, 108, 97, 105, 110] (by kernel_rfl)) (ra_cons (re_str [108, 105, 110, 101, 101] (by kernel_rfl)) (ra_cons (re_tup (ra_cons (re_str [119, 111, 114, 100] (by kernel_rfl)) ra_nil)) (ra_cons re_bl (ra_cons re_dict0 ra_nil))))))))))) (re_mod (re_call (G .l_cell_at) (lenF .l_cell_at) hr rfl Y.m_l_cell_at (Y.ok .l_cell_at).kp (Y.bi .l_cell_at) (ra_cons (rv 0) (ra_cons re_int ra_nil))) re_int)))
    (rss_one (rs_ret (re_and (re_cmp (op_eqD hu) prim_eq (re_call (G .l_way) (lenF .l_way) hr rfl Y.m_l_way (Y.ok .l_way).kp (Y.bi .l_way) (ra_cons (rv 9) ra_nil)) (re_lst (ra_cons (re_str [119, 97, 121] (by kernel_rfl)) ra_nil)) (nomark _)) (re_one (re_call (G .l_refusals_made) (lenF .l_refusals_made) hr rfl Y.m_l_refusals_made (Y.ok .l_refusals_made).kp (Y.bi .l_refusals_made) (ra_cons (re_call (G .l_mixed) (lenF .l_mixed) hr rfl Y.m_l_mixed (Y.ok .l_mixed).kp (Y.bi .l_mixed) (ra_cons (re_call (G .l_cell_at) (lenF .l_cell_at) hr rfl Y.m_l_cell_at (Y.ok .l_cell_at).kp (Y.bi .l_cell_at) (ra_cons (rv 0) (ra_cons re_int ra_nil))) (ra_cons re_int ra_nil))) ra_nil)))))))))
theorem r_way_of (Y : Sys K mg) {k : Nat} (G : All P w Y base k) (cdv : Value) (A : Around) (outer : List Env) (s : Shared) (H : Hp) (E : XK) (f : Addr) (hr : Room k (A.deeper (envOfC (qlOf .way_of) (defScope (stOf .way_of)) s.heap.objs.size f cdv))) :
    RSs (cxOf CX0 P w K mg base ["word"] (qlOf .way_of) (defScope (stOf .way_of)) f cdv A outer s H E).nox Y.tab (fun _ _ => False) (defBody (stOf .way_of)) (b_way_of (F k)) := by
  have hu := hr.units
  exact (rss_cons (rs_if (rt_cmp (op_eqU hu) prim_eqU (rv 0) (re_str [119, 111, 114, 100] (by kernel_rfl)) (nomark _)) (rss_one (rs_ret (re_make0 (Cn := 0) rfl Y.mk_Word Y.in_Word Y.kp_Word rfl Y.mc_Word))) rss_nil)
    (rss_cons (rs_if (rt_cmp (op_eqU hu) prim_eqU (rv 0) (re_str [110, 117, 109, 98, 101, 114] (by kernel_rfl)) (nomark _)) (rss_one (rs_ret (re_make0 (Cn := 1) rfl Y.mk_Number Y.in_Number Y.kp_Number rfl Y.mc_Number))) rss_nil)
    (rss_cons (rs_if (rt_cmp (op_eqU hu) prim_eqU (rv 0) (re_str [113, 117, 111, 116, 101, 100] (by kernel_rfl)) (nomark _)) (rss_one (rs_ret (re_make0 (Cn := 2) rfl Y.mk_Quoted Y.in_Quoted Y.kp_Quoted rfl Y.mc_Quoted))) rss_nil)
    (rss_cons (rs_if (rt_cmp (op_eqU hu) prim_eqU (rv 0) (re_str [112, 108, 97, 105, 110] (by kernel_rfl)) (nomark _)) (rss_one (rs_ret (re_make0 (Cn := 3) rfl Y.mk_Plain Y.in_Plain Y.kp_Plain rfl Y.mc_Plain))) rss_nil)
    (rss_cons (rs_if (rt_cmp (op_eqU hu) prim_eqU (rv 0) (re_str [108, 105, 110, 101] (by kernel_rfl)) (nomark _)) (rss_one (rs_ret (re_make0 (Cn := 4) rfl Y.mk_Line Y.in_Line Y.kp_Line rfl Y.mc_Line))) rss_nil)
    (rss_one rs_never))))))
theorem r_l_refusals_made (Y : Sys K mg) {k : Nat} (G : All P w Y base k) (cdv : Value) (A : Around) (outer : List Env) (s : Shared) (H : Hp) (E : XK) (f : Addr) (hr : Room k (A.deeper (envOfC (qlOf .l_refusals_made) (defScope (stOf .l_refusals_made)) s.heap.objs.size f cdv))) :
    RSs (cxOf CX0 P w K mg base ["_law_n", "_law_found"] (qlOf .l_refusals_made) (defScope (stOf .l_refusals_made)) f cdv A outer s H E).nox Y.tab (fun _ _ => False) (defBody (stOf .l_refusals_made)) (b_l_refusals_made (F k) (Nat.ble 2 k)) := by
  have hu := hr.units
  exact (rss_cons (rs_set (i := 1) sc_l_refusals_made.nd rfl (Or.inl rfl) (re_lst (ra_cons (re_xat (xa_BadText P w Y) Y.xi_BadText (Y.bi .BadText___init__) hr rfl Y.mc_BadText (ra_cons (rv 0) ra_nil)) (ra_cons (re_xat (xa_BadName P w Y) Y.xi_BadName (Y.bi .BadName___init__) hr rfl Y.mc_BadName (ra_cons (re_tup (ra_cons (rv 0) (ra_cons re_int ra_nil))) ra_nil)) (ra_cons (re_xat (xa_Unclear P w Y) Y.xi_Unclear (Y.bi .Unclear___init__) hr rfl Y.mc_Unclear (ra_cons (re_tup (ra_cons (rv 0) ra_nil)) ra_nil)) (ra_cons (re_xat (xa_NoFill P w Y) Y.xi_NoFill (Y.bi .NoFill___init__) hr rfl Y.mc_NoFill (ra_cons re_non ra_nil)) (ra_cons (re_xat (xa_NoFill P w Y) Y.xi_NoFill (Y.bi .NoFill___init__) hr rfl Y.mc_NoFill (ra_cons (rv 0) ra_nil)) ra_nil)))))))
    (rss_one (rs_ret (re_cmp (op_eqD hu) prim_eq (rv 1) (re_lst (ra_cons (rv 0) (ra_cons (re_tup (ra_cons (rv 0) (ra_cons re_int ra_nil))) (ra_cons (re_tup (ra_cons (rv 0) ra_nil)) (ra_cons re_non (ra_cons (rv 0) ra_nil)))))) (nomark _)))))
theorem r_l_value_by (Y : Sys K mg) {k : Nat} (G : All P w Y base k) (cdv : Value) (A : Around) (outer : List Env) (s : Shared) (H : Hp) (E : XK) (f : Addr) (hr : Room k (A.deeper (envOfC (qlOf .l_value_by) (defScope (stOf .l_value_by)) s.heap.objs.size f cdv))) :
    RSs (cxOf CX0 P w K mg base ["_law_word", "_law_cell"] (qlOf .l_value_by) (defScope (stOf .l_value_by)) f cdv A outer s H E).nox Y.tab (fun _ _ => False) (defBody (stOf .l_value_by)) (b_l_value_by (F k)) := by
  have hu := hr.units
  exact (rss_cons (rs_if (rt_cmp (op_eqD hu) prim_eq (rv 0) (re_str [119, 111, 114, 100] (by kernel_rfl)) (nomark _)) (rss_one (rs_ret (re_call (G .l_word_by) (lenF .l_word_by) hr rfl Y.m_l_word_by (Y.ok .l_word_by).kp (Y.bi .l_word_by) (ra_cons (rv 1) ra_nil)))) rss_nil)
    (rss_cons (rs_if (rt_cmp (op_eqD hu) prim_eq (rv 0) (re_str [110, 117, 109, 98, 101, 114] (by kernel_rfl)) (nomark _)) (rss_one (rs_ret (re_call (G .l_number_by) (lenF .l_number_by) hr rfl Y.m_l_number_by (Y.ok .l_number_by).kp (Y.bi .l_number_by) (ra_cons (rv 1) ra_nil)))) rss_nil)
    (rss_one (rs_ret (re_call (G .l_text_by) (lenF .l_text_by) hr rfl Y.m_l_text_by (Y.ok .l_text_by).kp (Y.bi .l_text_by) (ra_cons (rv 1) (ra_cons re_int ra_nil)))))))
theorem r_l_made (Y : Sys K mg) {k : Nat} (G : All P w Y base k) (GX : AllX P w Y base k) (GH : AllH P w Y base k) (cdv : Value) (A : Around) (outer : List Env) (s : Shared) (H : Hp) (E : XK) (f : Addr) (hr : Room k (A.deeper (envOfC (qlOf .l_made) (defScope (stOf .l_made)) s.heap.objs.size f cdv))) :
    RSs (cxOf CX0 P w K mg base ["_law_way_here", "_law_value", "_law_e"] (qlOf .l_made) (defScope (stOf .l_made)) f cdv A outer s H E).nox Y.tab (fun _ _ => False) (defBody (stOf .l_made)) (b_l_made (F k) (XP k) (UP k)) := by
  have hu := hr.units
  exact (rss_one (rs_try (catOk_FormError Y) (fun pn W Eb hp => (rss_one (rs_ret (re_tup (ra_cons (re_methX (MX_coded P w Y GX) hp (rv 0) hr (ra_cons (rv 1) ra_nil)) ra_nil))))) (fun pn a => (rss_one (rs_ret (re_callH (GH .l_class) (lenU .l_class) (hr.h.mark _) rfl Y.m_l_class (Y.ok .l_class).kp (Y.bi .l_class) (ra_cons (rv 2) ra_nil))))) sc_l_made.nd rfl rfl rfl Y.mc_FormError))
theorem r_l_odd (Y : Sys K mg) {k : Nat} (G : All P w Y base k) (cdv : Value) (A : Around) (outer : List Env) (s : Shared) (H : Hp) (E : XK) (f : Addr) (hr : Room k (A.deeper (envOfC (qlOf .l_odd) (defScope (stOf .l_odd)) s.heap.objs.size f cdv))) :
    RSs (cxOf CX0 P w K mg base ["_law_word", "_law_cell", "_law_some", "_law_value", "_law_bad", "_law_at"] (qlOf .l_odd) (defScope (stOf .l_odd)) f cdv A outer s H E).nox Y.tab (fun _ _ => False) (defBody (stOf .l_odd)) (b_l_odd (F k)) := by
  have hu := hr.units
  exact (rss_cons (rs_set (i := 2) sc_l_odd.nd rfl (Or.inl rfl) (re_lst (ra_cons re_bl (ra_cons re_non (ra_cons (re_lst (ra_cons (re_str [97] (by kernel_rfl)) ra_nil)) (ra_cons (re_tup (ra_cons (re_str [97] (by kernel_rfl)) ra_nil)) (ra_cons re_dict0 (ra_cons re_bl ra_nil))))))))
    (rss_cons (rs_set (i := 3) sc_l_odd.nd rfl (Or.inl rfl) (re_call (G .l_value_by) (lenF .l_value_by) hr rfl Y.m_l_value_by (Y.ok .l_value_by).kp (Y.bi .l_value_by) (ra_cons (rv 0) (ra_cons (re_fdiv (rv 1) re_int) ra_nil))))
    (rss_cons (rs_if (rt_cmp (op_eqD hu) prim_eq (rv 0) (re_str [110, 117, 109, 98, 101, 114] (by kernel_rfl)) (nomark _)) (rss_one (rs_ret (re_ix hu (re_add (rv 2) (re_lst (ra_cons (re_pow re_int re_int) (ra_cons (re_neg (re_pow re_int re_int)) (ra_cons (re_str [53] (by kernel_rfl)) (ra_cons (re_str [] (by kernel_rfl)) (ra_cons (re_add (re_pow re_int re_int) (re_mod (rv 1) re_int)) ra_nil))))))) (re_mod (rv 1) re_int)))) rss_nil)
    (rss_cons (rs_set (i := 2) sc_l_odd.nd rfl (Or.inl rfl) (re_add (rv 2) (re_lst (ra_cons re_int (ra_cons (re_neg re_int) (ra_cons (re_lst (ra_cons (re_str [97] (by kernel_rfl)) (ra_cons (re_str [98] (by kernel_rfl)) ra_nil))) ra_nil))))))
    (rss_cons (rs_if (rt_cmp (op_eqD hu) prim_eq (rv 0) (re_str [119, 111, 114, 100] (by kernel_rfl)) (nomark _)) (rss_cons (rs_set (i := 4) sc_l_odd.nd rfl (Or.inl rfl) (re_ix hu (re_add (re_call0 (G .l_signs) (lenF .l_signs) hr rfl Y.m_l_signs (Y.ok .l_signs).kp (Y.bi .l_signs)) (re_str [9] (by kernel_rfl))) (re_mod (re_fdiv (rv 1) re_int) re_int)))
    (rss_cons (rs_if (rt_tru (re_bm0 ty_str PySem.F.plainAttrs_str PySem.F.slot_str_isalnum PySem.F.type_str_isalnum mt_isalnum prim_isalnum (rv 4) )) (rss_one (rs_set (i := 4) sc_l_odd.nd rfl (Or.inl rfl) (re_str [45] (by kernel_rfl)))) rss_nil)
    (rss_cons (rs_set (i := 5) sc_l_odd.nd rfl (Or.inl rfl) (re_mod (re_fdiv (rv 1) re_int) (re_add (re_len rfl Y.n_len (ra_cons (rv 3) ra_nil)) re_int)))
    (rss_one (rs_ret (re_ix hu (re_add (rv 2) (re_lst (ra_cons (re_str [] (by kernel_rfl)) (ra_cons (re_add (re_add (re_slice (rv 3) ro_none (ro_some (rv 5))) (rv 4)) (re_slice (rv 3) (ro_some (rv 5)) ro_none)) (ra_cons (re_mul (re_str [97] (by kernel_rfl)) re_int) (ra_cons (re_add (rv 3) (re_mul (re_str [95] (by kernel_rfl)) re_int)) ra_nil)))))) (re_mod (rv 1) re_int))))))) rss_nil)
    (rss_cons (rs_set (i := 5) sc_l_odd.nd rfl (Or.inl rfl) (re_mod (re_fdiv (rv 1) re_int) (re_add (re_len rfl Y.n_len (ra_cons (rv 3) ra_nil)) re_int)))
    (rss_cons (rs_set (i := 2) sc_l_odd.nd rfl (Or.inl rfl) (re_add (rv 2) (re_lst (ra_cons (re_add (re_add (re_slice (rv 3) ro_none (ro_some (rv 5))) (re_str [9] (by kernel_rfl))) (re_slice (rv 3) (ro_some (rv 5)) ro_none)) (ra_cons (re_add (re_mul (re_str [97] (by kernel_rfl)) re_int) (re_str [9] (by kernel_rfl))) (ra_cons (re_str [9] (by kernel_rfl)) ra_nil))))))
    (rss_one (rs_ret (re_ix hu (re_add (rv 2) (re_lst (ra_cons (re_mul (re_str [97] (by kernel_rfl)) re_int) (ra_cons (re_add (rv 3) (re_mul (re_str [98] (by kernel_rfl)) (re_sub re_int (re_len rfl Y.n_len (ra_cons (rv 3) ra_nil))))) (ra_cons (re_mul (re_str [10] (by kernel_rfl)) re_int) ra_nil))))) (re_mod (rv 1) re_int)))))))))))
theorem r_l_cell_at (Y : Sys K mg) {k : Nat} (G : All P w Y base k) (cdv : Value) (A : Around) (outer : List Env) (s : Shared) (H : Hp) (E : XK) (f : Addr) (hr : Room k (A.deeper (envOfC (qlOf .l_cell_at) (defScope (stOf .l_cell_at)) s.heap.objs.size f cdv))) :
    RSs (cxOf CX0 P w K mg base ["_law_script", "_law_k"] (qlOf .l_cell_at) (defScope (stOf .l_cell_at)) f cdv A outer s H E).nox Y.tab (fun _ _ => False) (defBody (stOf .l_cell_at)) (b_l_cell_at (F k)) := by
  have hu := hr.units
  exact (rss_cons (rs_if (rt_cmp op_lt prim_cmp (rv 1) (re_len rfl Y.n_len (ra_cons (rv 0) ra_nil)) (nomark _)) (rss_one (rs_ret (re_ix hu (rv 0) (rv 1)))) rss_nil)
    (rss_one (rs_ret re_int)))
theorem r_l_way (Y : Sys K mg) {k : Nat} (G : All P w Y base k) (GX : AllX P w Y base k) (GH : AllH P w Y base k) (cdv : Value) (A : Around) (outer : List Env) (s : Shared) (H : Hp) (E : XK) (f : Addr) (hr : Room k (A.deeper (envOfC (qlOf .l_way) (defScope (stOf .l_way)) s.heap.objs.size f cdv))) :
    RSs (cxOf CX0 P w K mg base ["_law_word", "_law_e"] (qlOf .l_way) (defScope (stOf .l_way)) f cdv A outer s H E).nox Y.tab (fun _ _ => False) (defBody (stOf .l_way)) (b_l_way (F k) (XP k) (UP k)) := by
  have hu := hr.units
  exact (rss_one (rs_try (catOk_FormError Y) (fun pn W Eb hp => (rss_one (rs_ret (re_tup (ra_cons (re_callX (GX .way_of) (fxP Y .way_of) hp hr rfl Y.m_way_of (Y.ok .way_of).kp (Y.bi .way_of) (ra_cons (rv 0) ra_nil)) ra_nil))))) (fun pn a => (rss_one (rs_ret (re_callH (GH .l_class) (lenU .l_class) (hr.h.mark _) rfl Y.m_l_class (Y.ok .l_class).kp (Y.bi .l_class) (ra_cons (rv 1) ra_nil))))) sc_l_way.nd rfl rfl rfl Y.mc_FormError))
theorem r_l_mixed (Y : Sys K mg) {k : Nat} (G : All P w Y base k) (cdv : Value) (A : Around) (outer : List Env) (s : Shared) (H : Hp) (E : XK) (f : Addr) (hr : Room k (A.deeper (envOfC (qlOf .l_mixed) (defScope (stOf .l_mixed)) s.heap.objs.size f cdv))) :
    RSs (cxOf CX0 P w K mg base ["_law_cell", "_law_k"] (qlOf .l_mixed) (defScope (stOf .l_mixed)) f cdv A outer s H E).nox Y.tab (fun _ _ => False) (defBody (stOf .l_mixed)) (b_l_mixed (F k)) := by
  have hu := hr.units
  exact (rss_one (rs_ret (re_mod (re_mul (re_add (re_add (rv 0) (re_mul (re_mul re_int (rv 1)) (rv 1))) re_int) re_int) re_int)))
theorem r_Word_begins (Y : Sys K mg) {k : Nat} (G : All P w Y base k) (cdv : Value) (A : Around) (outer : List Env) (s : Shared) (H : Hp) (E : XK) (f : Addr) (hr : Room k (A.deeper (envOfC (qlOf .Word_begins) (defScope (stOf .Word_begins)) s.heap.objs.size f cdv))) :
    RSs (cxOf CX0 P w K mg base ["self"] (qlOf .Word_begins) (defScope (stOf .Word_begins)) f cdv A outer s H E).nox Y.tab (fun _ _ => False) (defBody (stOf .Word_begins)) (b_Word_begins (F k)) := by
  have hu := hr.units
  exact (rss_one (rs_ret (re_globS rfl Y.g_WORD_SIGNS Y.r_WORD_SIGNS)))
theorem r_Number_begins (Y : Sys K mg) {k : Nat} (G : All P w Y base k) (cdv : Value) (A : Around) (outer : List Env) (s : Shared) (H : Hp) (E : XK) (f : Addr) (hr : Room k (A.deeper (envOfC (qlOf .Number_begins) (defScope (stOf .Number_begins)) s.heap.objs.size f cdv))) :
    RSs (cxOf CX0 P w K mg base ["self"] (qlOf .Number_begins) (defScope (stOf .Number_begins)) f cdv A outer s H E).nox Y.tab (fun _ _ => False) (defBody (stOf .Number_begins)) (b_Number_begins (F k)) := by
  have hu := hr.units
  exact (rss_one (rs_ret (re_globS rfl Y.g_NUMBER_SIGNS Y.r_NUMBER_SIGNS)))
theorem r_Quoted_begins (Y : Sys K mg) {k : Nat} (G : All P w Y base k) (cdv : Value) (A : Around) (outer : List Env) (s : Shared) (H : Hp) (E : XK) (f : Addr) (hr : Room k (A.deeper (envOfC (qlOf .Quoted_begins) (defScope (stOf .Quoted_begins)) s.heap.objs.size f cdv))) :
    RSs (cxOf CX0 P w K mg base ["self"] (qlOf .Quoted_begins) (defScope (stOf .Quoted_begins)) f cdv A outer s H E).nox Y.tab (fun _ _ => False) (defBody (stOf .Quoted_begins)) (b_Quoted_begins (F k)) := by
  have hu := hr.units
  exact (rss_one (rs_ret (re_str [34] (by kernel_rfl))))
theorem r_Plain_begins (Y : Sys K mg) {k : Nat} (G : All P w Y base k) (cdv : Value) (A : Around) (outer : List Env) (s : Shared) (H : Hp) (E : XK) (f : Addr) (hr : Room k (A.deeper (envOfC (qlOf .Plain_begins) (defScope (stOf .Plain_begins)) s.heap.objs.size f cdv))) :
    RSs (cxOf CX0 P w K mg base ["self"] (qlOf .Plain_begins) (defScope (stOf .Plain_begins)) f cdv A outer s H E).nox Y.tab (fun _ _ => False) (defBody (stOf .Plain_begins)) (b_Plain_begins (F k)) := by
  have hu := hr.units
  exact (rss_one (rs_ret (re_call (G .signs_but) (lenF .signs_but) hr rfl Y.m_signs_but (Y.ok .signs_but).kp (Y.bi .signs_but) (ra_cons (re_globS rfl Y.g_PLAIN_STOPS Y.r_PLAIN_STOPS) ra_nil))))
theorem r_Line_begins (Y : Sys K mg) {k : Nat} (G : All P w Y base k) (cdv : Value) (A : Around) (outer : List Env) (s : Shared) (H : Hp) (E : XK) (f : Addr) (hr : Room k (A.deeper (envOfC (qlOf .Line_begins) (defScope (stOf .Line_begins)) s.heap.objs.size f cdv))) :
    RSs (cxOf CX0 P w K mg base ["self"] (qlOf .Line_begins) (defScope (stOf .Line_begins)) f cdv A outer s H E).nox Y.tab (fun _ _ => False) (defBody (stOf .Line_begins)) (b_Line_begins (F k)) := by
  have hu := hr.units
  exact (rss_one (rs_ret (re_call (G .signs_but) (lenF .signs_but) hr rfl Y.m_signs_but (Y.ok .signs_but).kp (Y.bi .signs_but) (ra_cons (re_globS rfl Y.g_LINE_STOPS Y.r_LINE_STOPS) ra_nil))))
theorem r_Word_ends (Y : Sys K mg) {k : Nat} (G : All P w Y base k) (cdv : Value) (A : Around) (outer : List Env) (s : Shared) (H : Hp) (E : XK) (f : Addr) (hr : Room k (A.deeper (envOfC (qlOf .Word_ends) (defScope (stOf .Word_ends)) s.heap.objs.size f cdv))) :
    RSs (cxOf CX0 P w K mg base ["self"] (qlOf .Word_ends) (defScope (stOf .Word_ends)) f cdv A outer s H E).nox Y.tab (fun _ _ => False) (defBody (stOf .Word_ends)) (b_Word_ends (F k)) := by
  have hu := hr.units
  exact (rss_one (rs_ret (re_call (G .signs_but) (lenF .signs_but) hr rfl Y.m_signs_but (Y.ok .signs_but).kp (Y.bi .signs_but) (ra_cons (re_globS rfl Y.g_WORD_SIGNS Y.r_WORD_SIGNS) ra_nil))))
theorem r_Number_ends (Y : Sys K mg) {k : Nat} (G : All P w Y base k) (cdv : Value) (A : Around) (outer : List Env) (s : Shared) (H : Hp) (E : XK) (f : Addr) (hr : Room k (A.deeper (envOfC (qlOf .Number_ends) (defScope (stOf .Number_ends)) s.heap.objs.size f cdv))) :
    RSs (cxOf CX0 P w K mg base ["self"] (qlOf .Number_ends) (defScope (stOf .Number_ends)) f cdv A outer s H E).nox Y.tab (fun _ _ => False) (defBody (stOf .Number_ends)) (b_Number_ends (F k)) := by
  have hu := hr.units
  exact (rss_one (rs_ret (re_call (G .signs_but) (lenF .signs_but) hr rfl Y.m_signs_but (Y.ok .signs_but).kp (Y.bi .signs_but) (ra_cons (re_globS rfl Y.g_FIGURES Y.r_FIGURES) ra_nil))))
theorem r_Quoted_ends (Y : Sys K mg) {k : Nat} (G : All P w Y base k) (cdv : Value) (A : Around) (outer : List Env) (s : Shared) (H : Hp) (E : XK) (f : Addr) (hr : Room k (A.deeper (envOfC (qlOf .Quoted_ends) (defScope (stOf .Quoted_ends)) s.heap.objs.size f cdv))) :
    RSs (cxOf CX0 P w K mg base ["self"] (qlOf .Quoted_ends) (defScope (stOf .Quoted_ends)) f cdv A outer s H E).nox Y.tab (fun _ _ => False) (defBody (stOf .Quoted_ends)) (b_Quoted_ends (F k)) := by
  have hu := hr.units
  exact (rss_one (rs_ret (re_call0 (G .signs) (lenF .signs) hr rfl Y.m_signs (Y.ok .signs).kp (Y.bi .signs))))
theorem r_Plain_ends (Y : Sys K mg) {k : Nat} (G : All P w Y base k) (cdv : Value) (A : Around) (outer : List Env) (s : Shared) (H : Hp) (E : XK) (f : Addr) (hr : Room k (A.deeper (envOfC (qlOf .Plain_ends) (defScope (stOf .Plain_ends)) s.heap.objs.size f cdv))) :
    RSs (cxOf CX0 P w K mg base ["self"] (qlOf .Plain_ends) (defScope (stOf .Plain_ends)) f cdv A outer s H E).nox Y.tab (fun _ _ => False) (defBody (stOf .Plain_ends)) (b_Plain_ends (F k)) := by
  have hu := hr.units
  exact (rss_one (rs_ret (re_globS rfl Y.g_PLAIN_STOPS Y.r_PLAIN_STOPS)))
theorem r_Line_ends (Y : Sys K mg) {k : Nat} (G : All P w Y base k) (cdv : Value) (A : Around) (outer : List Env) (s : Shared) (H : Hp) (E : XK) (f : Addr) (hr : Room k (A.deeper (envOfC (qlOf .Line_ends) (defScope (stOf .Line_ends)) s.heap.objs.size f cdv))) :
    RSs (cxOf CX0 P w K mg base ["self"] (qlOf .Line_ends) (defScope (stOf .Line_ends)) f cdv A outer s H E).nox Y.tab (fun _ _ => False) (defBody (stOf .Line_ends)) (b_Line_ends (F k)) := by
  have hu := hr.units
  exact (rss_one (rs_ret (re_globS rfl Y.g_LINE_STOPS Y.r_LINE_STOPS)))
theorem r_Way_is_void (Y : Sys K mg) {k : Nat} (G : All P w Y base k) (cdv : Value) (A : Around) (outer : List Env) (s : Shared) (H : Hp) (E : XK) (f : Addr) (hr : Room k (A.deeper (envOfC (qlOf .Way_is_void) (defScope (stOf .Way_is_void)) s.heap.objs.size f cdv))) :
    RSs (cxOf CX0 P w K mg base ["self"] (qlOf .Way_is_void) (defScope (stOf .Way_is_void)) f cdv A outer s H E).nox Y.tab (fun _ _ => False) (defBody (stOf .Way_is_void)) (b_Way_is_void (F k)) := by
  have hu := hr.units
  exact (rss_one (rs_ret re_bl))
theorem r_Plain_is_void (Y : Sys K mg) {k : Nat} (G : All P w Y base k) (cdv : Value) (A : Around) (outer : List Env) (s : Shared) (H : Hp) (E : XK) (f : Addr) (hr : Room k (A.deeper (envOfC (qlOf .Plain_is_void) (defScope (stOf .Plain_is_void)) s.heap.objs.size f cdv))) :
    RSs (cxOf CX0 P w K mg base ["self"] (qlOf .Plain_is_void) (defScope (stOf .Plain_is_void)) f cdv A outer s H E).nox Y.tab (fun _ _ => False) (defBody (stOf .Plain_is_void)) (b_Plain_is_void (F k)) := by
  have hu := hr.units
  exact (rss_one (rs_ret re_bl))
theorem r_Line_is_void (Y : Sys K mg) {k : Nat} (G : All P w Y base k) (cdv : Value) (A : Around) (outer : List Env) (s : Shared) (H : Hp) (E : XK) (f : Addr) (hr : Room k (A.deeper (envOfC (qlOf .Line_is_void) (defScope (stOf .Line_is_void)) s.heap.objs.size f cdv))) :
    RSs (cxOf CX0 P w K mg base ["self"] (qlOf .Line_is_void) (defScope (stOf .Line_is_void)) f cdv A outer s H E).nox Y.tab (fun _ _ => False) (defBody (stOf .Line_is_void)) (b_Line_is_void (F k)) := by
  have hu := hr.units
  exact (rss_one (rs_ret re_bl))
theorem r_l_sorts (Y : Sys K mg) {k : Nat} (G : All P w Y base k) (cdv : Value) (A : Around) (outer : List Env) (s : Shared) (H : Hp) (E : XK) (f : Addr) (hr : Room k (A.deeper (envOfC (qlOf .l_sorts) (defScope (stOf .l_sorts)) s.heap.objs.size f cdv))) :
    RSs (cxOf CX0 P w K mg base ["_law_way_here", "_law_found"] (qlOf .l_sorts) (defScope (stOf .l_sorts)) f cdv A outer s H E).nox Y.tab (fun _ _ => False) (defBody (stOf .l_sorts)) (b_l_sorts (F k)) := by
  have hu := hr.units
  exact (rss_cons (rs_set (i := 1) sc_l_sorts.nd rfl (Or.inl rfl) (re_lst (ra_cons (re_isC (istab Y) rfl Y.n_isinstance (ra_cons (rv 0) (ra_cons (re_globC rfl Y.mc_Word rfl) ra_nil))) (ra_cons (re_isC (istab Y) rfl Y.n_isinstance (ra_cons (rv 0) (ra_cons (re_globC rfl Y.mc_Number rfl) ra_nil))) (ra_cons (re_isC (istab Y) rfl Y.n_isinstance (ra_cons (rv 0) (ra_cons (re_globC rfl Y.mc_Quoted rfl) ra_nil))) ra_nil)))))
    (rss_one (rs_ret (re_add (rv 1) (re_lst (ra_cons (re_isC (istab Y) rfl Y.n_isinstance (ra_cons (rv 0) (ra_cons (re_globC rfl Y.mc_Plain rfl) ra_nil))) (ra_cons (re_isC (istab Y) rfl Y.n_isinstance (ra_cons (rv 0) (ra_cons (re_globC rfl Y.mc_Line rfl) ra_nil))) ra_nil)))))))
theorem r_l_coded (Y : Sys K mg) {k : Nat} (G : All P w Y base k) (cdv : Value) (A : Around) (outer : List Env) (s : Shared) (H : Hp) (E : XK) (f : Addr) (hr : Room k (A.deeper (envOfC (qlOf .l_coded) (defScope (stOf .l_coded)) s.heap.objs.size f cdv))) :
    RSs (cxOf CX0 P w K mg base ["_law_word", "_law_value", "_law_marks", "_law_found"] (qlOf .l_coded) (defScope (stOf .l_coded)) f cdv A outer s H E).nox Y.tab (fun _ _ => False) (defBody (stOf .l_coded)) (b_l_coded (F k)) := by
  have hu := hr.units
  exact (rss_cons (rs_if (rt_cmp (op_eqD hu) prim_eq (rv 0) (re_str [119, 111, 114, 100] (by kernel_rfl)) (nomark _)) (rss_one (rs_ret (rv 1))) rss_nil)
    (rss_cons (rs_if (rt_cmp (op_eqD hu) prim_eq (rv 0) (re_str [110, 117, 109, 98, 101, 114] (by kernel_rfl)) (nomark _)) (rss_one (rs_ret (re_strI rfl Y.n_str (ra_cons (rv 1) ra_nil)))) rss_nil)
    (rss_cons (rs_set (i := 2) sc_l_coded.nd rfl (Or.inr rfl) (re_dict (rps_cons (re_str [126] (by kernel_rfl)) (re_str [126, 126] (by kernel_rfl)) (rps_cons (re_str [10] (by kernel_rfl)) (re_str [126, 110] (by kernel_rfl)) rps_nil)) rfl rfl (by intro z; cases z) (by decide) rfl))
    (rss_cons (rs_if (rt_cmp (op_eqD hu) prim_eq (rv 0) (re_str [112, 108, 97, 105, 110] (by kernel_rfl)) (nomark _)) (rss_one (rs_set (i := 2) sc_l_coded.nd rfl (Or.inr rfl) (re_dict (rps_cons (re_str [126] (by kernel_rfl)) (re_str [126, 126] (by kernel_rfl)) (rps_cons (re_str [60] (by kernel_rfl)) (re_str [126, 108] (by kernel_rfl)) (rps_cons (re_str [62] (by kernel_rfl)) (re_str [126, 103] (by kernel_rfl)) (rps_cons (re_str [38] (by kernel_rfl)) (re_str [126, 97] (by kernel_rfl)) (rps_cons (re_str [124] (by kernel_rfl)) (re_str [126, 98] (by kernel_rfl)) (rps_cons (re_str [10] (by kernel_rfl)) (re_str [126, 110] (by kernel_rfl)) rps_nil)))))) rfl rfl (by intro z; cases z) (by decide) rfl))) rss_nil)
    (rss_cons (rs_if (rt_cmp (op_eqD hu) prim_eq (rv 0) (re_str [113, 117, 111, 116, 101, 100] (by kernel_rfl)) (nomark _)) (rss_one (rs_set (i := 2) sc_l_coded.nd rfl (Or.inr rfl) (re_dict (rps_cons (re_str [94] (by kernel_rfl)) (re_str [94, 94] (by kernel_rfl)) (rps_cons (re_str [34] (by kernel_rfl)) (re_str [94, 113] (by kernel_rfl)) (rps_cons (re_str [10] (by kernel_rfl)) (re_str [94, 110] (by kernel_rfl)) rps_nil))) rfl rfl (by intro z; cases z) (by decide) rfl))) rss_nil)
    (rss_cons (rs_set (i := 3) sc_l_coded.nd rfl (Or.inl rfl) (re_bm ty_str PySem.F.plainAttrs_str PySem.F.slot_str_join PySem.F.type_str_join mt_join prim_join (re_str [] (by kernel_rfl)) (ra_cons (re_comp (M := ["_law_sign", "_law_marks"]) [2] rfl (CompOk.of (by kernel_rfl)) (ri_seq (rv 1)) (fun _ _ _ _ _ => rf_nil) (fun _ _ _ _ _ => (re_get2 hu (rv 1) (rv 0) (rv 0) ⟨rfl, rfl, rfl, rfl⟩))) ra_nil)))
    (rss_cons (rs_if (rt_cmp (op_eqD hu) prim_eq (rv 0) (re_str [113, 117, 111, 116, 101, 100] (by kernel_rfl)) (nomark _)) (rss_one (rs_ret (re_add (re_add (re_str [34] (by kernel_rfl)) (rv 3)) (re_str [34] (by kernel_rfl))))) rss_nil)
    (rss_one (rs_ret (rv 3))))))))))
theorem r_Word_fits (Y : Sys K mg) {k : Nat} (G : All P w Y base k) (cdv : Value) (A : Around) (outer : List Env) (s : Shared) (H : Hp) (E : XK) (f : Addr) (hr : Room k (A.deeper (envOfC (qlOf .Word_fits) (defScope (stOf .Word_fits)) s.heap.objs.size f cdv))) :
    RSs (cxOf CX0 P w K mg base ["self", "value"] (qlOf .Word_fits) (defScope (stOf .Word_fits)) f cdv A outer s H E).nox Y.tab (fun _ _ => False) (defBody (stOf .Word_fits)) (b_Word_fits (F k)) := by
  have hu := hr.units
  exact (rss_one (rs_ret (re_and (re_call (G .is_text) (lenF .is_text) hr rfl Y.m_is_text (Y.ok .is_text).kp (Y.bi .is_text) (ra_cons (rv 1) (ra_cons (re_globI rfl Y.g_MOST_WORD_SIGNS Y.r_MOST_WORD_SIGNS) ra_nil))) (re_and (re_cmp (op_neD hu) prim_ne (rv 1) (re_str [] (by kernel_rfl)) (nomark _)) (re_one (re_call (G .is_made_of) (lenF .is_made_of) hr rfl Y.m_is_made_of (Y.ok .is_made_of).kp (Y.bi .is_made_of) (ra_cons (rv 1) (ra_cons (re_globS rfl Y.g_WORD_SIGNS Y.r_WORD_SIGNS) ra_nil))))))))
theorem r_Number_fits (Y : Sys K mg) {k : Nat} (G : All P w Y base k) (cdv : Value) (A : Around) (outer : List Env) (s : Shared) (H : Hp) (E : XK) (f : Addr) (hr : Room k (A.deeper (envOfC (qlOf .Number_fits) (defScope (stOf .Number_fits)) s.heap.objs.size f cdv))) :
    RSs (cxOf CX0 P w K mg base ["self", "value"] (qlOf .Number_fits) (defScope (stOf .Number_fits)) f cdv A outer s H E).nox Y.tab (fun _ _ => False) (defBody (stOf .Number_fits)) (b_Number_fits (F k)) := by
  have hu := hr.units
  exact (rss_one (rs_ret (re_and (re_isinst rfl Y.n_isinstance (ra_cons (rv 1) (ra_cons (re_tyN rfl Y.n_int (by decide +kernel)) ra_nil))) (re_and (re_not (re_isinst rfl Y.n_isinstance (ra_cons (rv 1) (ra_cons (re_tyN rfl Y.n_bool (by decide +kernel)) ra_nil)))) (re_one (re_call (G .is_short_number) (lenF .is_short_number) hr rfl Y.m_is_short_number (Y.ok .is_short_number).kp (Y.bi .is_short_number) (ra_cons (rv 1) ra_nil)))))))
theorem r_Quoted_fits (Y : Sys K mg) {k : Nat} (G : All P w Y base k) (cdv : Value) (A : Around) (outer : List Env) (s : Shared) (H : Hp) (E : XK) (f : Addr) (hr : Room k (A.deeper (envOfC (qlOf .Quoted_fits) (defScope (stOf .Quoted_fits)) s.heap.objs.size f cdv))) :
    RSs (cxOf CX0 P w K mg base ["self", "value"] (qlOf .Quoted_fits) (defScope (stOf .Quoted_fits)) f cdv A outer s H E).nox Y.tab (fun _ _ => False) (defBody (stOf .Quoted_fits)) (b_Quoted_fits (F k)) := by
  have hu := hr.units
  exact (rss_one (rs_ret (re_call (G .is_text) (lenF .is_text) hr rfl Y.m_is_text (Y.ok .is_text).kp (Y.bi .is_text) (ra_cons (rv 1) (ra_cons (re_globI rfl Y.g_MOST_SIGNS Y.r_MOST_SIGNS) ra_nil)))))
theorem r_Plain_fits (Y : Sys K mg) {k : Nat} (G : All P w Y base k) (cdv : Value) (A : Around) (outer : List Env) (s : Shared) (H : Hp) (E : XK) (f : Addr) (hr : Room k (A.deeper (envOfC (qlOf .Plain_fits) (defScope (stOf .Plain_fits)) s.heap.objs.size f cdv))) :
    RSs (cxOf CX0 P w K mg base ["self", "value"] (qlOf .Plain_fits) (defScope (stOf .Plain_fits)) f cdv A outer s H E).nox Y.tab (fun _ _ => False) (defBody (stOf .Plain_fits)) (b_Plain_fits (F k)) := by
  have hu := hr.units
  exact (rss_one (rs_ret (re_call (G .is_text) (lenF .is_text) hr rfl Y.m_is_text (Y.ok .is_text).kp (Y.bi .is_text) (ra_cons (rv 1) (ra_cons (re_globI rfl Y.g_MOST_SIGNS Y.r_MOST_SIGNS) ra_nil)))))
theorem r_Line_fits (Y : Sys K mg) {k : Nat} (G : All P w Y base k) (cdv : Value) (A : Around) (outer : List Env) (s : Shared) (H : Hp) (E : XK) (f : Addr) (hr : Room k (A.deeper (envOfC (qlOf .Line_fits) (defScope (stOf .Line_fits)) s.heap.objs.size f cdv))) :
    RSs (cxOf CX0 P w K mg base ["self", "value"] (qlOf .Line_fits) (defScope (stOf .Line_fits)) f cdv A outer s H E).nox Y.tab (fun _ _ => False) (defBody (stOf .Line_fits)) (b_Line_fits (F k)) := by
  have hu := hr.units
  exact (rss_one (rs_ret (re_call (G .is_text) (lenF .is_text) hr rfl Y.m_is_text (Y.ok .is_text).kp (Y.bi .is_text) (ra_cons (rv 1) (ra_cons (re_globI rfl Y.g_MOST_SIGNS Y.r_MOST_SIGNS) ra_nil)))))
theorem r_l_text_by (Y : Sys K mg) {k : Nat} (G : All P w Y base k) (cdv : Value) (A : Around) (outer : List Env) (s : Shared) (H : Hp) (E : XK) (f : Addr) (hr : Room k (A.deeper (envOfC (qlOf .l_text_by) (defScope (stOf .l_text_by)) s.heap.objs.size f cdv))) :
    RSs (cxOf CX0 P w K mg base ["_law_cell", "_law_most", "_law_all_signs", "_law_size", "_law_found", "_law_k", "_law_n"] (qlOf .l_text_by) (defScope (stOf .l_text_by)) f cdv A outer s H E).nox Y.tab (fun _ _ => False) (defBody (stOf .l_text_by)) (b_l_text_by (F k)) := by
  have hu := hr.units
  exact (rss_cons (rs_set (i := 2) sc_l_text_by.nd rfl (Or.inl rfl) (re_call0 (G .l_signs) (lenF .l_signs) hr rfl Y.m_l_signs (Y.ok .l_signs).kp (Y.bi .l_signs)))
    (rss_cons (rs_set (i := 3) sc_l_text_by.nd rfl (Or.inl rfl) (re_ix hu (re_lst (ra_cons (re_mod (rv 0) re_int) (ra_cons (re_mod (rv 0) re_int) (ra_cons (re_mod (rv 0) (re_add (rv 1) re_int)) (ra_cons (re_sub (rv 1) (re_mod (rv 0) re_int)) ra_nil))))) (re_mul (re_mod (re_fdiv (rv 0) re_int) re_int) (re_intB rfl Y.n_int (ra_cons (re_cmp (op_eqD hu) prim_eq (re_mod (re_fdiv (rv 0) re_int) re_int) re_int (nomark _)) ra_nil)))))
    (rss_cons (rs_set (i := 4) sc_l_text_by.nd rfl (Or.inl rfl) (re_lstM ra_nil))
    (rss_cons (rs_for PassesOwn.never rfl (ri_range1 rfl Y.n_range (ra_cons (rv 3) ra_nil)) (rg_name (i := 5) sc_l_text_by.nd rfl (Or.inl rfl)) (rss_cons (rs_set (i := 6) sc_l_text_by.nd rfl (Or.inl rfl) (re_call (G .l_mixed) (lenF .l_mixed) hr rfl Y.m_l_mixed (Y.ok .l_mixed).kp (Y.bi .l_mixed) (ra_cons (re_fdiv (rv 0) re_int) (ra_cons (rv 5) ra_nil))))
    (rss_one (rs_expr (re_bm ty_lst PySem.F.plainAttrs_list PySem.F.slot_list_append PySem.F.type_list_append mt_append prim_append (rv 4) (ra_cons (re_ix hu (re_lst (ra_cons (re_ix hu (rv 2) (re_mod (re_fdiv (rv 6) re_int) re_int)) (ra_cons (re_ix hu (re_str q_f0ad16 (by kernel_rfl)) (re_mod (re_fdiv (rv 6) re_int) re_int)) ra_nil))) (re_mul (re_mod (rv 6) re_int) (re_mod (re_fdiv (rv 0) re_int) re_int))) ra_nil))))))
    (rss_one (rs_ret (re_bm ty_str PySem.F.plainAttrs_str PySem.F.slot_str_join PySem.F.type_str_join mt_join prim_join (re_str [] (by kernel_rfl)) (ra_cons (rv 4) ra_nil))))))))
theorem r_l_word_by (Y : Sys K mg) {k : Nat} (G : All P w Y base k) (cdv : Value) (A : Around) (outer : List Env) (s : Shared) (H : Hp) (E : XK) (f : Addr) (hr : Room k (A.deeper (envOfC (qlOf .l_word_by) (defScope (stOf .l_word_by)) s.heap.objs.size f cdv))) :
    RSs (cxOf CX0 P w K mg base ["_law_cell", "_law_some", "_law_size"] (qlOf .l_word_by) (defScope (stOf .l_word_by)) f cdv A outer s H E).nox Y.tab (fun _ _ => False) (defBody (stOf .l_word_by)) (b_l_word_by (F k)) := by
  have hu := hr.units
  exact (rss_cons (rs_set (i := 1) sc_l_word_by.nd rfl (Or.inr rfl) (re_str q_76658d (by kernel_rfl)))
    (rss_cons (rs_set (i := 2) sc_l_word_by.nd rfl (Or.inl rfl) (re_ix hu (re_lst (ra_cons (re_add re_int (re_mod (rv 0) re_int)) (ra_cons (re_add re_int (re_mod (rv 0) re_int)) (ra_cons re_int ra_nil)))) (re_mul (re_mod (re_fdiv (rv 0) re_int) re_int) (re_intB rfl Y.n_int (ra_cons (re_cmp (op_eqD hu) prim_eq (re_mod (re_fdiv (rv 0) re_int) re_int) re_int (nomark _)) ra_nil)))))
    (rss_one (rs_ret (re_bm ty_str PySem.F.plainAttrs_str PySem.F.slot_str_join PySem.F.type_str_join mt_join prim_join (re_str [] (by kernel_rfl)) (ra_cons (re_comp (M := ["_law_k", "_law_some", "_law_cell"]) [1, 0] rfl (CompOk.of (by kernel_rfl)) (ri_range1 rfl Y.n_range (ra_cons (rv 2) ra_nil)) (fun _ _ _ _ _ => rf_nil) (fun _ _ _ _ _ => (re_ix hu (rv 1) (re_mod (re_fdiv (re_call (G .l_mixed) (lenF .l_mixed) hr rfl Y.m_l_mixed (Y.ok .l_mixed).kp (Y.bi .l_mixed) (ra_cons (re_fdiv (rv 2) re_int) (ra_cons (rv 0) ra_nil))) re_int) re_int)))) ra_nil))))))
theorem r_l_number_by (Y : Sys K mg) {k : Nat} (G : All P w Y base k) (cdv : Value) (A : Around) (outer : List Env) (s : Shared) (H : Hp) (E : XK) (f : Addr) (hr : Room k (A.deeper (envOfC (qlOf .l_number_by) (defScope (stOf .l_number_by)) s.heap.objs.size f cdv))) :
    RSs (cxOf CX0 P w K mg base ["_law_cell", "_law_small", "_law_great"] (qlOf .l_number_by) (defScope (stOf .l_number_by)) f cdv A outer s H E).nox Y.tab (fun _ _ => False) (defBody (stOf .l_number_by)) (b_l_number_by (F k)) := by
  have hu := hr.units
  exact (rss_cons (rs_set (i := 1) sc_l_number_by.nd rfl (Or.inl rfl) (re_lst (ra_cons (re_sub (re_mod (rv 0) re_int) re_int) (ra_cons (re_mod (rv 0) re_int) (ra_cons re_int (ra_cons (re_sub re_int (re_mod (rv 0) re_int)) ra_nil))))))
    (rss_cons (rs_set (i := 2) sc_l_number_by.nd rfl (Or.inl rfl) (re_lst (ra_cons (re_sub (re_sub (re_pow re_int re_int) re_int) (re_mod (rv 0) re_int)) (ra_cons (re_mod (re_mul (rv 0) (re_pow re_int re_int)) (re_pow re_int re_int)) (ra_cons (re_sub re_int (re_pow re_int re_int)) ra_nil)))))
    (rss_one (rs_ret (re_ix hu (re_add (rv 1) (rv 2)) (re_mod (re_fdiv (rv 0) re_int) re_int))))))
theorem r_l_signs (Y : Sys K mg) {k : Nat} (G : All P w Y base k) (cdv : Value) (A : Around) (outer : List Env) (s : Shared) (H : Hp) (E : XK) (f : Addr) (hr : Room k (A.deeper (envOfC (qlOf .l_signs) (defScope (stOf .l_signs)) s.heap.objs.size f cdv))) :
    RSs (cxOf CX0 P w K mg base ["_law_some"] (qlOf .l_signs) (defScope (stOf .l_signs)) f cdv A outer s H E).nox Y.tab (fun _ _ => False) (defBody (stOf .l_signs)) (b_l_signs (F k)) := by
  have hu := hr.units
  exact (rss_cons (rs_set (i := 0) sc_l_signs.nd rfl (Or.inl rfl) (re_str q_d08fa1 (by kernel_rfl)))
    (rss_one (rs_ret (re_add (rv 0) (re_str q_dae21e (by kernel_rfl))))))
theorem r_signs_but (Y : Sys K mg) {k : Nat} (G : All P w Y base k) (cdv : Value) (A : Around) (outer : List Env) (s : Shared) (H : Hp) (E : XK) (f : Addr) (hr : Room k (A.deeper (envOfC (qlOf .signs_but) (defScope (stOf .signs_but)) s.heap.objs.size f cdv))) :
    RSs (cxOf CX0 P w K mg base ["left_out"] (qlOf .signs_but) (defScope (stOf .signs_but)) f cdv A outer s H E).nox Y.tab (fun _ _ => False) (defBody (stOf .signs_but)) (b_signs_but (F k)) := by
  have hu := hr.units
  exact (rss_one (rs_ret (re_bm ty_str PySem.F.plainAttrs_str PySem.F.slot_str_join PySem.F.type_str_join mt_join prim_join (re_str [] (by kernel_rfl)) (ra_cons (re_comp (M := ["sign", "left_out"]) [0] rfl (CompOk.of (by kernel_rfl)) (ri_seq (re_call0 (G .signs) (lenF .signs) hr rfl Y.m_signs (Y.ok .signs).kp (Y.bi .signs))) (fun _ _ _ _ _ => (rf_one (rt_cmp (op_notInA hu) prim_notIn (rv 0) (rv 1) (by with_unfolding_all rfl)))) (fun _ _ _ _ _ => (rv 0))) ra_nil))))
theorem r_signs (Y : Sys K mg) {k : Nat} (G : All P w Y base k) (cdv : Value) (A : Around) (outer : List Env) (s : Shared) (H : Hp) (E : XK) (f : Addr) (hr : Room k (A.deeper (envOfC (qlOf .signs) (defScope (stOf .signs)) s.heap.objs.size f cdv))) :
    RSs (cxOf CX0 P w K mg base [] (qlOf .signs) (defScope (stOf .signs)) f cdv A outer s H E).nox Y.tab (fun _ _ => False) (defBody (stOf .signs)) (b_signs (F k)) := by
  have hu := hr.units
  exact (rss_one (rs_ret (re_globS rfl Y.g_SIGNS Y.r_SIGNS)))
theorem r_is_text (Y : Sys K mg) {k : Nat} (G : All P w Y base k) (cdv : Value) (A : Around) (outer : List Env) (s : Shared) (H : Hp) (E : XK) (f : Addr) (hr : Room k (A.deeper (envOfC (qlOf .is_text) (defScope (stOf .is_text)) s.heap.objs.size f cdv))) :
    RSs (cxOf CX0 P w K mg base ["thing", "most"] (qlOf .is_text) (defScope (stOf .is_text)) f cdv A outer s H E).nox Y.tab (fun _ _ => False) (defBody (stOf .is_text)) (b_is_text (F k)) := by
  have hu := hr.units
  exact (rss_one (rs_ret (re_and (re_isinst rfl Y.n_isinstance (ra_cons (rv 0) (ra_cons (re_tyN rfl Y.n_str (by decide +kernel)) ra_nil))) (re_and (re_cmp op_le prim_cmp (re_len rfl Y.n_len (ra_cons (rv 0) ra_nil)) (rv 1) (nomark _)) (re_one (re_call (G .is_made_of) (lenF .is_made_of) hr rfl Y.m_is_made_of (Y.ok .is_made_of).kp (Y.bi .is_made_of) (ra_cons (rv 0) (ra_cons (re_globS rfl Y.g_SIGNS Y.r_SIGNS) ra_nil))))))))
theorem r_is_made_of (Y : Sys K mg) {k : Nat} (G : All P w Y base k) (cdv : Value) (A : Around) (outer : List Env) (s : Shared) (H : Hp) (E : XK) (f : Addr) (hr : Room k (A.deeper (envOfC (qlOf .is_made_of) (defScope (stOf .is_made_of)) s.heap.objs.size f cdv))) :
    RSs (cxOf CX0 P w K mg base ["text", "allowed", "sign"] (qlOf .is_made_of) (defScope (stOf .is_made_of)) f cdv A outer s H E).nox Y.tab (fun _ _ => False) (defBody (stOf .is_made_of)) (b_is_made_of (F k)) := by
  have hu := hr.units
  exact (rss_cons (rs_for PassesOwn.never rfl (ri_seq (rv 0)) (rg_name (i := 2) sc_is_made_of.nd rfl (Or.inl rfl)) (rss_one (rs_if (rt_cmp (op_notInA hu) prim_notIn (rv 2) (rv 1) (by with_unfolding_all rfl)) (rss_one (rs_ret re_bl)) rss_nil)))
    (rss_one (rs_ret re_bl)))
theorem r_is_short_number (Y : Sys K mg) {k : Nat} (G : All P w Y base k) (cdv : Value) (A : Around) (outer : List Env) (s : Shared) (H : Hp) (E : XK) (f : Addr) (hr : Room k (A.deeper (envOfC (qlOf .is_short_number) (defScope (stOf .is_short_number)) s.heap.objs.size f cdv))) :
    RSs (cxOf CX0 P w K mg base ["number"] (qlOf .is_short_number) (defScope (stOf .is_short_number)) f cdv A outer s H E).nox Y.tab (fun _ _ => False) (defBody (stOf .is_short_number)) (b_is_short_number (F k)) := by
  have hu := hr.units
  exact (rss_one (rs_ret (re_cmp op_lt prim_cmp (re_abs rfl Y.n_abs (ra_cons (rv 0) ra_nil)) (re_pow re_int re_int) (nomark _))))
theorem r_Word_spelling (Y : Sys K mg) {k : Nat} (G : All P w Y base k) (cdv : Value) (A : Around) (outer : List Env) (s : Shared) (H : Hp) (E : XK) (f : Addr) (hr : Room k (A.deeper (envOfC (qlOf .Word_spelling) (defScope (stOf .Word_spelling)) s.heap.objs.size f cdv))) :
    RSs (cxOf CX0 P w K mg base ["self", "value"] (qlOf .Word_spelling) (defScope (stOf .Word_spelling)) f cdv A outer s H E).nox Y.tab (fun _ _ => False) (defBody (stOf .Word_spelling)) (b_Word_spelling (F k)) := by
  have hu := hr.units
  exact (rss_one (rs_ret (rv 1)))
theorem r_Number_spelling (Y : Sys K mg) {k : Nat} (G : All P w Y base k) (cdv : Value) (A : Around) (outer : List Env) (s : Shared) (H : Hp) (E : XK) (f : Addr) (hr : Room k (A.deeper (envOfC (qlOf .Number_spelling) (defScope (stOf .Number_spelling)) s.heap.objs.size f cdv))) :
    RSs (cxOf CX0 P w K mg base ["self", "value"] (qlOf .Number_spelling) (defScope (stOf .Number_spelling)) f cdv A outer s H E).nox Y.tab (fun _ _ => False) (defBody (stOf .Number_spelling)) (b_Number_spelling (F k)) := by
  have hu := hr.units
  exact (rss_one (rs_ret (re_strI rfl Y.n_str (ra_cons (rv 1) ra_nil))))
theorem r_Quoted_spelling (Y : Sys K mg) {k : Nat} (G : All P w Y base k) (cdv : Value) (A : Around) (outer : List Env) (s : Shared) (H : Hp) (E : XK) (f : Addr) (hr : Room k (A.deeper (envOfC (qlOf .Quoted_spelling) (defScope (stOf .Quoted_spelling)) s.heap.objs.size f cdv))) :
    RSs (cxOf CX0 P w K mg base ["self", "value"] (qlOf .Quoted_spelling) (defScope (stOf .Quoted_spelling)) f cdv A outer s H E).nox Y.tab (fun _ _ => False) (defBody (stOf .Quoted_spelling)) (b_Quoted_spelling (F k)) := by
  have hu := hr.units
  exact (rss_one (rs_ret (re_add (re_add (re_str [34] (by kernel_rfl)) (re_call (G .escaped) (lenF .escaped) hr rfl Y.m_escaped (Y.ok .escaped).kp (Y.bi .escaped) (ra_cons (rv 1) (ra_cons (re_str [94] (by kernel_rfl)) (ra_cons (re_globS rfl Y.g_QUOTED_SIGNS Y.r_QUOTED_SIGNS) (ra_cons (re_globS rfl Y.g_QUOTED_LETTERS Y.r_QUOTED_LETTERS) ra_nil)))))) (re_str [34] (by kernel_rfl)))))
theorem r_Plain_spelling (Y : Sys K mg) {k : Nat} (G : All P w Y base k) (cdv : Value) (A : Around) (outer : List Env) (s : Shared) (H : Hp) (E : XK) (f : Addr) (hr : Room k (A.deeper (envOfC (qlOf .Plain_spelling) (defScope (stOf .Plain_spelling)) s.heap.objs.size f cdv))) :
    RSs (cxOf CX0 P w K mg base ["self", "value"] (qlOf .Plain_spelling) (defScope (stOf .Plain_spelling)) f cdv A outer s H E).nox Y.tab (fun _ _ => False) (defBody (stOf .Plain_spelling)) (b_Plain_spelling (F k)) := by
  have hu := hr.units
  exact (rss_one (rs_ret (re_call (G .escaped) (lenF .escaped) hr rfl Y.m_escaped (Y.ok .escaped).kp (Y.bi .escaped) (ra_cons (rv 1) (ra_cons (re_str [126] (by kernel_rfl)) (ra_cons (re_globS rfl Y.g_PLAIN_SIGNS Y.r_PLAIN_SIGNS) (ra_cons (re_globS rfl Y.g_PLAIN_LETTERS Y.r_PLAIN_LETTERS) ra_nil)))))))
theorem r_Line_spelling (Y : Sys K mg) {k : Nat} (G : All P w Y base k) (cdv : Value) (A : Around) (outer : List Env) (s : Shared) (H : Hp) (E : XK) (f : Addr) (hr : Room k (A.deeper (envOfC (qlOf .Line_spelling) (defScope (stOf .Line_spelling)) s.heap.objs.size f cdv))) :
    RSs (cxOf CX0 P w K mg base ["self", "value"] (qlOf .Line_spelling) (defScope (stOf .Line_spelling)) f cdv A outer s H E).nox Y.tab (fun _ _ => False) (defBody (stOf .Line_spelling)) (b_Line_spelling (F k)) := by
  have hu := hr.units
  exact (rss_one (rs_ret (re_call (G .escaped) (lenF .escaped) hr rfl Y.m_escaped (Y.ok .escaped).kp (Y.bi .escaped) (ra_cons (rv 1) (ra_cons (re_str [126] (by kernel_rfl)) (ra_cons (re_globS rfl Y.g_LINE_SIGNS Y.r_LINE_SIGNS) (ra_cons (re_globS rfl Y.g_LINE_LETTERS Y.r_LINE_LETTERS) ra_nil)))))))
theorem r_escaped (Y : Sys K mg) {k : Nat} (G : All P w Y base k) (cdv : Value) (A : Around) (outer : List Env) (s : Shared) (H : Hp) (E : XK) (f : Addr) (hr : Room k (A.deeper (envOfC (qlOf .escaped) (defScope (stOf .escaped)) s.heap.objs.size f cdv))) :
    RSs (cxOf CX0 P w K mg base ["text", "mark", "raw", "letters", "parts", "sign", "place"] (qlOf .escaped) (defScope (stOf .escaped)) f cdv A outer s H E).nox Y.tab (fun _ _ => False) (defBody (stOf .escaped)) (b_escaped (F k)) := by
  have hu := hr.units
  exact (rss_cons (rs_set (i := 4) sc_escaped.nd rfl (Or.inl rfl) (re_lstM ra_nil))
    (rss_cons (rs_for PassesOwn.never rfl (ri_seq (rv 0)) (rg_name (i := 5) sc_escaped.nd rfl (Or.inl rfl)) (rss_cons (rs_set (i := 6) sc_escaped.nd rfl (Or.inl rfl) (re_bm ty_str PySem.F.plainAttrs_str PySem.F.slot_str_find PySem.F.type_str_find mt_find prim_find (rv 2) (ra_cons (rv 5) ra_nil)))
    (rss_one (rs_expr (re_bm ty_lst PySem.F.plainAttrs_list PySem.F.slot_list_append PySem.F.type_list_append mt_append prim_append (rv 4) (ra_cons (re_ifExp (rt_cmp op_lt prim_cmp (rv 6) re_int (nomark _)) (rv 5) (re_add (rv 1) (re_ix hu (rv 3) (rv 6)))) ra_nil))))))
    (rss_one (rs_ret (re_bm ty_str PySem.F.plainAttrs_str PySem.F.slot_str_join PySem.F.type_str_join mt_join prim_join (re_str [] (by kernel_rfl)) (ra_cons (rv 4) ra_nil))))))
theorem all_nil (Y : Sys K mg) : All P w Y base 0 := fun f => ⟨fun vs H Q E h => by obtain ⟨_, _, _, _, _, _, e, _⟩ := h; simp [F] at e, fun A outer s H args us vs Q E _ _ _ _ h => by obtain ⟨_, _, _, _, _, _, e, _⟩ := h; simp [F] at e⟩
theorem all_step (Y : Sys K mg) {k : Nat} (G : All P w Y base k) (G' : All P w Y base (k - 1)) : All P w Y base (k + 1) := fun f => by
    cases f with
    | law => exact fn_pure (Y.ok .law) sc_law fun cdv A outer s H E hr => r_law P w Y G cdv A outer s H E _ hr
    | way_of => exact fn_pure (Y.ok .way_of) sc_way_of fun cdv A outer s H E hr => r_way_of P w Y G cdv A outer s H E _ hr
    | l_refusals_made => exact fn_pure (Y.ok .l_refusals_made) sc_l_refusals_made fun cdv A outer s H E hr => r_l_refusals_made P w Y G cdv A outer s H E _ hr
    | l_value_by => exact fn_pure (Y.ok .l_value_by) sc_l_value_by fun cdv A outer s H E hr => r_l_value_by P w Y G cdv A outer s H E _ hr
    | l_made =>
      have go := fn_pure (k := k) (Y.ok .l_made) sc_l_made fun cdv A outer s H E hr => r_l_made (base := base) P w Y G (allX P w Y k G') (allH P w Y k) cdv A outer s H E _ hr
      cases k <;> exact go
    | l_odd => exact fn_pure (Y.ok .l_odd) sc_l_odd fun cdv A outer s H E hr => r_l_odd P w Y G cdv A outer s H E _ hr
    | l_cell_at => exact fn_pure (Y.ok .l_cell_at) sc_l_cell_at fun cdv A outer s H E hr => r_l_cell_at P w Y G cdv A outer s H E _ hr
    | l_way =>
      have go := fn_pure (k := k) (Y.ok .l_way) sc_l_way fun cdv A outer s H E hr => r_l_way (base := base) P w Y G (allX P w Y k G') (allH P w Y k) cdv A outer s H E _ hr
      cases k <;> exact go
    | l_mixed => exact fn_pure (Y.ok .l_mixed) sc_l_mixed fun cdv A outer s H E hr => r_l_mixed P w Y G cdv A outer s H E _ hr
    | Word_begins => exact fn_pure (Y.ok .Word_begins) sc_Word_begins fun cdv A outer s H E hr => r_Word_begins P w Y G cdv A outer s H E _ hr
    | Number_begins => exact fn_pure (Y.ok .Number_begins) sc_Number_begins fun cdv A outer s H E hr => r_Number_begins P w Y G cdv A outer s H E _ hr
    | Quoted_begins => exact fn_pure (Y.ok .Quoted_begins) sc_Quoted_begins fun cdv A outer s H E hr => r_Quoted_begins P w Y G cdv A outer s H E _ hr
    | Plain_begins => exact fn_pure (Y.ok .Plain_begins) sc_Plain_begins fun cdv A outer s H E hr => r_Plain_begins P w Y G cdv A outer s H E _ hr
    | Line_begins => exact fn_pure (Y.ok .Line_begins) sc_Line_begins fun cdv A outer s H E hr => r_Line_begins P w Y G cdv A outer s H E _ hr
    | Word_ends => exact fn_pure (Y.ok .Word_ends) sc_Word_ends fun cdv A outer s H E hr => r_Word_ends P w Y G cdv A outer s H E _ hr
    | Number_ends => exact fn_pure (Y.ok .Number_ends) sc_Number_ends fun cdv A outer s H E hr => r_Number_ends P w Y G cdv A outer s H E _ hr
    | Quoted_ends => exact fn_pure (Y.ok .Quoted_ends) sc_Quoted_ends fun cdv A outer s H E hr => r_Quoted_ends P w Y G cdv A outer s H E _ hr
    | Plain_ends => exact fn_pure (Y.ok .Plain_ends) sc_Plain_ends fun cdv A outer s H E hr => r_Plain_ends P w Y G cdv A outer s H E _ hr
    | Line_ends => exact fn_pure (Y.ok .Line_ends) sc_Line_ends fun cdv A outer s H E hr => r_Line_ends P w Y G cdv A outer s H E _ hr
    | Way_is_void => exact fn_pure (Y.ok .Way_is_void) sc_Way_is_void fun cdv A outer s H E hr => r_Way_is_void P w Y G cdv A outer s H E _ hr
    | Plain_is_void => exact fn_pure (Y.ok .Plain_is_void) sc_Plain_is_void fun cdv A outer s H E hr => r_Plain_is_void P w Y G cdv A outer s H E _ hr
    | Line_is_void => exact fn_pure (Y.ok .Line_is_void) sc_Line_is_void fun cdv A outer s H E hr => r_Line_is_void P w Y G cdv A outer s H E _ hr
    | l_sorts => exact fn_pure (Y.ok .l_sorts) sc_l_sorts fun cdv A outer s H E hr => r_l_sorts P w Y G cdv A outer s H E _ hr
    | l_coded => exact fn_pure (Y.ok .l_coded) sc_l_coded fun cdv A outer s H E hr => r_l_coded P w Y G cdv A outer s H E _ hr
    | Word_fits => exact fn_pure (Y.ok .Word_fits) sc_Word_fits fun cdv A outer s H E hr => r_Word_fits P w Y G cdv A outer s H E _ hr
    | Number_fits => exact fn_pure (Y.ok .Number_fits) sc_Number_fits fun cdv A outer s H E hr => r_Number_fits P w Y G cdv A outer s H E _ hr
    | Quoted_fits => exact fn_pure (Y.ok .Quoted_fits) sc_Quoted_fits fun cdv A outer s H E hr => r_Quoted_fits P w Y G cdv A outer s H E _ hr
    | Plain_fits => exact fn_pure (Y.ok .Plain_fits) sc_Plain_fits fun cdv A outer s H E hr => r_Plain_fits P w Y G cdv A outer s H E _ hr
    | Line_fits => exact fn_pure (Y.ok .Line_fits) sc_Line_fits fun cdv A outer s H E hr => r_Line_fits P w Y G cdv A outer s H E _ hr
    | BadText___init__ => exact ⟨fun vs H Q E h => by obtain ⟨_, _, _, _, _, _, e, _⟩ := h; simp [F] at e, fun A outer s H args us vs Q E _ _ _ _ h => by obtain ⟨_, _, _, _, _, _, e, _⟩ := h; simp [F] at e⟩
    | BadName___init__ => exact ⟨fun vs H Q E h => by obtain ⟨_, _, _, _, _, _, e, _⟩ := h; simp [F] at e, fun A outer s H args us vs Q E _ _ _ _ h => by obtain ⟨_, _, _, _, _, _, e, _⟩ := h; simp [F] at e⟩
    | Unclear___init__ => exact ⟨fun vs H Q E h => by obtain ⟨_, _, _, _, _, _, e, _⟩ := h; simp [F] at e, fun A outer s H args us vs Q E _ _ _ _ h => by obtain ⟨_, _, _, _, _, _, e, _⟩ := h; simp [F] at e⟩
    | NoFill___init__ => exact ⟨fun vs H Q E h => by obtain ⟨_, _, _, _, _, _, e, _⟩ := h; simp [F] at e, fun A outer s H args us vs Q E _ _ _ _ h => by obtain ⟨_, _, _, _, _, _, e, _⟩ := h; simp [F] at e⟩
    | l_text_by => exact fn_pure (Y.ok .l_text_by) sc_l_text_by fun cdv A outer s H E hr => r_l_text_by P w Y G cdv A outer s H E _ hr
    | l_word_by => exact fn_pure (Y.ok .l_word_by) sc_l_word_by fun cdv A outer s H E hr => r_l_word_by P w Y G cdv A outer s H E _ hr
    | l_number_by => exact fn_pure (Y.ok .l_number_by) sc_l_number_by fun cdv A outer s H E hr => r_l_number_by P w Y G cdv A outer s H E _ hr
    | Way_coded => exact ⟨fun vs H Q E h => by obtain ⟨_, _, _, _, _, _, e, _⟩ := h; simp [F] at e, fun A outer s H args us vs Q E _ _ _ _ h => by obtain ⟨_, _, _, _, _, _, e, _⟩ := h; simp [F] at e⟩
    | l_class => exact ⟨fun vs H Q E h => by obtain ⟨_, _, _, _, _, _, e, _⟩ := h; simp [F] at e, fun A outer s H args us vs Q E _ _ _ _ h => by obtain ⟨_, _, _, _, _, _, e, _⟩ := h; simp [F] at e⟩
    | l_signs => exact fn_pure (Y.ok .l_signs) sc_l_signs fun cdv A outer s H E hr => r_l_signs P w Y G cdv A outer s H E _ hr
    | signs_but => exact fn_pure (Y.ok .signs_but) sc_signs_but fun cdv A outer s H E hr => r_signs_but P w Y G cdv A outer s H E _ hr
    | signs => exact fn_pure (Y.ok .signs) sc_signs fun cdv A outer s H E hr => r_signs P w Y G cdv A outer s H E _ hr
    | is_text => exact fn_pure (Y.ok .is_text) sc_is_text fun cdv A outer s H E hr => r_is_text P w Y G cdv A outer s H E _ hr
    | is_made_of => exact fn_pure (Y.ok .is_made_of) sc_is_made_of fun cdv A outer s H E hr => r_is_made_of P w Y G cdv A outer s H E _ hr
    | is_short_number => exact fn_pure (Y.ok .is_short_number) sc_is_short_number fun cdv A outer s H E hr => r_is_short_number P w Y G cdv A outer s H E _ hr
    | Word_spelling => exact fn_pure (Y.ok .Word_spelling) sc_Word_spelling fun cdv A outer s H E hr => r_Word_spelling P w Y G cdv A outer s H E _ hr
    | Number_spelling => exact fn_pure (Y.ok .Number_spelling) sc_Number_spelling fun cdv A outer s H E hr => r_Number_spelling P w Y G cdv A outer s H E _ hr
    | Quoted_spelling => exact fn_pure (Y.ok .Quoted_spelling) sc_Quoted_spelling fun cdv A outer s H E hr => r_Quoted_spelling P w Y G cdv A outer s H E _ hr
    | Plain_spelling => exact fn_pure (Y.ok .Plain_spelling) sc_Plain_spelling fun cdv A outer s H E hr => r_Plain_spelling P w Y G cdv A outer s H E _ hr
    | Line_spelling => exact fn_pure (Y.ok .Line_spelling) sc_Line_spelling fun cdv A outer s H E hr => r_Line_spelling P w Y G cdv A outer s H E _ hr
    | escaped => exact fn_pure (Y.ok .escaped) sc_escaped fun cdv A outer s H E hr => r_escaped P w Y G cdv A outer s H E _ hr
theorem all_two (Y : Sys K mg) : ∀ k, All P w Y base k ∧ All P w Y base (k - 1)
  | 0 => ⟨all_nil P w Y, all_nil P w Y⟩
  | k + 1 => ⟨all_step P w Y (all_two Y k).1 (all_two Y k).2, (all_two Y k).1⟩
theorem all_ok (Y : Sys K mg) (k : Nat) : All P w Y base k := (all_two P w Y k).1
end
theorem all_mk {l : W.OpenLaw} {w : World} {K : W.Frag} {h : Heap} {mg : Str → Option Value} {fa : Addr} (hlaw : ∀ ns : List Int, ns.length ≤ 63 → F 30 .law [.giv (ns.map PV.int)] = .ok (.bl true)) (X : K.In h) (G : h.Ns mainGlobals mg) (hfa : mg "law" = some (.ref fa))
    {C_Word : Addr}
    {C_Number : Addr}
    {C_Quoted : Addr}
    {C_Plain : Addr}
    {C_Line : Addr}
    {C_FormError : Addr}
    {C_BadWay : Addr}
    {C_BadValue : Addr}
    {C_BadValues : Addr}
    {C_TooMany : Addr}
    {C_Clash : Addr}
    {C_BadText : Addr}
    {C_BadName : Addr}
    {C_Unclear : Addr}
    {C_NoFill : Addr}
    {C_Way : Addr}
    {f_0 : Addr} {od_0 an_0 : Option Addr} {sl_0 : Array (Option Value)} {oc_0 kV_0 dc_0 pm_0 cd_0 ct_0 : Value}
    {f_1 : Addr} {od_1 an_1 : Option Addr} {sl_1 : Array (Option Value)} {oc_1 kV_1 dc_1 pm_1 cd_1 ct_1 : Value}
    {f_2 : Addr} {od_2 an_2 : Option Addr} {sl_2 : Array (Option Value)} {oc_2 kV_2 dc_2 pm_2 cd_2 ct_2 : Value}
    {f_3 : Addr} {od_3 an_3 : Option Addr} {sl_3 : Array (Option Value)} {oc_3 kV_3 dc_3 pm_3 cd_3 ct_3 : Value}
    {f_4 : Addr} {od_4 an_4 : Option Addr} {sl_4 : Array (Option Value)} {oc_4 kV_4 dc_4 pm_4 cd_4 ct_4 : Value}
    {f_5 : Addr} {od_5 an_5 : Option Addr} {sl_5 : Array (Option Value)} {oc_5 kV_5 dc_5 pm_5 cd_5 ct_5 : Value}
    {f_6 : Addr} {od_6 an_6 : Option Addr} {sl_6 : Array (Option Value)} {oc_6 kV_6 dc_6 pm_6 cd_6 ct_6 : Value}
    {f_7 : Addr} {od_7 an_7 : Option Addr} {sl_7 : Array (Option Value)} {oc_7 kV_7 dc_7 pm_7 cd_7 ct_7 : Value}
    {f_8 : Addr} {od_8 an_8 : Option Addr} {sl_8 : Array (Option Value)} {oc_8 kV_8 dc_8 pm_8 cd_8 ct_8 : Value}
    {f_9 : Addr} {od_9 an_9 : Option Addr} {sl_9 : Array (Option Value)} {oc_9 kV_9 dc_9 pm_9 cd_9 ct_9 : Value}
    {f_10 : Addr} {od_10 an_10 : Option Addr} {sl_10 : Array (Option Value)} {oc_10 kV_10 dc_10 pm_10 cd_10 ct_10 : Value}
    {f_11 : Addr} {od_11 an_11 : Option Addr} {sl_11 : Array (Option Value)} {oc_11 kV_11 dc_11 pm_11 cd_11 ct_11 : Value}
    {f_12 : Addr} {od_12 an_12 : Option Addr} {sl_12 : Array (Option Value)} {oc_12 kV_12 dc_12 pm_12 cd_12 ct_12 : Value}
    {f_13 : Addr} {od_13 an_13 : Option Addr} {sl_13 : Array (Option Value)} {oc_13 kV_13 dc_13 pm_13 cd_13 ct_13 : Value}
    {f_14 : Addr} {od_14 an_14 : Option Addr} {sl_14 : Array (Option Value)} {oc_14 kV_14 dc_14 pm_14 cd_14 ct_14 : Value}
    {f_15 : Addr} {od_15 an_15 : Option Addr} {sl_15 : Array (Option Value)} {oc_15 kV_15 dc_15 pm_15 cd_15 ct_15 : Value}
    {f_16 : Addr} {od_16 an_16 : Option Addr} {sl_16 : Array (Option Value)} {oc_16 kV_16 dc_16 pm_16 cd_16 ct_16 : Value}
    {f_17 : Addr} {od_17 an_17 : Option Addr} {sl_17 : Array (Option Value)} {oc_17 kV_17 dc_17 pm_17 cd_17 ct_17 : Value}
    {f_18 : Addr} {od_18 an_18 : Option Addr} {sl_18 : Array (Option Value)} {oc_18 kV_18 dc_18 pm_18 cd_18 ct_18 : Value}
    {f_19 : Addr} {od_19 an_19 : Option Addr} {sl_19 : Array (Option Value)} {oc_19 kV_19 dc_19 pm_19 cd_19 ct_19 : Value}
    {f_20 : Addr} {od_20 an_20 : Option Addr} {sl_20 : Array (Option Value)} {oc_20 kV_20 dc_20 pm_20 cd_20 ct_20 : Value}
    {f_21 : Addr} {od_21 an_21 : Option Addr} {sl_21 : Array (Option Value)} {oc_21 kV_21 dc_21 pm_21 cd_21 ct_21 : Value}
    {f_22 : Addr} {od_22 an_22 : Option Addr} {sl_22 : Array (Option Value)} {oc_22 kV_22 dc_22 pm_22 cd_22 ct_22 : Value}
    {f_23 : Addr} {od_23 an_23 : Option Addr} {sl_23 : Array (Option Value)} {oc_23 kV_23 dc_23 pm_23 cd_23 ct_23 : Value}
    {f_24 : Addr} {od_24 an_24 : Option Addr} {sl_24 : Array (Option Value)} {oc_24 kV_24 dc_24 pm_24 cd_24 ct_24 : Value}
    {f_25 : Addr} {od_25 an_25 : Option Addr} {sl_25 : Array (Option Value)} {oc_25 kV_25 dc_25 pm_25 cd_25 ct_25 : Value}
    {f_26 : Addr} {od_26 an_26 : Option Addr} {sl_26 : Array (Option Value)} {oc_26 kV_26 dc_26 pm_26 cd_26 ct_26 : Value}
    {f_27 : Addr} {od_27 an_27 : Option Addr} {sl_27 : Array (Option Value)} {oc_27 kV_27 dc_27 pm_27 cd_27 ct_27 : Value}
    {f_28 : Addr} {od_28 an_28 : Option Addr} {sl_28 : Array (Option Value)} {oc_28 kV_28 dc_28 pm_28 cd_28 ct_28 : Value}
    {f_29 : Addr} {od_29 an_29 : Option Addr} {sl_29 : Array (Option Value)} {oc_29 kV_29 dc_29 pm_29 cd_29 ct_29 : Value}
    {f_30 : Addr} {od_30 an_30 : Option Addr} {sl_30 : Array (Option Value)} {oc_30 kV_30 dc_30 pm_30 cd_30 ct_30 : Value}
    {f_31 : Addr} {od_31 an_31 : Option Addr} {sl_31 : Array (Option Value)} {oc_31 kV_31 dc_31 pm_31 cd_31 ct_31 : Value}
    {f_32 : Addr} {od_32 an_32 : Option Addr} {sl_32 : Array (Option Value)} {oc_32 kV_32 dc_32 pm_32 cd_32 ct_32 : Value}
    {f_33 : Addr} {od_33 an_33 : Option Addr} {sl_33 : Array (Option Value)} {oc_33 kV_33 dc_33 pm_33 cd_33 ct_33 : Value}
    {f_34 : Addr} {od_34 an_34 : Option Addr} {sl_34 : Array (Option Value)} {oc_34 kV_34 dc_34 pm_34 cd_34 ct_34 : Value}
    {f_35 : Addr} {od_35 an_35 : Option Addr} {sl_35 : Array (Option Value)} {oc_35 kV_35 dc_35 pm_35 cd_35 ct_35 : Value}
    {f_36 : Addr} {od_36 an_36 : Option Addr} {sl_36 : Array (Option Value)} {oc_36 kV_36 dc_36 pm_36 cd_36 ct_36 : Value}
    {f_37 : Addr} {od_37 an_37 : Option Addr} {sl_37 : Array (Option Value)} {oc_37 kV_37 dc_37 pm_37 cd_37 ct_37 : Value}
    {f_38 : Addr} {od_38 an_38 : Option Addr} {sl_38 : Array (Option Value)} {oc_38 kV_38 dc_38 pm_38 cd_38 ct_38 : Value}
    {f_39 : Addr} {od_39 an_39 : Option Addr} {sl_39 : Array (Option Value)} {oc_39 kV_39 dc_39 pm_39 cd_39 ct_39 : Value}
    {f_40 : Addr} {od_40 an_40 : Option Addr} {sl_40 : Array (Option Value)} {oc_40 kV_40 dc_40 pm_40 cd_40 ct_40 : Value}
    {f_41 : Addr} {od_41 an_41 : Option Addr} {sl_41 : Array (Option Value)} {oc_41 kV_41 dc_41 pm_41 cd_41 ct_41 : Value}
    {f_42 : Addr} {od_42 an_42 : Option Addr} {sl_42 : Array (Option Value)} {oc_42 kV_42 dc_42 pm_42 cd_42 ct_42 : Value}
    {f_43 : Addr} {od_43 an_43 : Option Addr} {sl_43 : Array (Option Value)} {oc_43 kV_43 dc_43 pm_43 cd_43 ct_43 : Value}
    {f_44 : Addr} {od_44 an_44 : Option Addr} {sl_44 : Array (Option Value)} {oc_44 kV_44 dc_44 pm_44 cd_44 ct_44 : Value}
    {f_45 : Addr} {od_45 an_45 : Option Addr} {sl_45 : Array (Option Value)} {oc_45 kV_45 dc_45 pm_45 cd_45 ct_45 : Value}
    {f_46 : Addr} {od_46 an_46 : Option Addr} {sl_46 : Array (Option Value)} {oc_46 kV_46 dc_46 pm_46 cd_46 ct_46 : Value}
    {f_47 : Addr} {od_47 an_47 : Option Addr} {sl_47 : Array (Option Value)} {oc_47 kV_47 dc_47 pm_47 cd_47 ct_47 : Value}
    {f_48 : Addr} {od_48 an_48 : Option Addr} {sl_48 : Array (Option Value)} {oc_48 kV_48 dc_48 pm_48 cd_48 ct_48 : Value}
    {f_49 : Addr} {od_49 an_49 : Option Addr} {sl_49 : Array (Option Value)} {oc_49 kV_49 dc_49 pm_49 cd_49 ct_49 : Value}
    {t_FIGURES : Tok}
    {t_LINE_LETTERS : Tok}
    {t_LINE_SIGNS : Tok}
    {t_LINE_STOPS : Tok}
    {t_MOST_SIGNS : Tok}
    {t_MOST_WORD_SIGNS : Tok}
    {t_NUMBER_SIGNS : Tok}
    {t_PLAIN_LETTERS : Tok}
    {t_PLAIN_SIGNS : Tok}
    {t_PLAIN_STOPS : Tok}
    {t_QUOTED_LETTERS : Tok}
    {t_QUOTED_SIGNS : Tok}
    {t_SIGNS : Tok}
    {t_WORD_SIGNS : Tok}
    (aC_Word : W.nsIn K mainGlobals "Word" = some (some (.ref C_Word)))
    (pg_Word : W.plainGet K C_Word Str.empty = true)
    (hd_Word : W.hasDictIn K C_Word = true)
    (po_Word : W.plainOver K C_Word = true)
    (sa_Word : W.findIn K (.ref C_Word) "__setattr__" = some (some (.builtin "object.__setattr__")))
    (mk_Word : W.makesIn K C_Word = true)
    (in_Word : W.findIn K (.ref C_Word) "__init__" = some (some (.builtin "object.__init__")))
    (kp_Word : W.keepIn K (.ref C_Word) = true)
    (aC_Number : W.nsIn K mainGlobals "Number" = some (some (.ref C_Number)))
    (pg_Number : W.plainGet K C_Number Str.empty = true)
    (hd_Number : W.hasDictIn K C_Number = true)
    (po_Number : W.plainOver K C_Number = true)
    (sa_Number : W.findIn K (.ref C_Number) "__setattr__" = some (some (.builtin "object.__setattr__")))
    (mk_Number : W.makesIn K C_Number = true)
    (in_Number : W.findIn K (.ref C_Number) "__init__" = some (some (.builtin "object.__init__")))
    (kp_Number : W.keepIn K (.ref C_Number) = true)
    (aC_Quoted : W.nsIn K mainGlobals "Quoted" = some (some (.ref C_Quoted)))
    (pg_Quoted : W.plainGet K C_Quoted Str.empty = true)
    (hd_Quoted : W.hasDictIn K C_Quoted = true)
    (po_Quoted : W.plainOver K C_Quoted = true)
    (sa_Quoted : W.findIn K (.ref C_Quoted) "__setattr__" = some (some (.builtin "object.__setattr__")))
    (mk_Quoted : W.makesIn K C_Quoted = true)
    (in_Quoted : W.findIn K (.ref C_Quoted) "__init__" = some (some (.builtin "object.__init__")))
    (kp_Quoted : W.keepIn K (.ref C_Quoted) = true)
    (aC_Plain : W.nsIn K mainGlobals "Plain" = some (some (.ref C_Plain)))
    (pg_Plain : W.plainGet K C_Plain Str.empty = true)
    (hd_Plain : W.hasDictIn K C_Plain = true)
    (po_Plain : W.plainOver K C_Plain = true)
    (sa_Plain : W.findIn K (.ref C_Plain) "__setattr__" = some (some (.builtin "object.__setattr__")))
    (mk_Plain : W.makesIn K C_Plain = true)
    (in_Plain : W.findIn K (.ref C_Plain) "__init__" = some (some (.builtin "object.__init__")))
    (kp_Plain : W.keepIn K (.ref C_Plain) = true)
    (aC_Line : W.nsIn K mainGlobals "Line" = some (some (.ref C_Line)))
    (pg_Line : W.plainGet K C_Line Str.empty = true)
    (hd_Line : W.hasDictIn K C_Line = true)
    (po_Line : W.plainOver K C_Line = true)
    (sa_Line : W.findIn K (.ref C_Line) "__setattr__" = some (some (.builtin "object.__setattr__")))
    (mk_Line : W.makesIn K C_Line = true)
    (in_Line : W.findIn K (.ref C_Line) "__init__" = some (some (.builtin "object.__init__")))
    (kp_Line : W.keepIn K (.ref C_Line) = true)
    (aC_FormError : W.nsIn K mainGlobals "FormError" = some (some (.ref C_FormError)))
    (aC_BadWay : W.nsIn K mainGlobals "BadWay" = some (some (.ref C_BadWay)))
    (aC_BadValue : W.nsIn K mainGlobals "BadValue" = some (some (.ref C_BadValue)))
    (aC_BadValues : W.nsIn K mainGlobals "BadValues" = some (some (.ref C_BadValues)))
    (aC_TooMany : W.nsIn K mainGlobals "TooMany" = some (some (.ref C_TooMany)))
    (aC_Clash : W.nsIn K mainGlobals "Clash" = some (some (.ref C_Clash)))
    (aC_BadText : W.nsIn K mainGlobals "BadText" = some (some (.ref C_BadText)))
    (aC_BadName : W.nsIn K mainGlobals "BadName" = some (some (.ref C_BadName)))
    (aC_Unclear : W.nsIn K mainGlobals "Unclear" = some (some (.ref C_Unclear)))
    (aC_NoFill : W.nsIn K mainGlobals "NoFill" = some (some (.ref C_NoFill)))
    (aC_Way : W.nsIn K mainGlobals "Way" = some (some (.ref C_Way)))
    (cg1 : W.specialIn K (.builtin "object.__class__") "__get__" = some (some (.builtin "getset_descriptor.__get__")))
    (cg2 : W.takesIn K (.builtin "object.__class__") = some true)
    (kc1_Word : W.findIn K (.ref C_Word) "__class__" = some (some (.builtin "object.__class__")))
    (kc2_Word : W.mroIn K C_Word (.type "object") = some true)
    (kc3_Word : (W.clsIn K C_Word).isSome = true)
    (kc1_Number : W.findIn K (.ref C_Number) "__class__" = some (some (.builtin "object.__class__")))
    (kc2_Number : W.mroIn K C_Number (.type "object") = some true)
    (kc3_Number : (W.clsIn K C_Number).isSome = true)
    (kc1_Quoted : W.findIn K (.ref C_Quoted) "__class__" = some (some (.builtin "object.__class__")))
    (kc2_Quoted : W.mroIn K C_Quoted (.type "object") = some true)
    (kc3_Quoted : (W.clsIn K C_Quoted).isSome = true)
    (kc1_Plain : W.findIn K (.ref C_Plain) "__class__" = some (some (.builtin "object.__class__")))
    (kc2_Plain : W.mroIn K C_Plain (.type "object") = some true)
    (kc3_Plain : (W.clsIn K C_Plain).isSome = true)
    (kc1_Line : W.findIn K (.ref C_Line) "__class__" = some (some (.builtin "object.__class__")))
    (kc2_Line : W.mroIn K C_Line (.type "object") = some true)
    (kc3_Line : (W.clsIn K C_Line).isSome = true)
    (kc1_BadWay : W.findIn K (.ref C_BadWay) "__class__" = some (some (.builtin "object.__class__")))
    (kc2_BadWay : W.mroIn K C_BadWay (.type "object") = some true)
    (kc3_BadWay : (W.clsIn K C_BadWay).isSome = true)
    (kc1_BadValue : W.findIn K (.ref C_BadValue) "__class__" = some (some (.builtin "object.__class__")))
    (kc2_BadValue : W.mroIn K C_BadValue (.type "object") = some true)
    (kc3_BadValue : (W.clsIn K C_BadValue).isSome = true)
    (ki_BadWay_BadName : W.kitOne K (.ref C_BadWay) (.ref C_BadName) = some false)
    (ki_BadWay_BadText : W.kitOne K (.ref C_BadWay) (.ref C_BadText) = some false)
    (ki_BadWay_BadValue : W.kitOne K (.ref C_BadWay) (.ref C_BadValue) = some false)
    (ki_BadWay_BadValues : W.kitOne K (.ref C_BadWay) (.ref C_BadValues) = some false)
    (ki_BadWay_BadWay : W.kitOne K (.ref C_BadWay) (.ref C_BadWay) = some true)
    (ki_BadWay_Clash : W.kitOne K (.ref C_BadWay) (.ref C_Clash) = some false)
    (ki_BadWay_NoFill : W.kitOne K (.ref C_BadWay) (.ref C_NoFill) = some false)
    (ki_BadWay_TooMany : W.kitOne K (.ref C_BadWay) (.ref C_TooMany) = some false)
    (ki_BadWay_Unclear : W.kitOne K (.ref C_BadWay) (.ref C_Unclear) = some false)
    (ki_BadWay_ValueError : W.kitOne K (.ref C_BadWay) (.type "ValueError") = some true)
    (ki_BadValue_BadName : W.kitOne K (.ref C_BadValue) (.ref C_BadName) = some false)
    (ki_BadValue_BadText : W.kitOne K (.ref C_BadValue) (.ref C_BadText) = some false)
    (ki_BadValue_BadValue : W.kitOne K (.ref C_BadValue) (.ref C_BadValue) = some true)
    (ki_BadValue_BadValues : W.kitOne K (.ref C_BadValue) (.ref C_BadValues) = some false)
    (ki_BadValue_BadWay : W.kitOne K (.ref C_BadValue) (.ref C_BadWay) = some false)
    (ki_BadValue_Clash : W.kitOne K (.ref C_BadValue) (.ref C_Clash) = some false)
    (ki_BadValue_NoFill : W.kitOne K (.ref C_BadValue) (.ref C_NoFill) = some false)
    (ki_BadValue_TooMany : W.kitOne K (.ref C_BadValue) (.ref C_TooMany) = some false)
    (ki_BadValue_Unclear : W.kitOne K (.ref C_BadValue) (.ref C_Unclear) = some false)
    (ki_BadValue_ValueError : W.kitOne K (.ref C_BadValue) (.type "ValueError") = some true)
    (ki_Word_Line : W.kitOne K (.ref C_Word) (.ref C_Line) = some false)
    (ki_Word_Number : W.kitOne K (.ref C_Word) (.ref C_Number) = some false)
    (ki_Word_Plain : W.kitOne K (.ref C_Word) (.ref C_Plain) = some false)
    (ki_Word_Quoted : W.kitOne K (.ref C_Word) (.ref C_Quoted) = some false)
    (ki_Word_Way : W.kitOne K (.ref C_Word) (.ref C_Way) = some true)
    (ki_Word_Word : W.kitOne K (.ref C_Word) (.ref C_Word) = some true)
    (ki_Number_Line : W.kitOne K (.ref C_Number) (.ref C_Line) = some false)
    (ki_Number_Number : W.kitOne K (.ref C_Number) (.ref C_Number) = some true)
    (ki_Number_Plain : W.kitOne K (.ref C_Number) (.ref C_Plain) = some false)
    (ki_Number_Quoted : W.kitOne K (.ref C_Number) (.ref C_Quoted) = some false)
    (ki_Number_Way : W.kitOne K (.ref C_Number) (.ref C_Way) = some true)
    (ki_Number_Word : W.kitOne K (.ref C_Number) (.ref C_Word) = some false)
    (ki_Quoted_Line : W.kitOne K (.ref C_Quoted) (.ref C_Line) = some false)
    (ki_Quoted_Number : W.kitOne K (.ref C_Quoted) (.ref C_Number) = some false)
    (ki_Quoted_Plain : W.kitOne K (.ref C_Quoted) (.ref C_Plain) = some false)
    (ki_Quoted_Quoted : W.kitOne K (.ref C_Quoted) (.ref C_Quoted) = some true)
    (ki_Quoted_Way : W.kitOne K (.ref C_Quoted) (.ref C_Way) = some true)
    (ki_Quoted_Word : W.kitOne K (.ref C_Quoted) (.ref C_Word) = some false)
    (ki_Plain_Line : W.kitOne K (.ref C_Plain) (.ref C_Line) = some false)
    (ki_Plain_Number : W.kitOne K (.ref C_Plain) (.ref C_Number) = some false)
    (ki_Plain_Plain : W.kitOne K (.ref C_Plain) (.ref C_Plain) = some true)
    (ki_Plain_Quoted : W.kitOne K (.ref C_Plain) (.ref C_Quoted) = some false)
    (ki_Plain_Way : W.kitOne K (.ref C_Plain) (.ref C_Way) = some true)
    (ki_Plain_Word : W.kitOne K (.ref C_Plain) (.ref C_Word) = some false)
    (ki_Line_Line : W.kitOne K (.ref C_Line) (.ref C_Line) = some true)
    (ki_Line_Number : W.kitOne K (.ref C_Line) (.ref C_Number) = some false)
    (ki_Line_Plain : W.kitOne K (.ref C_Line) (.ref C_Plain) = some false)
    (ki_Line_Quoted : W.kitOne K (.ref C_Line) (.ref C_Quoted) = some false)
    (ki_Line_Way : W.kitOne K (.ref C_Line) (.ref C_Way) = some true)
    (ki_Line_Word : W.kitOne K (.ref C_Line) (.ref C_Word) = some false)
    (xc1_BadName : W.findIn K (.ref C_BadName) "__getattribute__" = some (some (.builtin "BaseException.__getattribute__")))
    (xc2_BadName : W.findIn K (.ref C_BadName) "__getattr__" = some none)
    (xc3_BadName : W.mroIn K C_BadName (.type "BaseException") = some true)
    (xc1_BadText : W.findIn K (.ref C_BadText) "__getattribute__" = some (some (.builtin "BaseException.__getattribute__")))
    (xc2_BadText : W.findIn K (.ref C_BadText) "__getattr__" = some none)
    (xc3_BadText : W.mroIn K C_BadText (.type "BaseException") = some true)
    (xc1_BadValue : W.findIn K (.ref C_BadValue) "__getattribute__" = some (some (.builtin "BaseException.__getattribute__")))
    (xc2_BadValue : W.findIn K (.ref C_BadValue) "__getattr__" = some none)
    (xc3_BadValue : W.mroIn K C_BadValue (.type "BaseException") = some true)
    (xc1_BadWay : W.findIn K (.ref C_BadWay) "__getattribute__" = some (some (.builtin "BaseException.__getattribute__")))
    (xc2_BadWay : W.findIn K (.ref C_BadWay) "__getattr__" = some none)
    (xc3_BadWay : W.mroIn K C_BadWay (.type "BaseException") = some true)
    (xc1_NoFill : W.findIn K (.ref C_NoFill) "__getattribute__" = some (some (.builtin "BaseException.__getattribute__")))
    (xc2_NoFill : W.findIn K (.ref C_NoFill) "__getattr__" = some none)
    (xc3_NoFill : W.mroIn K C_NoFill (.type "BaseException") = some true)
    (xc1_Unclear : W.findIn K (.ref C_Unclear) "__getattribute__" = some (some (.builtin "BaseException.__getattribute__")))
    (xc2_Unclear : W.findIn K (.ref C_Unclear) "__getattr__" = some none)
    (xc3_Unclear : W.mroIn K C_Unclear (.type "BaseException") = some true)
    (xr_BadWay : W.excIn K C_BadWay [.type "ValueError", .type "Exception", .type "BaseException", .type "object"] "ValueError.__new__" = true)
    (ex_BadWay_FormError : W.exmOne K (.ref C_BadWay) (.ref C_FormError) = some true)
    (xr_BadValue : W.excIn K C_BadValue [.type "ValueError", .type "Exception", .type "BaseException", .type "object"] "ValueError.__new__" = true)
    (ex_BadValue_FormError : W.exmOne K (.ref C_BadValue) (.ref C_FormError) = some true)
    (a_0 : W.nsIn K mainGlobals "law" = some (some (.ref f_0)))
    (l_0 : K.lookup f_0 = some ⟨oc_0, od_0, .func (W.fnOf "law" "law" (defArgs (stOf .law)) (defBody (stOf .law)) (defScope (stOf .law)) .none kV_0 dc_0 pm_0 an_0 cd_0 ct_0), sl_0⟩)
    (c_0 : W.codeIn K cd_0 "law" = true)
    (k_0 : W.keepIn K (.ref f_0) = true)
    (a_1 : W.nsIn K mainGlobals "way_of" = some (some (.ref f_1)))
    (l_1 : K.lookup f_1 = some ⟨oc_1, od_1, .func (W.fnOf "way_of" "way_of" (defArgs (stOf .way_of)) (defBody (stOf .way_of)) (defScope (stOf .way_of)) .none kV_1 dc_1 pm_1 an_1 cd_1 ct_1), sl_1⟩)
    (c_1 : W.codeIn K cd_1 "way_of" = true)
    (k_1 : W.keepIn K (.ref f_1) = true)
    (a_2 : W.nsIn K mainGlobals "_law_refusals_made" = some (some (.ref f_2)))
    (l_2 : K.lookup f_2 = some ⟨oc_2, od_2, .func (W.fnOf "_law_refusals_made" "_law_refusals_made" (defArgs (stOf .l_refusals_made)) (defBody (stOf .l_refusals_made)) (defScope (stOf .l_refusals_made)) .none kV_2 dc_2 pm_2 an_2 cd_2 ct_2), sl_2⟩)
    (c_2 : W.codeIn K cd_2 "_law_refusals_made" = true)
    (k_2 : W.keepIn K (.ref f_2) = true)
    (a_3 : W.nsIn K mainGlobals "_law_value_by" = some (some (.ref f_3)))
    (l_3 : K.lookup f_3 = some ⟨oc_3, od_3, .func (W.fnOf "_law_value_by" "_law_value_by" (defArgs (stOf .l_value_by)) (defBody (stOf .l_value_by)) (defScope (stOf .l_value_by)) .none kV_3 dc_3 pm_3 an_3 cd_3 ct_3), sl_3⟩)
    (c_3 : W.codeIn K cd_3 "_law_value_by" = true)
    (k_3 : W.keepIn K (.ref f_3) = true)
    (a_4 : W.nsIn K mainGlobals "_law_made" = some (some (.ref f_4)))
    (l_4 : K.lookup f_4 = some ⟨oc_4, od_4, .func (W.fnOf "_law_made" "_law_made" (defArgs (stOf .l_made)) (defBody (stOf .l_made)) (defScope (stOf .l_made)) .none kV_4 dc_4 pm_4 an_4 cd_4 ct_4), sl_4⟩)
    (c_4 : W.codeIn K cd_4 "_law_made" = true)
    (k_4 : W.keepIn K (.ref f_4) = true)
    (a_5 : W.nsIn K mainGlobals "_law_odd" = some (some (.ref f_5)))
    (l_5 : K.lookup f_5 = some ⟨oc_5, od_5, .func (W.fnOf "_law_odd" "_law_odd" (defArgs (stOf .l_odd)) (defBody (stOf .l_odd)) (defScope (stOf .l_odd)) .none kV_5 dc_5 pm_5 an_5 cd_5 ct_5), sl_5⟩)
    (c_5 : W.codeIn K cd_5 "_law_odd" = true)
    (k_5 : W.keepIn K (.ref f_5) = true)
    (a_6 : W.nsIn K mainGlobals "_law_cell_at" = some (some (.ref f_6)))
    (l_6 : K.lookup f_6 = some ⟨oc_6, od_6, .func (W.fnOf "_law_cell_at" "_law_cell_at" (defArgs (stOf .l_cell_at)) (defBody (stOf .l_cell_at)) (defScope (stOf .l_cell_at)) .none kV_6 dc_6 pm_6 an_6 cd_6 ct_6), sl_6⟩)
    (c_6 : W.codeIn K cd_6 "_law_cell_at" = true)
    (k_6 : W.keepIn K (.ref f_6) = true)
    (a_7 : W.nsIn K mainGlobals "_law_way" = some (some (.ref f_7)))
    (l_7 : K.lookup f_7 = some ⟨oc_7, od_7, .func (W.fnOf "_law_way" "_law_way" (defArgs (stOf .l_way)) (defBody (stOf .l_way)) (defScope (stOf .l_way)) .none kV_7 dc_7 pm_7 an_7 cd_7 ct_7), sl_7⟩)
    (c_7 : W.codeIn K cd_7 "_law_way" = true)
    (k_7 : W.keepIn K (.ref f_7) = true)
    (a_8 : W.nsIn K mainGlobals "_law_mixed" = some (some (.ref f_8)))
    (l_8 : K.lookup f_8 = some ⟨oc_8, od_8, .func (W.fnOf "_law_mixed" "_law_mixed" (defArgs (stOf .l_mixed)) (defBody (stOf .l_mixed)) (defScope (stOf .l_mixed)) .none kV_8 dc_8 pm_8 an_8 cd_8 ct_8), sl_8⟩)
    (c_8 : W.codeIn K cd_8 "_law_mixed" = true)
    (k_8 : W.keepIn K (.ref f_8) = true)
    (me_Word_begins : W.findIn K (.ref C_Word) "begins" = some (some (.ref f_9)))
    (if_9 : W.isFn K (.ref f_9) = true)
    (l_9 : K.lookup f_9 = some ⟨oc_9, od_9, .func (W.fnOf "begins" "Word.begins" (defArgs (stOf .Word_begins)) (defBody (stOf .Word_begins)) (defScope (stOf .Word_begins)) .none kV_9 dc_9 pm_9 an_9 cd_9 ct_9), sl_9⟩)
    (c_9 : W.codeIn K cd_9 "Word.begins" = true)
    (k_9 : W.keepIn K (.ref f_9) = true)
    (me_Number_begins : W.findIn K (.ref C_Number) "begins" = some (some (.ref f_10)))
    (if_10 : W.isFn K (.ref f_10) = true)
    (l_10 : K.lookup f_10 = some ⟨oc_10, od_10, .func (W.fnOf "begins" "Number.begins" (defArgs (stOf .Number_begins)) (defBody (stOf .Number_begins)) (defScope (stOf .Number_begins)) .none kV_10 dc_10 pm_10 an_10 cd_10 ct_10), sl_10⟩)
    (c_10 : W.codeIn K cd_10 "Number.begins" = true)
    (k_10 : W.keepIn K (.ref f_10) = true)
    (me_Quoted_begins : W.findIn K (.ref C_Quoted) "begins" = some (some (.ref f_11)))
    (if_11 : W.isFn K (.ref f_11) = true)
    (l_11 : K.lookup f_11 = some ⟨oc_11, od_11, .func (W.fnOf "begins" "Quoted.begins" (defArgs (stOf .Quoted_begins)) (defBody (stOf .Quoted_begins)) (defScope (stOf .Quoted_begins)) .none kV_11 dc_11 pm_11 an_11 cd_11 ct_11), sl_11⟩)
    (c_11 : W.codeIn K cd_11 "Quoted.begins" = true)
    (k_11 : W.keepIn K (.ref f_11) = true)
    (me_Plain_begins : W.findIn K (.ref C_Plain) "begins" = some (some (.ref f_12)))
    (if_12 : W.isFn K (.ref f_12) = true)
    (l_12 : K.lookup f_12 = some ⟨oc_12, od_12, .func (W.fnOf "begins" "Plain.begins" (defArgs (stOf .Plain_begins)) (defBody (stOf .Plain_begins)) (defScope (stOf .Plain_begins)) .none kV_12 dc_12 pm_12 an_12 cd_12 ct_12), sl_12⟩)
    (c_12 : W.codeIn K cd_12 "Plain.begins" = true)
    (k_12 : W.keepIn K (.ref f_12) = true)
    (me_Line_begins : W.findIn K (.ref C_Line) "begins" = some (some (.ref f_13)))
    (if_13 : W.isFn K (.ref f_13) = true)
    (l_13 : K.lookup f_13 = some ⟨oc_13, od_13, .func (W.fnOf "begins" "Line.begins" (defArgs (stOf .Line_begins)) (defBody (stOf .Line_begins)) (defScope (stOf .Line_begins)) .none kV_13 dc_13 pm_13 an_13 cd_13 ct_13), sl_13⟩)
    (c_13 : W.codeIn K cd_13 "Line.begins" = true)
    (k_13 : W.keepIn K (.ref f_13) = true)
    (me_Word_ends : W.findIn K (.ref C_Word) "ends" = some (some (.ref f_14)))
    (if_14 : W.isFn K (.ref f_14) = true)
    (l_14 : K.lookup f_14 = some ⟨oc_14, od_14, .func (W.fnOf "ends" "Word.ends" (defArgs (stOf .Word_ends)) (defBody (stOf .Word_ends)) (defScope (stOf .Word_ends)) .none kV_14 dc_14 pm_14 an_14 cd_14 ct_14), sl_14⟩)
    (c_14 : W.codeIn K cd_14 "Word.ends" = true)
    (k_14 : W.keepIn K (.ref f_14) = true)
    (me_Number_ends : W.findIn K (.ref C_Number) "ends" = some (some (.ref f_15)))
    (if_15 : W.isFn K (.ref f_15) = true)
    (l_15 : K.lookup f_15 = some ⟨oc_15, od_15, .func (W.fnOf "ends" "Number.ends" (defArgs (stOf .Number_ends)) (defBody (stOf .Number_ends)) (defScope (stOf .Number_ends)) .none kV_15 dc_15 pm_15 an_15 cd_15 ct_15), sl_15⟩)
    (c_15 : W.codeIn K cd_15 "Number.ends" = true)
    (k_15 : W.keepIn K (.ref f_15) = true)
    (me_Quoted_ends : W.findIn K (.ref C_Quoted) "ends" = some (some (.ref f_16)))
    (if_16 : W.isFn K (.ref f_16) = true)
    (l_16 : K.lookup f_16 = some ⟨oc_16, od_16, .func (W.fnOf "ends" "Quoted.ends" (defArgs (stOf .Quoted_ends)) (defBody (stOf .Quoted_ends)) (defScope (stOf .Quoted_ends)) .none kV_16 dc_16 pm_16 an_16 cd_16 ct_16), sl_16⟩)
    (c_16 : W.codeIn K cd_16 "Quoted.ends" = true)
    (k_16 : W.keepIn K (.ref f_16) = true)
    (me_Plain_ends : W.findIn K (.ref C_Plain) "ends" = some (some (.ref f_17)))
    (if_17 : W.isFn K (.ref f_17) = true)
    (l_17 : K.lookup f_17 = some ⟨oc_17, od_17, .func (W.fnOf "ends" "Plain.ends" (defArgs (stOf .Plain_ends)) (defBody (stOf .Plain_ends)) (defScope (stOf .Plain_ends)) .none kV_17 dc_17 pm_17 an_17 cd_17 ct_17), sl_17⟩)
    (c_17 : W.codeIn K cd_17 "Plain.ends" = true)
    (k_17 : W.keepIn K (.ref f_17) = true)
    (me_Line_ends : W.findIn K (.ref C_Line) "ends" = some (some (.ref f_18)))
    (if_18 : W.isFn K (.ref f_18) = true)
    (l_18 : K.lookup f_18 = some ⟨oc_18, od_18, .func (W.fnOf "ends" "Line.ends" (defArgs (stOf .Line_ends)) (defBody (stOf .Line_ends)) (defScope (stOf .Line_ends)) .none kV_18 dc_18 pm_18 an_18 cd_18 ct_18), sl_18⟩)
    (c_18 : W.codeIn K cd_18 "Line.ends" = true)
    (k_18 : W.keepIn K (.ref f_18) = true)
    (me_Word_is_void : W.findIn K (.ref C_Word) "is_void" = some (some (.ref f_19)))
    (me_Number_is_void : W.findIn K (.ref C_Number) "is_void" = some (some (.ref f_19)))
    (me_Quoted_is_void : W.findIn K (.ref C_Quoted) "is_void" = some (some (.ref f_19)))
    (if_19 : W.isFn K (.ref f_19) = true)
    (l_19 : K.lookup f_19 = some ⟨oc_19, od_19, .func (W.fnOf "is_void" "Way.is_void" (defArgs (stOf .Way_is_void)) (defBody (stOf .Way_is_void)) (defScope (stOf .Way_is_void)) .none kV_19 dc_19 pm_19 an_19 cd_19 ct_19), sl_19⟩)
    (c_19 : W.codeIn K cd_19 "Way.is_void" = true)
    (k_19 : W.keepIn K (.ref f_19) = true)
    (me_Plain_is_void : W.findIn K (.ref C_Plain) "is_void" = some (some (.ref f_20)))
    (if_20 : W.isFn K (.ref f_20) = true)
    (l_20 : K.lookup f_20 = some ⟨oc_20, od_20, .func (W.fnOf "is_void" "Plain.is_void" (defArgs (stOf .Plain_is_void)) (defBody (stOf .Plain_is_void)) (defScope (stOf .Plain_is_void)) .none kV_20 dc_20 pm_20 an_20 cd_20 ct_20), sl_20⟩)
    (c_20 : W.codeIn K cd_20 "Plain.is_void" = true)
    (k_20 : W.keepIn K (.ref f_20) = true)
    (me_Line_is_void : W.findIn K (.ref C_Line) "is_void" = some (some (.ref f_21)))
    (if_21 : W.isFn K (.ref f_21) = true)
    (l_21 : K.lookup f_21 = some ⟨oc_21, od_21, .func (W.fnOf "is_void" "Line.is_void" (defArgs (stOf .Line_is_void)) (defBody (stOf .Line_is_void)) (defScope (stOf .Line_is_void)) .none kV_21 dc_21 pm_21 an_21 cd_21 ct_21), sl_21⟩)
    (c_21 : W.codeIn K cd_21 "Line.is_void" = true)
    (k_21 : W.keepIn K (.ref f_21) = true)
    (a_22 : W.nsIn K mainGlobals "_law_sorts" = some (some (.ref f_22)))
    (l_22 : K.lookup f_22 = some ⟨oc_22, od_22, .func (W.fnOf "_law_sorts" "_law_sorts" (defArgs (stOf .l_sorts)) (defBody (stOf .l_sorts)) (defScope (stOf .l_sorts)) .none kV_22 dc_22 pm_22 an_22 cd_22 ct_22), sl_22⟩)
    (c_22 : W.codeIn K cd_22 "_law_sorts" = true)
    (k_22 : W.keepIn K (.ref f_22) = true)
    (a_23 : W.nsIn K mainGlobals "_law_coded" = some (some (.ref f_23)))
    (l_23 : K.lookup f_23 = some ⟨oc_23, od_23, .func (W.fnOf "_law_coded" "_law_coded" (defArgs (stOf .l_coded)) (defBody (stOf .l_coded)) (defScope (stOf .l_coded)) .none kV_23 dc_23 pm_23 an_23 cd_23 ct_23), sl_23⟩)
    (c_23 : W.codeIn K cd_23 "_law_coded" = true)
    (k_23 : W.keepIn K (.ref f_23) = true)
    (me_Word_fits : W.findIn K (.ref C_Word) "fits" = some (some (.ref f_24)))
    (if_24 : W.isFn K (.ref f_24) = true)
    (l_24 : K.lookup f_24 = some ⟨oc_24, od_24, .func (W.fnOf "fits" "Word.fits" (defArgs (stOf .Word_fits)) (defBody (stOf .Word_fits)) (defScope (stOf .Word_fits)) .none kV_24 dc_24 pm_24 an_24 cd_24 ct_24), sl_24⟩)
    (c_24 : W.codeIn K cd_24 "Word.fits" = true)
    (k_24 : W.keepIn K (.ref f_24) = true)
    (me_Number_fits : W.findIn K (.ref C_Number) "fits" = some (some (.ref f_25)))
    (if_25 : W.isFn K (.ref f_25) = true)
    (l_25 : K.lookup f_25 = some ⟨oc_25, od_25, .func (W.fnOf "fits" "Number.fits" (defArgs (stOf .Number_fits)) (defBody (stOf .Number_fits)) (defScope (stOf .Number_fits)) .none kV_25 dc_25 pm_25 an_25 cd_25 ct_25), sl_25⟩)
    (c_25 : W.codeIn K cd_25 "Number.fits" = true)
    (k_25 : W.keepIn K (.ref f_25) = true)
    (me_Quoted_fits : W.findIn K (.ref C_Quoted) "fits" = some (some (.ref f_26)))
    (if_26 : W.isFn K (.ref f_26) = true)
    (l_26 : K.lookup f_26 = some ⟨oc_26, od_26, .func (W.fnOf "fits" "Quoted.fits" (defArgs (stOf .Quoted_fits)) (defBody (stOf .Quoted_fits)) (defScope (stOf .Quoted_fits)) .none kV_26 dc_26 pm_26 an_26 cd_26 ct_26), sl_26⟩)
    (c_26 : W.codeIn K cd_26 "Quoted.fits" = true)
    (k_26 : W.keepIn K (.ref f_26) = true)
    (me_Plain_fits : W.findIn K (.ref C_Plain) "fits" = some (some (.ref f_27)))
    (if_27 : W.isFn K (.ref f_27) = true)
    (l_27 : K.lookup f_27 = some ⟨oc_27, od_27, .func (W.fnOf "fits" "Plain.fits" (defArgs (stOf .Plain_fits)) (defBody (stOf .Plain_fits)) (defScope (stOf .Plain_fits)) .none kV_27 dc_27 pm_27 an_27 cd_27 ct_27), sl_27⟩)
    (c_27 : W.codeIn K cd_27 "Plain.fits" = true)
    (k_27 : W.keepIn K (.ref f_27) = true)
    (me_Line_fits : W.findIn K (.ref C_Line) "fits" = some (some (.ref f_28)))
    (if_28 : W.isFn K (.ref f_28) = true)
    (l_28 : K.lookup f_28 = some ⟨oc_28, od_28, .func (W.fnOf "fits" "Line.fits" (defArgs (stOf .Line_fits)) (defBody (stOf .Line_fits)) (defScope (stOf .Line_fits)) .none kV_28 dc_28 pm_28 an_28 cd_28 ct_28), sl_28⟩)
    (c_28 : W.codeIn K cd_28 "Line.fits" = true)
    (k_28 : W.keepIn K (.ref f_28) = true)
    (x2_BadText : W.findIn K (.ref C_BadText) "__init__" = some (some (.ref f_29)))
    (if_29 : W.isFn K (.ref f_29) = true)
    (x1_BadText : xinIn K C_BadText [.type "ValueError", .type "Exception", .type "BaseException", .type "object"] "ValueError.__new__" = true)
    (x3_BadText : W.keepIn K (.ref C_BadText) = true)
    (x4_BadText : vCls K C_BadText = true)
    (x5_BadText : W.findIn K (.ref C_BadText) "__setattr__" = some (some (.builtin "object.__setattr__")))
    (x6_BadText : W.findIn K (.ref C_BadText) "at" = some none)
    (x7_BadText : W.hasDictIn K C_BadText = true)
    (l_29 : K.lookup f_29 = some ⟨oc_29, od_29, .func (W.fnOf "__init__" "BadText.__init__" (defArgs (stOf .BadText___init__)) (defBody (stOf .BadText___init__)) (defScope (stOf .BadText___init__)) .none kV_29 dc_29 pm_29 an_29 cd_29 ct_29), sl_29⟩)
    (c_29 : W.codeIn K cd_29 "BadText.__init__" = true)
    (k_29 : W.keepIn K (.ref f_29) = true)
    (x2_BadName : W.findIn K (.ref C_BadName) "__init__" = some (some (.ref f_30)))
    (if_30 : W.isFn K (.ref f_30) = true)
    (x1_BadName : xinIn K C_BadName [.type "ValueError", .type "Exception", .type "BaseException", .type "object"] "ValueError.__new__" = true)
    (x3_BadName : W.keepIn K (.ref C_BadName) = true)
    (x4_BadName : vCls K C_BadName = true)
    (x5_BadName : W.findIn K (.ref C_BadName) "__setattr__" = some (some (.builtin "object.__setattr__")))
    (x6_BadName : W.findIn K (.ref C_BadName) "at" = some none)
    (x7_BadName : W.hasDictIn K C_BadName = true)
    (l_30 : K.lookup f_30 = some ⟨oc_30, od_30, .func (W.fnOf "__init__" "BadName.__init__" (defArgs (stOf .BadName___init__)) (defBody (stOf .BadName___init__)) (defScope (stOf .BadName___init__)) .none kV_30 dc_30 pm_30 an_30 cd_30 ct_30), sl_30⟩)
    (c_30 : W.codeIn K cd_30 "BadName.__init__" = true)
    (k_30 : W.keepIn K (.ref f_30) = true)
    (x2_Unclear : W.findIn K (.ref C_Unclear) "__init__" = some (some (.ref f_31)))
    (if_31 : W.isFn K (.ref f_31) = true)
    (x1_Unclear : xinIn K C_Unclear [.type "ValueError", .type "Exception", .type "BaseException", .type "object"] "ValueError.__new__" = true)
    (x3_Unclear : W.keepIn K (.ref C_Unclear) = true)
    (x4_Unclear : vCls K C_Unclear = true)
    (x5_Unclear : W.findIn K (.ref C_Unclear) "__setattr__" = some (some (.builtin "object.__setattr__")))
    (x6_Unclear : W.findIn K (.ref C_Unclear) "at" = some none)
    (x7_Unclear : W.hasDictIn K C_Unclear = true)
    (l_31 : K.lookup f_31 = some ⟨oc_31, od_31, .func (W.fnOf "__init__" "Unclear.__init__" (defArgs (stOf .Unclear___init__)) (defBody (stOf .Unclear___init__)) (defScope (stOf .Unclear___init__)) .none kV_31 dc_31 pm_31 an_31 cd_31 ct_31), sl_31⟩)
    (c_31 : W.codeIn K cd_31 "Unclear.__init__" = true)
    (k_31 : W.keepIn K (.ref f_31) = true)
    (x2_NoFill : W.findIn K (.ref C_NoFill) "__init__" = some (some (.ref f_32)))
    (if_32 : W.isFn K (.ref f_32) = true)
    (x1_NoFill : xinIn K C_NoFill [.type "ValueError", .type "Exception", .type "BaseException", .type "object"] "ValueError.__new__" = true)
    (x3_NoFill : W.keepIn K (.ref C_NoFill) = true)
    (x4_NoFill : vCls K C_NoFill = true)
    (x5_NoFill : W.findIn K (.ref C_NoFill) "__setattr__" = some (some (.builtin "object.__setattr__")))
    (x6_NoFill : W.findIn K (.ref C_NoFill) "at" = some none)
    (x7_NoFill : W.hasDictIn K C_NoFill = true)
    (l_32 : K.lookup f_32 = some ⟨oc_32, od_32, .func (W.fnOf "__init__" "NoFill.__init__" (defArgs (stOf .NoFill___init__)) (defBody (stOf .NoFill___init__)) (defScope (stOf .NoFill___init__)) .none kV_32 dc_32 pm_32 an_32 cd_32 ct_32), sl_32⟩)
    (c_32 : W.codeIn K cd_32 "NoFill.__init__" = true)
    (k_32 : W.keepIn K (.ref f_32) = true)
    (a_33 : W.nsIn K mainGlobals "_law_text_by" = some (some (.ref f_33)))
    (l_33 : K.lookup f_33 = some ⟨oc_33, od_33, .func (W.fnOf "_law_text_by" "_law_text_by" (defArgs (stOf .l_text_by)) (defBody (stOf .l_text_by)) (defScope (stOf .l_text_by)) .none kV_33 dc_33 pm_33 an_33 cd_33 ct_33), sl_33⟩)
    (c_33 : W.codeIn K cd_33 "_law_text_by" = true)
    (k_33 : W.keepIn K (.ref f_33) = true)
    (a_34 : W.nsIn K mainGlobals "_law_word_by" = some (some (.ref f_34)))
    (l_34 : K.lookup f_34 = some ⟨oc_34, od_34, .func (W.fnOf "_law_word_by" "_law_word_by" (defArgs (stOf .l_word_by)) (defBody (stOf .l_word_by)) (defScope (stOf .l_word_by)) .none kV_34 dc_34 pm_34 an_34 cd_34 ct_34), sl_34⟩)
    (c_34 : W.codeIn K cd_34 "_law_word_by" = true)
    (k_34 : W.keepIn K (.ref f_34) = true)
    (a_35 : W.nsIn K mainGlobals "_law_number_by" = some (some (.ref f_35)))
    (l_35 : K.lookup f_35 = some ⟨oc_35, od_35, .func (W.fnOf "_law_number_by" "_law_number_by" (defArgs (stOf .l_number_by)) (defBody (stOf .l_number_by)) (defScope (stOf .l_number_by)) .none kV_35 dc_35 pm_35 an_35 cd_35 ct_35), sl_35⟩)
    (c_35 : W.codeIn K cd_35 "_law_number_by" = true)
    (k_35 : W.keepIn K (.ref f_35) = true)
    (me_Word_coded : W.findIn K (.ref C_Word) "coded" = some (some (.ref f_36)))
    (me_Number_coded : W.findIn K (.ref C_Number) "coded" = some (some (.ref f_36)))
    (me_Quoted_coded : W.findIn K (.ref C_Quoted) "coded" = some (some (.ref f_36)))
    (me_Plain_coded : W.findIn K (.ref C_Plain) "coded" = some (some (.ref f_36)))
    (me_Line_coded : W.findIn K (.ref C_Line) "coded" = some (some (.ref f_36)))
    (if_36 : W.isFn K (.ref f_36) = true)
    (l_36 : K.lookup f_36 = some ⟨oc_36, od_36, .func (W.fnOf "coded" "Way.coded" (defArgs (stOf .Way_coded)) (defBody (stOf .Way_coded)) (defScope (stOf .Way_coded)) .none kV_36 dc_36 pm_36 an_36 cd_36 ct_36), sl_36⟩)
    (c_36 : W.codeIn K cd_36 "Way.coded" = true)
    (k_36 : W.keepIn K (.ref f_36) = true)
    (a_37 : W.nsIn K mainGlobals "_law_class" = some (some (.ref f_37)))
    (l_37 : K.lookup f_37 = some ⟨oc_37, od_37, .func (W.fnOf "_law_class" "_law_class" (defArgs (stOf .l_class)) (defBody (stOf .l_class)) (defScope (stOf .l_class)) .none kV_37 dc_37 pm_37 an_37 cd_37 ct_37), sl_37⟩)
    (c_37 : W.codeIn K cd_37 "_law_class" = true)
    (k_37 : W.keepIn K (.ref f_37) = true)
    (a_38 : W.nsIn K mainGlobals "_law_signs" = some (some (.ref f_38)))
    (l_38 : K.lookup f_38 = some ⟨oc_38, od_38, .func (W.fnOf "_law_signs" "_law_signs" (defArgs (stOf .l_signs)) (defBody (stOf .l_signs)) (defScope (stOf .l_signs)) .none kV_38 dc_38 pm_38 an_38 cd_38 ct_38), sl_38⟩)
    (c_38 : W.codeIn K cd_38 "_law_signs" = true)
    (k_38 : W.keepIn K (.ref f_38) = true)
    (a_39 : W.nsIn K mainGlobals "signs_but" = some (some (.ref f_39)))
    (l_39 : K.lookup f_39 = some ⟨oc_39, od_39, .func (W.fnOf "signs_but" "signs_but" (defArgs (stOf .signs_but)) (defBody (stOf .signs_but)) (defScope (stOf .signs_but)) .none kV_39 dc_39 pm_39 an_39 cd_39 ct_39), sl_39⟩)
    (c_39 : W.codeIn K cd_39 "signs_but" = true)
    (k_39 : W.keepIn K (.ref f_39) = true)
    (a_40 : W.nsIn K mainGlobals "signs" = some (some (.ref f_40)))
    (l_40 : K.lookup f_40 = some ⟨oc_40, od_40, .func (W.fnOf "signs" "signs" (defArgs (stOf .signs)) (defBody (stOf .signs)) (defScope (stOf .signs)) .none kV_40 dc_40 pm_40 an_40 cd_40 ct_40), sl_40⟩)
    (c_40 : W.codeIn K cd_40 "signs" = true)
    (k_40 : W.keepIn K (.ref f_40) = true)
    (a_41 : W.nsIn K mainGlobals "is_text" = some (some (.ref f_41)))
    (l_41 : K.lookup f_41 = some ⟨oc_41, od_41, .func (W.fnOf "is_text" "is_text" (defArgs (stOf .is_text)) (defBody (stOf .is_text)) (defScope (stOf .is_text)) .none kV_41 dc_41 pm_41 an_41 cd_41 ct_41), sl_41⟩)
    (c_41 : W.codeIn K cd_41 "is_text" = true)
    (k_41 : W.keepIn K (.ref f_41) = true)
    (a_42 : W.nsIn K mainGlobals "is_made_of" = some (some (.ref f_42)))
    (l_42 : K.lookup f_42 = some ⟨oc_42, od_42, .func (W.fnOf "is_made_of" "is_made_of" (defArgs (stOf .is_made_of)) (defBody (stOf .is_made_of)) (defScope (stOf .is_made_of)) .none kV_42 dc_42 pm_42 an_42 cd_42 ct_42), sl_42⟩)
    (c_42 : W.codeIn K cd_42 "is_made_of" = true)
    (k_42 : W.keepIn K (.ref f_42) = true)
    (a_43 : W.nsIn K mainGlobals "is_short_number" = some (some (.ref f_43)))
    (l_43 : K.lookup f_43 = some ⟨oc_43, od_43, .func (W.fnOf "is_short_number" "is_short_number" (defArgs (stOf .is_short_number)) (defBody (stOf .is_short_number)) (defScope (stOf .is_short_number)) .none kV_43 dc_43 pm_43 an_43 cd_43 ct_43), sl_43⟩)
    (c_43 : W.codeIn K cd_43 "is_short_number" = true)
    (k_43 : W.keepIn K (.ref f_43) = true)
    (me_Word_spelling : W.findIn K (.ref C_Word) "spelling" = some (some (.ref f_44)))
    (if_44 : W.isFn K (.ref f_44) = true)
    (l_44 : K.lookup f_44 = some ⟨oc_44, od_44, .func (W.fnOf "spelling" "Word.spelling" (defArgs (stOf .Word_spelling)) (defBody (stOf .Word_spelling)) (defScope (stOf .Word_spelling)) .none kV_44 dc_44 pm_44 an_44 cd_44 ct_44), sl_44⟩)
    (c_44 : W.codeIn K cd_44 "Word.spelling" = true)
    (k_44 : W.keepIn K (.ref f_44) = true)
    (me_Number_spelling : W.findIn K (.ref C_Number) "spelling" = some (some (.ref f_45)))
    (if_45 : W.isFn K (.ref f_45) = true)
    (l_45 : K.lookup f_45 = some ⟨oc_45, od_45, .func (W.fnOf "spelling" "Number.spelling" (defArgs (stOf .Number_spelling)) (defBody (stOf .Number_spelling)) (defScope (stOf .Number_spelling)) .none kV_45 dc_45 pm_45 an_45 cd_45 ct_45), sl_45⟩)
    (c_45 : W.codeIn K cd_45 "Number.spelling" = true)
    (k_45 : W.keepIn K (.ref f_45) = true)
    (me_Quoted_spelling : W.findIn K (.ref C_Quoted) "spelling" = some (some (.ref f_46)))
    (if_46 : W.isFn K (.ref f_46) = true)
    (l_46 : K.lookup f_46 = some ⟨oc_46, od_46, .func (W.fnOf "spelling" "Quoted.spelling" (defArgs (stOf .Quoted_spelling)) (defBody (stOf .Quoted_spelling)) (defScope (stOf .Quoted_spelling)) .none kV_46 dc_46 pm_46 an_46 cd_46 ct_46), sl_46⟩)
    (c_46 : W.codeIn K cd_46 "Quoted.spelling" = true)
    (k_46 : W.keepIn K (.ref f_46) = true)
    (me_Plain_spelling : W.findIn K (.ref C_Plain) "spelling" = some (some (.ref f_47)))
    (if_47 : W.isFn K (.ref f_47) = true)
    (l_47 : K.lookup f_47 = some ⟨oc_47, od_47, .func (W.fnOf "spelling" "Plain.spelling" (defArgs (stOf .Plain_spelling)) (defBody (stOf .Plain_spelling)) (defScope (stOf .Plain_spelling)) .none kV_47 dc_47 pm_47 an_47 cd_47 ct_47), sl_47⟩)
    (c_47 : W.codeIn K cd_47 "Plain.spelling" = true)
    (k_47 : W.keepIn K (.ref f_47) = true)
    (me_Line_spelling : W.findIn K (.ref C_Line) "spelling" = some (some (.ref f_48)))
    (if_48 : W.isFn K (.ref f_48) = true)
    (l_48 : K.lookup f_48 = some ⟨oc_48, od_48, .func (W.fnOf "spelling" "Line.spelling" (defArgs (stOf .Line_spelling)) (defBody (stOf .Line_spelling)) (defScope (stOf .Line_spelling)) .none kV_48 dc_48 pm_48 an_48 cd_48 ct_48), sl_48⟩)
    (c_48 : W.codeIn K cd_48 "Line.spelling" = true)
    (k_48 : W.keepIn K (.ref f_48) = true)
    (a_49 : W.nsIn K mainGlobals "escaped" = some (some (.ref f_49)))
    (l_49 : K.lookup f_49 = some ⟨oc_49, od_49, .func (W.fnOf "escaped" "escaped" (defArgs (stOf .escaped)) (defBody (stOf .escaped)) (defScope (stOf .escaped)) .none kV_49 dc_49 pm_49 an_49 cd_49 ct_49), sl_49⟩)
    (c_49 : W.codeIn K cd_49 "escaped" = true)
    (k_49 : W.keepIn K (.ref f_49) = true)
    (g_FIGURES : W.nsIn K mainGlobals "FIGURES" = some (some (.str "0123456789" t_FIGURES)))
    (g_LINE_LETTERS : W.nsIn K mainGlobals "LINE_LETTERS" = some (some (.str "~n" t_LINE_LETTERS)))
    (g_LINE_SIGNS : W.nsIn K mainGlobals "LINE_SIGNS" = some (some (.str "~\n" t_LINE_SIGNS)))
    (g_LINE_STOPS : W.nsIn K mainGlobals "LINE_STOPS" = some (some (.str "\n" t_LINE_STOPS)))
    (g_MOST_SIGNS : W.nsIn K mainGlobals "MOST_SIGNS" = some (some (.int 400 t_MOST_SIGNS)))
    (g_MOST_WORD_SIGNS : W.nsIn K mainGlobals "MOST_WORD_SIGNS" = some (some (.int 40 t_MOST_WORD_SIGNS)))
    (g_NUMBER_SIGNS : W.nsIn K mainGlobals "NUMBER_SIGNS" = some (some (.str "-0123456789" t_NUMBER_SIGNS)))
    (g_PLAIN_LETTERS : W.nsIn K mainGlobals "PLAIN_LETTERS" = some (some (.str "~lgabn" t_PLAIN_LETTERS)))
    (g_PLAIN_SIGNS : W.nsIn K mainGlobals "PLAIN_SIGNS" = some (some (.str "~<>&|\n" t_PLAIN_SIGNS)))
    (g_PLAIN_STOPS : W.nsIn K mainGlobals "PLAIN_STOPS" = some (some (.str "\n&<>|" t_PLAIN_STOPS)))
    (g_QUOTED_LETTERS : W.nsIn K mainGlobals "QUOTED_LETTERS" = some (some (.str "^qn" t_QUOTED_LETTERS)))
    (g_QUOTED_SIGNS : W.nsIn K mainGlobals "QUOTED_SIGNS" = some (some (.str "^\"\n" t_QUOTED_SIGNS)))
    (g_SIGNS : W.nsIn K mainGlobals "SIGNS" = some (some (.str "\n !\"#$&'()*+,-./0123456789:;<=>?@ABCDEFGHIJKLMNOPQRSTUVWXYZ[\\]^_`abcdefghijklmnopqrstuvwxyz{|}~" t_SIGNS)))
    (g_WORD_SIGNS : W.nsIn K mainGlobals "WORD_SIGNS" = some (some (.str "0123456789ABCDEFGHIJKLMNOPQRSTUVWXYZabcdefghijklmnopqrstuvwxyz" t_WORD_SIGNS)))
    (n_ValueError : W.nsIn K mainGlobals "ValueError" = some none)
    (n_abs : W.nsIn K mainGlobals "abs" = some none)
    (n_bool : W.nsIn K mainGlobals "bool" = some none)
    (n_int : W.nsIn K mainGlobals "int" = some none)
    (n_isinstance : W.nsIn K mainGlobals "isinstance" = some none)
    (n_len : W.nsIn K mainGlobals "len" = some none)
    (n_range : W.nsIn K mainGlobals "range" = some none)
    (n_str : W.nsIn K mainGlobals "str" = some none)
    (n_tuple : W.nsIn K mainGlobals "tuple" = some none) :
    ∃ fd : FuncData, (∀ (s : Shared) (v : Value), BindsTo s fd ⟨[v], []⟩ [("_law_script", v)]) ∧ ∀ base : Heap, K.In base → base.Ns mainGlobals mg → FnOk l.prog w K mg base CX0 30 fa fd ["_law_script"] (spLaw K) := by
  have e := (W.mg_of X G a_0).symm.trans hfa
  have ef : f_0 = fa := by injection e with e1; injection e1
  subst ef
  let Y : Sys K mg := {
    adr := fun f => match f with | .law => f_0 | .way_of => f_1 | .l_refusals_made => f_2 | .l_value_by => f_3 | .l_made => f_4 | .l_odd => f_5 | .l_cell_at => f_6 | .l_way => f_7 | .l_mixed => f_8 | .Word_begins => f_9 | .Number_begins => f_10 | .Quoted_begins => f_11 | .Plain_begins => f_12 | .Line_begins => f_13 | .Word_ends => f_14 | .Number_ends => f_15 | .Quoted_ends => f_16 | .Plain_ends => f_17 | .Line_ends => f_18 | .Way_is_void => f_19 | .Plain_is_void => f_20 | .Line_is_void => f_21 | .l_sorts => f_22 | .l_coded => f_23 | .Word_fits => f_24 | .Number_fits => f_25 | .Quoted_fits => f_26 | .Plain_fits => f_27 | .Line_fits => f_28 | .BadText___init__ => f_29 | .BadName___init__ => f_30 | .Unclear___init__ => f_31 | .NoFill___init__ => f_32 | .l_text_by => f_33 | .l_word_by => f_34 | .l_number_by => f_35 | .Way_coded => f_36 | .l_class => f_37 | .l_signs => f_38 | .signs_but => f_39 | .signs => f_40 | .is_text => f_41 | .is_made_of => f_42 | .is_short_number => f_43 | .Word_spelling => f_44 | .Number_spelling => f_45 | .Quoted_spelling => f_46 | .Plain_spelling => f_47 | .Line_spelling => f_48 | .escaped => f_49
    fd := fun f => match f with | .law => W.fnOf "law" "law" (defArgs (stOf .law)) (defBody (stOf .law)) (defScope (stOf .law)) .none kV_0 dc_0 pm_0 an_0 cd_0 ct_0 | .way_of => W.fnOf "way_of" "way_of" (defArgs (stOf .way_of)) (defBody (stOf .way_of)) (defScope (stOf .way_of)) .none kV_1 dc_1 pm_1 an_1 cd_1 ct_1 | .l_refusals_made => W.fnOf "_law_refusals_made" "_law_refusals_made" (defArgs (stOf .l_refusals_made)) (defBody (stOf .l_refusals_made)) (defScope (stOf .l_refusals_made)) .none kV_2 dc_2 pm_2 an_2 cd_2 ct_2 | .l_value_by => W.fnOf "_law_value_by" "_law_value_by" (defArgs (stOf .l_value_by)) (defBody (stOf .l_value_by)) (defScope (stOf .l_value_by)) .none kV_3 dc_3 pm_3 an_3 cd_3 ct_3 | .l_made => W.fnOf "_law_made" "_law_made" (defArgs (stOf .l_made)) (defBody (stOf .l_made)) (defScope (stOf .l_made)) .none kV_4 dc_4 pm_4 an_4 cd_4 ct_4 | .l_odd => W.fnOf "_law_odd" "_law_odd" (defArgs (stOf .l_odd)) (defBody (stOf .l_odd)) (defScope (stOf .l_odd)) .none kV_5 dc_5 pm_5 an_5 cd_5 ct_5 | .l_cell_at => W.fnOf "_law_cell_at" "_law_cell_at" (defArgs (stOf .l_cell_at)) (defBody (stOf .l_cell_at)) (defScope (stOf .l_cell_at)) .none kV_6 dc_6 pm_6 an_6 cd_6 ct_6 | .l_way => W.fnOf "_law_way" "_law_way" (defArgs (stOf .l_way)) (defBody (stOf .l_way)) (defScope (stOf .l_way)) .none kV_7 dc_7 pm_7 an_7 cd_7 ct_7 | .l_mixed => W.fnOf "_law_mixed" "_law_mixed" (defArgs (stOf .l_mixed)) (defBody (stOf .l_mixed)) (defScope (stOf .l_mixed)) .none kV_8 dc_8 pm_8 an_8 cd_8 ct_8 | .Word_begins => W.fnOf "begins" "Word.begins" (defArgs (stOf .Word_begins)) (defBody (stOf .Word_begins)) (defScope (stOf .Word_begins)) .none kV_9 dc_9 pm_9 an_9 cd_9 ct_9 | .Number_begins => W.fnOf "begins" "Number.begins" (defArgs (stOf .Number_begins)) (defBody (stOf .Number_begins)) (defScope (stOf .Number_begins)) .none kV_10 dc_10 pm_10 an_10 cd_10 ct_10 | .Quoted_begins => W.fnOf "begins" "Quoted.begins" (defArgs (stOf .Quoted_begins)) (defBody (stOf .Quoted_begins)) (defScope (stOf .Quoted_begins)) .none kV_11 dc_11 pm_11 an_11 cd_11 ct_11 | .Plain_begins => W.fnOf "begins" "Plain.begins" (defArgs (stOf .Plain_begins)) (defBody (stOf .Plain_begins)) (defScope (stOf .Plain_begins)) .none kV_12 dc_12 pm_12 an_12 cd_12 ct_12 | .Line_begins => W.fnOf "begins" "Line.begins" (defArgs (stOf .Line_begins)) (defBody (stOf .Line_begins)) (defScope (stOf .Line_begins)) .none kV_13 dc_13 pm_13 an_13 cd_13 ct_13 | .Word_ends => W.fnOf "ends" "Word.ends" (defArgs (stOf .Word_ends)) (defBody (stOf .Word_ends)) (defScope (stOf .Word_ends)) .none kV_14 dc_14 pm_14 an_14 cd_14 ct_14 | .Number_ends => W.fnOf "ends" "Number.ends" (defArgs (stOf .Number_ends)) (defBody (stOf .Number_ends)) (defScope (stOf .Number_ends)) .none kV_15 dc_15 pm_15 an_15 cd_15 ct_15 | .Quoted_ends => W.fnOf "ends" "Quoted.ends" (defArgs (stOf .Quoted_ends)) (defBody (stOf .Quoted_ends)) (defScope (stOf .Quoted_ends)) .none kV_16 dc_16 pm_16 an_16 cd_16 ct_16 | .Plain_ends => W.fnOf "ends" "Plain.ends" (defArgs (stOf .Plain_ends)) (defBody (stOf .Plain_ends)) (defScope (stOf .Plain_ends)) .none kV_17 dc_17 pm_17 an_17 cd_17 ct_17 | .Line_ends => W.fnOf "ends" "Line.ends" (defArgs (stOf .Line_ends)) (defBody (stOf .Line_ends)) (defScope (stOf .Line_ends)) .none kV_18 dc_18 pm_18 an_18 cd_18 ct_18 | .Way_is_void => W.fnOf "is_void" "Way.is_void" (defArgs (stOf .Way_is_void)) (defBody (stOf .Way_is_void)) (defScope (stOf .Way_is_void)) .none kV_19 dc_19 pm_19 an_19 cd_19 ct_19 | .Plain_is_void => W.fnOf "is_void" "Plain.is_void" (defArgs (stOf .Plain_is_void)) (defBody (stOf .Plain_is_void)) (defScope (stOf .Plain_is_void)) .none kV_20 dc_20 pm_20 an_20 cd_20 ct_20 | .Line_is_void => W.fnOf "is_void" "Line.is_void" (defArgs (stOf .Line_is_void)) (defBody (stOf .Line_is_void)) (defScope (stOf .Line_is_void)) .none kV_21 dc_21 pm_21 an_21 cd_21 ct_21 | .l_sorts => W.fnOf "_law_sorts" "_law_sorts" (defArgs (stOf .l_sorts)) (defBody (stOf .l_sorts)) (defScope (stOf .l_sorts)) .none kV_22 dc_22 pm_22 an_22 cd_22 ct_22 | .l_coded => W.fnOf "_law_coded" "_law_coded" (defArgs (stOf .l_coded)) (defBody (stOf .l_coded)) (defScope (stOf .l_coded)) .none kV_23 dc_23 pm_23 an_23 cd_23 ct_23 | .Word_fits => W.fnOf "fits" "Word.fits" (defArgs (stOf .Word_fits)) (defBody (stOf .Word_fits)) (defScope (stOf .Word_fits)) .none kV_24 dc_24 pm_24 an_24 cd_24 ct_24 | .Number_fits => W.fnOf "fits" "Number.fits" (defArgs (stOf .Number_fits)) (defBody (stOf .Number_fits)) (defScope (stOf .Number_fits)) .none kV_25 dc_25 pm_25 an_25 cd_25 ct_25 | .Quoted_fits => W.fnOf "fits" "Quoted.fits" (defArgs (stOf .Quoted_fits)) (defBody (stOf .Quoted_fits)) (defScope (stOf .Quoted_fits)) .none kV_26 dc_26 pm_26 an_26 cd_26 ct_26 | .Plain_fits => W.fnOf "fits" "Plain.fits" (defArgs (stOf .Plain_fits)) (defBody (stOf .Plain_fits)) (defScope (stOf .Plain_fits)) .none kV_27 dc_27 pm_27 an_27 cd_27 ct_27 | .Line_fits => W.fnOf "fits" "Line.fits" (defArgs (stOf .Line_fits)) (defBody (stOf .Line_fits)) (defScope (stOf .Line_fits)) .none kV_28 dc_28 pm_28 an_28 cd_28 ct_28 | .BadText___init__ => W.fnOf "__init__" "BadText.__init__" (defArgs (stOf .BadText___init__)) (defBody (stOf .BadText___init__)) (defScope (stOf .BadText___init__)) .none kV_29 dc_29 pm_29 an_29 cd_29 ct_29 | .BadName___init__ => W.fnOf "__init__" "BadName.__init__" (defArgs (stOf .BadName___init__)) (defBody (stOf .BadName___init__)) (defScope (stOf .BadName___init__)) .none kV_30 dc_30 pm_30 an_30 cd_30 ct_30 | .Unclear___init__ => W.fnOf "__init__" "Unclear.__init__" (defArgs (stOf .Unclear___init__)) (defBody (stOf .Unclear___init__)) (defScope (stOf .Unclear___init__)) .none kV_31 dc_31 pm_31 an_31 cd_31 ct_31 | .NoFill___init__ => W.fnOf "__init__" "NoFill.__init__" (defArgs (stOf .NoFill___init__)) (defBody (stOf .NoFill___init__)) (defScope (stOf .NoFill___init__)) .none kV_32 dc_32 pm_32 an_32 cd_32 ct_32 | .l_text_by => W.fnOf "_law_text_by" "_law_text_by" (defArgs (stOf .l_text_by)) (defBody (stOf .l_text_by)) (defScope (stOf .l_text_by)) .none kV_33 dc_33 pm_33 an_33 cd_33 ct_33 | .l_word_by => W.fnOf "_law_word_by" "_law_word_by" (defArgs (stOf .l_word_by)) (defBody (stOf .l_word_by)) (defScope (stOf .l_word_by)) .none kV_34 dc_34 pm_34 an_34 cd_34 ct_34 | .l_number_by => W.fnOf "_law_number_by" "_law_number_by" (defArgs (stOf .l_number_by)) (defBody (stOf .l_number_by)) (defScope (stOf .l_number_by)) .none kV_35 dc_35 pm_35 an_35 cd_35 ct_35 | .Way_coded => W.fnOf "coded" "Way.coded" (defArgs (stOf .Way_coded)) (defBody (stOf .Way_coded)) (defScope (stOf .Way_coded)) .none kV_36 dc_36 pm_36 an_36 cd_36 ct_36 | .l_class => W.fnOf "_law_class" "_law_class" (defArgs (stOf .l_class)) (defBody (stOf .l_class)) (defScope (stOf .l_class)) .none kV_37 dc_37 pm_37 an_37 cd_37 ct_37 | .l_signs => W.fnOf "_law_signs" "_law_signs" (defArgs (stOf .l_signs)) (defBody (stOf .l_signs)) (defScope (stOf .l_signs)) .none kV_38 dc_38 pm_38 an_38 cd_38 ct_38 | .signs_but => W.fnOf "signs_but" "signs_but" (defArgs (stOf .signs_but)) (defBody (stOf .signs_but)) (defScope (stOf .signs_but)) .none kV_39 dc_39 pm_39 an_39 cd_39 ct_39 | .signs => W.fnOf "signs" "signs" (defArgs (stOf .signs)) (defBody (stOf .signs)) (defScope (stOf .signs)) .none kV_40 dc_40 pm_40 an_40 cd_40 ct_40 | .is_text => W.fnOf "is_text" "is_text" (defArgs (stOf .is_text)) (defBody (stOf .is_text)) (defScope (stOf .is_text)) .none kV_41 dc_41 pm_41 an_41 cd_41 ct_41 | .is_made_of => W.fnOf "is_made_of" "is_made_of" (defArgs (stOf .is_made_of)) (defBody (stOf .is_made_of)) (defScope (stOf .is_made_of)) .none kV_42 dc_42 pm_42 an_42 cd_42 ct_42 | .is_short_number => W.fnOf "is_short_number" "is_short_number" (defArgs (stOf .is_short_number)) (defBody (stOf .is_short_number)) (defScope (stOf .is_short_number)) .none kV_43 dc_43 pm_43 an_43 cd_43 ct_43 | .Word_spelling => W.fnOf "spelling" "Word.spelling" (defArgs (stOf .Word_spelling)) (defBody (stOf .Word_spelling)) (defScope (stOf .Word_spelling)) .none kV_44 dc_44 pm_44 an_44 cd_44 ct_44 | .Number_spelling => W.fnOf "spelling" "Number.spelling" (defArgs (stOf .Number_spelling)) (defBody (stOf .Number_spelling)) (defScope (stOf .Number_spelling)) .none kV_45 dc_45 pm_45 an_45 cd_45 ct_45 | .Quoted_spelling => W.fnOf "spelling" "Quoted.spelling" (defArgs (stOf .Quoted_spelling)) (defBody (stOf .Quoted_spelling)) (defScope (stOf .Quoted_spelling)) .none kV_46 dc_46 pm_46 an_46 cd_46 ct_46 | .Plain_spelling => W.fnOf "spelling" "Plain.spelling" (defArgs (stOf .Plain_spelling)) (defBody (stOf .Plain_spelling)) (defScope (stOf .Plain_spelling)) .none kV_47 dc_47 pm_47 an_47 cd_47 ct_47 | .Line_spelling => W.fnOf "spelling" "Line.spelling" (defArgs (stOf .Line_spelling)) (defBody (stOf .Line_spelling)) (defScope (stOf .Line_spelling)) .none kV_48 dc_48 pm_48 an_48 cd_48 ct_48 | .escaped => W.fnOf "escaped" "escaped" (defArgs (stOf .escaped)) (defBody (stOf .escaped)) (defScope (stOf .escaped)) .none kV_49 dc_49 pm_49 an_49 cd_49 ct_49
    kls := fun i => match i with | 0 => C_Word | 1 => C_Number | 2 => C_Quoted | 3 => C_Plain | 4 => C_Line | 5 => C_FormError | 6 => C_BadWay | 7 => C_BadValue | 8 => C_BadValues | 9 => C_TooMany | 10 => C_Clash | 11 => C_BadText | 12 => C_BadName | 13 => C_Unclear | 14 => C_NoFill | 15 => C_Way | _ => 0
    mc_FormError := W.mg_of X G aC_FormError
    mc_BadWay := W.mg_of X G aC_BadWay
    mc_BadValue := W.mg_of X G aC_BadValue
    mc_BadValues := W.mg_of X G aC_BadValues
    mc_TooMany := W.mg_of X G aC_TooMany
    mc_Clash := W.mg_of X G aC_Clash
    mc_BadText := W.mg_of X G aC_BadText
    mc_BadName := W.mg_of X G aC_BadName
    mc_Unclear := W.mg_of X G aC_Unclear
    mc_NoFill := W.mg_of X G aC_NoFill
    mc_Way := W.mg_of X G aC_Way
    xr_BadWay := xr_BadWay
    ex_BadWay_FormError := ex_BadWay_FormError
    xr_BadValue := xr_BadValue
    ex_BadValue_FormError := ex_BadValue_FormError
    cg_ := ⟨cg1, cg2⟩
    kc_Word := ⟨kc1_Word, kc2_Word, kc3_Word⟩
    kc_Number := ⟨kc1_Number, kc2_Number, kc3_Number⟩
    kc_Quoted := ⟨kc1_Quoted, kc2_Quoted, kc3_Quoted⟩
    kc_Plain := ⟨kc1_Plain, kc2_Plain, kc3_Plain⟩
    kc_Line := ⟨kc1_Line, kc2_Line, kc3_Line⟩
    kc_BadWay := ⟨kc1_BadWay, kc2_BadWay, kc3_BadWay⟩
    xc_BadWay := ⟨xc1_BadWay, xc2_BadWay, xc3_BadWay⟩
    kc_BadValue := ⟨kc1_BadValue, kc2_BadValue, kc3_BadValue⟩
    xc_BadValue := ⟨xc1_BadValue, xc2_BadValue, xc3_BadValue⟩
    ki_BadWay_BadName := ki_BadWay_BadName
    ki_BadWay_BadText := ki_BadWay_BadText
    ki_BadWay_BadValue := ki_BadWay_BadValue
    ki_BadWay_BadValues := ki_BadWay_BadValues
    ki_BadWay_BadWay := ki_BadWay_BadWay
    ki_BadWay_Clash := ki_BadWay_Clash
    ki_BadWay_NoFill := ki_BadWay_NoFill
    ki_BadWay_TooMany := ki_BadWay_TooMany
    ki_BadWay_Unclear := ki_BadWay_Unclear
    ki_BadWay_ValueError := ki_BadWay_ValueError
    ki_BadValue_BadName := ki_BadValue_BadName
    ki_BadValue_BadText := ki_BadValue_BadText
    ki_BadValue_BadValue := ki_BadValue_BadValue
    ki_BadValue_BadValues := ki_BadValue_BadValues
    ki_BadValue_BadWay := ki_BadValue_BadWay
    ki_BadValue_Clash := ki_BadValue_Clash
    ki_BadValue_NoFill := ki_BadValue_NoFill
    ki_BadValue_TooMany := ki_BadValue_TooMany
    ki_BadValue_Unclear := ki_BadValue_Unclear
    ki_BadValue_ValueError := ki_BadValue_ValueError
    ki_Word_Line := ki_Word_Line
    ki_Word_Number := ki_Word_Number
    ki_Word_Plain := ki_Word_Plain
    ki_Word_Quoted := ki_Word_Quoted
    ki_Word_Way := ki_Word_Way
    ki_Word_Word := ki_Word_Word
    ki_Number_Line := ki_Number_Line
    ki_Number_Number := ki_Number_Number
    ki_Number_Plain := ki_Number_Plain
    ki_Number_Quoted := ki_Number_Quoted
    ki_Number_Way := ki_Number_Way
    ki_Number_Word := ki_Number_Word
    ki_Quoted_Line := ki_Quoted_Line
    ki_Quoted_Number := ki_Quoted_Number
    ki_Quoted_Plain := ki_Quoted_Plain
    ki_Quoted_Quoted := ki_Quoted_Quoted
    ki_Quoted_Way := ki_Quoted_Way
    ki_Quoted_Word := ki_Quoted_Word
    ki_Plain_Line := ki_Plain_Line
    ki_Plain_Number := ki_Plain_Number
    ki_Plain_Plain := ki_Plain_Plain
    ki_Plain_Quoted := ki_Plain_Quoted
    ki_Plain_Way := ki_Plain_Way
    ki_Plain_Word := ki_Plain_Word
    ki_Line_Line := ki_Line_Line
    ki_Line_Number := ki_Line_Number
    ki_Line_Plain := ki_Line_Plain
    ki_Line_Quoted := ki_Line_Quoted
    ki_Line_Way := ki_Line_Way
    ki_Line_Word := ki_Line_Word
    xi_BadName := ⟨x1_BadName, x2_BadName, if_30, x3_BadName, x4_BadName, x5_BadName, x6_BadName, x7_BadName, ⟨xc1_BadName, xc2_BadName, xc3_BadName⟩⟩
    xi_BadText := ⟨x1_BadText, x2_BadText, if_29, x3_BadText, x4_BadText, x5_BadText, x6_BadText, x7_BadText, ⟨xc1_BadText, xc2_BadText, xc3_BadText⟩⟩
    xi_NoFill := ⟨x1_NoFill, x2_NoFill, if_32, x3_NoFill, x4_NoFill, x5_NoFill, x6_NoFill, x7_NoFill, ⟨xc1_NoFill, xc2_NoFill, xc3_NoFill⟩⟩
    xi_Unclear := ⟨x1_Unclear, x2_Unclear, if_31, x3_Unclear, x4_Unclear, x5_Unclear, x6_Unclear, x7_Unclear, ⟨xc1_Unclear, xc2_Unclear, xc3_Unclear⟩⟩
    ok := fun f => by cases f with
      | law => exact fun_mk (st := stOf .law) l_0 c_0 k_0
      | way_of => exact fun_mk (st := stOf .way_of) l_1 c_1 k_1
      | l_refusals_made => exact fun_mk (st := stOf .l_refusals_made) l_2 c_2 k_2
      | l_value_by => exact fun_mk (st := stOf .l_value_by) l_3 c_3 k_3
      | l_made => exact fun_mk (st := stOf .l_made) l_4 c_4 k_4
      | l_odd => exact fun_mk (st := stOf .l_odd) l_5 c_5 k_5
      | l_cell_at => exact fun_mk (st := stOf .l_cell_at) l_6 c_6 k_6
      | l_way => exact fun_mk (st := stOf .l_way) l_7 c_7 k_7
      | l_mixed => exact fun_mk (st := stOf .l_mixed) l_8 c_8 k_8
      | Word_begins => exact fun_mk (st := stOf .Word_begins) l_9 c_9 k_9
      | Number_begins => exact fun_mk (st := stOf .Number_begins) l_10 c_10 k_10
      | Quoted_begins => exact fun_mk (st := stOf .Quoted_begins) l_11 c_11 k_11
      | Plain_begins => exact fun_mk (st := stOf .Plain_begins) l_12 c_12 k_12
      | Line_begins => exact fun_mk (st := stOf .Line_begins) l_13 c_13 k_13
      | Word_ends => exact fun_mk (st := stOf .Word_ends) l_14 c_14 k_14
      | Number_ends => exact fun_mk (st := stOf .Number_ends) l_15 c_15 k_15
      | Quoted_ends => exact fun_mk (st := stOf .Quoted_ends) l_16 c_16 k_16
      | Plain_ends => exact fun_mk (st := stOf .Plain_ends) l_17 c_17 k_17
      | Line_ends => exact fun_mk (st := stOf .Line_ends) l_18 c_18 k_18
      | Way_is_void => exact fun_mk (st := stOf .Way_is_void) l_19 c_19 k_19
      | Plain_is_void => exact fun_mk (st := stOf .Plain_is_void) l_20 c_20 k_20
      | Line_is_void => exact fun_mk (st := stOf .Line_is_void) l_21 c_21 k_21
      | l_sorts => exact fun_mk (st := stOf .l_sorts) l_22 c_22 k_22
      | l_coded => exact fun_mk (st := stOf .l_coded) l_23 c_23 k_23
      | Word_fits => exact fun_mk (st := stOf .Word_fits) l_24 c_24 k_24
      | Number_fits => exact fun_mk (st := stOf .Number_fits) l_25 c_25 k_25
      | Quoted_fits => exact fun_mk (st := stOf .Quoted_fits) l_26 c_26 k_26
      | Plain_fits => exact fun_mk (st := stOf .Plain_fits) l_27 c_27 k_27
      | Line_fits => exact fun_mk (st := stOf .Line_fits) l_28 c_28 k_28
      | BadText___init__ => exact fun_mk (st := stOf .BadText___init__) l_29 c_29 k_29
      | BadName___init__ => exact fun_mk (st := stOf .BadName___init__) l_30 c_30 k_30
      | Unclear___init__ => exact fun_mk (st := stOf .Unclear___init__) l_31 c_31 k_31
      | NoFill___init__ => exact fun_mk (st := stOf .NoFill___init__) l_32 c_32 k_32
      | l_text_by => exact fun_mk (st := stOf .l_text_by) l_33 c_33 k_33
      | l_word_by => exact fun_mk (st := stOf .l_word_by) l_34 c_34 k_34
      | l_number_by => exact fun_mk (st := stOf .l_number_by) l_35 c_35 k_35
      | Way_coded => exact fun_mk (st := stOf .Way_coded) l_36 c_36 k_36
      | l_class => exact fun_mk (st := stOf .l_class) l_37 c_37 k_37
      | l_signs => exact fun_mk (st := stOf .l_signs) l_38 c_38 k_38
      | signs_but => exact fun_mk (st := stOf .signs_but) l_39 c_39 k_39
      | signs => exact fun_mk (st := stOf .signs) l_40 c_40 k_40
      | is_text => exact fun_mk (st := stOf .is_text) l_41 c_41 k_41
      | is_made_of => exact fun_mk (st := stOf .is_made_of) l_42 c_42 k_42
      | is_short_number => exact fun_mk (st := stOf .is_short_number) l_43 c_43 k_43
      | Word_spelling => exact fun_mk (st := stOf .Word_spelling) l_44 c_44 k_44
      | Number_spelling => exact fun_mk (st := stOf .Number_spelling) l_45 c_45 k_45
      | Quoted_spelling => exact fun_mk (st := stOf .Quoted_spelling) l_46 c_46 k_46
      | Plain_spelling => exact fun_mk (st := stOf .Plain_spelling) l_47 c_47 k_47
      | Line_spelling => exact fun_mk (st := stOf .Line_spelling) l_48 c_48 k_48
      | escaped => exact fun_mk (st := stOf .escaped) l_49 c_49 k_49
    bi := fun f => by cases f with
      | law => exact (fun_mk (st := stOf .law) l_0 c_0 k_0).binds fun _ _ _ _ _ _ us hl => match us, hl with | [_], _ => rfl
      | way_of => exact (fun_mk (st := stOf .way_of) l_1 c_1 k_1).binds fun _ _ _ _ _ _ us hl => match us, hl with | [_], _ => rfl
      | l_refusals_made => exact (fun_mk (st := stOf .l_refusals_made) l_2 c_2 k_2).binds fun _ _ _ _ _ _ us hl => match us, hl with | [_], _ => rfl
      | l_value_by => exact (fun_mk (st := stOf .l_value_by) l_3 c_3 k_3).binds fun _ _ _ _ _ _ us hl => match us, hl with | [_, _], _ => rfl
      | l_made => exact (fun_mk (st := stOf .l_made) l_4 c_4 k_4).binds fun _ _ _ _ _ _ us hl => match us, hl with | [_, _], _ => rfl
      | l_odd => exact (fun_mk (st := stOf .l_odd) l_5 c_5 k_5).binds fun _ _ _ _ _ _ us hl => match us, hl with | [_, _], _ => rfl
      | l_cell_at => exact (fun_mk (st := stOf .l_cell_at) l_6 c_6 k_6).binds fun _ _ _ _ _ _ us hl => match us, hl with | [_, _], _ => rfl
      | l_way => exact (fun_mk (st := stOf .l_way) l_7 c_7 k_7).binds fun _ _ _ _ _ _ us hl => match us, hl with | [_], _ => rfl
      | l_mixed => exact (fun_mk (st := stOf .l_mixed) l_8 c_8 k_8).binds fun _ _ _ _ _ _ us hl => match us, hl with | [_, _], _ => rfl
      | Word_begins => exact (fun_mk (st := stOf .Word_begins) l_9 c_9 k_9).binds fun _ _ _ _ _ _ us hl => match us, hl with | [_], _ => rfl
      | Number_begins => exact (fun_mk (st := stOf .Number_begins) l_10 c_10 k_10).binds fun _ _ _ _ _ _ us hl => match us, hl with | [_], _ => rfl
      | Quoted_begins => exact (fun_mk (st := stOf .Quoted_begins) l_11 c_11 k_11).binds fun _ _ _ _ _ _ us hl => match us, hl with | [_], _ => rfl
      | Plain_begins => exact (fun_mk (st := stOf .Plain_begins) l_12 c_12 k_12).binds fun _ _ _ _ _ _ us hl => match us, hl with | [_], _ => rfl
      | Line_begins => exact (fun_mk (st := stOf .Line_begins) l_13 c_13 k_13).binds fun _ _ _ _ _ _ us hl => match us, hl with | [_], _ => rfl
      | Word_ends => exact (fun_mk (st := stOf .Word_ends) l_14 c_14 k_14).binds fun _ _ _ _ _ _ us hl => match us, hl with | [_], _ => rfl
      | Number_ends => exact (fun_mk (st := stOf .Number_ends) l_15 c_15 k_15).binds fun _ _ _ _ _ _ us hl => match us, hl with | [_], _ => rfl
      | Quoted_ends => exact (fun_mk (st := stOf .Quoted_ends) l_16 c_16 k_16).binds fun _ _ _ _ _ _ us hl => match us, hl with | [_], _ => rfl
      | Plain_ends => exact (fun_mk (st := stOf .Plain_ends) l_17 c_17 k_17).binds fun _ _ _ _ _ _ us hl => match us, hl with | [_], _ => rfl
      | Line_ends => exact (fun_mk (st := stOf .Line_ends) l_18 c_18 k_18).binds fun _ _ _ _ _ _ us hl => match us, hl with | [_], _ => rfl
      | Way_is_void => exact (fun_mk (st := stOf .Way_is_void) l_19 c_19 k_19).binds fun _ _ _ _ _ _ us hl => match us, hl with | [_], _ => rfl
      | Plain_is_void => exact (fun_mk (st := stOf .Plain_is_void) l_20 c_20 k_20).binds fun _ _ _ _ _ _ us hl => match us, hl with | [_], _ => rfl
      | Line_is_void => exact (fun_mk (st := stOf .Line_is_void) l_21 c_21 k_21).binds fun _ _ _ _ _ _ us hl => match us, hl with | [_], _ => rfl
      | l_sorts => exact (fun_mk (st := stOf .l_sorts) l_22 c_22 k_22).binds fun _ _ _ _ _ _ us hl => match us, hl with | [_], _ => rfl
      | l_coded => exact (fun_mk (st := stOf .l_coded) l_23 c_23 k_23).binds fun _ _ _ _ _ _ us hl => match us, hl with | [_, _], _ => rfl
      | Word_fits => exact (fun_mk (st := stOf .Word_fits) l_24 c_24 k_24).binds fun _ _ _ _ _ _ us hl => match us, hl with | [_, _], _ => rfl
      | Number_fits => exact (fun_mk (st := stOf .Number_fits) l_25 c_25 k_25).binds fun _ _ _ _ _ _ us hl => match us, hl with | [_, _], _ => rfl
      | Quoted_fits => exact (fun_mk (st := stOf .Quoted_fits) l_26 c_26 k_26).binds fun _ _ _ _ _ _ us hl => match us, hl with | [_, _], _ => rfl
      | Plain_fits => exact (fun_mk (st := stOf .Plain_fits) l_27 c_27 k_27).binds fun _ _ _ _ _ _ us hl => match us, hl with | [_, _], _ => rfl
      | Line_fits => exact (fun_mk (st := stOf .Line_fits) l_28 c_28 k_28).binds fun _ _ _ _ _ _ us hl => match us, hl with | [_, _], _ => rfl
      | BadText___init__ => exact (fun_mk (st := stOf .BadText___init__) l_29 c_29 k_29).binds fun _ _ _ _ _ _ us hl => match us, hl with | [_, _], _ => rfl
      | BadName___init__ => exact (fun_mk (st := stOf .BadName___init__) l_30 c_30 k_30).binds fun _ _ _ _ _ _ us hl => match us, hl with | [_, _], _ => rfl
      | Unclear___init__ => exact (fun_mk (st := stOf .Unclear___init__) l_31 c_31 k_31).binds fun _ _ _ _ _ _ us hl => match us, hl with | [_, _], _ => rfl
      | NoFill___init__ => exact (fun_mk (st := stOf .NoFill___init__) l_32 c_32 k_32).binds fun _ _ _ _ _ _ us hl => match us, hl with | [_, _], _ => rfl
      | l_text_by => exact (fun_mk (st := stOf .l_text_by) l_33 c_33 k_33).binds fun _ _ _ _ _ _ us hl => match us, hl with | [_, _], _ => rfl
      | l_word_by => exact (fun_mk (st := stOf .l_word_by) l_34 c_34 k_34).binds fun _ _ _ _ _ _ us hl => match us, hl with | [_], _ => rfl
      | l_number_by => exact (fun_mk (st := stOf .l_number_by) l_35 c_35 k_35).binds fun _ _ _ _ _ _ us hl => match us, hl with | [_], _ => rfl
      | Way_coded => exact (fun_mk (st := stOf .Way_coded) l_36 c_36 k_36).binds fun _ _ _ _ _ _ us hl => match us, hl with | [_, _], _ => rfl
      | l_class => exact (fun_mk (st := stOf .l_class) l_37 c_37 k_37).binds fun _ _ _ _ _ _ us hl => match us, hl with | [_], _ => rfl
      | l_signs => exact (fun_mk (st := stOf .l_signs) l_38 c_38 k_38).binds fun _ _ _ _ _ _ us hl => match us, hl with | [], _ => rfl
      | signs_but => exact (fun_mk (st := stOf .signs_but) l_39 c_39 k_39).binds fun _ _ _ _ _ _ us hl => match us, hl with | [_], _ => rfl
      | signs => exact (fun_mk (st := stOf .signs) l_40 c_40 k_40).binds fun _ _ _ _ _ _ us hl => match us, hl with | [], _ => rfl
      | is_text => exact (fun_mk (st := stOf .is_text) l_41 c_41 k_41).binds fun _ _ _ _ _ _ us hl => match us, hl with | [_, _], _ => rfl
      | is_made_of => exact (fun_mk (st := stOf .is_made_of) l_42 c_42 k_42).binds fun _ _ _ _ _ _ us hl => match us, hl with | [_, _], _ => rfl
      | is_short_number => exact (fun_mk (st := stOf .is_short_number) l_43 c_43 k_43).binds fun _ _ _ _ _ _ us hl => match us, hl with | [_], _ => rfl
      | Word_spelling => exact (fun_mk (st := stOf .Word_spelling) l_44 c_44 k_44).binds fun _ _ _ _ _ _ us hl => match us, hl with | [_, _], _ => rfl
      | Number_spelling => exact (fun_mk (st := stOf .Number_spelling) l_45 c_45 k_45).binds fun _ _ _ _ _ _ us hl => match us, hl with | [_, _], _ => rfl
      | Quoted_spelling => exact (fun_mk (st := stOf .Quoted_spelling) l_46 c_46 k_46).binds fun _ _ _ _ _ _ us hl => match us, hl with | [_, _], _ => rfl
      | Plain_spelling => exact (fun_mk (st := stOf .Plain_spelling) l_47 c_47 k_47).binds fun _ _ _ _ _ _ us hl => match us, hl with | [_, _], _ => rfl
      | Line_spelling => exact (fun_mk (st := stOf .Line_spelling) l_48 c_48 k_48).binds fun _ _ _ _ _ _ us hl => match us, hl with | [_, _], _ => rfl
      | escaped => exact (fun_mk (st := stOf .escaped) l_49 c_49 k_49).binds fun _ _ _ _ _ _ us hl => match us, hl with | [_, _, _, _], _ => rfl
    m_l_cell_at := W.mg_of X G a_6
    m_l_class := W.mg_of X G a_37
    m_l_coded := W.mg_of X G a_23
    m_l_made := W.mg_of X G a_4
    m_l_mixed := W.mg_of X G a_8
    m_l_number_by := W.mg_of X G a_35
    m_l_odd := W.mg_of X G a_5
    m_l_refusals_made := W.mg_of X G a_2
    m_l_signs := W.mg_of X G a_38
    m_l_sorts := W.mg_of X G a_22
    m_l_text_by := W.mg_of X G a_33
    m_l_value_by := W.mg_of X G a_3
    m_l_way := W.mg_of X G a_7
    m_l_word_by := W.mg_of X G a_34
    m_escaped := W.mg_of X G a_49
    m_is_made_of := W.mg_of X G a_42
    m_is_short_number := W.mg_of X G a_43
    m_is_text := W.mg_of X G a_41
    m_signs := W.mg_of X G a_40
    m_signs_but := W.mg_of X G a_39
    m_way_of := W.mg_of X G a_1
    n_ValueError := W.mg_none_of X G n_ValueError
    n_abs := W.mg_none_of X G n_abs
    n_bool := W.mg_none_of X G n_bool
    n_int := W.mg_none_of X G n_int
    n_isinstance := W.mg_none_of X G n_isinstance
    n_len := W.mg_none_of X G n_len
    n_range := W.mg_none_of X G n_range
    n_str := W.mg_none_of X G n_str
    n_tuple := W.mg_none_of X G n_tuple
    u_FIGURES := _
    g_FIGURES := W.mg_of X G g_FIGURES
    r_FIGURES := ⟨t_FIGURES, by exact congrArg (fun z => Value.str z t_FIGURES) (by kernel_rfl)⟩
    u_LINE_LETTERS := _
    g_LINE_LETTERS := W.mg_of X G g_LINE_LETTERS
    r_LINE_LETTERS := ⟨t_LINE_LETTERS, by exact congrArg (fun z => Value.str z t_LINE_LETTERS) (by kernel_rfl)⟩
    u_LINE_SIGNS := _
    g_LINE_SIGNS := W.mg_of X G g_LINE_SIGNS
    r_LINE_SIGNS := ⟨t_LINE_SIGNS, by exact congrArg (fun z => Value.str z t_LINE_SIGNS) (by kernel_rfl)⟩
    u_LINE_STOPS := _
    g_LINE_STOPS := W.mg_of X G g_LINE_STOPS
    r_LINE_STOPS := ⟨t_LINE_STOPS, by exact congrArg (fun z => Value.str z t_LINE_STOPS) (by kernel_rfl)⟩
    u_MOST_SIGNS := _
    g_MOST_SIGNS := W.mg_of X G g_MOST_SIGNS
    r_MOST_SIGNS := ⟨t_MOST_SIGNS, by rfl⟩
    u_MOST_WORD_SIGNS := _
    g_MOST_WORD_SIGNS := W.mg_of X G g_MOST_WORD_SIGNS
    r_MOST_WORD_SIGNS := ⟨t_MOST_WORD_SIGNS, by rfl⟩
    u_NUMBER_SIGNS := _
    g_NUMBER_SIGNS := W.mg_of X G g_NUMBER_SIGNS
    r_NUMBER_SIGNS := ⟨t_NUMBER_SIGNS, by exact congrArg (fun z => Value.str z t_NUMBER_SIGNS) (by kernel_rfl)⟩
    u_PLAIN_LETTERS := _
    g_PLAIN_LETTERS := W.mg_of X G g_PLAIN_LETTERS
    r_PLAIN_LETTERS := ⟨t_PLAIN_LETTERS, by exact congrArg (fun z => Value.str z t_PLAIN_LETTERS) (by kernel_rfl)⟩
    u_PLAIN_SIGNS := _
    g_PLAIN_SIGNS := W.mg_of X G g_PLAIN_SIGNS
    r_PLAIN_SIGNS := ⟨t_PLAIN_SIGNS, by exact congrArg (fun z => Value.str z t_PLAIN_SIGNS) (by kernel_rfl)⟩
    u_PLAIN_STOPS := _
    g_PLAIN_STOPS := W.mg_of X G g_PLAIN_STOPS
    r_PLAIN_STOPS := ⟨t_PLAIN_STOPS, by exact congrArg (fun z => Value.str z t_PLAIN_STOPS) (by kernel_rfl)⟩
    u_QUOTED_LETTERS := _
    g_QUOTED_LETTERS := W.mg_of X G g_QUOTED_LETTERS
    r_QUOTED_LETTERS := ⟨t_QUOTED_LETTERS, by exact congrArg (fun z => Value.str z t_QUOTED_LETTERS) (by kernel_rfl)⟩
    u_QUOTED_SIGNS := _
    g_QUOTED_SIGNS := W.mg_of X G g_QUOTED_SIGNS
    r_QUOTED_SIGNS := ⟨t_QUOTED_SIGNS, by exact congrArg (fun z => Value.str z t_QUOTED_SIGNS) (by kernel_rfl)⟩
    u_SIGNS := _
    g_SIGNS := W.mg_of X G g_SIGNS
    r_SIGNS := ⟨t_SIGNS, by exact congrArg (fun z => Value.str z t_SIGNS) (by kernel_rfl)⟩
    u_WORD_SIGNS := _
    g_WORD_SIGNS := W.mg_of X G g_WORD_SIGNS
    r_WORD_SIGNS := ⟨t_WORD_SIGNS, by exact congrArg (fun z => Value.str z t_WORD_SIGNS) (by kernel_rfl)⟩
    cl_Word := ⟨pg_Word, hd_Word, po_Word, sa_Word⟩
    mk_Word := mk_Word
    in_Word := in_Word
    kp_Word := kp_Word
    mc_Word := W.mg_of X G aC_Word
    me_Word_begins := ⟨me_Word_begins, if_9, k_9⟩
    me_Word_coded := ⟨me_Word_coded, if_36, k_36⟩
    me_Word_ends := ⟨me_Word_ends, if_14, k_14⟩
    me_Word_fits := ⟨me_Word_fits, if_24, k_24⟩
    me_Word_is_void := ⟨me_Word_is_void, if_19, k_19⟩
    me_Word_spelling := ⟨me_Word_spelling, if_44, k_44⟩
    cl_Number := ⟨pg_Number, hd_Number, po_Number, sa_Number⟩
    mk_Number := mk_Number
    in_Number := in_Number
    kp_Number := kp_Number
    mc_Number := W.mg_of X G aC_Number
    me_Number_begins := ⟨me_Number_begins, if_10, k_10⟩
    me_Number_coded := ⟨me_Number_coded, if_36, k_36⟩
    me_Number_ends := ⟨me_Number_ends, if_15, k_15⟩
    me_Number_fits := ⟨me_Number_fits, if_25, k_25⟩
    me_Number_is_void := ⟨me_Number_is_void, if_19, k_19⟩
    me_Number_spelling := ⟨me_Number_spelling, if_45, k_45⟩
    cl_Quoted := ⟨pg_Quoted, hd_Quoted, po_Quoted, sa_Quoted⟩
    mk_Quoted := mk_Quoted
    in_Quoted := in_Quoted
    kp_Quoted := kp_Quoted
    mc_Quoted := W.mg_of X G aC_Quoted
    me_Quoted_begins := ⟨me_Quoted_begins, if_11, k_11⟩
    me_Quoted_coded := ⟨me_Quoted_coded, if_36, k_36⟩
    me_Quoted_ends := ⟨me_Quoted_ends, if_16, k_16⟩
    me_Quoted_fits := ⟨me_Quoted_fits, if_26, k_26⟩
    me_Quoted_is_void := ⟨me_Quoted_is_void, if_19, k_19⟩
    me_Quoted_spelling := ⟨me_Quoted_spelling, if_46, k_46⟩
    cl_Plain := ⟨pg_Plain, hd_Plain, po_Plain, sa_Plain⟩
    mk_Plain := mk_Plain
    in_Plain := in_Plain
    kp_Plain := kp_Plain
    mc_Plain := W.mg_of X G aC_Plain
    me_Plain_begins := ⟨me_Plain_begins, if_12, k_12⟩
    me_Plain_coded := ⟨me_Plain_coded, if_36, k_36⟩
    me_Plain_ends := ⟨me_Plain_ends, if_17, k_17⟩
    me_Plain_fits := ⟨me_Plain_fits, if_27, k_27⟩
    me_Plain_is_void := ⟨me_Plain_is_void, if_20, k_20⟩
    me_Plain_spelling := ⟨me_Plain_spelling, if_47, k_47⟩
    cl_Line := ⟨pg_Line, hd_Line, po_Line, sa_Line⟩
    mk_Line := mk_Line
    in_Line := in_Line
    kp_Line := kp_Line
    mc_Line := W.mg_of X G aC_Line
    me_Line_begins := ⟨me_Line_begins, if_13, k_13⟩
    me_Line_coded := ⟨me_Line_coded, if_36, k_36⟩
    me_Line_ends := ⟨me_Line_ends, if_18, k_18⟩
    me_Line_fits := ⟨me_Line_fits, if_28, k_28⟩
    me_Line_is_void := ⟨me_Line_is_void, if_21, k_21⟩
    me_Line_spelling := ⟨me_Line_spelling, if_48, k_48⟩ }
  exact ⟨W.fnOf "law" "law" (defArgs (stOf .law)) (defBody (stOf .law)) (defScope (stOf .law)) .none kV_0 dc_0 pm_0 an_0 cd_0 ct_0, fun s v => .of_eq rfl, fun base _ _ => (all_ok l.prog w Y 30 .law).imp (spLaw_imp hlaw)⟩
end K1
namespace K1
open PySem L2 L3
local macro_rules
  | `(tactic| simp only [EV]) => `(tactic| simp only [Res.bind_ok, Res.bind_exc, Res.bind_bad, eThen_ok, bThen_ok, lThen_ok, eThen_bad, bThen_bad, lThen_bad, List.getElem?_cons_zero, List.getElem?_cons_succ, List.getElem?_nil, List.set_cons_zero, List.set_cons_succ, List.map_cons, List.map_nil, List.append_nil, List.nil_append, List.cons_append, if_true, if_false, ite_true, ite_false, reduceIte, Bool.not_true, Bool.not_false, Bool.true_and, Bool.false_and, Bool.and_true, Bool.and_false, Bool.true_or, Bool.false_or, Bool.or_true, Bool.or_false, Bool.not_not, eq_self_iff_true, true_and, and_true, Bool.false_eq_true, reduceCtorEq, List.length_cons, List.length_nil, List.replicate, Nat.sub_self, Nat.zero_add, Option.isSome_some, Option.isSome_none, Nat.reduceAdd, Nat.reduceLeDiff, Int.reduceLT, Int.reduceLE, decide_true, decide_false, szl, Int.reduceNeg, Int.reducePow, Nat.reducePow, Int.reduceAdd, Int.reduceMul, Int.reduceSub, Nat.reduceSub, and_self, Nat.reduceMul, Nat.reduceEqDiff, ev_var, ev_K, ev_c1, ev_c2, ev_cN, ev_nil, ev_cons, ev_and, ev_not, ev_ifE, ev_sl, ev_oNone, ev_oSome, ev_cM, ev_call, ev_meth, ev_make, ev_get2, ev_tTru, ev_tCmp, ev_tNot, ev_tOr, ev_range1, ev_aSeq, ev_aComp, ev_sNil, ev_sSeq, ev_sRet, ev_sDrop, ev_sIf, ev_sSet, ev_sFor, ev_loop0, ev_gNm, dr_int, dr_bl, dr_str, dr_non, dr_tup, dr_lst, dr_giv, dr_dct, dr_ins, dr_ref0, add_ii, add_ss, add_ll, sub_ii, mul_ii, mul_si, pI_ii, neg_i, cmp_ii, ix_si, ix_ti, ix_li, ix_gi, sl_s, len_s, len_t, len_l, len_g, lst_mk, lstM_mk, tup_mk, okL_mk, int_b, abs_i, str_i, seqIt_s, find_ss, isStr_s, frz_int, frz_bl, frz_non, frz_str, frz_ins, frzs_nil, frzs_cons, notin_ss, tru_b, isin_s_str, isin_s_int, isin_s_bool, isin_i_str, isin_i_int, isin_i_bool, isin_b_str, isin_b_int, isin_b_bool, isin_n_str, isin_n_int, isin_n_bool, isin_t_str, isin_t_int, isin_t_bool, isin_t_tuple, isin_l_str, isin_l_int, isin_l_bool, isin_d_str, isin_d_int, isin_d_bool, eqU_s])
  | `(tactic| simp only [EV, $xs,*]) => `(tactic| simp only [Res.bind_ok, Res.bind_exc, Res.bind_bad, eThen_ok, bThen_ok, lThen_ok, eThen_bad, bThen_bad, lThen_bad, List.getElem?_cons_zero, List.getElem?_cons_succ, List.getElem?_nil, List.set_cons_zero, List.set_cons_succ, List.map_cons, List.map_nil, List.append_nil, List.nil_append, List.cons_append, if_true, if_false, ite_true, ite_false, reduceIte, Bool.not_true, Bool.not_false, Bool.true_and, Bool.false_and, Bool.and_true, Bool.and_false, Bool.true_or, Bool.false_or, Bool.or_true, Bool.or_false, Bool.not_not, eq_self_iff_true, true_and, and_true, Bool.false_eq_true, reduceCtorEq, List.length_cons, List.length_nil, List.replicate, Nat.sub_self, Nat.zero_add, Option.isSome_some, Option.isSome_none, Nat.reduceAdd, Nat.reduceLeDiff, Int.reduceLT, Int.reduceLE, decide_true, decide_false, szl, Int.reduceNeg, Int.reducePow, Nat.reducePow, Int.reduceAdd, Int.reduceMul, Int.reduceSub, Nat.reduceSub, and_self, Nat.reduceMul, Nat.reduceEqDiff, ev_var, ev_K, ev_c1, ev_c2, ev_cN, ev_nil, ev_cons, ev_and, ev_not, ev_ifE, ev_sl, ev_oNone, ev_oSome, ev_cM, ev_call, ev_meth, ev_make, ev_get2, ev_tTru, ev_tCmp, ev_tNot, ev_tOr, ev_range1, ev_aSeq, ev_aComp, ev_sNil, ev_sSeq, ev_sRet, ev_sDrop, ev_sIf, ev_sSet, ev_sFor, ev_loop0, ev_gNm, dr_int, dr_bl, dr_str, dr_non, dr_tup, dr_lst, dr_giv, dr_dct, dr_ins, dr_ref0, add_ii, add_ss, add_ll, sub_ii, mul_ii, mul_si, pI_ii, neg_i, cmp_ii, ix_si, ix_ti, ix_li, ix_gi, sl_s, len_s, len_t, len_l, len_g, lst_mk, lstM_mk, tup_mk, okL_mk, int_b, abs_i, str_i, seqIt_s, find_ss, isStr_s, frz_int, frz_bl, frz_non, frz_str, frz_ins, frzs_nil, frzs_cons, notin_ss, tru_b, isin_s_str, isin_s_int, isin_s_bool, isin_i_str, isin_i_int, isin_i_bool, isin_b_str, isin_b_int, isin_b_bool, isin_n_str, isin_n_int, isin_n_bool, isin_t_str, isin_t_int, isin_t_bool, isin_t_tuple, isin_l_str, isin_l_int, isin_l_bool, isin_d_str, isin_d_int, isin_d_bool, eqU_s, $xs,*])
theorem made_loop (C : Fn → List PV → Out) (t : PV) (al : List Nat) (h : List L3.PO) : ∀ (l : List Nat) (o : Option PV), ∃ o', loopS (gNm 2) (w_is_made_of_1 C) (l.map fun c => PV.str [c]) [some t, some (.str al), o] h = if l.all al.contains = true then .nx [some t, some (.str al), o'] h else .rt (.bl false) h
  | [], o => ⟨o, by simp⟩
  | c :: r, o => by
    obtain ⟨o', e⟩ := made_loop C t al h r (some (.str [c]))
    refine ⟨o', ?_⟩
    rw [List.map_cons, ev_loop, List.all_cons]
    cases hc : al.contains c with
    | true =>
      simp only [EV, w_is_made_of_1, inStr_one, hc]
      simpa only [w_is_made_of_1, Bool.true_and] using e
    | false => simp only [EV, w_is_made_of_1, inStr_one, hc]
theorem made (k : Nat) (l al : List Nat) : F (k + 1) .is_made_of [.str l, .str al] = .ok (.bl (l.all al.contains)) := by
  obtain ⟨o', e⟩ := made_loop (F k) (.str l) al [] l none
  show runF (b_is_made_of (F k)) 2 3 [.str l, .str al] = _
  cases q : l.all al.contains with
  | true => simp only [EV, runF, b_is_made_of, e, q, finO]
  | false => simp only [EV, runF, b_is_made_of, e, q, finO]
theorem is_text_s (k : Nat) (l : List Nat) (n : Int) (hl : l.length ≤ 16777216) : F (k + 2) .is_text [.str l, .int n] = .ok (.bl (decide ((l.length : Int) ≤ n) && l.all q_e84fa8.contains)) := by
  have e := made k l q_e84fa8
  show runF (b_is_text (F (k + 1))) 2 2 [.str l, .int n] = _
  cases q : decide ((l.length : Int) ≤ n) with
  | true =>
    simp only [EV, runF, b_is_text, callO_def, hl, q, e, finO]
  | false =>
    simp only [EV, runF, b_is_text, callO_def, hl, q, e, finO]
def cellA (ns : List Int) (j : Nat) : Int := ns.getD j 0
theorem cell_at (k : Nat) (ns : List Int) (j : Nat) : F (k + 1) .l_cell_at [.giv (ns.map PV.int), .int j] = .ok (.int (cellA ns j)) := by
  show runF (b_l_cell_at (F k)) 2 2 [.giv (ns.map PV.int), .int j] = _
  by_cases q : j < ns.length
  · have e : atI (ns.map PV.int) (j : Int) = some (.int (cellA ns j)) := by
      refine atI_at (by omega) ?_
      unfold cellA
      simp [q]
    have q' : decide ((j : Int) < ((ns.map PV.int).length : Int)) = true := by simpa using q
    simp only [EV, runF, b_l_cell_at, q', e, finO]
  · have q' : decide ((j : Int) < ((ns.map PV.int).length : Int)) = false := by simpa using q
    have e : cellA ns j = 0 := by unfold cellA; rw [List.getD_eq_getElem?_getD, List.getElem?_eq_none (by omega)]; rfl
    simp only [EV, runF, b_l_cell_at, q', e, finO]
def mix (c j : Int) : Int := (c + 31 * j * j + 7) * 48271 % 2147483647
theorem mix_range (c j : Int) : 0 ≤ mix c j ∧ mix c j < 2147483647 := ⟨Int.emod_nonneg _ (by decide), Int.emod_lt_of_pos _ (by decide)⟩
theorem mixed (k : Nat) (c : Int) (j : Nat) (hj : j ≤ 1000000) : F (k + 1) .l_mixed [.int c, .int j] = .ok (.int (mix c j)) := by
  show runF (b_l_mixed (F k)) 2 2 [.int c, .int j] = _
  have m1 : mulC 31 (j : Int) = true := mulC_l rfl
  have m2 : mulC (31 * (j : Int)) (j : Int) = true := mulC_r (bel_iff.mpr (by omega))
  have m3 : ∀ x : Int, mulC x 48271 = true := fun x => mulC_r rfl
  simp only [EV, runF, b_l_mixed, m1, m2, m3, finO, decide_true, Int.reduceLT]
  rfl
theorem l_signs_eq (k : Nat) : F (k + 1) .l_signs [] = .ok (.str q_e84fa8) := by
  show runF (b_l_signs (F k)) 0 1 [] = _
  have e1 : q_d08fa1.length + q_dae21e.length ≤ 16777216 := by decide
  have e2 : q_d08fa1 ++ q_dae21e = q_e84fa8 := by decide +kernel
  simp only [EV, runF, b_l_signs, e1, e2, finO]
theorem ix3 {m : Int} {a b c : PV} (t : Bool) : ∃ v, (v = a ∨ v = b ∨ v = c) ∧ atI [a, b, c] (m % 3 * (if t = true then 1 else 0)) = some v := by
  have h1 : 0 ≤ m % 3 := Int.emod_nonneg _ (by decide)
  have h2 : m % 3 < 3 := Int.emod_lt_of_pos _ (by decide)
  cases t with
  | false => exact ⟨a, .inl rfl, by simp; rfl⟩
  | true =>
    have : m % 3 = 0 ∨ m % 3 = 1 ∨ m % 3 = 2 := by omega
    rcases this with e | e | e
    · exact ⟨a, .inl rfl, by rw [e]; rfl⟩
    · exact ⟨b, .inr (.inl rfl), by rw [e]; rfl⟩
    · exact ⟨c, .inr (.inr rfl), by rw [e]; rfl⟩
theorem ix4 {m : Int} {a b c d : PV} (t : Bool) : ∃ v, (v = a ∨ v = b ∨ v = c ∨ v = d) ∧ atI [a, b, c, d] (m % 4 * (if t = true then 1 else 0)) = some v := by
  have h1 : 0 ≤ m % 4 := Int.emod_nonneg _ (by decide)
  have h2 : m % 4 < 4 := Int.emod_lt_of_pos _ (by decide)
  cases t with
  | false => exact ⟨a, .inl rfl, by simp; rfl⟩
  | true =>
    have : m % 4 = 0 ∨ m % 4 = 1 ∨ m % 4 = 2 ∨ m % 4 = 3 := by omega
    rcases this with e | e | e | e
    · exact ⟨a, .inl rfl, by rw [e]; rfl⟩
    · exact ⟨b, .inr (.inl rfl), by rw [e]; rfl⟩
    · exact ⟨c, .inr (.inr (.inl rfl)), by rw [e]; rfl⟩
    · exact ⟨d, .inr (.inr (.inr rfl)), by rw [e]; rfl⟩
def wordC (m : Int) (j : Nat) : Nat := q_76658d.getD (mix (m / 7) j / 3 % 62).toNat 0
theorem wordC_mem (m : Int) (j : Nat) : wordC m j ∈ q_46cf18 := by
  have h : wordC m j ∈ q_76658d := by
    refine getD_mem ?_
    have h1 : 0 ≤ mix (m / 7) j / 3 % 62 := Int.emod_nonneg _ (by decide)
    have h2 : mix (m / 7) j / 3 % 62 < 62 := Int.emod_lt_of_pos _ (by decide)
    have h3 : q_76658d.length = 62 := by decide
    omega
  have all : ∀ c ∈ q_76658d, c ∈ q_46cf18 := by decide +kernel
  exact all _ h
theorem word_elt (k : Nat) (m : Int) (j : Nat) (hj : j ≤ 1000) (h : List L3.PO) : e_l_word_by_1 (F (k + 1)) [some (.int (j : Int)), some (.str q_76658d), some (.int m)] h = .ok (.str [wordC m j]) h := by
  have e := mixed k (m / 7) j (by omega)
  have h1 : 0 ≤ mix (m / 7) j / 3 % 62 := Int.emod_nonneg _ (by decide)
  have h2 : mix (m / 7) j / 3 % 62 < 62 := Int.emod_lt_of_pos _ (by decide)
  have h3 : q_76658d.length = 62 := by decide
  have e2 : atI q_76658d (mix (m / 7) j / 3 % 62) = some (wordC m j) := atI_getD 0 h1 (by rw [h3]; exact h2)
  simp only [EV, e_l_word_by_1, callO_def, e, e2, h3]
theorem word_by (k : Nat) (m : Int) (h0 : 0 ≤ m) : ∃ l, F (k + 2) .l_word_by [.int m] = .ok (.str l) ∧ 1 ≤ l.length ∧ l.length ≤ 40 ∧ ∀ c ∈ l, c ∈ q_46cf18 := by
  obtain ⟨v, hv, e⟩ := ix3 (m := m / 40) (a := .int (1 + m % 7)) (b := .int (1 + m % 40)) (c := .int 40) (decide (m / 120 % 3 = 1))
  have hn : ∃ n : Nat, v = .int n ∧ 1 ≤ n ∧ n ≤ 40 := by
    have a1 : 0 ≤ m % 7 := Int.emod_nonneg _ (by decide)
    have a2 : m % 7 < 7 := Int.emod_lt_of_pos _ (by decide)
    have a3 : 0 ≤ m % 40 := Int.emod_nonneg _ (by decide)
    have a4 : m % 40 < 40 := Int.emod_lt_of_pos _ (by decide)
    rcases hv with rfl | rfl | rfl
    · exact ⟨(1 + m % 7).toNat, by congr 1; omega, by omega, by omega⟩
    · exact ⟨(1 + m % 40).toNat, by congr 1; omega, by omega, by omega⟩
    · exact ⟨40, rfl, by omega, by omega⟩
  obtain ⟨n, rfl, n1, n2⟩ := hn
  refine ⟨(List.range n).map (wordC m), ?_, by simpa using n1, by simpa using n2, fun c hc => ?_⟩
  · show runF (b_l_word_by (F (k + 1))) 1 3 [.int m] = _
    have m1 : mulC (m / 40 % 3) (if decide (m / 120 % 3 = 1) = true then 1 else 0) = true := mulC_r (by split <;> rfl)
    have b1 : bel 4611686018427387904 (n : Int) = true := bel_iff.mpr (by omega)
    have cm : ∀ h, compL tYesE (e_l_word_by_1 (F (k + 1))) (capP [1, 0] [some (.int m), some (.str q_76658d), some (.int (n : Int))]) ((List.range n).map fun i => PV.int (0 + (i : Nat))) h = .ok (((List.range n).map (fun j => [wordC m j])).map PV.str) h := by
      intro h
      rw [compL_map (f := fun p => match p with | .int j => .str [wordC m j.toNat] | _ => .non)]
      · simp [Function.comp_def]
      · intro p hp
        obtain ⟨j, hj, rfl⟩ := List.mem_map.mp hp
        have := word_elt k m j (by have := List.mem_range.mp hj; omega) h
        simpa [capP] using this
    have jn : ∀ h, pJoin (.str []) [.lst (((List.range n).map (fun j => [wordC m j])).map PV.str)] h = .ok (.str ((List.range n).map (fun j => [wordC m j])).flatten) h := fun h => pJoin_l (by
      rw [sum_one _ (fun _ => rfl), List.length_range]; omega)
    have fl : ((List.range n).map (fun j => [wordC m j])).flatten = (List.range n).map (wordC m) := by
      induction (List.range n) with
      | nil => rfl
      | cons a r ih => simp [ih]
    have ln : ((List.range n).map fun i => PV.int (0 + (i : Nat))).length < 16777216 := by simp; omega
    have tn : ((n : Int)).toNat = n := by omega
    simp only [EV, runF, b_l_word_by, pEq_ii, finO, m1, e, b1, cm, jn, fl, ln, tn]
  · obtain ⟨j, _, rfl⟩ := List.mem_map.mp hc
    exact wordC_mem m j
theorem signs_eq (k : Nat) : F (k + 1) .signs [] = .ok (.str q_e84fa8) := by
  show runF (b_signs (F k)) 0 0 [] = _
  simp only [EV, runF, b_signs, finO]
def numL (m : Int) : List Int := [m % 201 - 100, m % 100003, 0, 0 - m % 1000000007, 999999999999999999999999999999 - m % 2, m * 5429316803059692481 % 1000000000000000000000000000000, -999999999999999999999999999999]
theorem numL_ok (m : Int) : ∀ v ∈ numL m, -1000000000000000000000000000000 < v ∧ v < 1000000000000000000000000000000 := by
  intro v hv
  simp only [numL, List.mem_cons, List.not_mem_nil, or_false] at hv
  have a1 : 0 ≤ m % 201 := Int.emod_nonneg _ (by decide)
  have a2 : m % 201 < 201 := Int.emod_lt_of_pos _ (by decide)
  have b1 : 0 ≤ m % 100003 := Int.emod_nonneg _ (by decide)
  have b2 : m % 100003 < 100003 := Int.emod_lt_of_pos _ (by decide)
  have c1 : 0 ≤ m % 1000000007 := Int.emod_nonneg _ (by decide)
  have c2 : m % 1000000007 < 1000000007 := Int.emod_lt_of_pos _ (by decide)
  have d1 : 0 ≤ m % 2 := Int.emod_nonneg _ (by decide)
  have d2 : m % 2 < 2 := Int.emod_lt_of_pos _ (by decide)
  have e1 : 0 ≤ m * 5429316803059692481 % 1000000000000000000000000000000 := Int.emod_nonneg _ (by decide)
  have e2 : m * 5429316803059692481 % 1000000000000000000000000000000 < 1000000000000000000000000000000 := Int.emod_lt_of_pos _ (by decide)
  rcases hv with h | h | h | h | h | h | h <;> omega
theorem number_by (k : Nat) (m : Int) : ∃ v : Int, F (k + 1) .l_number_by [.int m] = .ok (.int v) ∧ -1000000000000000000000000000000 < v ∧ v < 1000000000000000000000000000000 := by
  have h1 : 0 ≤ m / 5 % 7 := Int.emod_nonneg _ (by decide)
  have h2 : m / 5 % 7 < 7 := Int.emod_lt_of_pos _ (by decide)
  have e : atI ((numL m).map PV.int) (m / 5 % 7) = some (.int ((numL m).getD (m / 5 % 7).toNat 0)) := by
    refine atI_at h1 ?_
    rw [List.getElem?_map, List.getD_eq_getElem?_getD, List.getElem?_eq_getElem (by simp [numL]; omega)]; rfl
  simp only [numL, List.map_cons, List.map_nil] at e
  refine ⟨(numL m).getD (m / 5 % 7).toNat 0, ?_, numL_ok m _ (L3.getD_mem (by simp [numL]; omega))⟩
  show runF (b_l_number_by (F k)) 1 3 [.int m] = _
  have m1 : ∀ x : Int, mulC x 5429316803059692481 = true := fun x => mulC_r rfl
  have p1 : decide (Int.natAbs 10 < 18446744073709551616) = true := rfl
  have p2 : decide (Int.natAbs 48271 < 18446744073709551616) = true := rfl
  simp only [EV, runF, b_l_number_by, finO, m1, e, p1, p2, Int.reduceToNat]
  rfl
def textC (m : Int) (j : Nat) : Nat := if mix (m / 5) j % 2 * (m / 7 % 2) = 0 then q_e84fa8.getD (mix (m / 5) j / 3 % 95).toNat 0 else q_f0ad16.getD (mix (m / 5) j / 3 % 21).toNat 0
theorem textC_mem (m : Int) (j : Nat) : textC m j ∈ q_e84fa8 := by
  have a1 : 0 ≤ mix (m / 5) j / 3 % 95 := Int.emod_nonneg _ (by decide)
  have a2 : mix (m / 5) j / 3 % 95 < 95 := Int.emod_lt_of_pos _ (by decide)
  have b1 : 0 ≤ mix (m / 5) j / 3 % 21 := Int.emod_nonneg _ (by decide)
  have b2 : mix (m / 5) j / 3 % 21 < 21 := Int.emod_lt_of_pos _ (by decide)
  have l1 : q_e84fa8.length = 95 := by decide
  have l2 : q_f0ad16.length = 21 := by decide
  have all : ∀ c ∈ q_f0ad16, c ∈ q_e84fa8 := by decide +kernel
  unfold textC
  split
  · exact L3.getD_mem (by omega)
  · exact all _ (L3.getD_mem (by omega))
theorem text_turn (k : Nat) (m : Int) (j : Nat) (hj : j ≤ 1000) (a b c : Option PV) (o2 : Option PV) (xs : List PV) (hx : xs.length < 16777216) :
    w_l_text_by_1 (F (k + 1)) [some (.int m), a, some (.str q_e84fa8), b, some (.ref 0), some (.int (j : Int)), o2] [.lst xs] = .nx [some (.int m), a, some (.str q_e84fa8), b, some (.ref 0), some (.int (j : Int)), some (.int (mix (m / 5) j))] [.lst (xs ++ [.str [textC m j]])] := by
  have e := mixed k (m / 5) j (by omega)
  have a1 : 0 ≤ mix (m / 5) j / 3 % 95 := Int.emod_nonneg _ (by decide)
  have a2 : mix (m / 5) j / 3 % 95 < 95 := Int.emod_lt_of_pos _ (by decide)
  have b1 : 0 ≤ mix (m / 5) j / 3 % 21 := Int.emod_nonneg _ (by decide)
  have b2 : mix (m / 5) j / 3 % 21 < 21 := Int.emod_lt_of_pos _ (by decide)
  have l1 : q_e84fa8.length = 95 := by decide
  have l2 : q_f0ad16.length = 21 := by decide
  have e1 : atI q_e84fa8 (mix (m / 5) j / 3 % 95) = some (q_e84fa8.getD (mix (m / 5) j / 3 % 95).toNat 0) := atI_getD 0 a1 (by rw [l1]; exact a2)
  have e2 : atI q_f0ad16 (mix (m / 5) j / 3 % 21) = some (q_f0ad16.getD (mix (m / 5) j / 3 % 21).toNat 0) := atI_getD 0 b1 (by rw [l2]; exact b2)
  have c1 : 0 ≤ mix (m / 5) j % 2 := Int.emod_nonneg _ (by decide)
  have c2 : mix (m / 5) j % 2 < 2 := Int.emod_lt_of_pos _ (by decide)
  have d1 : 0 ≤ m / 7 % 2 := Int.emod_nonneg _ (by decide)
  have d2 : m / 7 % 2 < 2 := Int.emod_lt_of_pos _ (by decide)
  have mm : mulC (mix (m / 5) j % 2) (m / 7 % 2) = true := mulC_r (bel_iff.mpr (by omega))
  have e3 : atI [PV.str [q_e84fa8.getD (mix (m / 5) j / 3 % 95).toNat 0], PV.str [q_f0ad16.getD (mix (m / 5) j / 3 % 21).toNat 0]] (mix (m / 5) j % 2 * (m / 7 % 2)) = some (.str [textC m j]) := by
    unfold textC
    have : mix (m / 5) j % 2 = 0 ∨ mix (m / 5) j % 2 = 1 := by omega
    have : m / 7 % 2 = 0 ∨ m / 7 % 2 = 1 := by omega
    rcases ‹mix (m / 5) j % 2 = 0 ∨ mix (m / 5) j % 2 = 1› with p | p <;> rcases this with q | q <;> rw [p, q] <;> rfl
  simp only [EV, w_l_text_by_1, callO_def, e, e1, e2, e3, mm, l1, l2, dr_ref0, app0, isLst0, hx]
theorem text_loop (k : Nat) (m : Int) (a b : Option PV) : ∀ (js : List Nat), (∀ j ∈ js, j ≤ 1000) → ∀ (o1 o2 : Option PV) (xs : List PV), xs.length + js.length < 16777216 → ∃ o1' o2',
    loopS (gNm 5) (w_l_text_by_1 (F (k + 1))) (js.map fun i => PV.int (0 + (i : Nat))) [some (.int m), a, some (.str q_e84fa8), b, some (.ref 0), o1, o2] [.lst xs] = .nx [some (.int m), a, some (.str q_e84fa8), b, some (.ref 0), o1', o2'] [.lst (xs ++ js.map fun j => .str [textC m j])]
  | [], _, o1, o2, xs, _ => ⟨o1, o2, by simp only [EV]⟩
  | j :: r, hj, o1, o2, xs, hx => by
    simp only [List.length_cons] at hx
    obtain ⟨p, q, e⟩ := text_loop k m a b r (fun i hi => hj i (List.mem_cons_of_mem _ hi)) (some (.int (j : Int))) (some (.int (mix (m / 5) j))) (xs ++ [.str [textC m j]]) (by simp; omega)
    refine ⟨p, q, ?_⟩
    have t := text_turn k m j (hj j List.mem_cons_self) a b none o2 xs (by omega)
    rw [List.map_cons, ev_loop]
    simp only [ev_gNm, List.set_cons_zero, List.set_cons_succ, Int.zero_add, t]
    simp only [Int.zero_add] at e
    rw [e]
    simp
theorem text_by (k : Nat) (m : Int) (most : Nat) (h9 : 8 ≤ most) (hm : most ≤ 1000) : ∃ l, F (k + 2) .l_text_by [.int m, .int most] = .ok (.str l) ∧ l.length ≤ most ∧ ∀ c ∈ l, c ∈ q_e84fa8 := by
  obtain ⟨v, hv, e⟩ := ix4 (m := m / 9) (a := .int (m % 9)) (b := .int (m % 9)) (c := .int (m % ((most : Int) + 1))) (d := .int ((most : Int) - m % 2)) (decide (m / 36 % 3 = 1))
  have hn : ∃ n : Nat, v = .int n ∧ n ≤ most := by
    have a1 : 0 ≤ m % 9 := Int.emod_nonneg _ (by decide)
    have a2 : m % 9 < 9 := Int.emod_lt_of_pos _ (by decide)
    have a3 : 0 ≤ m % ((most : Int) + 1) := Int.emod_nonneg _ (by omega)
    have a4 : m % ((most : Int) + 1) < (most : Int) + 1 := Int.emod_lt_of_pos _ (by omega)
    have a5 : 0 ≤ m % 2 := Int.emod_nonneg _ (by decide)
    have a6 : m % 2 < 2 := Int.emod_lt_of_pos _ (by decide)
    rcases hv with rfl | rfl | rfl | rfl
    · exact ⟨(m % 9).toNat, by congr 1; omega, by omega⟩
    · exact ⟨(m % 9).toNat, by congr 1; omega, by omega⟩
    · exact ⟨(m % ((most : Int) + 1)).toNat, by congr 1; omega, by omega⟩
    · exact ⟨((most : Int) - m % 2).toNat, by congr 1; omega, by omega⟩
  obtain ⟨n, rfl, n1⟩ := hn
  refine ⟨(List.range n).map (textC m), ?_, by simpa using n1, fun c hc => ?_⟩
  · show runF (b_l_text_by (F (k + 1))) 2 7 [.int m, .int most] = _
    obtain ⟨p, q, lp⟩ := text_loop k m (some (.int (most : Int))) (some (.int (n : Int))) (List.range n) (fun j hj => by have := List.mem_range.mp hj; omega) none none [] (by simp; omega)
    have s1 := l_signs_eq k
    have m1 : mulC (m / 9 % 4) (if decide (m / 36 % 3 = 1) = true then 1 else 0) = true := mulC_r (by split <;> rfl)
    have b1 : bel 4611686018427387904 (n : Int) = true := bel_iff.mpr (by omega)
    have tn : ((n : Int)).toNat = n := by omega
    have ps : decide ((0 : Int) < (most : Int) + 1) = true := decide_eq_true (by omega)
    have mp : ((List.range n).map fun j => PV.str [textC m j]) = ((List.range n).map (fun j => [textC m j])).map PV.str := by simp [Function.comp_def]
    have jn : ∀ r, pJoin (.str []) [.ref 0] (.lst (((List.range n).map (fun j => [textC m j])).map PV.str) :: r) = .ok (.str ((List.range n).map (fun j => [textC m j])).flatten) (.lst (((List.range n).map (fun j => [textC m j])).map PV.str) :: r) := fun r => pJoin_r (by
      rw [sum_one _ (fun _ => rfl), List.length_range]; omega)
    have fl : ((List.range n).map (fun j => [textC m j])).flatten = (List.range n).map (textC m) := by
      induction (List.range n) with
      | nil => rfl
      | cons a r ih => simp [ih]
    rw [List.nil_append, mp] at lp
    simp only [EV, runF, b_l_text_by, callO_def, s1, pEq_ii, finO, m1, e, b1, tn, ps, lp, jn, fl]
  · obtain ⟨j, _, rfl⟩ := List.mem_map.mp hc
    exact textC_mem m j
theorem first_lt {c : Nat} {raw : List Nat} {i : Nat} (h : firstFrom [c] raw 0 = some i) : i < raw.length := by
  unfold firstFrom at h
  have h2 := List.find?_some h
  have h1 := List.mem_of_find?_eq_some h
  simp only [Bool.and_eq_true] at h2
  have := (List.isPrefixOf_iff_prefix.mp h2.2).length_le
  simp only [List.length_cons, List.length_nil, List.length_drop] at this
  omega
theorem esc_turn (C : Fn → List PV → Out) (t : PV) (mark raw letters : List Nat) (hl : raw.length ≤ letters.length) (hz : letters.length ≤ 1000) (hm : mark.length ≤ 1000) (c : Nat) (o2 : Option PV) (xs : List PV) (hx : xs.length < 16777216) : ∃ o2',
    w_escaped_1 C [some t, some (.str mark), some (.str raw), some (.str letters), some (.ref 0), some (.str [c]), o2] [.lst xs] = .nx [some t, some (.str mark), some (.str raw), some (.str letters), some (.ref 0), some (.str [c]), o2'] [.lst (xs ++ [.str (esc1 mark raw letters c)])] := by
  refine ⟨some (.int (findI (firstFrom [c] raw 0))), ?_⟩
  unfold esc1
  cases q : firstFrom [c] raw 0 with
  | none =>
    have d : decide ((-1 : Int) < 0) = true := by decide
    simp only [EV, w_escaped_1, q, findI, d, dr_ref0, app0, isLst0, hx]
  | some i =>
    have hi := first_lt q
    have d : decide ((i : Int) < 0) = false := decide_eq_false (by omega)
    have e : atI letters (i : Int) = some (letters.getD i 0) := by
      have := atI_getD (xs := letters) (i := (i : Int)) 0 (by omega) (by omega)
      simpa using this
    have z1 : letters.length ≤ 16777216 := by omega
    have z2 : mark.length + 1 ≤ 16777216 := by omega
    simp only [EV, w_escaped_1, q, findI, d, e, z1, z2, dr_ref0, app0, isLst0, hx]
theorem esc_loop (C : Fn → List PV → Out) (t : PV) (mark raw letters : List Nat) (hl : raw.length ≤ letters.length) (hz : letters.length ≤ 1000) (hm : mark.length ≤ 1000) : ∀ (l : List Nat) (o1 o2 : Option PV) (xs : List PV), xs.length + l.length < 16777216 → ∃ o1' o2',
    loopS (gNm 5) (w_escaped_1 C) (l.map fun c => PV.str [c]) [some t, some (.str mark), some (.str raw), some (.str letters), some (.ref 0), o1, o2] [.lst xs] = .nx [some t, some (.str mark), some (.str raw), some (.str letters), some (.ref 0), o1', o2'] [.lst (xs ++ l.map fun c => .str (esc1 mark raw letters c))]
  | [], o1, o2, xs, _ => ⟨o1, o2, by simp only [EV]⟩
  | c :: r, o1, o2, xs, hx => by
    simp only [List.length_cons] at hx
    obtain ⟨o3, t1⟩ := esc_turn C t mark raw letters hl hz hm c o2 xs (by omega)
    obtain ⟨p, q, e⟩ := esc_loop C t mark raw letters hl hz hm r (some (.str [c])) o3 (xs ++ [.str (esc1 mark raw letters c)]) (by simp; omega)
    refine ⟨p, q, ?_⟩
    rw [List.map_cons, ev_loop]
    simp only [ev_gNm, List.set_cons_zero, List.set_cons_succ, t1]
    rw [e]
    simp
theorem esc1_len (mark raw letters : List Nat) (c : Nat) : (esc1 mark raw letters c).length ≤ mark.length + 1 := by
  unfold esc1
  split
  · simp
  · simp
theorem escaped_eq (k : Nat) (l mark raw letters : List Nat) (hl : raw.length ≤ letters.length) (hz : letters.length ≤ 1000) (hm : mark.length ≤ 1000) (hn : l.length ≤ 4000) : F (k + 1) .escaped [.str l, .str mark, .str raw, .str letters] = .ok (.str (escL mark raw letters l)) := by
  show runF (b_escaped (F k)) 4 7 [.str l, .str mark, .str raw, .str letters] = _
  obtain ⟨p, q, lp⟩ := esc_loop (F k) (.str l) mark raw letters hl hz hm l none none [] (by simp; omega)
  have mp : (l.map fun c => PV.str (esc1 mark raw letters c)) = (l.map (esc1 mark raw letters)).map PV.str := by simp [Function.comp_def]
  have jn : ∀ r, pJoin (.str []) [.ref 0] (.lst ((l.map (esc1 mark raw letters)).map PV.str) :: r) = .ok (.str (l.map (esc1 mark raw letters)).flatten) (.lst ((l.map (esc1 mark raw letters)).map PV.str) :: r) := fun r => pJoin_r (by
    have := sum_le (esc1 mark raw letters) (mark.length + 1) (esc1_len mark raw letters) l
    have : l.length * (mark.length + 1) ≤ 4000 * 1001 := Nat.mul_le_mul hn (by omega)
    omega)
  rw [List.nil_append, mp] at lp
  simp only [EV, runF, b_escaped, finO, lp, jn, escL]
theorem sub_all {l A B : List Nat} (h : ∀ c ∈ l, c ∈ A) (s : ∀ c ∈ A, c ∈ B) : l.all B.contains = true := by
  rw [List.all_eq_true]; intro c hc; simpa using s c (h c hc)
theorem all_of {l A : List Nat} (h : ∀ c ∈ l, c ∈ A) : l.all A.contains = true := sub_all h fun _ h => h
theorem SG_lt : ∀ c ∈ q_e84fa8, c < 1114112 := by decide +kernel
theorem WG_SG : ∀ c ∈ q_46cf18, c ∈ q_e84fa8 := by decide +kernel
theorem text_ok (k : Nat) (l : List Nat) (n : Nat) (ni : Int) (hi : ni = (n : Int)) (hl : l.length ≤ n) (hn : n ≤ 4000) (h : ∀ c ∈ l, c ∈ q_e84fa8) : F (k + 2) .is_text [.str l, .int ni] = .ok (.bl true) := by
  subst hi
  rw [is_text_s k l n (by omega), decide_eq_true (by omega), all_of h]; rfl
theorem word_fits (k : Nat) (l : List Nat) (h1 : 1 ≤ l.length) (h2 : l.length ≤ 40) (h : ∀ c ∈ l, c ∈ q_46cf18) : F (k + 3) .Word_fits [.ins 0 [], .str l] = .ok (.bl true) := by
  show runF (b_Word_fits (F (k + 2))) 2 2 [.ins 0 [], .str l] = _
  have e1 := text_ok k l 40 40 rfl h2 (by omega) (fun c hc => WG_SG c (h c hc))
  have e2 : F (k + 2) .is_made_of [.str l, .str q_46cf18] = .ok (.bl true) := by rw [made (k + 1)]; rw [all_of h]
  have e3 : pNe (.str l) (.str []) [] = .ok (.bl true) [] := by
    rw [pNe_ss _ _ _ (fun c hc => SG_lt c (WG_SG c (h c hc))) (by simp)]
    have : l ≠ [] := by intro z; subst z; simp at h1
    rw [decide_eq_false this]; rfl
  simp only [EV, runF, b_Word_fits, callO_def, e1, e2, e3, finO]
theorem number_fits (k : Nat) (v : Int) (h1 : -1000000000000000000000000000000 < v) (h2 : v < 1000000000000000000000000000000) : F (k + 2) .Number_fits [.ins 1 [], .int v] = .ok (.bl true) := by
  show runF (b_Number_fits (F (k + 1))) 2 2 [.ins 1 [], .int v] = _
  have e : F (k + 1) .is_short_number [.int v] = .ok (.bl true) := by
    show runF (b_is_short_number (F k)) 1 1 [.int v] = _
    have p1 : decide (Int.natAbs 10 < 18446744073709551616) = true := rfl
    have p2 : decide ((if v < 0 then -v else v) < 1000000000000000000000000000000) = true := decide_eq_true (by split <;> omega)
    simp only [EV, runF, b_is_short_number, finO, p1, p2, Int.reduceToNat]
  simp only [EV, runF, b_Number_fits, callO_def, e, finO]
theorem quoted_fits (k : Nat) (l : List Nat) (h2 : l.length ≤ 400) (h : ∀ c ∈ l, c ∈ q_e84fa8) : F (k + 3) .Quoted_fits [.ins 2 [], .str l] = .ok (.bl true) := by
  show runF (b_Quoted_fits (F (k + 2))) 2 2 [.ins 2 [], .str l] = _
  have e1 := text_ok k l 400 400 rfl h2 (by omega) h
  simp only [EV, runF, b_Quoted_fits, callO_def, e1, finO]
theorem plain_fits (k : Nat) (l : List Nat) (h2 : l.length ≤ 400) (h : ∀ c ∈ l, c ∈ q_e84fa8) : F (k + 3) .Plain_fits [.ins 3 [], .str l] = .ok (.bl true) := by
  show runF (b_Plain_fits (F (k + 2))) 2 2 [.ins 3 [], .str l] = _
  have e1 := text_ok k l 400 400 rfl h2 (by omega) h
  simp only [EV, runF, b_Plain_fits, callO_def, e1, finO]
theorem line_fits (k : Nat) (l : List Nat) (h2 : l.length ≤ 400) (h : ∀ c ∈ l, c ∈ q_e84fa8) : F (k + 3) .Line_fits [.ins 4 [], .str l] = .ok (.bl true) := by
  show runF (b_Line_fits (F (k + 2))) 2 2 [.ins 4 [], .str l] = _
  have e1 := text_ok k l 400 400 rfl h2 (by omega) h
  simp only [EV, runF, b_Line_fits, callO_def, e1, finO]
theorem log_small {v : Int} (h1 : -1000000000000000000000000000000 < v) (h2 : v < 1000000000000000000000000000000) : v.natAbs.log2 < 1920 := by
  have : v.natAbs < 2 ^ 100 := by
    have : (1000000000000000000000000000000 : Nat) < 2 ^ 100 := by decide
    omega
  by_cases q : v.natAbs = 0
  · rw [q]; decide
  · have := (Nat.log2_lt q).mpr this
    omega
abbrev QE : List Nat → List Nat := escL [94] [94, 34, 10] [94, 113, 110]
abbrev PEs : List Nat → List Nat := escL [126] [126, 60, 62, 38, 124, 10] [126, 108, 103, 97, 98, 110]
abbrev LE : List Nat → List Nat := escL [126] [126, 10] [126, 110]
theorem escL_len (mark raw letters l : List Nat) : (escL mark raw letters l).length ≤ l.length * (mark.length + 1) := by
  unfold escL
  rw [List.length_flatten]
  exact sum_le (esc1 mark raw letters) (mark.length + 1) (esc1_len mark raw letters) l
def but (l : List Nat) : List Nat := q_e84fa8.filter fun c => !l.contains c
theorem ones_flat (l : List Nat) : (l.map fun c => [c]).flatten = l := by
  induction l with
  | nil => rfl
  | cons a r ih => simp [ih]
theorem signs_but_eq (k : Nat) (l : List Nat) : F (k + 2) .signs_but [.str l] = .ok (.str (but l)) := by
  show runF (b_signs_but (F (k + 1))) 1 1 [.str l] = _
  have s1 := signs_eq k
  have cm : ∀ h, compL (t_signs_but_1 (F (k + 1))) (e_signs_but_1 (F (k + 1))) (capP [0] [some (.str l)]) (q_e84fa8.map fun c => PV.str [c]) h = .ok (((but l).map fun c => [c]).map PV.str) h := by
    intro h
    rw [compL_filter (t := fun p => match p with | .str [c] => !l.contains c | _ => false) (f := fun p => p)]
    · unfold but
      rw [List.map_id'', List.map_map, List.filter_map]
      · rfl
      · intro p; rfl
    · intro p hp
      obtain ⟨c, hc, rfl⟩ := List.mem_map.mp hp
      simp only [EV, t_signs_but_1, capP, Option.getD_some, inStr_one]
    · intro p hp
      obtain ⟨c, hc, rfl⟩ := List.mem_map.mp hp
      simp only [EV, e_signs_but_1]
  have hl : (but l).length ≤ 95 := Nat.le_trans (List.length_filter_le _ _) (by decide)
  have jn : ∀ h, pJoin (.str []) [.lst (((but l).map fun c => [c]).map PV.str)] h = .ok (.str ((but l).map fun c => [c]).flatten) h := fun h => pJoin_l (by
    rw [sum_one _ (fun _ => rfl)]; omega)
  have ln : (q_e84fa8.map fun c => PV.str [c]).length < 16777216 := by rw [List.length_map]; decide
  simp only [EV, runF, b_signs_but, callO_def, s1, cm, jn, ln, ones_flat, finO]
abbrev wW : List Nat := [119, 111, 114, 100]
abbrev wN : List Nat := [110, 117, 109, 98, 101, 114]
abbrev wQ : List Nat := [113, 117, 111, 116, 101, 100]
abbrev wP : List Nat := [112, 108, 97, 105, 110]
abbrev wL : List Nat := [108, 105, 110, 101]
abbrev FIG : List Nat := [48, 49, 50, 51, 52, 53, 54, 55, 56, 57]
theorem eqL (a b : List Nat) (r : Bool) (ha : ∀ c ∈ a, c < 1114112) (hb : ∀ c ∈ b, c < 1114112) (hr : decide (a = b) = r) (h : List L3.PO) : pEq (.str a) (.str b) h = .ok (.bl r) h := by rw [pEq_ss a b h ha hb, hr]
theorem qWW (h : List L3.PO) : pEq (.str wW) (.str wW) h = .ok (.bl true) h := eqL _ _ _ (by decide) (by decide) (by decide) h
theorem qNW (h : List L3.PO) : pEq (.str wN) (.str wW) h = .ok (.bl false) h := eqL _ _ _ (by decide) (by decide) (by decide) h
theorem qQW (h : List L3.PO) : pEq (.str wQ) (.str wW) h = .ok (.bl false) h := eqL _ _ _ (by decide) (by decide) (by decide) h
theorem qPW (h : List L3.PO) : pEq (.str wP) (.str wW) h = .ok (.bl false) h := eqL _ _ _ (by decide) (by decide) (by decide) h
theorem qLW (h : List L3.PO) : pEq (.str wL) (.str wW) h = .ok (.bl false) h := eqL _ _ _ (by decide) (by decide) (by decide) h
theorem qWN (h : List L3.PO) : pEq (.str wW) (.str wN) h = .ok (.bl false) h := eqL _ _ _ (by decide) (by decide) (by decide) h
theorem qNN (h : List L3.PO) : pEq (.str wN) (.str wN) h = .ok (.bl true) h := eqL _ _ _ (by decide) (by decide) (by decide) h
theorem qQN (h : List L3.PO) : pEq (.str wQ) (.str wN) h = .ok (.bl false) h := eqL _ _ _ (by decide) (by decide) (by decide) h
theorem qPN (h : List L3.PO) : pEq (.str wP) (.str wN) h = .ok (.bl false) h := eqL _ _ _ (by decide) (by decide) (by decide) h
theorem qLN (h : List L3.PO) : pEq (.str wL) (.str wN) h = .ok (.bl false) h := eqL _ _ _ (by decide) (by decide) (by decide) h
theorem qWQ (h : List L3.PO) : pEq (.str wW) (.str wQ) h = .ok (.bl false) h := eqL _ _ _ (by decide) (by decide) (by decide) h
theorem qNQ (h : List L3.PO) : pEq (.str wN) (.str wQ) h = .ok (.bl false) h := eqL _ _ _ (by decide) (by decide) (by decide) h
theorem qQQ (h : List L3.PO) : pEq (.str wQ) (.str wQ) h = .ok (.bl true) h := eqL _ _ _ (by decide) (by decide) (by decide) h
theorem qPQ (h : List L3.PO) : pEq (.str wP) (.str wQ) h = .ok (.bl false) h := eqL _ _ _ (by decide) (by decide) (by decide) h
theorem qLQ (h : List L3.PO) : pEq (.str wL) (.str wQ) h = .ok (.bl false) h := eqL _ _ _ (by decide) (by decide) (by decide) h
theorem qWP (h : List L3.PO) : pEq (.str wW) (.str wP) h = .ok (.bl false) h := eqL _ _ _ (by decide) (by decide) (by decide) h
theorem qNP (h : List L3.PO) : pEq (.str wN) (.str wP) h = .ok (.bl false) h := eqL _ _ _ (by decide) (by decide) (by decide) h
theorem qQP (h : List L3.PO) : pEq (.str wQ) (.str wP) h = .ok (.bl false) h := eqL _ _ _ (by decide) (by decide) (by decide) h
theorem qPP (h : List L3.PO) : pEq (.str wP) (.str wP) h = .ok (.bl true) h := eqL _ _ _ (by decide) (by decide) (by decide) h
theorem qLP (h : List L3.PO) : pEq (.str wL) (.str wP) h = .ok (.bl false) h := eqL _ _ _ (by decide) (by decide) (by decide) h
theorem qWL (h : List L3.PO) : pEq (.str wW) (.str wL) h = .ok (.bl false) h := eqL _ _ _ (by decide) (by decide) (by decide) h
theorem qNL (h : List L3.PO) : pEq (.str wN) (.str wL) h = .ok (.bl false) h := eqL _ _ _ (by decide) (by decide) (by decide) h
theorem qQL (h : List L3.PO) : pEq (.str wQ) (.str wL) h = .ok (.bl false) h := eqL _ _ _ (by decide) (by decide) (by decide) h
theorem qPL (h : List L3.PO) : pEq (.str wP) (.str wL) h = .ok (.bl false) h := eqL _ _ _ (by decide) (by decide) (by decide) h
theorem qLL (h : List L3.PO) : pEq (.str wL) (.str wL) h = .ok (.bl true) h := eqL _ _ _ (by decide) (by decide) (by decide) h
theorem but_len (l : List Nat) : (but l).length ≤ 95 := Nat.le_trans (List.length_filter_le _ _) (by decide)
theorem but_join (l : List Nat) (h : List L3.PO) : pJoin (.str []) [.lst (((but l).map fun c => [c]).map PV.str)] h = .ok (.str (but l)) h := by
  rw [pJoin_l (by rw [sum_one _ (fun _ => rfl)]; have := but_len l; omega), ones_flat]
theorem SG_ln : (q_e84fa8.map fun c => PV.str [c]).length < 16777216 := by rw [List.length_map]; decide
theorem head_ix {l : List Nat} (h : l ≠ []) : atI l 0 = some (l.headD 0) := by
  cases l with
  | nil => exact absurd rfl h
  | cons a r => exact atI_at (xs := a :: r) (j := 0) (Int.le_refl _) rfl
theorem head_mem {l : List Nat} (h : l ≠ []) : l.headD 0 ∈ l := by
  cases l with
  | nil => exact absurd rfl h
  | cons a r => simp
theorem str_nil {l : List Nat} (h : l ≠ []) (hl : ∀ c ∈ l, c < 1114112) (hh : List L3.PO) : pEq (.str l) (.str []) hh = .ok (.bl false) hh := by
  rw [pEq_ss _ _ _ hl (by simp), decide_eq_false h]
theorem but_no {l : List Nat} {c : Nat} (h : c ∈ l) : (but l).contains c = false := by
  unfold but
  rw [Bool.eq_false_iff]
  intro q
  have : c ∈ q_e84fa8.filter fun c => !l.contains c := by simpa using q
  obtain ⟨_, h2⟩ := List.mem_filter.mp this
  simp [h] at h2
theorem but_in {l : List Nat} {c : Nat} (h : c ∈ q_e84fa8) (h2 : c ∉ l) : (but l).contains c = true := by
  unfold but
  simp [h, h2]
theorem esc_mem {mark raw letters l A : List Nat} {P : Nat → Prop} (h : ∀ c ∈ l, c ∈ A) (ha : ∀ c ∈ A, ∀ x ∈ esc1 mark raw letters c, P x) : ∀ x ∈ escL mark raw letters l, P x := by
  intro x hx
  unfold escL at hx
  obtain ⟨e, he, hxe⟩ := List.mem_flatten.mp hx
  obtain ⟨c, hc, rfl⟩ := List.mem_map.mp he
  exact ha c (h c hc) x hxe
theorem dig_mem {n c : Nat} (h : c ∈ dig n) : c ∈ FIG := by
  obtain ⟨a, b⟩ := dig_all n c h
  have : c = 48 ∨ c = 49 ∨ c = 50 ∨ c = 51 ∨ c = 52 ∨ c = 53 ∨ c = 54 ∨ c = 55 ∨ c = 56 ∨ c = 57 := by omega
  rcases this with rfl | rfl | rfl | rfl | rfl | rfl | rfl | rfl | rfl | rfl <;> decide
theorem FIG_ne {c : Nat} (h : c ∈ FIG) : [45].contains c = false := by
  have : ∀ c ∈ FIG, [45].contains c = false := by decide
  exact this c h
theorem dropWhile_no {p : Nat → Bool} : ∀ {l : List Nat}, (∀ c ∈ l, p c = false) → l.dropWhile p = l
  | [], _ => rfl
  | a :: r, h => by rw [List.dropWhile_cons, if_neg (by rw [h a List.mem_cons_self]; simp)]
theorem strI_len {v : Int} (h1 : -1000000000000000000000000000000 < v) (h2 : v < 1000000000000000000000000000000) : (strI v).length ≤ 1921 := by
  have := PyProof.Rows.int_text_len_1921 (log_small h1 h2)
  unfold strI
  rw [Array.length_toList]
  exact this
theorem strI_mem {v : Int} : ∀ c ∈ strI v, c ∈ [45, 48, 49, 50, 51, 52, 53, 54, 55, 56, 57] := by
  intro c hc
  rw [strI_eq] at hc
  split at hc
  · exact List.mem_cons_of_mem _ (dig_mem hc)
  · rcases List.mem_cons.mp hc with rfl | q
    · decide
    · exact List.mem_cons_of_mem _ (dig_mem q)
theorem strI_ne (v : Int) : strI v ≠ [] := by
  rw [strI_eq]
  split
  · exact dig_ne _
  · simp
theorem ok_str {l : List Nat} (h : List L3.PO) (hl : ∀ c ∈ l, c < 1114112) : okD h (.str l) = true := by
  unfold okD dOf
  simp only [toD, PyData.canLay0, PyData.depth]
  simp [PyData.strOk, S]
  exact hl
theorem ints_pure : ∀ ns : List Int, pures (ns.map PV.int) = true
  | [] => rfl
  | n :: r => by
    have := ints_pure r
    simp [pures, PV.pure, this]
theorem frz_giv (ns : List Int) (h : List L3.PO) : frzV h (.giv (ns.map PV.int)) = some (.giv (ns.map PV.int), h) := by
  show (if (PV.giv (ns.map PV.int)).pure = true then some (PV.giv (ns.map PV.int), h) else none) = _
  rw [if_pos]
  simp only [PV.pure, ints_pure]
theorem way_W (k : Nat) : F (k + 1) .way_of [.str wW] = .ok (.ins 0 []) := by
  show runF (b_way_of (F k)) 1 1 [.str wW] = _
  simp only [EV, runF, b_way_of, cMake, qWW, finO]
theorem way_N (k : Nat) : F (k + 1) .way_of [.str wN] = .ok (.ins 1 []) := by
  show runF (b_way_of (F k)) 1 1 [.str wN] = _
  simp only [EV, runF, b_way_of, cMake, qNW, qNN, finO]
theorem way_Q (k : Nat) : F (k + 1) .way_of [.str wQ] = .ok (.ins 2 []) := by
  show runF (b_way_of (F k)) 1 1 [.str wQ] = _
  simp only [EV, runF, b_way_of, cMake, qQW, qQN, qQQ, finO]
theorem way_P (k : Nat) : F (k + 1) .way_of [.str wP] = .ok (.ins 3 []) := by
  show runF (b_way_of (F k)) 1 1 [.str wP] = _
  simp only [EV, runF, b_way_of, cMake, qPW, qPN, qPQ, qPP, finO]
theorem way_L (k : Nat) : F (k + 1) .way_of [.str wL] = .ok (.ins 4 []) := by
  show runF (b_way_of (F k)) 1 1 [.str wL] = _
  simp only [EV, runF, b_way_of, cMake, qLW, qLN, qLQ, qLP, qLL, finO]
theorem val_W (k : Nat) (m : Int) (h : 0 ≤ m) : ∃ l, F (k + 3) .l_value_by [.str wW, .int m] = .ok (.str l) ∧ 1 ≤ l.length ∧ l.length ≤ 40 ∧ ∀ c ∈ l, c ∈ q_46cf18 := by
  obtain ⟨l, e, r⟩ := word_by k m h
  refine ⟨l, ?_, r⟩
  show runF (b_l_value_by (F (k + 2))) 2 2 [.str wW, .int m] = _
  simp only [EV, runF, b_l_value_by, qWW, callO_def, e, finO]
theorem val_N (k : Nat) (m : Int) : ∃ v : Int, F (k + 3) .l_value_by [.str wN, .int m] = .ok (.int v) ∧ -1000000000000000000000000000000 < v ∧ v < 1000000000000000000000000000000 := by
  obtain ⟨v, e, r⟩ := number_by (k + 1) m
  refine ⟨v, ?_, r⟩
  show runF (b_l_value_by (F (k + 2))) 2 2 [.str wN, .int m] = _
  simp only [EV, runF, b_l_value_by, qNW, qNN, callO_def, e, finO]
theorem val_T (k : Nat) (m : Int) (w : List Nat) (q1 : ∀ h, pEq (.str w) (.str wW) h = .ok (.bl false) h) (q2 : ∀ h, pEq (.str w) (.str wN) h = .ok (.bl false) h) : ∃ l, F (k + 3) .l_value_by [.str w, .int m] = .ok (.str l) ∧ l.length ≤ 400 ∧ ∀ c ∈ l, c ∈ q_e84fa8 := by
  obtain ⟨l, e, r⟩ := text_by k m 400 (by omega) (by omega)
  have e : F (k + 2) .l_text_by [.int m, .int 400] = .ok (.str l) := e
  refine ⟨l, ?_, r⟩
  show runF (b_l_value_by (F (k + 2))) 2 2 [.str w, .int m] = _
  simp only [EV, runF, b_l_value_by, q1, q2, callO_def, e, finO]
abbrev WS : List PV := [.str wW, .str wN, .str wQ, .str wP, .str wL]
theorem but_lt (l : List Nat) : ∀ c ∈ but l, c < 1114112 := fun c hc => SG_lt c (List.mem_filter.mp hc).1
theorem but_WL : but q_76658d = but q_46cf18 := by decide +kernel
theorem but_nil : but [] = q_e84fa8 := by decide +kernel
theorem WG_lt : ∀ c ∈ q_46cf18, c < 1114112 := fun c hc => SG_lt c (WG_SG c hc)
theorem en_W (k : Nat) : F (k + 3) .Word_ends [.ins 0 []] = .ok (.str (but q_46cf18)) := by
  show runF (b_Word_ends (F (k + 2))) 1 1 [.ins 0 []] = _
  simp only [EV, runF, b_Word_ends, callO_def, signs_but_eq k, finO]
theorem en_N (k : Nat) : F (k + 3) .Number_ends [.ins 1 []] = .ok (.str (but FIG)) := by
  show runF (b_Number_ends (F (k + 2))) 1 1 [.ins 1 []] = _
  simp only [EV, runF, b_Number_ends, callO_def, signs_but_eq k, finO]
theorem en_Q (k : Nat) : F (k + 3) .Quoted_ends [.ins 2 []] = .ok (.str q_e84fa8) := by
  show runF (b_Quoted_ends (F (k + 2))) 1 1 [.ins 2 []] = _
  simp only [EV, runF, b_Quoted_ends, callO_def, signs_eq (k + 1), finO]
theorem en_P (k : Nat) : F (k + 3) .Plain_ends [.ins 3 []] = .ok (.str [10, 38, 60, 62, 124]) := by
  show runF (b_Plain_ends (F (k + 2))) 1 1 [.ins 3 []] = _
  simp only [EV, runF, b_Plain_ends, finO]
theorem en_L (k : Nat) : F (k + 3) .Line_ends [.ins 4 []] = .ok (.str [10]) := by
  show runF (b_Line_ends (F (k + 2))) 1 1 [.ins 4 []] = _
  simp only [EV, runF, b_Line_ends, finO]
theorem bg_W (k : Nat) : F (k + 3) .Word_begins [.ins 0 []] = .ok (.str q_46cf18) := by
  show runF (b_Word_begins (F (k + 2))) 1 1 [.ins 0 []] = _
  simp only [EV, runF, b_Word_begins, finO]
theorem bg_N (k : Nat) : F (k + 3) .Number_begins [.ins 1 []] = .ok (.str [45, 48, 49, 50, 51, 52, 53, 54, 55, 56, 57]) := by
  show runF (b_Number_begins (F (k + 2))) 1 1 [.ins 1 []] = _
  simp only [EV, runF, b_Number_begins, finO]
theorem bg_Q (k : Nat) : F (k + 3) .Quoted_begins [.ins 2 []] = .ok (.str [34]) := by
  show runF (b_Quoted_begins (F (k + 2))) 1 1 [.ins 2 []] = _
  simp only [EV, runF, b_Quoted_begins, finO]
theorem bg_P (k : Nat) : F (k + 3) .Plain_begins [.ins 3 []] = .ok (.str (but [10, 38, 60, 62, 124])) := by
  show runF (b_Plain_begins (F (k + 2))) 1 1 [.ins 3 []] = _
  simp only [EV, runF, b_Plain_begins, callO_def, signs_but_eq k, finO]
theorem bg_L (k : Nat) : F (k + 3) .Line_begins [.ins 4 []] = .ok (.str (but [10])) := by
  show runF (b_Line_begins (F (k + 2))) 1 1 [.ins 4 []] = _
  simp only [EV, runF, b_Line_begins, callO_def, signs_but_eq k, finO]
theorem vd_P (k : Nat) : F (k + 3) .Plain_is_void [.ins 3 []] = .ok (.bl true) := by
  show runF (b_Plain_is_void (F (k + 2))) 1 1 [.ins 3 []] = _
  simp only [EV, runF, b_Plain_is_void, finO]
theorem vd_L (k : Nat) : F (k + 3) .Line_is_void [.ins 4 []] = .ok (.bl true) := by
  show runF (b_Line_is_void (F (k + 2))) 1 1 [.ins 4 []] = _
  simp only [EV, runF, b_Line_is_void, finO]
theorem vd_0 (k i : Nat) : F (k + 3) .Way_is_void [.ins i []] = .ok (.bl false) := by
  show runF (b_Way_is_void (F (k + 2))) 1 1 [.ins i []] = _
  simp only [EV, runF, b_Way_is_void, finO]
abbrev DL : List (PK × PV) := [(.inr [126], .str [126, 126]), (.inr [10], .str [126, 110])]
abbrev DP : List (PK × PV) := [(.inr [126], .str [126, 126]), (.inr [60], .str [126, 108]), (.inr [62], .str [126, 103]), (.inr [38], .str [126, 97]), (.inr [124], .str [126, 98]), (.inr [10], .str [126, 110])]
abbrev DQ : List (PK × PV) := [(.inr [94], .str [94, 94]), (.inr [34], .str [94, 113]), (.inr [10], .str [94, 110])]
theorem DL_eq : cDict [((cK (.str [126])), (cK (.str [126, 126]))), ((cK (.str [10])), (cK (.str [126, 110])))] = fun ρ h => .ok (.dct DL) h := rfl
theorem DP_eq : cDict [((cK (.str [126])), (cK (.str [126, 126]))), ((cK (.str [60])), (cK (.str [126, 108]))), ((cK (.str [62])), (cK (.str [126, 103]))), ((cK (.str [38])), (cK (.str [126, 97]))), ((cK (.str [124])), (cK (.str [126, 98]))), ((cK (.str [10])), (cK (.str [126, 110])))] = fun ρ h => .ok (.dct DP) h := rfl
theorem DQ_eq : cDict [((cK (.str [94])), (cK (.str [94, 94]))), ((cK (.str [34])), (cK (.str [94, 113]))), ((cK (.str [10])), (cK (.str [94, 110])))] = fun ρ h => .ok (.dct DQ) h := rfl
def Vl (D : List (PK × PV)) (m : Nat) (raw letters : List Nat) : Prop := ∀ c, (valP D (.inr [c]) = some (.str (esc1 [m] raw letters c))) ∨ (valP D (.inr [c]) = none ∧ esc1 [m] raw letters c = [c])
theorem vl_L : Vl DL 126 [126, 10] [126, 110] := by
  intro c
  by_cases h : c ∈ [126, 10]
  · left
    simp only [List.mem_cons, List.not_mem_nil, or_false] at h
    rcases h with rfl | rfl
    · rw [show esc1 [126] [126, 10] [126, 110] 126 = [126, 126] from by decide +kernel]; rfl
    · rw [show esc1 [126] [126, 10] [126, 110] 10 = [126, 110] from by decide +kernel]; rfl
  · right
    refine ⟨?_, esc1_no h⟩
    simp only [List.mem_cons, List.not_mem_nil, or_false, not_or] at h
    simp [valP, List.find?, Ne.symm h.1, Ne.symm h.2]
theorem vl_Q : Vl DQ 94 [94, 34, 10] [94, 113, 110] := by
  intro c
  by_cases h : c ∈ [94, 34, 10]
  · left
    simp only [List.mem_cons, List.not_mem_nil, or_false] at h
    rcases h with rfl | rfl | rfl
    · rw [show esc1 [94] [94, 34, 10] [94, 113, 110] 94 = [94, 94] from by decide +kernel]; rfl
    · rw [show esc1 [94] [94, 34, 10] [94, 113, 110] 34 = [94, 113] from by decide +kernel]; rfl
    · rw [show esc1 [94] [94, 34, 10] [94, 113, 110] 10 = [94, 110] from by decide +kernel]; rfl
  · right
    refine ⟨?_, esc1_no h⟩
    simp only [List.mem_cons, List.not_mem_nil, or_false, not_or] at h
    simp [valP, List.find?, Ne.symm h.1, Ne.symm h.2.1, Ne.symm h.2.2]
theorem vl_P : Vl DP 126 [126, 60, 62, 38, 124, 10] [126, 108, 103, 97, 98, 110] := by
  intro c
  by_cases h : c ∈ [126, 60, 62, 38, 124, 10]
  · left
    simp only [List.mem_cons, List.not_mem_nil, or_false] at h
    rcases h with rfl | rfl | rfl | rfl | rfl | rfl
    · rw [show esc1 [126] [126, 60, 62, 38, 124, 10] [126, 108, 103, 97, 98, 110] 126 = [126, 126] from by decide +kernel]; rfl
    · rw [show esc1 [126] [126, 60, 62, 38, 124, 10] [126, 108, 103, 97, 98, 110] 60 = [126, 108] from by decide +kernel]; rfl
    · rw [show esc1 [126] [126, 60, 62, 38, 124, 10] [126, 108, 103, 97, 98, 110] 62 = [126, 103] from by decide +kernel]; rfl
    · rw [show esc1 [126] [126, 60, 62, 38, 124, 10] [126, 108, 103, 97, 98, 110] 38 = [126, 97] from by decide +kernel]; rfl
    · rw [show esc1 [126] [126, 60, 62, 38, 124, 10] [126, 108, 103, 97, 98, 110] 124 = [126, 98] from by decide +kernel]; rfl
    · rw [show esc1 [126] [126, 60, 62, 38, 124, 10] [126, 108, 103, 97, 98, 110] 10 = [126, 110] from by decide +kernel]; rfl
  · right
    refine ⟨?_, esc1_no h⟩
    simp only [List.mem_cons, List.not_mem_nil, or_false, not_or] at h
    simp [valP, List.find?, Ne.symm h.1, Ne.symm h.2.1, Ne.symm h.2.2.1, Ne.symm h.2.2.2.1, Ne.symm h.2.2.2.2.1, Ne.symm h.2.2.2.2.2]
theorem coded_cm (C : Fn → List PV → Out) (D : List (PK × PV)) (m : Nat) (raw letters : List Nat) (hv : Vl D m raw letters) (a b : Option PV) (x : Option PV) (l : List Nat) : compL tYesE (e_l_coded_1 C) (capP [2] [a, b, some (.dct D), x]) (l.map fun c => PV.str [c]) [] = .ok ((l.map (esc1 [m] raw letters)).map PV.str) [] := by
  rw [compL_map (f := fun p => match p with | .str [c] => .str (esc1 [m] raw letters c) | _ => .non)]
  · rw [List.map_map, List.map_map]; rfl
  · intro p hp
    obtain ⟨c, hc, rfl⟩ := List.mem_map.mp hp
    rcases hv c with hv | ⟨hv, he⟩
    · simp only [EV, e_l_coded_1, capP, Option.getD_some, dcR, keyOf, hv]
    · simp only [EV, e_l_coded_1, capP, Option.getD_some, dcR, keyOf, hv, he]
theorem esc_join (m : Nat) (raw letters l : List Nat) (hl : l.length ≤ 400) (h : List L3.PO) : pJoin (.str []) [.lst ((l.map (esc1 [m] raw letters)).map PV.str)] h = .ok (.str (escL [m] raw letters l)) h := by
  rw [pJoin_l (by
    have := sum_le (esc1 [m] raw letters) 2 (esc1_len [m] raw letters) l
    omega)]
  rfl
theorem coded_W (k : Nat) (l : List Nat) : F (k + 1) .l_coded [.str wW, .str l] = .ok (.str l) := by
  show runF (b_l_coded (F k)) 2 4 [.str wW, .str l] = _
  simp only [EV, runF, b_l_coded, qWW, finO]
theorem coded_N (k : Nat) (v : Int) (h1 : -1000000000000000000000000000000 < v) (h2 : v < 1000000000000000000000000000000) : F (k + 1) .l_coded [.str wN, .int v] = .ok (.str (strI v)) := by
  show runF (b_l_coded (F k)) 2 4 [.str wN, .int v] = _
  have lg := log_small h1 h2
  simp only [EV, runF, b_l_coded, qNW, qNN, lg, finO]
theorem coded_L (k : Nat) (l : List Nat) (hl : l.length ≤ 400) : F (k + 1) .l_coded [.str wL, .str l] = .ok (.str (LE l)) := by
  show runF (b_l_coded (F k)) 2 4 [.str wL, .str l] = _
  have cm := coded_cm (F k) DL 126 _ _ vl_L (some (.str wL)) (some (.str l)) none l
  have jn := esc_join 126 [126, 10] [126, 110] l hl
  have ln : (l.map fun c => PV.str [c]).length < 16777216 := by rw [List.length_map]; omega
  simp only [EV, runF, b_l_coded, qLW, qLN, qLP, qLQ, DL_eq, cm, jn, ln, finO]
theorem coded_P (k : Nat) (l : List Nat) (hl : l.length ≤ 400) : F (k + 1) .l_coded [.str wP, .str l] = .ok (.str (PEs l)) := by
  show runF (b_l_coded (F k)) 2 4 [.str wP, .str l] = _
  have cm := coded_cm (F k) DP 126 _ _ vl_P (some (.str wP)) (some (.str l)) none l
  have jn := esc_join 126 [126, 60, 62, 38, 124, 10] [126, 108, 103, 97, 98, 110] l hl
  have ln : (l.map fun c => PV.str [c]).length < 16777216 := by rw [List.length_map]; omega
  simp only [EV, runF, b_l_coded, qPW, qPN, qPP, qPQ, DL_eq, DP_eq, cm, jn, ln, finO]
theorem coded_Q (k : Nat) (l : List Nat) (hl : l.length ≤ 400) : F (k + 1) .l_coded [.str wQ, .str l] = .ok (.str (34 :: (QE l ++ [34]))) := by
  show runF (b_l_coded (F k)) 2 4 [.str wQ, .str l] = _
  have cm := coded_cm (F k) DQ 94 _ _ vl_Q (some (.str wQ)) (some (.str l)) none l
  have jn := esc_join 94 [94, 34, 10] [94, 113, 110] l hl
  have ln : (l.map fun c => PV.str [c]).length < 16777216 := by rw [List.length_map]; omega
  have z := escL_len [94] [94, 34, 10] [94, 113, 110] l
  simp only [List.length_cons, List.length_nil] at z
  have z1 : 1 + (QE l).length ≤ 16777216 := by show 1 + (escL [94] [94, 34, 10] [94, 113, 110] l).length ≤ _; omega
  have z2 : (QE l).length + 1 + 1 ≤ 16777216 := by show (escL [94] [94, 34, 10] [94, 113, 110] l).length + 1 + 1 ≤ _; omega
  simp only [EV, runF, b_l_coded, qQW, qQN, qQP, qQQ, DL_eq, DQ_eq, cm, jn, ln, z1, z2, finO]
theorem quoted_sp (k : Nat) (l : List Nat) (h2 : l.length ≤ 400) : F (k + 3) .Quoted_spelling [.ins 2 [], .str l] = .ok (.str (34 :: (QE l ++ [34]))) := by
  show runF (b_Quoted_spelling (F (k + 2))) 2 2 [.ins 2 [], .str l] = _
  have e3 := escaped_eq (k + 1) l [94] [94, 34, 10] [94, 113, 110] (by decide) (by decide) (by decide) (by omega)
  have z := escL_len [94] [94, 34, 10] [94, 113, 110] l
  simp only [List.length_cons, List.length_nil] at z
  have z1 : 1 + (QE l).length ≤ 16777216 := by show 1 + (escL [94] [94, 34, 10] [94, 113, 110] l).length ≤ _; omega
  have z2 : (QE l).length + 1 + 1 ≤ 16777216 := by show (escL [94] [94, 34, 10] [94, 113, 110] l).length + 1 + 1 ≤ _; omega
  simp only [EV, runF, b_Quoted_spelling, callO_def, e3, finO, z1, z2]
theorem plain_sp (k : Nat) (l : List Nat) (h2 : l.length ≤ 400) : F (k + 3) .Plain_spelling [.ins 3 [], .str l] = .ok (.str (PEs l)) := by
  show runF (b_Plain_spelling (F (k + 2))) 2 2 [.ins 3 [], .str l] = _
  have e3 := escaped_eq (k + 1) l [126] [126, 60, 62, 38, 124, 10] [126, 108, 103, 97, 98, 110] (by decide) (by decide) (by decide) (by omega)
  simp only [EV, runF, b_Plain_spelling, callO_def, e3, finO]
theorem line_sp (k : Nat) (l : List Nat) (h2 : l.length ≤ 400) : F (k + 3) .Line_spelling [.ins 4 [], .str l] = .ok (.str (LE l)) := by
  show runF (b_Line_spelling (F (k + 2))) 2 2 [.ins 4 [], .str l] = _
  have e3 := escaped_eq (k + 1) l [126] [126, 10] [126, 110] (by decide) (by decide) (by decide) (by omega)
  simp only [EV, runF, b_Line_spelling, callO_def, e3, finO]
theorem word_sp (k : Nat) (l : List Nat) : F (k + 1) .Word_spelling [.ins 0 [], .str l] = .ok (.str l) := by
  show runF (b_Word_spelling (F k)) 2 2 [.ins 0 [], .str l] = _
  simp only [EV, runF, b_Word_spelling, finO]
theorem number_sp (k : Nat) (v : Int) (h1 : -1000000000000000000000000000000 < v) (h2 : v < 1000000000000000000000000000000) : F (k + 1) .Number_spelling [.ins 1 [], .int v] = .ok (.str (strI v)) := by
  show runF (b_Number_spelling (F k)) 2 2 [.ins 1 [], .int v] = _
  have lg := log_small h1 h2
  simp only [EV, runF, b_Number_spelling, finO, lg]
theorem pick {xs : List PV} {m n : Int} (hn : n = xs.length) (hp : 0 < n) : ∃ v, v ∈ xs ∧ atI xs (m % n) = some v := by
  have h0 := Int.emod_nonneg m (show n ≠ 0 by omega)
  have h1 := Int.emod_lt_of_pos m hp
  have hi : (m % n).toNat < xs.length := by omega
  exact ⟨xs[(m % n).toNat], List.getElem_mem hi, atI_at h0 (List.getElem?_eq_getElem hi)⟩
def Stay (v : PV) : Prop := (∀ h, frzV h v = some (v, h)) ∧ ∀ h, derefP h v = v
theorem stay_lst {l : List PV} (q : pures l = true) : Stay (.lst l) := ⟨fun h => L3.frz_lst h q, fun _ => rfl⟩
theorem stay_tup {l : List PV} (q : pures l = true) : Stay (.tup l) := ⟨fun h => L3.frz_tup h q, fun _ => rfl⟩
theorem stay_str (l : List Nat) : Stay (.str l) := ⟨fun h => frz_str h l, fun _ => rfl⟩
theorem stay_int (i : Int) : Stay (.int i) := ⟨fun h => frz_int h i, fun _ => rfl⟩
theorem stay_bl (i : Bool) : Stay (.bl i) := ⟨fun h => frz_bl h i, fun _ => rfl⟩
theorem stay_non : Stay .non := ⟨fun h => frz_non h, fun _ => rfl⟩
theorem stay_dct : Stay (.dct []) := ⟨fun h => frz_dct0 h, fun _ => rfl⟩
theorem nt_bl (k : Nat) (n : Int) (b : Bool) : F (k + 2) .is_text [.bl b, .int n] = .ok (.bl false) := by
  show runF (b_is_text (F (k + 1))) 2 2 [.bl b, .int n] = _
  simp only [EV, runF, b_is_text, finO]
theorem nt_int (k : Nat) (n : Int) (b : Int) : F (k + 2) .is_text [.int b, .int n] = .ok (.bl false) := by
  show runF (b_is_text (F (k + 1))) 2 2 [.int b, .int n] = _
  simp only [EV, runF, b_is_text, finO]
theorem nt_non (k : Nat) (n : Int) : F (k + 2) .is_text [.non, .int n] = .ok (.bl false) := by
  show runF (b_is_text (F (k + 1))) 2 2 [.non, .int n] = _
  simp only [EV, runF, b_is_text, finO]
theorem nt_lst (k : Nat) (n : Int) (l : List PV) : F (k + 2) .is_text [.lst l, .int n] = .ok (.bl false) := by
  show runF (b_is_text (F (k + 1))) 2 2 [.lst l, .int n] = _
  simp only [EV, runF, b_is_text, finO]
theorem nt_tup (k : Nat) (n : Int) (l : List PV) : F (k + 2) .is_text [.tup l, .int n] = .ok (.bl false) := by
  show runF (b_is_text (F (k + 1))) 2 2 [.tup l, .int n] = _
  simp only [EV, runF, b_is_text, finO]
theorem nt_dct (k : Nat) (n : Int) (l : List (PK × PV)) : F (k + 2) .is_text [.dct l, .int n] = .ok (.bl false) := by
  show runF (b_is_text (F (k + 1))) 2 2 [.dct l, .int n] = _
  simp only [EV, runF, b_is_text, finO]
theorem nt_tab (k : Nat) (n : Int) (l : List Nat) (hl : l.length ≤ 16777216) (h9 : 9 ∈ l) : F (k + 2) .is_text [.str l, .int n] = .ok (.bl false) := by
  have e : l.all q_e84fa8.contains = false := by
    rw [List.all_eq_false]
    exact ⟨9, h9, by decide +kernel⟩
  rw [is_text_s k l n hl, e, Bool.and_false]
theorem nt_long (k : Nat) (n : Int) (l : List Nat) (hl : l.length ≤ 16777216) (h : n < (l.length : Int)) : F (k + 2) .is_text [.str l, .int n] = .ok (.bl false) := by
  rw [is_text_s k l n hl, decide_eq_false (by omega), Bool.false_and]
theorem rep_len (c : Nat) (n : Int) : (repL [c] n).length = n.toNat := by
  simp [repL]
theorem tab_cut (l : List Nat) (a : Int) : 9 ∈ cut l none (some a) ++ [9] ++ cut l (some a) none := by simp
theorem cut_len {α : Type} (l : List α) (lo hi : Option Int) : (cut l lo hi).length ≤ l.length := by
  unfold cut
  rw [List.length_take, List.length_drop]
  omega
def LT (l : List Nat) (a : Int) : List PV := [.bl true, .non, .lst [.str [97]], .tup [.str [97]], .dct [], .bl false, .int 5, .int (-1), .lst [.str [97], .str [98]], .str (cut l none (some a) ++ [9] ++ cut l (some a) none), .str (repL [97] 399 ++ [9]), .str [9],
  .str (repL [97] 401), .str (l ++ repL [98] (401 - (l.length : Int))), .str (repL [10] 402)]
theorem LT_no (l : List Nat) (hl : l.length ≤ 400) (a : Int) : ∀ v ∈ LT l a, Stay v ∧ ∀ j, F (j + 2) .is_text [v, .int 400] = .ok (.bl false) := by
  intro v hv
  have c1 := cut_len l none (some a)
  have c2 := cut_len l (some a) none
  unfold LT at hv
  simp only [List.mem_cons, List.not_mem_nil, or_false] at hv
  rcases hv with rfl | rfl | rfl | rfl | rfl | rfl | rfl | rfl | rfl | rfl | rfl | rfl | rfl | rfl | rfl
  · exact ⟨stay_bl _, fun j => nt_bl j _ _⟩
  · exact ⟨stay_non, fun j => nt_non j _⟩
  · exact ⟨stay_lst rfl, fun j => nt_lst j _ _⟩
  · exact ⟨stay_tup rfl, fun j => nt_tup j _ _⟩
  · exact ⟨stay_dct, fun j => nt_dct j _ _⟩
  · exact ⟨stay_bl _, fun j => nt_bl j _ _⟩
  · exact ⟨stay_int _, fun j => nt_int j _ _⟩
  · exact ⟨stay_int _, fun j => nt_int j _ _⟩
  · exact ⟨stay_lst rfl, fun j => nt_lst j _ _⟩
  · exact ⟨stay_str _, fun j => nt_tab j _ _ (by simp only [List.length_append, List.length_cons, List.length_nil]; omega) (tab_cut l a)⟩
  · exact ⟨stay_str _, fun j => nt_tab j _ _ (by rw [List.length_append, rep_len]; decide) (by simp)⟩
  · exact ⟨stay_str _, fun j => nt_tab j _ _ (by decide) (by simp)⟩
  · exact ⟨stay_str _, fun j => nt_long j _ _ (by rw [rep_len]; decide) (by rw [rep_len]; decide)⟩
  · exact ⟨stay_str _, fun j => nt_long j _ _ (by rw [List.length_append, rep_len]; omega) (by rw [List.length_append, rep_len]; omega)⟩
  · exact ⟨stay_str _, fun j => nt_long j _ _ (by rw [rep_len]; decide) (by rw [rep_len]; decide)⟩
theorem odd_T (k : Nat) (m : Int) (w l : List Nat) (q1 : ∀ h, pEq (.str w) (.str wW) h = .ok (.bl false) h) (q2 : ∀ h, pEq (.str w) (.str wN) h = .ok (.bl false) h) (hv : F (k + 3) .l_value_by [.str w, .int (m / 64)] = .ok (.str l)) (hl : l.length ≤ 400) :
    ∃ v, F (k + 4) .l_odd [.str w, .int m] = .ok v ∧ Stay v ∧ ∀ j, F (j + 2) .is_text [v, .int 400] = .ok (.bl false) := by
  obtain ⟨v, hm, he⟩ := pick (xs := LT l (m / 2048 % ((l.length : Int) + 1))) (m := m) (n := 15) rfl (by decide)
  obtain ⟨⟨fz, dz⟩, nt⟩ := LT_no l hl _ v hm
  refine ⟨v, ?_, ⟨fz, dz⟩, nt⟩
  show runF (b_l_odd (F (k + 3))) 2 6 [.str w, .int m] = _
  have hz : l.length ≤ 16777216 := by omega
  have p1 : decide ((0 : Int) < (l.length : Int) + 1) = true := decide_eq_true (by omega)
  have c1 := cut_len l none (some (m / 2048 % ((l.length : Int) + 1)))
  have c2 := cut_len l (some (m / 2048 % ((l.length : Int) + 1))) none
  have z1 : (cut l none (some (m / 2048 % ((l.length : Int) + 1)))).length + 1 ≤ 16777216 := by omega
  have z2 : (cut l none (some (m / 2048 % ((l.length : Int) + 1)))).length + 1 + (cut l (some (m / 2048 % ((l.length : Int) + 1))) none).length ≤ 16777216 := by omega
  have b1 : bel 1048576 399 = true := by decide
  have b2 : bel 1048576 401 = true := by decide
  have b3 : bel 1048576 402 = true := by decide
  have b4 : bel 1048576 (401 - (l.length : Int)) = true := bel_iff.mpr ⟨by omega, by omega⟩
  have z3 : (401 - (l.length : Int)).toNat ≤ 1048576 := by omega
  have z4 : (repL [97] 399).length + 1 ≤ 16777216 := by rw [rep_len]; decide
  have z5 : l.length + (repL [98] (401 - (l.length : Int))).length ≤ 16777216 := by rw [rep_len]; omega
  unfold LT at he
  simp only [EV, runF, b_l_odd, callO_def, q1, q2, hv, hz, p1, z1, z2, z3, z4, z5, b1, b2, b3, b4, he, dz, fz, finO, List.length_append, Nat.one_mul, Int.reduceToNat]
theorem wf_no (k : Nat) (v : PV) (fz : Stay v) (h : F (k + 2) .is_text [v, .int 40] = .ok (.bl false)) : F (k + 3) .Word_fits [.ins 0 [], v] = .ok (.bl false) := by
  show runF (b_Word_fits (F (k + 2))) 2 2 [.ins 0 [], v] = _
  obtain ⟨f1, f2⟩ := fz
  simp only [EV, runF, b_Word_fits, callO_def, f1, f2, h, finO]
theorem tf_no (k : Nat) (v : PV) (fz : Stay v) (h : F (k + 2) .is_text [v, .int 400] = .ok (.bl false)) : F (k + 3) .Quoted_fits [.ins 2 [], v] = .ok (.bl false) ∧ F (k + 3) .Plain_fits [.ins 3 [], v] = .ok (.bl false) ∧ F (k + 3) .Line_fits [.ins 4 [], v] = .ok (.bl false) := by
  obtain ⟨f1, f2⟩ := fz
  refine ⟨?_, ?_, ?_⟩
  · show runF (b_Quoted_fits (F (k + 2))) 2 2 [.ins 2 [], v] = _
    simp only [EV, runF, b_Quoted_fits, callO_def, f1, f2, h, finO]
  · show runF (b_Plain_fits (F (k + 2))) 2 2 [.ins 3 [], v] = _
    simp only [EV, runF, b_Plain_fits, callO_def, f1, f2, h, finO]
  · show runF (b_Line_fits (F (k + 2))) 2 2 [.ins 4 [], v] = _
    simp only [EV, runF, b_Line_fits, callO_def, f1, f2, h, finO]
theorem wf_str (k : Nat) (l : List Nat) (hl : l.length ≤ 16777216) (ok : ∀ c ∈ l, c < 1114112) (h : l = [] ∨ ∃ c ∈ l, c ∉ q_46cf18) : F (k + 3) .Word_fits [.ins 0 [], .str l] = .ok (.bl false) := by
  cases q : (decide ((l.length : Int) ≤ 40) && l.all q_e84fa8.contains) with
  | false => exact wf_no k _ (stay_str _) (by rw [is_text_s k l 40 hl, q])
  | true =>
    show runF (b_Word_fits (F (k + 2))) 2 2 [.ins 0 [], .str l] = _
    have e1 : F (k + 2) .is_text [.str l, .int 40] = .ok (.bl true) := by rw [is_text_s k l 40 hl, q]
    rcases h with rfl | ⟨c, hc, hn⟩
    · have e3 : pNe (.str []) (.str []) [] = .ok (.bl false) [] := by rw [pNe_ss _ _ _ (by simp) (by simp)]; rfl
      simp only [EV, runF, b_Word_fits, callO_def, e1, e3, finO]
    · have ne : l ≠ [] := by intro z; subst z; cases hc
      have e2 : F (k + 2) .is_made_of [.str l, .str q_46cf18] = .ok (.bl false) := by
        rw [made (k + 1)]
        rw [show l.all q_46cf18.contains = false from by rw [List.all_eq_false]; exact ⟨c, hc, fun z => hn (List.contains_iff_mem.mp z)⟩]
      have e3 : pNe (.str l) (.str []) [] = .ok (.bl true) [] := by
        rw [pNe_ss _ _ _ ok (by simp), decide_eq_false ne]; rfl
      simp only [EV, runF, b_Word_fits, callO_def, e1, e2, e3, finO]
def badC (i : Int) : Nat := match atI (q_e84fa8 ++ [9]) i with
  | some c => if Txt.isalnum (S [c]) = true then 45 else c
  | none => 0
theorem alnum_no : ∀ c ∈ q_e84fa8 ++ [9], Txt.isalnum (S [c]) = false → c ∉ q_46cf18 := by decide +kernel
theorem tab_lt : ∀ c ∈ q_e84fa8 ++ [9], c < 1114112 := by decide +kernel
def LW (l : List Nat) (b : Nat) (a : Int) : List PV := [.bl true, .non, .lst [.str [97]], .tup [.str [97]], .dct [], .bl false, .int 5, .int (-1), .lst [.str [97], .str [98]], .str [], .str (cut l none (some a) ++ [b] ++ cut l (some a) none), .str (repL [97] 41), .str (l ++ repL [95] 40)]
theorem cut_mem {α : Type} {l : List α} {lo hi : Option Int} {c : α} (h : c ∈ cut l lo hi) : c ∈ l := by
  unfold cut at h
  exact List.mem_of_mem_drop (List.mem_of_mem_take h)
theorem LW_no (l : List Nat) (h1 : 1 ≤ l.length) (hl : l.length ≤ 40) (hw : ∀ c ∈ l, c ∈ q_46cf18) (b : Nat) (hb : b ∉ q_46cf18) (hb2 : b < 1114112) (a : Int) : ∀ v ∈ LW l b a, Stay v ∧ ∀ j, F (j + 3) .Word_fits [.ins 0 [], v] = .ok (.bl false) := by
  intro v hv
  have c1 := cut_len l none (some a)
  have c2 := cut_len l (some a) none
  unfold LW at hv
  simp only [List.mem_cons, List.not_mem_nil, or_false] at hv
  rcases hv with rfl | rfl | rfl | rfl | rfl | rfl | rfl | rfl | rfl | rfl | rfl | rfl | rfl
  · exact ⟨stay_bl _, fun j => wf_no j _ (stay_bl _) (nt_bl j _ _)⟩
  · exact ⟨stay_non, fun j => wf_no j _ stay_non (nt_non j _)⟩
  · exact ⟨stay_lst rfl, fun j => wf_no j _ (stay_lst rfl) (nt_lst j _ _)⟩
  · exact ⟨stay_tup rfl, fun j => wf_no j _ (stay_tup rfl) (nt_tup j _ _)⟩
  · exact ⟨stay_dct, fun j => wf_no j _ stay_dct (nt_dct j _ _)⟩
  · exact ⟨stay_bl _, fun j => wf_no j _ (stay_bl _) (nt_bl j _ _)⟩
  · exact ⟨stay_int _, fun j => wf_no j _ (stay_int _) (nt_int j _ _)⟩
  · exact ⟨stay_int _, fun j => wf_no j _ (stay_int _) (nt_int j _ _)⟩
  · exact ⟨stay_lst rfl, fun j => wf_no j _ (stay_lst rfl) (nt_lst j _ _)⟩
  · exact ⟨stay_str _, fun j => wf_str j _ (by decide) (by simp) (.inl rfl)⟩
  · refine ⟨stay_str _, fun j => wf_str j _ (by simp only [List.length_append, List.length_cons, List.length_nil]; omega) (fun c hc => ?_) (.inr ⟨b, by simp, hb⟩)⟩
    simp only [List.mem_append, List.mem_cons, List.not_mem_nil, or_false] at hc
    rcases hc with (hc | rfl) | hc
    · exact WG_lt c (hw c (cut_mem hc))
    · exact hb2
    · exact WG_lt c (hw c (cut_mem hc))
  · exact ⟨stay_str _, fun j => wf_no j _ (stay_str _) (nt_long j _ _ (by rw [rep_len]; decide) (by rw [rep_len]; decide))⟩
  · exact ⟨stay_str _, fun j => wf_no j _ (stay_str _) (nt_long j _ _ (by rw [List.length_append, rep_len]; omega) (by rw [List.length_append, rep_len]; omega))⟩
theorem odd_W (k : Nat) (m : Int) (l : List Nat) (hv : F (k + 3) .l_value_by [.str wW, .int (m / 64)] = .ok (.str l)) (h1 : 1 ≤ l.length) (hl : l.length ≤ 40) (hw : ∀ c ∈ l, c ∈ q_46cf18) :
    ∃ v, F (k + 4) .l_odd [.str wW, .int m] = .ok v ∧ Stay v ∧ ∀ j, F (j + 3) .Word_fits [.ins 0 [], v] = .ok (.bl false) := by
  have i0 := Int.emod_nonneg (m / 16) (show (96 : Int) ≠ 0 by decide)
  have i1 := Int.emod_lt_of_pos (m / 16) (show (0 : Int) < 96 by decide)
  have il : (q_e84fa8 ++ [9]).length = 96 := by decide
  have ii : (m / 16 % 96).toNat < (q_e84fa8 ++ [9]).length := by omega
  have hc : atI (q_e84fa8 ++ [9]) (m / 16 % 96) = some (q_e84fa8 ++ [9])[(m / 16 % 96).toNat] := atI_at i0 (List.getElem?_eq_getElem ii)
  generalize hcc : (q_e84fa8 ++ [9])[(m / 16 % 96).toNat] = c at hc
  have cm : c ∈ q_e84fa8 ++ [9] := by rw [← hcc]; exact List.getElem_mem ii
  have es := l_signs_eq (k + 2)
  have z0 : q_e84fa8.length + 1 ≤ 16777216 := by decide
  have hz : l.length ≤ 16777216 := by omega
  have p1 : decide ((0 : Int) < (l.length : Int) + 1) = true := decide_eq_true (by omega)
  have c1 := cut_len l none (some (m / 2048 % ((l.length : Int) + 1)))
  have c2 := cut_len l (some (m / 2048 % ((l.length : Int) + 1))) none
  have z1 : (cut l none (some (m / 2048 % ((l.length : Int) + 1)))).length + 1 ≤ 16777216 := by omega
  have z2 : (cut l none (some (m / 2048 % ((l.length : Int) + 1)))).length + 1 + (cut l (some (m / 2048 % ((l.length : Int) + 1))) none).length ≤ 16777216 := by omega
  have b1 : bel 1048576 41 = true := by decide
  have b2 : bel 1048576 40 = true := by decide
  have z5 : l.length + (repL [95] 40).length ≤ 16777216 := by rw [rep_len]; omega
  cases qa : Txt.isalnum (S [c]) with
  | true =>
    obtain ⟨v, hm, he⟩ := pick (xs := LW l 45 (m / 2048 % ((l.length : Int) + 1))) (m := m) (n := 13) rfl (by decide)
    obtain ⟨⟨fz, dz⟩, nt⟩ := LW_no l h1 hl hw 45 (by decide +kernel) (by decide) _ v hm
    refine ⟨v, ?_, ⟨fz, dz⟩, nt⟩
    show runF (b_l_odd (F (k + 3))) 2 6 [.str wW, .int m] = _
    unfold LW at he
    simp only [EV, runF, b_l_odd, callO_def, qWN, qWW, hv, es, hc, qa, isalnum_s, hz, p1, z0, z1, z2, z5, b1, b2, he, dz, fz, finO, List.length_append, Nat.one_mul, Int.reduceToNat]
  | false =>
    obtain ⟨v, hm, he⟩ := pick (xs := LW l c (m / 2048 % ((l.length : Int) + 1))) (m := m) (n := 13) rfl (by decide)
    obtain ⟨⟨fz, dz⟩, nt⟩ := LW_no l h1 hl hw c (alnum_no c cm qa) (tab_lt c cm) _ v hm
    refine ⟨v, ?_, ⟨fz, dz⟩, nt⟩
    show runF (b_l_odd (F (k + 3))) 2 6 [.str wW, .int m] = _
    unfold LW at he
    simp only [EV, runF, b_l_odd, callO_def, qWN, qWW, hv, es, hc, qa, isalnum_s, hz, p1, z0, z1, z2, z5, b1, b2, he, dz, fz, finO, List.length_append, Nat.one_mul, Int.reduceToNat]
theorem short_no (k : Nat) (v : Int) (h : 1000000000000000000000000000000 ≤ v ∨ v ≤ -1000000000000000000000000000000) : F (k + 2) .Number_fits [.ins 1 [], .int v] = .ok (.bl false) := by
  show runF (b_Number_fits (F (k + 1))) 2 2 [.ins 1 [], .int v] = _
  have e : F (k + 1) .is_short_number [.int v] = .ok (.bl false) := by
    show runF (b_is_short_number (F k)) 1 1 [.int v] = _
    have p1 : decide (Int.natAbs 10 < 18446744073709551616) = true := rfl
    have p2 : decide ((if v < 0 then -v else v) < 1000000000000000000000000000000) = false := decide_eq_false (by split <;> omega)
    simp only [EV, runF, b_is_short_number, finO, p1, p2, Int.reduceToNat]
  simp only [EV, runF, b_Number_fits, callO_def, e, finO]
def LN (m : Int) : List PV := [.bl true, .non, .lst [.str [97]], .tup [.str [97]], .dct [], .bl false, .int 1000000000000000000000000000000, .int (-1000000000000000000000000000000), .str [53], .str [], .int (10000000000000000000000000000000 + m % 7)]
theorem LN_no (m : Int) : ∀ v ∈ LN m, Stay v ∧ ∀ j, F (j + 2) .Number_fits [.ins 1 [], v] = .ok (.bl false) := by
  intro v hv
  unfold LN at hv
  have m7 := Int.emod_nonneg m (show (7 : Int) ≠ 0 by decide)
  simp only [List.mem_cons, List.not_mem_nil, or_false] at hv
  rcases hv with rfl | rfl | rfl | rfl | rfl | rfl | rfl | rfl | rfl | rfl | rfl
  · refine ⟨stay_bl _, fun j => ?_⟩
    show runF (b_Number_fits (F (j + 1))) 2 2 _ = _
    simp only [EV, runF, b_Number_fits, finO]
  · refine ⟨stay_non, fun j => ?_⟩
    show runF (b_Number_fits (F (j + 1))) 2 2 _ = _
    simp only [EV, runF, b_Number_fits, finO]
  · refine ⟨stay_lst rfl, fun j => ?_⟩
    show runF (b_Number_fits (F (j + 1))) 2 2 _ = _
    simp only [EV, runF, b_Number_fits, finO]
  · refine ⟨stay_tup rfl, fun j => ?_⟩
    show runF (b_Number_fits (F (j + 1))) 2 2 _ = _
    simp only [EV, runF, b_Number_fits, finO]
  · refine ⟨stay_dct, fun j => ?_⟩
    show runF (b_Number_fits (F (j + 1))) 2 2 _ = _
    simp only [EV, runF, b_Number_fits, finO]
  · refine ⟨stay_bl _, fun j => ?_⟩
    show runF (b_Number_fits (F (j + 1))) 2 2 _ = _
    simp only [EV, runF, b_Number_fits, finO]
  · exact ⟨stay_int _, fun j => short_no j _ (.inl (by omega))⟩
  · exact ⟨stay_int _, fun j => short_no j _ (.inr (by omega))⟩
  · refine ⟨stay_str _, fun j => ?_⟩
    show runF (b_Number_fits (F (j + 1))) 2 2 _ = _
    simp only [EV, runF, b_Number_fits, finO]
  · refine ⟨stay_str _, fun j => ?_⟩
    show runF (b_Number_fits (F (j + 1))) 2 2 _ = _
    simp only [EV, runF, b_Number_fits, finO]
  · exact ⟨stay_int _, fun j => short_no j _ (.inl (by omega))⟩
theorem odd_N (k : Nat) (m : Int) : ∃ v, F (k + 4) .l_odd [.str wN, .int m] = .ok v ∧ Stay v ∧ ∀ j, F (j + 2) .Number_fits [.ins 1 [], v] = .ok (.bl false) := by
  obtain ⟨v, hm, he⟩ := pick (xs := LN m) (m := m) (n := 11) rfl (by decide)
  obtain ⟨⟨fz, dz⟩, nt⟩ := LN_no m v hm
  refine ⟨v, ?_, ⟨fz, dz⟩, nt⟩
  show runF (b_l_odd (F (k + 3))) 2 6 [.str wN, .int m] = _
  obtain ⟨x, hx, _⟩ := val_N k (m / 64)
  have p1 : decide (Int.natAbs 10 < 18446744073709551616) = true := rfl
  unfold LN at he
  simp only [EV, runF, b_l_odd, callO_def, qNN, hx, p1, he, dz, fz, finO, Int.reduceToNat]
theorem class_v : FH .l_class [.exc 7] = .ok (.lst [.str [118, 97, 108, 117, 101]]) := by kernel_rfl
theorem class_w : FH .l_class [.exc 6] = .ok (.lst [.str [119, 97, 121]]) := by kernel_rfl
section
variable (k i : Nat) (v : PV) (ff fs : Fn) (st : Stay v) (df : ∀ C, d_fits C i = some (C ff)) (dx : ∀ Z, x_coded Z i = some (Z .Way_coded))
include st df dx
theorem made_ok (s : List Nat) (ds : ∀ C, d_spelling C i = some (C fs)) (e1 : F k ff [.ins i [], v] = .ok (.bl true)) (e2 : F k fs [.ins i [], v] = .ok (.str s)) : F (k + 2) .l_made [.ins i [], v] = .ok (.tup [.str s]) := by
  obtain ⟨f1, f2⟩ := st
  have x : XP (k + 1) .Way_coded [.ins i [], v] = .ok (.str s) := by
    show onlyX exs_ (runX (x_Way_coded (F k)) 2 2 [.ins i [], v]) = _
    have e : runX (x_Way_coded (F k)) 2 2 [.ins i [], v] = .ok (.str s) := by
      simp only [EV, runX, x_Way_coded, callO_def, df, ds, f1, f2, e1, e2, finX, finO]
    rw [e]; rfl
  show runF (b_l_made (F (k + 1)) (XP (k + 1)) (UP (k + 1))) 2 3 [.ins i [], v] = _
  have ft : ∀ h, frzV h (.tup [.str s]) = some (.tup [.str s], h) := fun h => L3.frz_tup h rfl
  simp only [EV, runF, b_l_made, ev_sTry, eThen_exc, ev_methX, dx, callX_def, f1, f2, x, ft, finO]
theorem made_no (e1 : F k ff [.ins i [], v] = .ok (.bl false)) : F (k + 2) .l_made [.ins i [], v] = .ok (.lst [.str [118, 97, 108, 117, 101]]) := by
  obtain ⟨f1, f2⟩ := st
  have x : XP (k + 1) .Way_coded [.ins i [], v] = .exc 7 := by
    show onlyX exs_ (runX (x_Way_coded (F k)) 2 2 [.ins i [], v]) = _
    have e : runX (x_Way_coded (F k)) 2 2 [.ins i [], v] = .exc 7 := by
      simp only [EV, runX, x_Way_coded, callO_def, df, f1, f2, e1, ev_sRaise, finX, finO]
    rw [e]; rfl
  show runF (b_l_made (F (k + 1)) (XP (k + 1)) (UP (k + 1))) 2 3 [.ins i [], v] = _
  have ft : ∀ h, frzV h (.lst [.str [118, 97, 108, 117, 101]]) = some (.lst [.str [118, 97, 108, 117, 101]], h) := fun h => L3.frz_lst h rfl
  have ct : cat_FormError 7 = true := rfl
  have u : UP (k + 1) .l_class [.exc 7] = .ok (.lst [.str [118, 97, 108, 117, 101]]) := class_v
  have ex1 : ∀ h, frzV h (.exc 7) = some (.exc 7, h) := fun h => frz_exc h 7
  have ex2 : ∀ h, derefP h (.exc 7) = .exc 7 := fun h => rfl
  simp only [EV, runF, b_l_made, ev_sTry, eThen_exc, ev_methX, dx, callX_def, callO_def, f1, f2, x, ct, u, ex1, ex2, ft, finO]
end
def B10 : List PV := [.str [119, 111, 114, 100, 115], .str [], .non, .int 5, .lst [.str [119, 111, 114, 100]], .str [80, 108, 97, 105, 110], .str [108, 105, 110, 101, 101], .tup [.str [119, 111, 114, 100]], .bl true, .dct []]
theorem B10_stay : ∀ v ∈ B10, Stay v := by
  intro v hv
  unfold B10 at hv
  simp only [List.mem_cons, List.not_mem_nil, or_false] at hv
  rcases hv with rfl | rfl | rfl | rfl | rfl | rfl | rfl | rfl | rfl | rfl
  · exact stay_str _
  · exact stay_str _
  · exact stay_non
  · exact stay_int _
  · exact stay_lst rfl
  · exact stay_str _
  · exact stay_str _
  · exact stay_tup rfl
  · exact stay_bl _
  · exact stay_dct
theorem way_x (C : Fn → List PV → Out) : ∀ v ∈ B10, onlyX exs_ (runX (x_way_of C) 1 1 [v]) = .exc 6 := by
  intro v hv
  unfold B10 at hv
  simp only [List.mem_cons, List.not_mem_nil, or_false] at hv
  rcases hv with rfl | rfl | rfl | rfl | rfl | rfl | rfl | rfl | rfl | rfl <;> kernel_rfl
theorem way_no (k : Nat) (v : PV) (hv : v ∈ B10) : F (k + 2) .l_way [v] = .ok (.lst [.str [119, 97, 121]]) := by
  obtain ⟨f1, f2⟩ := B10_stay v hv
  have x : XP (k + 1) .way_of [v] = .exc 6 := way_x (F k) v hv
  show runF (b_l_way (F (k + 1)) (XP (k + 1)) (UP (k + 1))) 1 2 [v] = _
  have ft : ∀ h, frzV h (.lst [.str [119, 97, 121]]) = some (.lst [.str [119, 97, 121]], h) := fun h => L3.frz_lst h rfl
  have ct : cat_FormError 6 = true := rfl
  have u : UP (k + 1) .l_class [.exc 6] = .ok (.lst [.str [119, 97, 121]]) := class_w
  have ex1 : ∀ h, frzV h (.exc 6) = some (.exc 6, h) := fun h => frz_exc h 6
  have ex2 : ∀ h, derefP h (.exc 6) = .exc 6 := fun h => rfl
  simp only [EV, runF, b_l_way, ev_sTry, eThen_exc, ev_callX, callX_def, callO_def, f1, f2, x, ct, u, ex1, ex2, ft, finO]
theorem sorts (k : Nat) : ∀ i, i ≤ 4 → F (k + 1) .l_sorts [.ins i []] = .ok (.lst [.bl (decide (i = 0)), .bl (decide (i = 1)), .bl (decide (i = 2)), .bl (decide (i = 3)), .bl (decide (i = 4))]) := by
  intro i hi
  rcases i with _ | _ | _ | _ | _ | i
  · kernel_rfl
  · kernel_rfl
  · kernel_rfl
  · kernel_rfl
  · kernel_rfl
  · omega
theorem eq_refl {p : PV} {h : List L3.PO} (ok : okD h p = true) : pEq p p h = .ok (.bl true) h := by
  unfold pEq
  rw [if_pos ⟨ok, ok⟩]
  unfold okD at ok
  rw [PySem.SeqAt.eqv_refl _ ((Bool.and_eq_true _ _).mp ok).1]
theorem ne_refl {p : PV} {h : List L3.PO} (ok : okD h p = true) : pNe p p h = .ok (.bl false) h := by
  unfold pNe
  rw [if_pos ⟨ok, ok⟩]
  unfold okD at ok
  rw [PySem.SeqAt.eqv_refl _ ((Bool.and_eq_true _ _).mp ok).1]
  rfl
theorem refusals (k : Nat) (n : Int) : F (k + 3) .l_refusals_made [.int n] = .ok (.bl true) := by
  show runF (b_l_refusals_made (F (k + 2)) true) 1 2 [.int n] = _
  have xa : ∀ (as : Ax) ρ h, cXAt true as ρ h = (as ρ h).bind oneP := fun _ _ _ => rfl
  have o1 : ∀ (p : PV) h, oneP [p] h = .ok p h := fun _ _ => rfl
  have e : ∀ h, pEq (.lst [.int n, .tup [.int n, .int 0], .tup [.int n], .non, .int n]) (.lst [.int n, .tup [.int n, .int 0], .tup [.int n], .non, .int n]) h = .ok (.bl true) h := fun h => eq_refl (by
    unfold okD dOf
    simp [toD, toDs, PyData.canLay0, PyData.canLayAll0, PyData.depth, PyData.depthAll])
  simp only [EV, runF, b_l_refusals_made, xa, o1, e, finO]
abbrev vlu : List Nat := [118, 97, 108, 117, 101]
structure TurnOk (k i : Nat) (w : List Nat) (ff : Fn) (m m' : Int) : Prop where
  ex : ∃ val od s, F (k + 9) .l_value_by [.str w, .int m] = .ok val ∧ Stay val ∧ F (k + 9) .l_made [.ins i [], val] = .ok (.tup [.str s]) ∧ F (k + 9) ff [.ins i [], val] = .ok (.bl true) ∧ F (k + 9) .l_coded [.str w, val] = .ok (.str s) ∧ (∀ c ∈ s, c < 1114112) ∧
    F (k + 9) .l_odd [.str w, .int m'] = .ok od ∧ Stay od ∧ F (k + 9) ff [.ins i [], od] = .ok (.bl false) ∧ F (k + 9) .l_made [.ins i [], od] = .ok (.lst [.str vlu])
theorem frzg (ns : List Int) : ∀ h, frzV h (.giv (ns.map PV.int)) = some (.giv (ns.map PV.int), h) := fun h => frz_giv ns h
theorem turn (k : Nat) (ns : List Int) (t i : Nat) (w : List Nat) (ff : Fn) (o6 o7 o8 o9 : Option PV) (ht : t ≤ 2) (hi : i ≤ 4) (hix : atI WS (i : Int) = some (.str w)) (df : ∀ C, d_fits C i = some (C ff))
    (T : TurnOk k i w ff (mix (cellA ns (3 * i + t)) i) (mix (cellA ns (15 + 3 * i + t)) i)) : ∃ o6' o7' o8',
    w_law_2 (F (k + 9)) [some (.giv (ns.map PV.int)), some (.lst WS), some (.int (i : Int)), some (.ins i []), some (.ins i []), some (.int (t : Int)), o6, o7, o8, o9] [] = .nx [some (.giv (ns.map PV.int)), some (.lst WS), some (.int (i : Int)), some (.ins i []), some (.ins i []), some (.int (t : Int)), o6', o7', o8', o9] [] := by
  obtain ⟨val, od, s, v1, ⟨v2, v3⟩, v4, v5, v6, v7, w1, ⟨w2, w3⟩, w4, w5⟩ := T.ex
  refine ⟨some val, some (.tup [.str s]), some od, ?_⟩
  have e1 := cell_at (k + 8) ns (3 * i + t)
  have e2 := mixed (k + 8) (cellA ns (3 * i + t)) i (by omega)
  have e3 := cell_at (k + 8) ns (15 + 3 * i + t)
  have e4 := mixed (k + 8) (cellA ns (15 + 3 * i + t)) i (by omega)
  have c1 : (3 : Int) * (i : Int) + (t : Int) = ((3 * i + t : Nat) : Int) := by omega
  have c2 : (15 : Int) + 3 * (i : Int) + (t : Int) = ((15 + 3 * i + t : Nat) : Int) := by omega
  have m1 : mulC 3 (i : Int) = true := mulC_l rfl
  have n1 : ∀ h, pNe (.str s) (.str s) h = .ok (.bl false) h := fun h => by rw [pNe_ss _ _ _ v7 v7]; simp
  have n2 : ∀ h, pNe (.lst [.str vlu]) (.lst [.str vlu]) h = .ok (.bl false) h := fun h => ne_refl (show okD [] (.lst [.str vlu]) = true by decide +kernel)
  have q1 : ∀ h, pEq (.int (t : Int)) (.int 1) h = .ok (.bl (decide (t = 1))) h := fun h => by
    rw [pEq_ii]; congr 2; rw [Bool.eq_iff_iff]; simp; omega
  have a0 : atI [PV.str s] 0 = some (.str s) := rfl
  have fg := frzg ns
  by_cases ht1 : t = 1
  · rw [decide_eq_true ht1] at q1
    simp only [EV, w_law_2, callO_def, hix, c1, c2, m1, e1, e2, e3, e4, fg, v1, v2, v3, v4, v5, v6, w1, w2, w3, w4, w5, n1, n2, q1, df, a0, isnotb, bne_self_eq_false, finO]
  · rw [decide_eq_false ht1] at q1
    simp only [EV, w_law_2, callO_def, hix, c1, c2, m1, e1, e2, e3, e4, fg, v1, v2, v3, v4, v5, v6, w1, w2, w3, w4, w5, n1, n2, q1, df, a0, isnotb, bne_self_eq_false, finO]
theorem turn_W (k : Nat) (m m' : Int) (hm : 0 ≤ m) (hm' : 0 ≤ m') : TurnOk k 0 wW .Word_fits m m' := by
  obtain ⟨l, e, h1, h2, h3⟩ := val_W (k + 6) m hm
  obtain ⟨l', e', h1', h2', h3'⟩ := val_W (k + 5) (m' / 64) (Int.ediv_nonneg hm' (by decide))
  obtain ⟨od, o1, o2, o3⟩ := odd_W (k + 5) m' l' e' h1' h2' h3'
  exact ⟨.str l, od, l, e, stay_str l, made_ok (k + 7) 0 (.str l) .Word_fits .Word_spelling (stay_str l) (fun _ => rfl) (fun _ => rfl) l (fun _ => rfl) (word_fits (k + 4) l h1 h2 h3) (word_sp (k + 6) l), word_fits (k + 6) l h1 h2 h3, coded_W (k + 8) l, fun c hc => WG_lt c (h3 c hc),
    o1, o2, o3 (k + 6), made_no (k + 7) 0 od .Word_fits o2 (fun _ => rfl) (fun _ => rfl) (o3 (k + 4))⟩
theorem FG_lt : ∀ c ∈ [45, 48, 49, 50, 51, 52, 53, 54, 55, 56, 57], c < 1114112 := by decide
theorem turn_N (k : Nat) (m m' : Int) : TurnOk k 1 wN .Number_fits m m' := by
  obtain ⟨v, e, h1, h2⟩ := val_N (k + 6) m
  obtain ⟨od, o1, o2, o3⟩ := odd_N (k + 5) m'
  exact ⟨.int v, od, strI v, e, stay_int v, made_ok (k + 7) 1 (.int v) .Number_fits .Number_spelling (stay_int v) (fun _ => rfl) (fun _ => rfl) _ (fun _ => rfl) (number_fits (k + 5) v h1 h2) (number_sp (k + 6) v h1 h2), number_fits (k + 7) v h1 h2, coded_N (k + 8) v h1 h2, fun c hc => FG_lt c (strI_mem c hc),
    o1, o2, o3 (k + 7), made_no (k + 7) 1 od .Number_fits o2 (fun _ => rfl) (fun _ => rfl) (o3 (k + 5))⟩
theorem esc_Q : ∀ c ∈ q_e84fa8, ∀ x ∈ esc1 [94] [94, 34, 10] [94, 113, 110] c, x < 1114112 := by decide +kernel
theorem esc_P : ∀ c ∈ q_e84fa8, ∀ x ∈ esc1 [126] [126, 60, 62, 38, 124, 10] [126, 108, 103, 97, 98, 110] c, x < 1114112 := by decide +kernel
theorem esc_L : ∀ c ∈ q_e84fa8, ∀ x ∈ esc1 [126] [126, 10] [126, 110] c, x < 1114112 := by decide +kernel
theorem turn_Q (k : Nat) (m m' : Int) : TurnOk k 2 wQ .Quoted_fits m m' := by
  obtain ⟨l, e, h1, h2⟩ := val_T (k + 6) m wQ qQW qQN
  obtain ⟨l', e', h1', h2'⟩ := val_T (k + 5) (m' / 64) wQ qQW qQN
  obtain ⟨od, o1, o2, o3⟩ := odd_T (k + 5) m' wQ l' qQW qQN e' h1'
  have es : ∀ c ∈ QE l, c < 1114112 := esc_mem h2 esc_Q
  refine ⟨.str l, od, 34 :: (QE l ++ [34]), e, stay_str l, made_ok (k + 7) 2 (.str l) .Quoted_fits .Quoted_spelling (stay_str l) (fun _ => rfl) (fun _ => rfl) _ (fun _ => rfl) (quoted_fits (k + 4) l h1 h2) (quoted_sp (k + 4) l h1), quoted_fits (k + 6) l h1 h2, coded_Q (k + 8) l h1, fun c hc => ?_,
    o1, o2, (tf_no (k + 6) od o2 (o3 (k + 6))).1, made_no (k + 7) 2 od .Quoted_fits o2 (fun _ => rfl) (fun _ => rfl) (tf_no (k + 4) od o2 (o3 (k + 4))).1⟩
  simp only [List.mem_cons, List.mem_append, List.not_mem_nil, or_false] at hc
  rcases hc with rfl | hc | rfl
  · decide
  · exact es c hc
  · decide
theorem turn_P (k : Nat) (m m' : Int) : TurnOk k 3 wP .Plain_fits m m' := by
  obtain ⟨l, e, h1, h2⟩ := val_T (k + 6) m wP qPW qPN
  obtain ⟨l', e', h1', h2'⟩ := val_T (k + 5) (m' / 64) wP qPW qPN
  obtain ⟨od, o1, o2, o3⟩ := odd_T (k + 5) m' wP l' qPW qPN e' h1'
  exact ⟨.str l, od, PEs l, e, stay_str l, made_ok (k + 7) 3 (.str l) .Plain_fits .Plain_spelling (stay_str l) (fun _ => rfl) (fun _ => rfl) _ (fun _ => rfl) (plain_fits (k + 4) l h1 h2) (plain_sp (k + 4) l h1), plain_fits (k + 6) l h1 h2, coded_P (k + 8) l h1, esc_mem h2 esc_P,
    o1, o2, (tf_no (k + 6) od o2 (o3 (k + 6))).2.1, made_no (k + 7) 3 od .Plain_fits o2 (fun _ => rfl) (fun _ => rfl) (tf_no (k + 4) od o2 (o3 (k + 4))).2.1⟩
theorem turn_L (k : Nat) (m m' : Int) : TurnOk k 4 wL .Line_fits m m' := by
  obtain ⟨l, e, h1, h2⟩ := val_T (k + 6) m wL qLW qLN
  obtain ⟨l', e', h1', h2'⟩ := val_T (k + 5) (m' / 64) wL qLW qLN
  obtain ⟨od, o1, o2, o3⟩ := odd_T (k + 5) m' wL l' qLW qLN e' h1'
  exact ⟨.str l, od, LE l, e, stay_str l, made_ok (k + 7) 4 (.str l) .Line_fits .Line_spelling (stay_str l) (fun _ => rfl) (fun _ => rfl) _ (fun _ => rfl) (line_fits (k + 4) l h1 h2) (line_sp (k + 4) l h1), line_fits (k + 6) l h1 h2, coded_L (k + 8) l h1, esc_mem h2 esc_L,
    o1, o2, (tf_no (k + 6) od o2 (o3 (k + 6))).2.2, made_no (k + 7) 4 od .Line_fits o2 (fun _ => rfl) (fun _ => rfl) (tf_no (k + 4) od o2 (o3 (k + 4))).2.2⟩
theorem round (k : Nat) (ns : List Int) (i : Nat) (w bg en : List Nat) (ff fb fe fv : Fn) (vb : Bool) (hi : i ≤ 4) (hix : atI WS (i : Int) = some (.str w)) (ew : F (k + 9) .way_of [.str w] = .ok (.ins i []))
    (df : ∀ C, d_fits C i = some (C ff)) (db : ∀ C, d_begins C i = some (C fb)) (de : ∀ C, d_ends C i = some (C fe)) (dv : ∀ C, d_is_void C i = some (C fv))
    (eb : F (k + 9) fb [.ins i []] = .ok (.str bg)) (ee : F (k + 9) fe [.ins i []] = .ok (.str en)) (ev : F (k + 9) fv [.ins i []] = .ok (.bl vb)) (hb : ∀ c ∈ bg, c < 1114112) (he : ∀ c ∈ en, c < 1114112)
    (hmk : atI [PV.ins 0 [], .ins 1 [], .ins 2 [], .ins 3 [], .ins 4 []] (i : Int) = some (.ins i [])) (hwy : ∀ h, pIsC kd_ sC_ sT_ [.ins i [], .cls 15] h = .ok (.bl true) h)
    (hcm : ∀ ρ h, ρ[2]? = some (some (.int (i : Int))) → compL tYesE (e_law_1 (F (k + 9))) (capP [2] ρ) [.int (0 : Int), .int 1, .int 2, .int 3, .int 4] h = .ok [.bl (decide (i = 0)), .bl (decide (i = 1)), .bl (decide (i = 2)), .bl (decide (i = 3)), .bl (decide (i = 4))] h)
    (T : ∀ m m' : Int, 0 ≤ m → 0 ≤ m' → TurnOk k i w ff m m') (o3 o4 o5 o6 o7 o8 o9 : Option PV) : ∃ o3' o4' o5' o6' o7' o8',
    w_law_3 (F (k + 9)) [some (.giv (ns.map PV.int)), some (.lst WS), some (.int (i : Int)), o3, o4, o5, o6, o7, o8, o9] [] = .nx [some (.giv (ns.map PV.int)), some (.lst WS), some (.int (i : Int)), o3', o4', o5', o6', o7', o8', o9] [] := by
  have T' : ∀ t, TurnOk k i w ff (mix (cellA ns (3 * i + t)) i) (mix (cellA ns (15 + 3 * i + t)) i) := fun t => T _ _ (mix_range _ _).1 (mix_range _ _).1
  obtain ⟨a6, a7, a8, t0⟩ := turn k ns 0 i w ff o6 o7 o8 o9 (by omega) hi hix df (T' 0)
  obtain ⟨b6, b7, b8, t1⟩ := turn k ns 1 i w ff a6 a7 a8 o9 (by omega) hi hix df (T' 1)
  obtain ⟨c6, c7, c8, t2⟩ := turn k ns 2 i w ff b6 b7 b8 o9 (by omega) hi hix df (T' 2)
  refine ⟨some (.ins i []), some (.ins i []), some (.int ((2 : Nat) : Int)), c6, c7, c8, ?_⟩
  have rg : ∀ ρ h, aRange1 (aCons (cK (.int 3)) aNil) ρ h = .ok [.int ((0 : Nat) : Int), .int ((1 : Nat) : Int), .int ((2 : Nat) : Int)] h := fun _ _ => rfl
  have b5 : bel 4611686018427387904 5 = true := by decide
  have r5 : List.map (fun (j : Nat) => PV.int (0 + (j : Int))) (List.range (Int.toNat 5)) = [.int 0, .int 1, .int 2, .int 3, .int 4] := rfl
  have lp : sFor (aRange1 (aCons (cK (.int 3)) aNil)) (gNm 5) (w_law_2 (F (k + 9))) [some (.giv (ns.map PV.int)), some (.lst WS), some (.int (i : Int)), some (.ins i []), some (.ins i []), o5, o6, o7, o8, o9] [] = .nx [some (.giv (ns.map PV.int)), some (.lst WS), some (.int (i : Int)), some (.ins i []), some (.ins i []), some (.int ((2 : Nat) : Int)), c6, c7, c8, o9] [] := by
    simp only [ev_sFor, rg, lThen, ev_loop, ev_loop0, ev_gNm, List.set_cons_zero, List.set_cons_succ, t0, t1, t2]
  have n1 : ∀ h, pNe (.str bg) (.str bg) h = .ok (.bl false) h := fun h => by rw [pNe_ss _ _ _ hb hb]; simp
  have n2 : ∀ h, pNe (.str en) (.str en) h = .ok (.bl false) h := fun h => by rw [pNe_ss _ _ _ he he]; simp
  have n3 : ∀ h, pNe (.bl vb) (.bl vb) h = .ok (.bl false) h := fun h => ne_refl (by unfold okD dOf; simp [toD, PyData.canLay0, PyData.depth])
  have so := sorts (k + 8) i hi
  have n4 : ∀ h, pNe (.lst [.bl (decide (i = 0)), .bl (decide (i = 1)), .bl (decide (i = 2)), .bl (decide (i = 3)), .bl (decide (i = 4))]) (.lst [.bl (decide (i = 0)), .bl (decide (i = 1)), .bl (decide (i = 2)), .bl (decide (i = 3)), .bl (decide (i = 4))]) h = .ok (.bl false) h := fun h => ne_refl (by
    unfold okD dOf; simp [toD, toDs, PyData.canLay0, PyData.canLayAll0, PyData.depth, PyData.depthAll])
  have cm := hcm [some (.giv (ns.map PV.int)), some (.lst WS), some (.int (i : Int)), some (.ins i []), some (.ins i []), o5, o6, o7, o8, o9] [] rfl
  unfold w_law_3
  generalize sFor (aRange1 (aCons (cK (.int 3)) aNil)) (gNm 5) (w_law_2 (F (k + 9))) = B at lp ⊢
  simp only [EV, callO_def, hix, ew, hmk, df, db, de, dv, eb, ee, ev, n1, n2, n3, n4, hwy, so, b5, r5, cm, lp, Nat.reduceLT, finO]
theorem same_cm (C : Fn → List PV → Out) (i : Nat) (hi : i ≤ 4) (ρ : Ev) (h : List L3.PO) (e : ρ[2]? = some (some (.int (i : Int)))) :
    compL tYesE (e_law_1 C) (capP [2] ρ) [.int (0 : Int), .int 1, .int 2, .int 3, .int 4] h = .ok [.bl (decide (i = 0)), .bl (decide (i = 1)), .bl (decide (i = 2)), .bl (decide (i = 3)), .bl (decide (i = 4))] h := by
  have hc : capP [2] ρ = [some (.int (i : Int))] := by simp [capP, e]
  rw [hc]
  rcases i with _ | _ | _ | _ | _ | i
  · rfl
  · rfl
  · rfl
  · rfl
  · rfl
  · omega
theorem way_is (i : Nat) (hi : i ≤ 4) (h : List L3.PO) : pIsC kd_ sC_ sT_ [.ins i [], .cls 15] h = .ok (.bl true) h := by
  rcases i with _ | _ | _ | _ | _ | i
  · rfl
  · rfl
  · rfl
  · rfl
  · rfl
  · omega
theorem rounds (k : Nat) (ns : List Int) (o2 o3 o4 o5 o6 o7 o8 o9 : Option PV) : ∃ o2' o3' o4' o5' o6' o7' o8', sFor (aRange1 (aCons (cK (.int 5)) aNil)) (gNm 2) (w_law_3 (F (k + 9))) [some (.giv (ns.map PV.int)), some (.lst WS), o2, o3, o4, o5, o6, o7, o8, o9] [] = .nx [some (.giv (ns.map PV.int)), some (.lst WS), o2', o3', o4', o5', o6', o7', o8', o9] [] := by
  obtain ⟨a3, a4, a5, a6, a7, a8, e0⟩ := round k ns 0 wW q_46cf18 (but q_46cf18) .Word_fits .Word_begins .Word_ends .Way_is_void false (by omega) rfl (way_W (k + 8)) (fun _ => rfl) (fun _ => rfl) (fun _ => rfl) (fun _ => rfl) (bg_W (k + 6)) (en_W (k + 6)) (vd_0 (k + 6) 0) WG_lt (but_lt _) rfl (way_is 0 (by omega)) (same_cm _ 0 (by omega)) (turn_W k) o3 o4 o5 o6 o7 o8 o9
  obtain ⟨b3, b4, b5, b6, b7, b8, e1⟩ := round k ns 1 wN [45, 48, 49, 50, 51, 52, 53, 54, 55, 56, 57] (but FIG) .Number_fits .Number_begins .Number_ends .Way_is_void false (by omega) rfl (way_N (k + 8)) (fun _ => rfl) (fun _ => rfl) (fun _ => rfl) (fun _ => rfl) (bg_N (k + 6)) (en_N (k + 6)) (vd_0 (k + 6) 1) FG_lt (but_lt _) rfl (way_is 1 (by omega)) (same_cm _ 1 (by omega)) (fun m m' _ _ => turn_N k m m') a3 a4 a5 a6 a7 a8 o9
  obtain ⟨c3, c4, c5, c6, c7, c8, e2⟩ := round k ns 2 wQ [34] q_e84fa8 .Quoted_fits .Quoted_begins .Quoted_ends .Way_is_void false (by omega) rfl (way_Q (k + 8)) (fun _ => rfl) (fun _ => rfl) (fun _ => rfl) (fun _ => rfl) (bg_Q (k + 6)) (en_Q (k + 6)) (vd_0 (k + 6) 2) (by decide) SG_lt rfl (way_is 2 (by omega)) (same_cm _ 2 (by omega)) (fun m m' _ _ => turn_Q k m m') b3 b4 b5 b6 b7 b8 o9
  obtain ⟨d3, d4, d5, d6, d7, d8, e3⟩ := round k ns 3 wP (but [10, 38, 60, 62, 124]) [10, 38, 60, 62, 124] .Plain_fits .Plain_begins .Plain_ends .Plain_is_void true (by omega) rfl (way_P (k + 8)) (fun _ => rfl) (fun _ => rfl) (fun _ => rfl) (fun _ => rfl) (bg_P (k + 6)) (en_P (k + 6)) (vd_P (k + 6)) (but_lt _) (by decide) rfl (way_is 3 (by omega)) (same_cm _ 3 (by omega)) (fun m m' _ _ => turn_P k m m') c3 c4 c5 c6 c7 c8 o9
  obtain ⟨f3, f4, f5, f6, f7, f8, e4⟩ := round k ns 4 wL (but [10]) [10] .Line_fits .Line_begins .Line_ends .Line_is_void true (by omega) rfl (way_L (k + 8)) (fun _ => rfl) (fun _ => rfl) (fun _ => rfl) (fun _ => rfl) (bg_L (k + 6)) (en_L (k + 6)) (vd_L (k + 6)) (but_lt _) (by decide) rfl (way_is 4 (by omega)) (same_cm _ 4 (by omega)) (fun m m' _ _ => turn_L k m m') d3 d4 d5 d6 d7 d8 o9
  refine ⟨some (.int ((4 : Nat) : Int)), f3, f4, f5, f6, f7, f8, ?_⟩
  have rg : ∀ ρ h, aRange1 (aCons (cK (.int 5)) aNil) ρ h = .ok [.int ((0 : Nat) : Int), .int ((1 : Nat) : Int), .int ((2 : Nat) : Int), .int ((3 : Nat) : Int), .int ((4 : Nat) : Int)] h := fun _ _ => rfl
  simp only [ev_sFor, rg, lThen, ev_loop, ev_loop0, ev_gNm, List.set_cons_zero, List.set_cons_succ, e0, e1, e2, e3, e4]
theorem law_true : ∀ ns : List Int, ns.length ≤ 63 → F 30 .law [.giv (ns.map PV.int)] = .ok (.bl true) := by
  intro ns _
  show runF (b_law (F 29)) 1 10 [.giv (ns.map PV.int)] = _
  obtain ⟨a2, a3, a4, a5, a6, a7, a8, e⟩ := rounds 20 ns none none none none none none none none
  have e : sFor (aRange1 (aCons (cK (.int 5)) aNil)) (gNm 2) (w_law_3 (F 29)) [some (.giv (ns.map PV.int)), some (.lst WS), none, none, none, none, none, none, none, none] [] = _ := e
  obtain ⟨v, hm, he⟩ := pick (xs := B10) (m := cellA ns 30) (n := 10) rfl (by decide)
  obtain ⟨f1, f2⟩ := B10_stay v hm
  have wn : F 29 .l_way [v] = _ := way_no 27 v hm
  have c1 : F 29 .l_cell_at [.giv (ns.map PV.int), .int 30] = _ := cell_at 28 ns 30
  have c2 : F 29 .l_cell_at [.giv (ns.map PV.int), .int 31] = _ := cell_at 28 ns 31
  have m1 : F 29 .l_mixed [.int (cellA ns 31), .int 1] = _ := mixed 28 (cellA ns 31) 1 (by decide)
  have rf := refusals 26 (mix (cellA ns 31) (1 : Nat))
  have q1 : ∀ h, pEq (.lst [.str [119, 97, 121]]) (.lst [.str [119, 97, 121]]) h = .ok (.bl true) h := fun h => eq_refl (show okD [] (.lst [.str [119, 97, 121]]) = true by decide +kernel)
  have fg := frzg ns
  unfold B10 at he
  unfold b_law
  unfold WS at e
  generalize sFor (aRange1 (aCons (cK (.int 5)) aNil)) (gNm 2) (w_law_3 (F 29)) = B at e ⊢
  simp only [EV, runF, callO_def, e, he, f1, f2, wn, c1, c2, m1, rf, q1, fg, finO]
end K1
def PySem.W.Fast.tw4234976142948832718 : Unit := ()
def PySem.W.Fast.tw7707735012943051386 : Unit := ()
def PySem.W.Fast.tw17886203098315631636 : Unit := ()
def PySem.W.Fast.tw1482828135517395050 : Unit := ()
def PySem.W.Fast.tw975022046454484237 : Unit := ()
def PySem.W.Fast.tw11301772108938716542 : Unit := ()
def PySem.W.Fast.tw10305193959284701459 : Unit := ()
def PySem.W.Fast.tw13265884343787620758 : Unit := ()
def PySem.W.Fast.tw4629005959771194441 : Unit := ()
def PySem.W.Fast.tw7877083843470515516 : Unit := ()
def PySem.W.Fast.tw8096123688696006871 : Unit := ()
def PySem.W.Fast.tw2541507440013757867 : Unit := ()
def PySem.W.Fast.tw15476530059375579248 : Unit := ()
def PySem.W.Fast.tw13480664745935487617 : Unit := ()
def PySem.W.Fast.tw11906607034903943007 : Unit := ()
def PySem.W.Fast.tw7125598868907552651 : Unit := ()
def PySem.W.Fast.tw14359728241387223375 : Unit := ()
def PySem.W.Fast.tw277130507456726981 : Unit := ()
def PySem.W.Fast.tw12692787472162405994 : Unit := ()
def PySem.W.Fast.tw8114134180306370049 : Unit := ()
def PySem.W.Fast.tw3944422621921827067 : Unit := ()
def PySem.W.Fast.tw16612566994892545611 : Unit := ()
def PySem.W.Fast.tw34166536875509550 : Unit := ()
def PySem.W.Fast.tw17997394747322684014 : Unit := ()
def PySem.W.Fast.tw16528042044456260422 : Unit := ()
def PySem.W.Fast.tw14172274664646525348 : Unit := ()
def PySem.W.Fast.tw11785892562696546554 : Unit := ()
def PySem.W.Fast.tw1550972547528918266 : Unit := ()
def PySem.W.Fast.tw4445257092839005177 : Unit := ()
def PySem.W.Fast.tw16341680865687767500 : Unit := ()
def PySem.W.Fast.tw373584883876864259 : Unit := ()
def PySem.W.Fast.tw2895087082910599041 : Unit := ()
def PySem.W.Fast.tw8985922904449933408 : Unit := ()
def PySem.W.Fast.tw16389856634768578742 : Unit := ()
def PySem.W.Fast.tw5204949089979171088 : Unit := ()
def PySem.W.Fast.tw10301922115157377374 : Unit := ()
def PySem.W.Fast.tw9212772136912557770 : Unit := ()
def PySem.W.Fast.tw10834117577078814 : Unit := ()
def PySem.W.Fast.tw5769941696434337243 : Unit := ()
def PySem.W.Fast.tw10873064062247432707 : Unit := ()
def PySem.W.Fast.tw16409507062427323086 : Unit := ()
def PySem.W.Fast.tw1611508021614457023 : Unit := ()
def PySem.W.Fast.tw5112838672421087885 : Unit := ()
def PySem.W.Fast.tw15696034457056724005 : Unit := ()
def PySem.W.Fast.tw14091305895095171277 : Unit := ()
def PySem.W.Fast.tw3832476649074039587 : Unit := ()
def PySem.W.Fast.tw7001200457522925855 : Unit := ()
def PySem.W.Fast.tw12031826899974808008 : Unit := ()
def PySem.W.Fast.tw1936763431478637219 : Unit := ()
def PySem.W.Fast.tw13975863115735252597 : Unit := ()
def PySem.W.Fast.tw17307604103858956682 : Unit := ()
def PySem.W.Fast.tw2443109729190179179 : Unit := ()
def PySem.W.Fast.tw2054397720062392601 : Unit := ()
def PySem.W.Fast.tw2631196717011608835 : Unit := ()
def PySem.W.Fast.tw2675404253201979703 : Unit := ()
def PySem.W.Fast.tw9994977529183221223 : Unit := ()
def PySem.W.Fast.tw1492193159570561732 : Unit := ()
def PySem.W.Fast.tw1619655008986271729 : Unit := ()
def PySem.W.Fast.tw15930065591217967649 : Unit := ()
def PySem.W.Fast.tw10788159739289203666 : Unit := ()
def PySem.W.Fast.tw1232560405981735007 : Unit := ()
def PySem.W.Fast.tw16715587539057807557 : Unit := ()
def PySem.W.Fast.tw4626110908696309530 : Unit := ()
def PySem.W.Fast.tw13058347264501528112 : Unit := ()
def PySem.W.Fast.tw6828795839510040115 : Unit := ()
def PySem.W.Fast.tw15771489026751989799 : Unit := ()
def PySem.W.Fast.tw15429550027985144952 : Unit := ()
def PySem.W.Fast.tw14142066749859300638 : Unit := ()
def PySem.W.Fast.tw5589756044809833073 : Unit := ()
def PySem.W.Fast.tw596550056049248216 : Unit := ()
def PySem.W.Fast.tw17258284305971844214 : Unit := ()
def PySem.W.Fast.tw16399509733182327166 : Unit := ()
def PySem.W.Fast.tw6141329378025601883 : Unit := ()
open PySem PySem.W PyProof.Rows
set_option maxRecDepth 100000 in
set_option maxHeartbeats 0 in
theorem PySem.Challenge.cw_formsmith_k01_ways_of_coding_holds : PySem.Challenge.rw_formsmith_k01_ways_of_coding.Holds := by
  w_on; o_law; k_head; (case hw => w_witness2)
  k_fill
  refine L3.law_walk (l := PySem.Challenge.rw_formsmith_k01_ways_of_coding) (k := 30) (x := "_law_script") rfl rfl ⟨rfl, by decide, by decide, rfl⟩ (fun w h Y => PySem.W.kIn_of Y) ?F
  case F =>
    intro w mg fa h KX G hmg
    refine' K1.all_mk K1.law_true KX G hmg ?aC_Word ?pg_Word ?hd_Word ?po_Word ?sa_Word ?mk_Word ?in_Word ?kp_Word ?aC_Number ?pg_Number ?hd_Number ?po_Number ?sa_Number ?mk_Number ?in_Number ?kp_Number ?aC_Quoted ?pg_Quoted ?hd_Quoted ?po_Quoted ?sa_Quoted ?mk_Quoted ?in_Quoted ?kp_Quoted ?aC_Plain ?pg_Plain ?hd_Plain ?po_Plain ?sa_Plain ?mk_Plain ?in_Plain ?kp_Plain ?aC_Line ?pg_Line ?hd_Line ?po_Line ?sa_Line ?mk_Line ?in_Line ?kp_Line ?aC_FormError ?aC_BadWay ?aC_BadValue ?aC_BadValues ?aC_TooMany ?aC_Clash ?aC_BadText ?aC_BadName ?aC_Unclear ?aC_NoFill ?aC_Way ?cg1 ?cg2 ?kc1_Word ?kc2_Word ?kc3_Word ?kc1_Number ?kc2_Number ?kc3_Number ?kc1_Quoted ?kc2_Quoted ?kc3_Quoted ?kc1_Plain ?kc2_Plain ?kc3_Plain ?kc1_Line ?kc2_Line ?kc3_Line ?kc1_BadWay ?kc2_BadWay ?kc3_BadWay ?kc1_BadValue ?kc2_BadValue ?kc3_BadValue ?ki_BadWay_BadName ?ki_BadWay_BadText ?ki_BadWay_BadValue ?ki_BadWay_BadValues ?ki_BadWay_BadWay ?ki_BadWay_Clash ?ki_BadWay_NoFill ?ki_BadWay_TooMany ?ki_BadWay_Unclear ?ki_BadWay_ValueError ?ki_BadValue_BadName ?ki_BadValue_BadText ?ki_BadValue_BadValue ?ki_BadValue_BadValues ?ki_BadValue_BadWay ?ki_BadValue_Clash ?ki_BadValue_NoFill ?ki_BadValue_TooMany ?ki_BadValue_Unclear ?ki_BadValue_ValueError ?ki_Word_Line ?ki_Word_Number ?ki_Word_Plain ?ki_Word_Quoted ?ki_Word_Way ?ki_Word_Word ?ki_Number_Line ?ki_Number_Number ?ki_Number_Plain ?ki_Number_Quoted ?ki_Number_Way ?ki_Number_Word ?ki_Quoted_Line ?ki_Quoted_Number ?ki_Quoted_Plain ?ki_Quoted_Quoted ?ki_Quoted_Way ?ki_Quoted_Word ?ki_Plain_Line ?ki_Plain_Number ?ki_Plain_Plain ?ki_Plain_Quoted ?ki_Plain_Way ?ki_Plain_Word ?ki_Line_Line ?ki_Line_Number ?ki_Line_Plain ?ki_Line_Quoted ?ki_Line_Way ?ki_Line_Word ?xc1_BadName ?xc2_BadName ?xc3_BadName ?xc1_BadText ?xc2_BadText ?xc3_BadText ?xc1_BadValue ?xc2_BadValue ?xc3_BadValue ?xc1_BadWay ?xc2_BadWay ?xc3_BadWay ?xc1_NoFill ?xc2_NoFill ?xc3_NoFill ?xc1_Unclear ?xc2_Unclear ?xc3_Unclear ?xr_BadWay ?ex_BadWay_FormError ?xr_BadValue ?ex_BadValue_FormError ?a_0 ?l_0 ?c_0 ?k_0 ?a_1 ?l_1 ?c_1 ?k_1 ?a_2 ?l_2 ?c_2 ?k_2 ?a_3 ?l_3 ?c_3 ?k_3 ?a_4 ?l_4 ?c_4 ?k_4 ?a_5 ?l_5 ?c_5 ?k_5 ?a_6 ?l_6 ?c_6 ?k_6 ?a_7 ?l_7 ?c_7 ?k_7 ?a_8 ?l_8 ?c_8 ?k_8 ?me_Word_begins ?if_9 ?l_9 ?c_9 ?k_9 ?me_Number_begins ?if_10 ?l_10 ?c_10 ?k_10 ?me_Quoted_begins ?if_11 ?l_11 ?c_11 ?k_11 ?me_Plain_begins ?if_12 ?l_12 ?c_12 ?k_12 ?me_Line_begins ?if_13 ?l_13 ?c_13 ?k_13 ?me_Word_ends ?if_14 ?l_14 ?c_14 ?k_14 ?me_Number_ends ?if_15 ?l_15 ?c_15 ?k_15 ?me_Quoted_ends ?if_16 ?l_16 ?c_16 ?k_16 ?me_Plain_ends ?if_17 ?l_17 ?c_17 ?k_17 ?me_Line_ends ?if_18 ?l_18 ?c_18 ?k_18 ?me_Word_is_void ?me_Number_is_void ?me_Quoted_is_void ?if_19 ?l_19 ?c_19 ?k_19 ?me_Plain_is_void ?if_20 ?l_20 ?c_20 ?k_20 ?me_Line_is_void ?if_21 ?l_21 ?c_21 ?k_21 ?a_22 ?l_22 ?c_22 ?k_22 ?a_23 ?l_23 ?c_23 ?k_23 ?me_Word_fits ?if_24 ?l_24 ?c_24 ?k_24 ?me_Number_fits ?if_25 ?l_25 ?c_25 ?k_25 ?me_Quoted_fits ?if_26 ?l_26 ?c_26 ?k_26 ?me_Plain_fits ?if_27 ?l_27 ?c_27 ?k_27 ?me_Line_fits ?if_28 ?l_28 ?c_28 ?k_28 ?x2_BadText ?if_29 ?x1_BadText ?x3_BadText ?x4_BadText ?x5_BadText ?x6_BadText ?x7_BadText ?l_29 ?c_29 ?k_29 ?x2_BadName ?if_30 ?x1_BadName ?x3_BadName ?x4_BadName ?x5_BadName ?x6_BadName ?x7_BadName ?l_30 ?c_30 ?k_30 ?x2_Unclear ?if_31 ?x1_Unclear ?x3_Unclear ?x4_Unclear ?x5_Unclear ?x6_Unclear ?x7_Unclear ?l_31 ?c_31 ?k_31 ?x2_NoFill ?if_32 ?x1_NoFill ?x3_NoFill ?x4_NoFill ?x5_NoFill ?x6_NoFill ?x7_NoFill ?l_32 ?c_32 ?k_32 ?a_33 ?l_33 ?c_33 ?k_33 ?a_34 ?l_34 ?c_34 ?k_34 ?a_35 ?l_35 ?c_35 ?k_35 ?me_Word_coded ?me_Number_coded ?me_Quoted_coded ?me_Plain_coded ?me_Line_coded ?if_36 ?l_36 ?c_36 ?k_36 ?a_37 ?l_37 ?c_37 ?k_37 ?a_38 ?l_38 ?c_38 ?k_38 ?a_39 ?l_39 ?c_39 ?k_39 ?a_40 ?l_40 ?c_40 ?k_40 ?a_41 ?l_41 ?c_41 ?k_41 ?a_42 ?l_42 ?c_42 ?k_42 ?a_43 ?l_43 ?c_43 ?k_43 ?me_Word_spelling ?if_44 ?l_44 ?c_44 ?k_44 ?me_Number_spelling ?if_45 ?l_45 ?c_45 ?k_45 ?me_Quoted_spelling ?if_46 ?l_46 ?c_46 ?k_46 ?me_Plain_spelling ?if_47 ?l_47 ?c_47 ?k_47 ?me_Line_spelling ?if_48 ?l_48 ?c_48 ?k_48 ?a_49 ?l_49 ?c_49 ?k_49 ?g_FIGURES ?g_LINE_LETTERS ?g_LINE_SIGNS ?g_LINE_STOPS ?g_MOST_SIGNS ?g_MOST_WORD_SIGNS ?g_NUMBER_SIGNS ?g_PLAIN_LETTERS ?g_PLAIN_SIGNS ?g_PLAIN_STOPS ?g_QUOTED_LETTERS ?g_QUOTED_SIGNS ?g_SIGNS ?g_WORD_SIGNS ?n_ValueError ?n_abs ?n_bool ?n_int ?n_isinstance ?n_len ?n_range ?n_str ?n_tuple
    (case aC_Word => k_is)
    (case pg_Word => k_is)
    (case hd_Word => k_is)
    (case po_Word => k_is)
    (case sa_Word => k_is)
    (case mk_Word => k_is)
    (case in_Word => k_is)
    (case kp_Word => k_is)
    (case aC_Number => k_is)
    (case pg_Number => k_is)
    (case hd_Number => k_is)
    (case po_Number => k_is)
    (case sa_Number => k_is)
    (case mk_Number => k_is)
    (case in_Number => k_is)
    (case kp_Number => k_is)
    (case aC_Quoted => k_is)
    (case pg_Quoted => k_is)
    (case hd_Quoted => k_is)
    (case po_Quoted => k_is)
    (case sa_Quoted => k_is)
    (case mk_Quoted => k_is)
    (case in_Quoted => k_is)
    (case kp_Quoted => k_is)
    (case aC_Plain => k_is)
    (case pg_Plain => k_is)
    (case hd_Plain => k_is)
    (case po_Plain => k_is)
    (case sa_Plain => k_is)
    (case mk_Plain => k_is)
    (case in_Plain => k_is)
    (case kp_Plain => k_is)
    (case aC_Line => k_is)
    (case pg_Line => k_is)
    (case hd_Line => k_is)
    (case po_Line => k_is)
    (case sa_Line => k_is)
    (case mk_Line => k_is)
    (case in_Line => k_is)
    (case kp_Line => k_is)
    (case aC_FormError => k_is)
    (case aC_BadWay => k_is)
    (case aC_BadValue => k_is)
    (case aC_BadValues => k_is)
    (case aC_TooMany => k_is)
    (case aC_Clash => k_is)
    (case aC_BadText => k_is)
    (case aC_BadName => k_is)
    (case aC_Unclear => k_is)
    (case aC_NoFill => k_is)
    (case aC_Way => k_is)
    (case cg1 => k_is)
    (case cg2 => k_is)
    (case kc1_Word => k_is)
    (case kc2_Word => k_is)
    (case kc3_Word => first | rfl | kernel_rfl)
    (case kc1_Number => k_is)
    (case kc2_Number => k_is)
    (case kc3_Number => first | rfl | kernel_rfl)
    (case kc1_Quoted => k_is)
    (case kc2_Quoted => k_is)
    (case kc3_Quoted => first | rfl | kernel_rfl)
    (case kc1_Plain => k_is)
    (case kc2_Plain => k_is)
    (case kc3_Plain => first | rfl | kernel_rfl)
    (case kc1_Line => k_is)
    (case kc2_Line => k_is)
    (case kc3_Line => first | rfl | kernel_rfl)
    (case kc1_BadWay => k_is)
    (case kc2_BadWay => k_is)
    (case kc3_BadWay => first | rfl | kernel_rfl)
    (case kc1_BadValue => k_is)
    (case kc2_BadValue => k_is)
    (case kc3_BadValue => first | rfl | kernel_rfl)
    (case ki_BadWay_BadName => kit_is)
    (case ki_BadWay_BadText => kit_is)
    (case ki_BadWay_BadValue => kit_is)
    (case ki_BadWay_BadValues => kit_is)
    (case ki_BadWay_BadWay => kit_is)
    (case ki_BadWay_Clash => kit_is)
    (case ki_BadWay_NoFill => kit_is)
    (case ki_BadWay_TooMany => kit_is)
    (case ki_BadWay_Unclear => kit_is)
    (case ki_BadWay_ValueError => kit_is)
    (case ki_BadValue_BadName => kit_is)
    (case ki_BadValue_BadText => kit_is)
    (case ki_BadValue_BadValue => kit_is)
    (case ki_BadValue_BadValues => kit_is)
    (case ki_BadValue_BadWay => kit_is)
    (case ki_BadValue_Clash => kit_is)
    (case ki_BadValue_NoFill => kit_is)
    (case ki_BadValue_TooMany => kit_is)
    (case ki_BadValue_Unclear => kit_is)
    (case ki_BadValue_ValueError => kit_is)
    (case ki_Word_Line => kit_is)
    (case ki_Word_Number => kit_is)
    (case ki_Word_Plain => kit_is)
    (case ki_Word_Quoted => kit_is)
    (case ki_Word_Way => kit_is)
    (case ki_Word_Word => kit_is)
    (case ki_Number_Line => kit_is)
    (case ki_Number_Number => kit_is)
    (case ki_Number_Plain => kit_is)
    (case ki_Number_Quoted => kit_is)
    (case ki_Number_Way => kit_is)
    (case ki_Number_Word => kit_is)
    (case ki_Quoted_Line => kit_is)
    (case ki_Quoted_Number => kit_is)
    (case ki_Quoted_Plain => kit_is)
    (case ki_Quoted_Quoted => kit_is)
    (case ki_Quoted_Way => kit_is)
    (case ki_Quoted_Word => kit_is)
    (case ki_Plain_Line => kit_is)
    (case ki_Plain_Number => kit_is)
    (case ki_Plain_Plain => kit_is)
    (case ki_Plain_Quoted => kit_is)
    (case ki_Plain_Way => kit_is)
    (case ki_Plain_Word => kit_is)
    (case ki_Line_Line => kit_is)
    (case ki_Line_Number => kit_is)
    (case ki_Line_Plain => kit_is)
    (case ki_Line_Quoted => kit_is)
    (case ki_Line_Way => kit_is)
    (case ki_Line_Word => kit_is)
    (case xc1_BadName => k_is)
    (case xc2_BadName => k_is)
    (case xc3_BadName => k_is)
    (case xc1_BadText => k_is)
    (case xc2_BadText => k_is)
    (case xc3_BadText => k_is)
    (case xc1_BadValue => k_is)
    (case xc2_BadValue => k_is)
    (case xc3_BadValue => k_is)
    (case xc1_BadWay => k_is)
    (case xc2_BadWay => k_is)
    (case xc3_BadWay => k_is)
    (case xc1_NoFill => k_is)
    (case xc2_NoFill => k_is)
    (case xc3_NoFill => k_is)
    (case xc1_Unclear => k_is)
    (case xc2_Unclear => k_is)
    (case xc3_Unclear => k_is)
    (case xr_BadWay => k_exc)
    (case ex_BadWay_FormError => kts_exm)
    (case xr_BadValue => k_exc)
    (case ex_BadValue_FormError => kts_exm)
    (case a_0 => k_is)
    (case l_0 => k_is)
    (case c_0 => k_is)
    (case k_0 => k_is)
    (case a_1 => k_is)
    (case l_1 => k_is)
    (case c_1 => k_is)
    (case k_1 => k_is)
    (case a_2 => k_is)
    (case l_2 => k_is)
    (case c_2 => k_is)
    (case k_2 => k_is)
    (case a_3 => k_is)
    (case l_3 => k_is)
    (case c_3 => k_is)
    (case k_3 => k_is)
    (case a_4 => k_is)
    (case l_4 => k_is)
    (case c_4 => k_is)
    (case k_4 => k_is)
    (case a_5 => k_is)
    (case l_5 => k_is)
    (case c_5 => k_is)
    (case k_5 => k_is)
    (case a_6 => k_is)
    (case l_6 => k_is)
    (case c_6 => k_is)
    (case k_6 => k_is)
    (case a_7 => k_is)
    (case l_7 => k_is)
    (case c_7 => k_is)
    (case k_7 => k_is)
    (case a_8 => k_is)
    (case l_8 => k_is)
    (case c_8 => k_is)
    (case k_8 => k_is)
    (case me_Word_begins => k_is)
    (case if_9 => k_is)
    (case l_9 => k_is)
    (case c_9 => k_is)
    (case k_9 => k_is)
    (case me_Number_begins => k_is)
    (case if_10 => k_is)
    (case l_10 => k_is)
    (case c_10 => k_is)
    (case k_10 => k_is)
    (case me_Quoted_begins => k_is)
    (case if_11 => k_is)
    (case l_11 => k_is)
    (case c_11 => k_is)
    (case k_11 => k_is)
    (case me_Plain_begins => k_is)
    (case if_12 => k_is)
    (case l_12 => k_is)
    (case c_12 => k_is)
    (case k_12 => k_is)
    (case me_Line_begins => k_is)
    (case if_13 => k_is)
    (case l_13 => k_is)
    (case c_13 => k_is)
    (case k_13 => k_is)
    (case me_Word_ends => k_is)
    (case if_14 => k_is)
    (case l_14 => k_is)
    (case c_14 => k_is)
    (case k_14 => k_is)
    (case me_Number_ends => k_is)
    (case if_15 => k_is)
    (case l_15 => k_is)
    (case c_15 => k_is)
    (case k_15 => k_is)
    (case me_Quoted_ends => k_is)
    (case if_16 => k_is)
    (case l_16 => k_is)
    (case c_16 => k_is)
    (case k_16 => k_is)
    (case me_Plain_ends => k_is)
    (case if_17 => k_is)
    (case l_17 => k_is)
    (case c_17 => k_is)
    (case k_17 => k_is)
    (case me_Line_ends => k_is)
    (case if_18 => k_is)
    (case l_18 => k_is)
    (case c_18 => k_is)
    (case k_18 => k_is)
    (case me_Word_is_void => k_is)
    (case me_Number_is_void => k_is)
    (case me_Quoted_is_void => k_is)
    (case if_19 => k_is)
    (case l_19 => k_is)
    (case c_19 => k_is)
    (case k_19 => k_is)
    (case me_Plain_is_void => k_is)
    (case if_20 => k_is)
    (case l_20 => k_is)
    (case c_20 => k_is)
    (case k_20 => k_is)
    (case me_Line_is_void => k_is)
    (case if_21 => k_is)
    (case l_21 => k_is)
    (case c_21 => k_is)
    (case k_21 => k_is)
    (case a_22 => k_is)
    (case l_22 => k_is)
    (case c_22 => k_is)
    (case k_22 => k_is)
    (case a_23 => k_is)
    (case l_23 => k_is)
    (case c_23 => k_is)
    (case k_23 => k_is)
    (case me_Word_fits => k_is)
    (case if_24 => k_is)
    (case l_24 => k_is)
    (case c_24 => k_is)
    (case k_24 => k_is)
    (case me_Number_fits => k_is)
    (case if_25 => k_is)
    (case l_25 => k_is)
    (case c_25 => k_is)
    (case k_25 => k_is)
    (case me_Quoted_fits => k_is)
    (case if_26 => k_is)
    (case l_26 => k_is)
    (case c_26 => k_is)
    (case k_26 => k_is)
    (case me_Plain_fits => k_is)
    (case if_27 => k_is)
    (case l_27 => k_is)
    (case c_27 => k_is)
    (case k_27 => k_is)
    (case me_Line_fits => k_is)
    (case if_28 => k_is)
    (case l_28 => k_is)
    (case c_28 => k_is)
    (case k_28 => k_is)
    (case x2_BadText => k_is)
    (case if_29 => k_is)
    (case x1_BadText => first | rfl | kernel_rfl)
    (case x3_BadText => k_is)
    (case x4_BadText => first | rfl | kernel_rfl)
    (case x5_BadText => k_is)
    (case x6_BadText => k_is)
    (case x7_BadText => k_is)
    (case l_29 => k_is)
    (case c_29 => k_is)
    (case k_29 => k_is)
    (case x2_BadName => k_is)
    (case if_30 => k_is)
    (case x1_BadName => first | rfl | kernel_rfl)
    (case x3_BadName => k_is)
    (case x4_BadName => first | rfl | kernel_rfl)
    (case x5_BadName => k_is)
    (case x6_BadName => k_is)
    (case x7_BadName => k_is)
    (case l_30 => k_is)
    (case c_30 => k_is)
    (case k_30 => k_is)
    (case x2_Unclear => k_is)
    (case if_31 => k_is)
    (case x1_Unclear => first | rfl | kernel_rfl)
    (case x3_Unclear => k_is)
    (case x4_Unclear => first | rfl | kernel_rfl)
    (case x5_Unclear => k_is)
    (case x6_Unclear => k_is)
    (case x7_Unclear => k_is)
    (case l_31 => k_is)
    (case c_31 => k_is)
    (case k_31 => k_is)
    (case x2_NoFill => k_is)
    (case if_32 => k_is)
    (case x1_NoFill => first | rfl | kernel_rfl)
    (case x3_NoFill => k_is)
    (case x4_NoFill => first | rfl | kernel_rfl)
    (case x5_NoFill => k_is)
    (case x6_NoFill => k_is)
    (case x7_NoFill => k_is)
    (case l_32 => k_is)
    (case c_32 => k_is)
    (case k_32 => k_is)
    (case a_33 => k_is)
    (case l_33 => k_is)
    (case c_33 => k_is)
    (case k_33 => k_is)
    (case a_34 => k_is)
    (case l_34 => k_is)
    (case c_34 => k_is)
    (case k_34 => k_is)
    (case a_35 => k_is)
    (case l_35 => k_is)
    (case c_35 => k_is)
    (case k_35 => k_is)
    (case me_Word_coded => k_is)
    (case me_Number_coded => k_is)
    (case me_Quoted_coded => k_is)
    (case me_Plain_coded => k_is)
    (case me_Line_coded => k_is)
    (case if_36 => k_is)
    (case l_36 => k_is)
    (case c_36 => k_is)
    (case k_36 => k_is)
    (case a_37 => k_is)
    (case l_37 => k_is)
    (case c_37 => k_is)
    (case k_37 => k_is)
    (case a_38 => k_is)
    (case l_38 => k_is)
    (case c_38 => k_is)
    (case k_38 => k_is)
    (case a_39 => k_is)
    (case l_39 => k_is)
    (case c_39 => k_is)
    (case k_39 => k_is)
    (case a_40 => k_is)
    (case l_40 => k_is)
    (case c_40 => k_is)
    (case k_40 => k_is)
    (case a_41 => k_is)
    (case l_41 => k_is)
    (case c_41 => k_is)
    (case k_41 => k_is)
    (case a_42 => k_is)
    (case l_42 => k_is)
    (case c_42 => k_is)
    (case k_42 => k_is)
    (case a_43 => k_is)
    (case l_43 => k_is)
    (case c_43 => k_is)
    (case k_43 => k_is)
    (case me_Word_spelling => k_is)
    (case if_44 => k_is)
    (case l_44 => k_is)
    (case c_44 => k_is)
    (case k_44 => k_is)
    (case me_Number_spelling => k_is)
    (case if_45 => k_is)
    (case l_45 => k_is)
    (case c_45 => k_is)
    (case k_45 => k_is)
    (case me_Quoted_spelling => k_is)
    (case if_46 => k_is)
    (case l_46 => k_is)
    (case c_46 => k_is)
    (case k_46 => k_is)
    (case me_Plain_spelling => k_is)
    (case if_47 => k_is)
    (case l_47 => k_is)
    (case c_47 => k_is)
    (case k_47 => k_is)
    (case me_Line_spelling => k_is)
    (case if_48 => k_is)
    (case l_48 => k_is)
    (case c_48 => k_is)
    (case k_48 => k_is)
    (case a_49 => k_is)
    (case l_49 => k_is)
    (case c_49 => k_is)
    (case k_49 => k_is)
    (case g_FIGURES => k_is)
    (case g_LINE_LETTERS => k_is)
    (case g_LINE_SIGNS => k_is)
    (case g_LINE_STOPS => k_is)
    (case g_MOST_SIGNS => k_is)
    (case g_MOST_WORD_SIGNS => k_is)
    (case g_NUMBER_SIGNS => k_is)
    (case g_PLAIN_LETTERS => k_is)
    (case g_PLAIN_SIGNS => k_is)
    (case g_PLAIN_STOPS => k_is)
    (case g_QUOTED_LETTERS => k_is)
    (case g_QUOTED_SIGNS => k_is)
    (case g_SIGNS => k_is)
    (case g_WORD_SIGNS => k_is)
    (case n_ValueError => k_is)
    (case n_abs => k_is)
    (case n_bool => k_is)
    (case n_int => k_is)
    (case n_isinstance => k_is)
    (case n_len => k_is)
    (case n_range => k_is)
    (case n_str => k_is)
    (case n_tuple => k_is)
