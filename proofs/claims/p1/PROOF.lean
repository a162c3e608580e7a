import PyProof.Rows.All
import Wide.All
import OpenK.AllK
import Wide.FinOn
import PyProof.EqAt
import PyProof.EqKinds
import PyProof.TupleCall
import KE.BitLaws
import Open.SpecLaws
import KE.OsHead
import KE.OsGo
import PyProof.SetScanFacts
import PyProof.Rows.SetFrom
import PyProof.DictWalks
import PyProof.Rows.SortShellAny
import PyProof.ListNew
import PySem.Challenge.RW_scheduledhouse_s01_answers
set_option genSizeOf false
section
set_option Elab.async false
set_option linter.all false
set_option maxRecDepth 100000
namespace L2
open PySem PySem.Spec PyProof.Rows

noncomputable abbrev Key := Sum Int Str
noncomputable def keyIs : Key → Value → Bool
  | .inl k, v => Value.isInt k v
  | .inr x, v => Value.isStrOf x v
noncomputable def keyH (w : World) : Key → Int
  | .inl k => hashInt k
  | .inr x => hashStr w x
theorem keyIs_shape : ∀ {k : Key} {v : Value}, keyIs k v = true → (∃ i t, k = Sum.inl i ∧ v = Value.int i t) ∨ (∃ x t, k = Sum.inr x ∧ v = Value.str x t)
  | .inl i, v, h => by
    obtain ⟨t, e⟩ := Value.isInt_shape (k := i) (v := v) h
    exact .inl ⟨i, t, rfl, e⟩
  | .inr x, v, h => by
    obtain ⟨t, e⟩ := Value.isStrOf_shape (x := x) (v := v) h
    exact .inr ⟨x, t, rfl, e⟩
theorem key_ll (a b : Int) : decide ((Sum.inl a : Key) = Sum.inl b) = (a == b) := by
  by_cases e : a = b
  · subst e; simp
  · have h : ¬ (Sum.inl a : Key) = Sum.inl b := fun q => e (Sum.inl.inj q)
    rw [decide_eq_false h]
    exact (beq_eq_false_iff_ne.mpr e).symm
theorem key_rr (a b : Str) : decide ((Sum.inr a : Key) = Sum.inr b) = decide (a = b) := by
  by_cases e : a = b
  · subst e; simp
  · have h : ¬ (Sum.inr a : Key) = Sum.inr b := fun q => e (Sum.inr.inj q)
    rw [decide_eq_false h, decide_eq_false e]
theorem key_lr (a : Int) (b : Str) : decide ((Sum.inl a : Key) = Sum.inr b) = false := decide_eq_false (fun q => nomatch q)
theorem key_rl (a : Str) (b : Int) : decide ((Sum.inr a : Key) = Sum.inl b) = false := decide_eq_false (fun q => nomatch q)

noncomputable def mixKind (prog : Program) (w : World) : PySem.KeyKind prog w Key where
  is := keyIs
  hash := keyH w
  inj := fun v a b ha hb => by
    rcases keyIs_shape ha with ⟨i, t, rfl, rfl⟩ | ⟨x, t, rfl, rfl⟩
    · rcases keyIs_shape hb with ⟨j, u, rfl, e⟩ | ⟨y, u, rfl, e⟩
      · injection e with e1 _; rw [e1]
      · exact nomatch e
    · rcases keyIs_shape hb with ⟨j, u, rfl, e⟩ | ⟨y, u, rfl, e⟩
      · exact nomatch e
      · injection e with e1 _; rw [e1]
  byValue := fun k v h => by
    rcases keyIs_shape h with ⟨i, t, rfl, rfl⟩ | ⟨x, t, rfl, rfl⟩ <;> rfl
  pyHash := fun hv h => by
    rcases keyIs_shape hv with ⟨i, t, rfl, rfl⟩ | ⟨x, t, rfl, rfl⟩
    · exact wpAny_pyHash_int h
    · exact wpAny_pyHash_str h
  eqBool := fun hu hv h => by
    rcases keyIs_shape hu with ⟨i, t, rfl, rfl⟩ | ⟨x, t, rfl, rfl⟩
    · rcases keyIs_shape hv with ⟨j, u, rfl, rfl⟩ | ⟨y, u, rfl, rfl⟩
      · rw [key_ll] at h; exact wpAny_eqBool_int h
      · rw [key_lr] at h; exact SeqAt.EqAt.int_str i t y u _ _ _ _ h
    · rcases keyIs_shape hv with ⟨j, u, rfl, rfl⟩ | ⟨y, u, rfl, rfl⟩
      · rw [key_rl] at h; exact SeqAt.EqAt.str_int x t j u _ _ _ _ h
      · rw [key_rr] at h; exact wpAny_eqBool_str h
  «strs» := fun k x t v h => by
    rcases keyIs_shape h with ⟨i, u, rfl, e⟩ | ⟨y, u, rfl, e⟩
    · exact nomatch e
    · injection e with e1 _
      subst e1
      cases v <;> rfl

end L2

namespace L2
open PySem PySem.Spec PyProof.Rows

inductive V where
  | non | bl (b : Bool) | int (i : Int) | str (x : Str) | byt (b : Array UInt8) | flt (b : UInt64) | ref (a : Addr) | ty (n : String)
  deriving DecidableEq

noncomputable def RelV : V → Value → Prop
  | .non, u => u = Value.none
  | .bl b, u => u = Value.bool b
  | .int i, u => ∃ t, u = Value.int i t
  | .str x, u => ∃ t, u = Value.str x t
  | .byt b, u => ∃ t, u = Value.bytes b t
  | .flt b, u => ∃ t, u = Value.float b t
  | .ref a, u => u = Value.ref a
  | .ty n, u => u = Value.type n

noncomputable abbrev Vals : List V → List Value → Prop := Paired RelV
theorem Vals.length {xs : List V} {us : List Value} (r : Vals xs us) : xs.length = us.length := Paired.length r
theorem Vals.get : ∀ {xs : List V} {us : List Value} {i : Nat} {x : V}, Vals xs us → xs[i]? = some x → ∃ u, us[i]? = some u ∧ RelV x u
  | _, _, _, _, .nil, e => by simp at e
  | _, _, 0, _, .cons r _, e => by simp at e; subst e; exact ⟨_, rfl, r⟩
  | _, _, i + 1, x, .cons _ t, e => by
    obtain ⟨u, h1, h2⟩ := Vals.get (i := i) (x := x) t (by simpa using e)
    exact ⟨u, by simpa using h1, h2⟩
theorem Vals.set {x : V} {u : Value} (r : RelV x u) : ∀ {xs : List V} {us : List Value} (i : Nat), Vals xs us → Vals (xs.set i x) (us.set i u)
  | _, _, _, .nil => .nil
  | _, _, 0, .cons _ t => .cons r t
  | _, _, i + 1, .cons q t => .cons q (Vals.set r i t)
theorem Vals.append : ∀ {xs ys : List V} {us ws : List Value}, Vals xs us → Vals ys ws → Vals (xs ++ ys) (us ++ ws)
  | _, _, _, _, .nil, s => s
  | _, _, _, _, .cons r t, s => .cons r (Vals.append t s)
theorem Vals.take : ∀ {xs : List V} {us : List Value} (n : Nat), Vals xs us → Vals (xs.take n) (us.take n)
  | _, _, 0, _ => .nil
  | _, _, _ + 1, .nil => .nil
  | _, _, n + 1, .cons r t => .cons r (Vals.take n t)
theorem Vals.drop : ∀ {xs : List V} {us : List Value} (n : Nat), Vals xs us → Vals (xs.drop n) (us.drop n)
  | _, _, 0, r => r
  | _, _, _ + 1, .nil => .nil
  | _, _, n + 1, .cons _ t => Vals.drop n t

noncomputable def RelO : Option V → Option Value → Prop
  | some v, some u => RelV v u
  | none, none => True
  | _, _ => False
noncomputable def KV {κ : Type} : List (κ × V) → List (κ × Value) → Prop := Paired fun (p : κ × V) (q : κ × Value) => p.1 = q.1 ∧ RelV p.2 q.2

noncomputable def kV : Key → V
  | .inl i => .int i
  | .inr x => .str x

inductive HO where
  /-- a list -/
  | lst (xs : List V)
  /-- a tuple (never changes) -/
  | tup (xs : List V)
  /-- a dict whose keys are ints and texts; one whose keys are tuples of ints and texts (the empty one is both) -/
  | dK (kvs : List (Key × V)) | dT (kvs : List (List Key × V))
  /-- a set of ints: its members, its size -/
  | set (S : Int → Bool) (n : Nat)
  /-- an instance of the class at C, its dict at dx, its attributes -/
  | ins (C dx : Addr) (fs : List (Str × V))
  /-- the dict of the instance at x -/
  | own (x : Addr)
  /-- the dict of an exception -/
  | xd (fs : List (Str × V))
  /-- a bound method, f of x -/
  | met (f x : Addr)
  /-- a range object lo, lo + 1, .. below hi -/
  | rng (lo hi : Int)
  /-- a thing that is known to the object (the script; a dict while a loop walks it): read, never written while it is so -/
  | frz (o : Obj) (u : HO)
  /-- a code object's table -/
  | tbl (ps : Array Value)
  /-- any other thing, by what is true of its one object (a def of one's own: SetO a S n := HO.ext fun h => ..) -/
  | ext (φ : Heap → Prop)

noncomputable abbrev Hp := Addr → Option HO
noncomputable def upd (H : Hp) (a : Addr) (o : HO) : Hp := fun b => if b = a then some o else H b
theorem upd_same {H : Hp} {a : Addr} {o : HO} : upd H a o a = some o := by unfold upd; rw [if_pos rfl]
theorem upd_ne {H : Hp} {a b : Addr} {o : HO} (h : b ≠ a) : upd H a o b = H b := by unfold upd; rw [if_neg h]
theorem ne_of {H : Hp} {a b : Addr} {o u : HO} (h : H a = some o) (h' : H b = some u) (d : o ≠ u) : a ≠ b := by
  intro e; subst e; rw [h] at h'; exact d (Option.some.inj h')
theorem ne_of_none {H : Hp} {a b : Addr} {o : HO} (h : H a = some o) (h' : H b = none) : a ≠ b := by
  intro e; subst e; rw [h] at h'; cases h'

section
variable (P : Program) (w : World)
noncomputable def ObjOk (H : Hp) (h : Heap) (a : Addr) : HO → Prop
  | .lst xs => xs.length ≤ sizeLine ∧ ∃ (its : List Value) (n : Nat), Vals xs its ∧ h.get? a = some { cls := .type "list", data := .seq its.toArray n }
  | .tup xs => xs.length ≤ sizeLine ∧ ∃ its : List Value, Vals xs its ∧ IsTup h a its.toArray
  | .dK kvs => kvs.length ≤ sizeLine ∧ (a == sysModules) = false ∧ ∃ vs, KV kvs vs ∧ h.DictOf (mixKind P w) a vs
  | .dT kvs => kvs.length ≤ sizeLine ∧ (a == sysModules) = false ∧ ∃ xs : List (List Key × Addr × Value),
      Paired (fun (p : List Key × V) (q : List Key × Addr × Value) => p.1 = q.1 ∧ H q.2.1 = some (.tup (p.1.map kV)) ∧ RelV p.2 q.2.2) kvs xs ∧
      ∃ o es ep, h.get? a = some o ∧ o.ExactDict ∧ o.data = .dict es ep ∧ es.toList = xs.map (entryOfKey (tupleKind (mixKind P w))) ∧ (xs.map (·.1)).Nodup
  | .set S n => h.SetOf (intKind P w) a S n
  | .ins C dx fs => H dx = some (.own a) ∧ fs.length ≤ 1000 ∧ dx ≠ a ∧ h.get? a = some (PySem.W.instObj C dx) ∧
      ∃ mA, h.Ns1 dx mA ∧ (∀ f, RelO (fs.lookup f) (mA f)) ∧ PySem.Within mA (fs.map (·.1))
  | .own _ => ∃ o, h.get? a = some o
  | .xd fs => ∃ mA, h.Ns1 a mA ∧ ∀ f, RelO (fs.lookup f) (mA f)
  | .rng lo hi => ∃ t u v, h.get? a = some { cls := .type "range", data := .fields #[.int lo t, .int hi u, .int 1 v] }
  | .frz o u => h.get? a = some o ∧ ObjOk H h a u
  | .tbl ps => h.get? a = some { cls := .none, data := .fields ps }
  | .met f x => h.get? a = some (PySem.W.methodObj (.ref f) (.ref x))
  | .ext φ => φ h ∧ (∃ o, h.get? a = some o) ∧ ∀ h1 h2 : Heap, φ h1 → (∀ o, h1.get? a = some o → h2.get? a = some o) → φ h2
noncomputable def HOk (H : Hp) (h : Heap) : Prop := ∀ a o, H a = some o → ObjOk P w H h a o
end

section
variable {P : Program} {w : World} {H H' : Hp} {h h' : Heap} {a : Addr} {o : HO}
theorem ObjOk.lt (x : ObjOk P w H h a o) : a < h.objs.size := by
  cases o with
  | lst xs => obtain ⟨_, _, _, _, e⟩ := x; exact Heap.lt_size e
  | tup xs => obtain ⟨_, _, _, p⟩ := x; exact p.lt
  | dK kvs => obtain ⟨_, _, _, _, o, _, _, e, _⟩ := x; exact Heap.lt_size e
  | dT kvs => obtain ⟨_, _, _, _, o, _, _, e, _⟩ := x; exact Heap.lt_size e
  | set S n => obtain ⟨o, _, _, _, e, _⟩ := x; exact Heap.lt_size e
  | ins C dx fs => obtain ⟨_, _, _, e, _⟩ := x; exact Heap.lt_size e
  | own y => obtain ⟨_, e⟩ := x; exact Heap.lt_size e
  | xd fs => obtain ⟨_, ⟨_, _, _, e, _⟩, _⟩ := x; exact Heap.lt_size e
  | rng lo hi => obtain ⟨_, _, _, e⟩ := x; exact Heap.lt_size e
  | frz ob u => obtain ⟨e, _⟩ := x; exact Heap.lt_size e
  | tbl ps => exact Heap.lt_size (show h.get? a = some _ from x)
  | met f y => exact Heap.lt_size (show h.get? a = some _ from x)
  | ext φ => obtain ⟨_, ⟨_, e⟩, _⟩ := x; exact Heap.lt_size e
theorem Paired.mapP {α β : Type} {F G : α → β → Prop} : ∀ {l₁ : List α} {l₂ : List β}, Paired F l₁ l₂ → (∀ a b, F a b → G a b) → Paired G l₁ l₂
  | _, _, .nil, _ => .nil
  | _, _, .cons r t, f => .cons (f _ _ r) (Paired.mapP t f)
theorem ObjOk.stay (x : ObjOk P w H h a o) (k : ∀ b u, (b = a ∨ H b = some (.own a)) → h.get? b = some u → h'.get? b = some u)
    (ho : ∀ b, H b = some (.own a) → H' b = some (.own a)) (ht : ∀ b xs, H b = some (.tup xs) → H' b = some (.tup xs)) : ObjOk P w H' h' a o := by
  induction o with
  | lst xs => obtain ⟨z, its, n, r, e⟩ := x; exact ⟨z, its, n, r, k _ _ (.inl rfl) e⟩
  | tup xs => obtain ⟨z, its, r, ob, e, c⟩ := x; exact ⟨z, its, r, ob, k _ _ (.inl rfl) e, c⟩
  | dK kvs => obtain ⟨z, y, vs, r, ob, es, ep, e, c⟩ := x; exact ⟨z, y, vs, r, ob, es, ep, k _ _ (.inl rfl) e, c⟩
  | dT kvs =>
    obtain ⟨z, y, xs, r, ob, es, ep, e, c⟩ := x
    exact ⟨z, y, xs, Paired.mapP r fun p q z => ⟨z.1, ht _ _ z.2.1, z.2.2⟩, ob, es, ep, k _ _ (.inl rfl) e, c⟩
  | set S n => obtain ⟨ob, es, ep, t, e, c⟩ := x; exact ⟨ob, es, ep, t, k _ _ (.inl rfl) e, c⟩
  | ins C dx fs =>
    obtain ⟨d, z, ne, e, mA, ⟨od, es, ep, e2, c⟩, r⟩ := x
    exact ⟨ho _ d, z, ne, k _ _ (.inl rfl) e, mA, ⟨od, es, ep, k _ _ (.inr d) e2, c⟩, r⟩
  | own y => obtain ⟨ob, e⟩ := x; exact ⟨ob, k _ _ (.inl rfl) e⟩
  | xd fs => obtain ⟨mA, ⟨od, es, ep, e, c⟩, r⟩ := x; exact ⟨mA, ⟨od, es, ep, k _ _ (.inl rfl) e, c⟩, r⟩
  | rng lo hi => obtain ⟨t, u, v, e⟩ := x; exact ⟨t, u, v, k _ _ (.inl rfl) e⟩
  | frz ob u ih => obtain ⟨e, q⟩ := x; exact ⟨k _ _ (.inl rfl) e, ih q⟩
  | tbl ps =>
    have e : h.get? a = some { cls := .none, data := .fields ps } := x
    show h'.get? a = some { cls := .none, data := .fields ps }
    exact k a _ (.inl rfl) e
  | met f y =>
    have e : h.get? a = some (PySem.W.methodObj (.ref f) (.ref y)) := x
    show h'.get? a = some (PySem.W.methodObj (.ref f) (.ref y))
    exact k a _ (.inl rfl) e
  | ext φ => obtain ⟨p, ⟨o, e⟩, st⟩ := x; exact ⟨st _ _ p fun o q => k _ _ (.inl rfl) q, ⟨o, k _ _ (.inl rfl) e⟩, st⟩
theorem HOk.lt (x : HOk P w H h) (e : H a = some o) : a < h.objs.size := (x a o e).lt
theorem HOk.fresh (x : HOk P w H h) (e : h.objs.size ≤ a) : H a = none := by
  cases q : H a with
  | none => rfl
  | some u => exact absurd (Nat.lt_of_lt_of_le (x.lt q) e) (Nat.lt_irrefl _)
theorem HOk.kept (x : HOk P w H h) (k : ∀ b u, h.get? b = some u → h'.get? b = some u) : HOk P w H h' := fun a o e =>
  (x a o e).stay (fun b u _ q => k b u q) (fun _ q => q) fun _ _ q => q
theorem HOk.laid (x : HOk P w H h) (k : ∀ b u, h.get? b = some u → h'.get? b = some u) (hp : h.objs.size ≤ a) (new : ObjOk P w (upd H a o) h' a o) : HOk P w (upd H a o) h' := fun b u e => by
  have hn := x.fresh hp
  by_cases hb : b = a
  · subst hb; rw [upd_same] at e; cases e; exact new
  · rw [upd_ne hb] at e
    exact (x b u e).stay (fun c v _ q => k c v q) (fun c q => by rw [upd_ne (ne_of_none q hn)]; exact q) fun c xs q => by rw [upd_ne (ne_of_none q hn)]; exact q
end

noncomputable def Rd (H : Hp) (a : Addr) (u : HO) : Prop := H a = some u ∨ ∃ o, H a = some (.frz o u)
theorem Rd.ok {P : Program} {w : World} {H : Hp} {h : Heap} {a : Addr} {u : HO} (r : Rd H a u) (x : HOk P w H h) : ObjOk P w H h a u := by
  rcases r with r | ⟨o, r⟩
  · exact x a u r
  · obtain ⟨_, q⟩ := x a _ r
    exact q
noncomputable def Mut : Option HO → Prop
  | some (.lst _) => True
  | some (.dK _) => True
  | some (.dT _) => True
  | some (.set _ _) => True
  | some (.ins _ _ _) => True
  | some (.ext _) => True
  | _ => False
section
variable {P : Program} {w : World} {H : Hp} {h h' : Heap} {x e : Addr} {o' : HO}
theorem HOk.write (ok : HOk P w H h) (mu : Mut (H x)) (he : e = x ∨ H e = some (.own x)) (k : ∀ b u, b ≠ e → h.get? b = some u → h'.get? b = some u) (heo : ∃ u, h'.get? e = some u)
    (new : ObjOk P w (upd H x o') h' x o') : HOk P w (upd H x o') h' := fun b u q => by
  have nown : ∀ c y, H c = some (.own y) → c ≠ x := fun c y r z => by subst z; rw [r] at mu; exact mu
  have ntup : ∀ c xs, H c = some (.tup xs) → c ≠ x := fun c xs r z => by subst z; rw [r] at mu; exact mu
  by_cases hb : b = x
  · subst hb; rw [upd_same] at q; cases q; exact new
  · rw [upd_ne hb] at q
    by_cases hbe : b = e
    · have q' : H b = some (.own x) := by
        rcases he with z | z
        · exact absurd (hbe.trans z) hb
        · rw [hbe]; exact z
      rw [q] at q'; cases q'
      obtain ⟨v, hv⟩ := heo
      exact ⟨v, by rw [hbe]; exact hv⟩
    · refine (ok b u q).stay (fun c v hc r => k c v ?_ r) (fun c r => by rw [upd_ne (nown c b r)]; exact r) fun c xs r => by rw [upd_ne (ntup c xs r)]; exact r
      rcases hc with rfl | hc
      · exact hbe
      · rintro rfl
        rcases he with z | z
        · exact nown c b hc z
        · rw [hc] at z; cases z; exact hb rfl
end

structure Un (fs ex : List Addr) (H H' : Hp) (h h' : Heap) : Prop where
  keep : ∀ b o, h.get? b = some o → H b = none → b ∉ fs → b ∉ ex → h'.get? b = some o
  slot : ∀ b o, h.get? b = some o → H b = none → b ∈ fs → b ∉ ex → ∃ sl, h'.get? b = some { o with slots := sl }
  free : ∀ b o, h.get? b = some o → H b = none → b ∉ ex → H' b = none
  there : ∀ b o, h.get? b = some o → b ∉ ex → ∃ o', h'.get? b = some o'
  tups : ∀ b xs, H b = some (.tup xs) → H' b = some (.tup xs)
  frzs : ∀ b o u, H b = some (.frz o u) → H' b = some (.frz o u)
  tbls : ∀ b ps, H b = some (.tbl ps) → ∃ more, H' b = some (.tbl (ps ++ more))
section
variable {fs fs' ex ex' : List Addr} {H H1 H2 : Hp} {h h1 h2 h' : Heap} {a x e : Addr} {o : HO}
theorem Un.any (u : Un fs ex H H1 h h1) {b : Addr} {ob : Obj} (q : h.get? b = some ob) (n : H b = none) (hx : b ∉ ex) : ∃ sl, h1.get? b = some { ob with slots := sl } := by
  by_cases hb : b ∈ fs
  · exact u.slot b ob q n hb hx
  · exact ⟨ob.slots, u.keep b ob q n hb hx⟩
theorem Un.kept (k : ∀ b u, h.get? b = some u → h'.get? b = some u) : Un fs ex H H h h' :=
  ⟨fun b ob q _ _ _ => k b ob q, fun b ob q _ _ _ => ⟨ob.slots, k b ob q⟩, fun _ _ _ n _ => n, fun b ob q _ => ⟨ob, k b ob q⟩, fun _ _ q => q, fun _ _ _ q => q, fun _ ps q => ⟨#[], by rw [q]; simp⟩⟩
theorem Un.refl : Un fs ex H H h h := Un.kept fun _ _ q => q
theorem Un.laid (k : ∀ b u, h.get? b = some u → h'.get? b = some u) (hp : h.objs.size ≤ a) (hn : H a = none) : Un fs ex H (upd H a o) h h' where
  keep := fun b u q _ _ _ => k b u q
  slot := fun b u q _ _ _ => ⟨u.slots, k b u q⟩
  free := fun b u q n _ => by rw [upd_ne (Nat.ne_of_lt (Nat.lt_of_lt_of_le (Heap.lt_size q) hp))]; exact n
  there := fun b u q _ => ⟨u, k b u q⟩
  tups := fun b xs q => by rw [upd_ne (ne_of_none q hn)]; exact q
  frzs := fun b u xs q => by rw [upd_ne (ne_of_none q hn)]; exact q
  tbls := fun b ps q => ⟨#[], by rw [upd_ne (ne_of_none q hn), q]; simp⟩
theorem Un.write (mu : Mut (H x)) (he : e = x ∨ H e = some (.own x)) (k : ∀ b u, b ≠ e → h.get? b = some u → h'.get? b = some u) (heo : ∃ u, h'.get? e = some u) : Un fs ex H (upd H x o) h h' := by
  have hx : ∀ b, H b = none → b ≠ x := fun b n z => by subst z; rw [n] at mu; exact mu
  have hb : ∀ b, H b = none → b ≠ e := fun b n z => by
    subst z
    rcases he with r | r
    · exact hx b n r
    · rw [n] at r; cases r
  have hm : ∀ b u, H b = some u → ¬ Mut (some u) → b ≠ x := fun b u q nm z => by subst z; rw [q] at mu; exact nm mu
  refine ⟨fun b u q n _ _ => k b u (hb b n) q, fun b u q n _ _ => ⟨u.slots, k b u (hb b n) q⟩, fun b u q n _ => by rw [upd_ne (hx b n)]; exact n, fun b u q _ => ?_,
    fun b xs q => by rw [upd_ne (hm b _ q fun z => z)]; exact q, fun b u xs q => by rw [upd_ne (hm b _ q fun z => z)]; exact q, fun b ps q => ⟨#[], by rw [upd_ne (hm b _ q fun z => z), q]; simp⟩⟩
  by_cases hbe : b = e
  · subst hbe; exact heo
  · exact ⟨u, k b u hbe q⟩
end

noncomputable def trk (h : Heap) (H : Hp) : List Addr := (List.range h.objs.size).filter fun a => (H a).isSome
noncomputable def hidT (h : Heap) (H : Hp) : Heap := PySem.W.hideAll h (trk h H)
theorem hidT_size (h : Heap) (H : Hp) : (hidT h H).objs.size = h.objs.size := PySem.W.hideAll_size _ _
theorem hidT_get {h : Heap} {H : Hp} {b : Addr} {o : Obj} (e : h.get? b = some o) (n : H b = none) : (hidT h H).get? b = some o :=
  PySem.W.hideAll_get _ e fun hm => by
    have q : (H b).isSome = true := (List.mem_filter.mp hm).2
    rw [n] at q; simp at q
theorem of_hidT {h : Heap} {H : Hp} {b : Addr} {o : Obj} (e : (hidT h H).get? b = some o) : h.get? b = some o ∧ H b = none := by
  have e' : h.get? b = some o := PySem.W.of_hideAll (trk h H) e
  refine ⟨e', ?_⟩
  cases q : H b with
  | none => rfl
  | some x =>
    have hm : b ∈ trk h H := List.mem_filter.mpr ⟨List.mem_range.mpr (Heap.lt_size e'), by simp [q]⟩
    have z : (hidT h H).get? b = none := PySem.W.hideAll_none (trk h H) hm
    rw [z] at e; cases e

end L2

namespace L2
open PySem PySem.Spec PyProof.Rows

structure Mod (K : PySem.W.Frag) (mg : Str → Option Value) (base : Heap) : Prop where
  kin : K.In base
  glob : base.Ns mainGlobals mg
  blt : ∃ mb, base.Ns builtinsNs mb ∧ ∀ x : Str, x ≠ "__name__" → mb x = bootBuiltins x
  nolimit : base.NoLimit

structure Cx where
  prog : Program
  w : World
  K : PySem.W.Frag
  mg : Str → Option Value
  base : Heap
  A : Around
  N : List Str
  s_0 : Shared
  H_0 : Hp
  env : Env
  outer : List Env
  stack : List Env
  ex : List Addr
  fn : Str → Bool
  calm : Bool
  pn : List (Addr × Obj)
  xe : Value → Shared → Prop
noncomputable def frs (l : List Env) : List Addr := l.filterMap (·.frame)
noncomputable abbrev Cx.fs (X : Cx) : List Addr := frs X.outer

noncomputable def Vis (sc : Scope) (x : Str) : Prop := sc.names.lookup x = some .local ∨ sc.names.lookup x = some .cell ∨ sc.names.lookup x = some .free
noncomputable def Loc (sc : Scope) (x : Str) : Prop := sc.names.lookup x = some .local ∨ sc.names.lookup x = some .cell
noncomputable def Look (env : Env) (h : Heap) (m : Str → Option Value) (x : Str) (u : Value) : Prop :=
  (env.kindOf x = some .local ∧ m x = some u) ∨ ((env.kindOf x = some .cell ∨ env.kindOf x = some .free) ∧ ∃ c, env.cells.lookup x = some c ∧ h.IsCell c (some u))

structure Cx.Ok (X : Cx) : Prop where
  mod : Mod X.K X.mg X.base
  kind : X.env.scope.kind = .function
  glob : X.env.globals = mainGlobals
  blt : X.env.builtins = builtinsNs
  above : X.s_0.heap.objs.size ≤ X.env.locals
  inj : ∀ x y c, X.env.cells.lookup x = some c → X.env.cells.lookup y = some c → x = y
  has : ∀ x, (X.env.kindOf x = some .cell ∨ X.env.kindOf x = some .free) → ∃ c, X.env.cells.lookup x = some c
  cab : ∀ x c, X.fn x = true → X.env.cells.lookup x = some c → X.s_0.heap.objs.size ≤ c
  hd : X.calm = true → X.A.handled = none
  frames : X.A.frames = some X.stack
  stk : X.stack = X.outer ∨ (X.stack = X.env :: X.outer ∧ X.env.frame = some X.env.locals)
  exf : ∀ b ∈ X.ex, b ≠ X.env.locals ∧ ∀ x c, X.env.cells.lookup x = some c → c ≠ b
  bs : ∀ b o, X.base.get? b = some o → X.s_0.heap.get? b = some o ∧ X.H_0 b = none
  bsz : X.base.objs.size ≤ X.s_0.heap.objs.size
  noex : ∀ b o, X.base.get? b = some o → b ∉ X.ex
  exfs : ∀ b ∈ X.ex, b ∉ X.fs
  funs : X.s_0.heap.FunFrames X.base X.outer
  frf : ∀ b ∈ X.fs, X.H_0 b = none

structure Inv (X : Cx) (pins : List (Addr × Obj)) (σ : List (Option V)) (H : Hp) (s : Shared) : Prop where
  ok : X.Ok
  os : s.os = X.s_0.os
  bare : AllBare s.gens
  base : Un X.fs X.ex X.H_0 H X.s_0.heap s.heap
  loc : ∃ m, s.heap.Ns X.env.locals m ∧ ∀ (i : Nat) (x : Str) (v : V), X.N[i]? = some x → σ[i]? = some (some v) → Vis X.env.scope x → ∃ u, RelV v u ∧ Look X.env s.heap m x u
  cell : ∀ x c, X.env.cells.lookup x = some c → ∃ v, s.heap.IsCell c v
  free : H X.env.locals = none
  freeC : ∀ x c, X.env.cells.lookup x = some c → H c = none
  pin : ∀ p ∈ X.pn ++ pins, s.heap.get? p.1 = some p.2 ∧ H p.1 = none ∧ p.1 ≠ X.env.locals ∧ p.1 ∉ X.fs ∧ ∀ v, p.2.data ≠ .cell v
  hok : HOk X.prog X.w H s.heap
  len : σ.length = X.N.length

section
variable {X : Cx} {pins : List (Addr × Obj)} {σ : List (Option V)} {H H' : Hp} {s : Shared} {h' : Heap}

theorem Cx.Ok.nofr (ok : X.Ok) {b : Addr} {o : Obj} (e : X.base.get? b = some o) : b ∉ X.fs := fun hb => by
  have := (ok.funs.mem hb).1
  rw [e] at this; cases this
theorem Inv.bs (I : Inv X pins σ H s) : ∀ b o, X.base.get? b = some o → s.heap.get? b = some o ∧ H b = none := fun b o e =>
  ⟨I.base.keep b o (I.ok.bs b o e).1 (I.ok.bs b o e).2 (I.ok.nofr e) (I.ok.noex b o e), I.base.free b o (I.ok.bs b o e).1 (I.ok.bs b o e).2 (I.ok.noex b o e)⟩
theorem Inv.bk (I : Inv X pins σ H s) : ∀ b o, X.base.get? b = some o → s.heap.get? b = some o := fun b o e => (I.bs b o e).1
theorem Inv.mod (I : Inv X pins σ H s) : Mod X.K X.mg X.base := I.ok.mod
theorem Inv.kIn (I : Inv X pins σ H s) : X.K.In s.heap := I.ok.mod.kin.keeps I.bk
theorem Inv.fr (I : Inv X pins σ H s) : ∃ m, Fr X.base X.env.locals s.heap m :=
  let ⟨m, hn, _⟩ := I.loc
  ⟨m, hn, I.bk, Nat.le_trans I.ok.bsz I.ok.above⟩
theorem Inv.lt (I : Inv X pins σ H s) : X.env.locals < s.heap.objs.size := let ⟨_, hn, _⟩ := I.loc; hn.lt
theorem Inv.sz (I : Inv X pins σ H s) : X.s_0.heap.objs.size ≤ s.heap.objs.size := Nat.le_trans I.ok.above (Nat.le_of_lt I.lt)
theorem Inv.nofs (I : Inv X pins σ H s) {a : Addr} (h : s.heap.objs.size ≤ a) : a ∉ X.fs := fun hb => by
  obtain ⟨_, o, ho, _⟩ := I.ok.funs.mem hb
  exact absurd (Nat.lt_of_lt_of_le (Heap.lt_size ho) (Nat.le_trans I.sz h)) (Nat.lt_irrefl _)
theorem Inv.cne (I : Inv X pins σ H s) : ∀ x c, X.env.cells.lookup x = some c → c ≠ X.env.locals := fun x c e z => by
  obtain ⟨v, o, ho, hd⟩ := I.cell x c e
  obtain ⟨m, ⟨o', es, ep, ho', hd', _⟩, _⟩ := I.loc
  rw [z, ho'] at ho; cases ho; rw [hd'] at hd; cases hd
theorem Inv.funs (I : Inv X pins σ H s) : s.heap.FunFrames X.base X.outer := by
  have all : ∀ (l : List Env), (∀ b ∈ frs l, b ∈ X.fs) → X.s_0.heap.FunFrames X.base l → s.heap.FunFrames X.base l := by
    intro l
    induction l with
    | nil => intro _ _; trivial
    | cons env r ih =>
      intro hs hl
      obtain ⟨hk, ⟨L, o, hf, hn, ho, hd⟩, hr⟩ := hl
      have hL : L ∈ X.fs := hs L (by unfold frs; rw [List.filterMap_cons, hf]; exact List.mem_cons_self)
      obtain ⟨sl, e⟩ := I.base.slot L o ho (I.ok.frf L hL) hL fun z => I.ok.exfs L z hL
      exact ⟨hk, ⟨L, _, hf, hn, e, hd⟩, ih (fun b hb => hs b (by unfold frs; rw [List.filterMap_cons, hf]; exact List.mem_cons_of_mem _ hb)) hr⟩
  exact all X.outer (fun _ hb => hb) I.ok.funs

theorem Inv.stack (I : Inv X pins σ H s) : s.heap.FunFrames X.base X.stack := by
  rcases I.ok.stk with e | ⟨e, hf⟩
  · rw [e]; exact I.funs
  · rw [e]
    obtain ⟨m, hn, _⟩ := I.loc
    refine .cons (by rw [I.ok.kind]; decide) hf hn ?_ I.funs
    exact Heap.get?_none_of_le (Nat.le_trans I.ok.bsz I.ok.above)
theorem Inv.stkSub (I : Inv X pins σ H s) : ∀ b ∈ frs X.stack, b ∈ X.env.locals :: X.fs := fun b hb => by
  rcases I.ok.stk with e | ⟨e, hf⟩
  · rw [e] at hb; exact List.mem_cons_of_mem _ hb
  · rw [e] at hb
    unfold frs at hb
    rw [List.filterMap_cons, hf] at hb
    exact hb
theorem Inv.stkFree (I : Inv X pins σ H s) : ∀ b ∈ frs X.stack, H b = none := fun b hb => by
  rcases List.mem_cons.mp (I.stkSub b hb) with e | hb
  · rw [e]; exact I.free
  · obtain ⟨_, o, ho, _⟩ := I.ok.funs.mem hb
    exact I.base.free b o ho (I.ok.frf b hb) fun z => I.ok.exfs b z hb

theorem Inv.step {g' : Array GenState} {t' : Nat} {d' : Drawn} {ch : List Addr} (I : Inv X pins σ H s)
    (hch : ∀ b ∈ ch, (b ∈ X.ex ∨ X.s_0.heap.objs.size ≤ b) ∧ b ≠ X.env.locals ∧ (∀ x c, X.env.cells.lookup x = some c → c ≠ b) ∧ ∀ p ∈ X.pn ++ pins, p.1 ≠ b)
    (keep : ∀ b o, b ≠ X.env.locals → b ∉ X.fs → b ∉ ch → s.heap.get? b = some o → H b = none → h'.get? b = some o)
    (slot : ∀ b o, b ≠ X.env.locals → b ∈ X.fs → b ∉ ch → s.heap.get? b = some o → H b = none → ∃ sl, h'.get? b = some { o with slots := sl }) (free : ∀ b o, b ∉ ch → s.heap.get? b = some o → H b = none → H' b = none)
    (there : ∀ b o, b ∉ ch → s.heap.get? b = some o → ∃ o', h'.get? b = some o')
    (tups : ∀ b xs, H b = some (.tup xs) → H' b = some (.tup xs)) (frzs : ∀ b o u, H b = some (.frz o u) → H' b = some (.frz o u)) (tbls : ∀ b ps, H b = some (.tbl ps) → ∃ more, H' b = some (.tbl (ps ++ more)))
    (ns : ∀ m, s.heap.Ns X.env.locals m → h'.Ns X.env.locals m) (hok : HOk X.prog X.w H' h') (hg : AllBare g') :
    Inv X pins σ H' { s with heap := h', gens := g', drawn := d', toks := t' } := by
  have neL : ∀ b o, X.s_0.heap.get? b = some o → b ≠ X.env.locals := fun b o e => Nat.ne_of_lt (Nat.lt_of_lt_of_le (Heap.lt_size e) I.ok.above)
  have neC : ∀ b o, X.s_0.heap.get? b = some o → b ∉ X.ex → b ∉ ch := fun b o e hx hb => by
    rcases (hch b hb).1 with z | z
    · exact hx z
    · exact absurd (Nat.lt_of_lt_of_le (Heap.lt_size e) z) (Nat.lt_irrefl _)
  have cellK : ∀ x c, X.env.cells.lookup x = some c → ∀ v, s.heap.IsCell c v → h'.IsCell c v := fun x c e v ⟨o, ho, hd⟩ => by
    have nch : c ∉ ch := fun z => (hch c z).2.2.1 x c e rfl
    by_cases hc : c ∈ X.fs
    · obtain ⟨sl, q⟩ := slot c o (I.cne x c e) hc nch ho (I.freeC x c e)
      exact ⟨_, q, hd⟩
    · exact ⟨o, keep c o (I.cne x c e) hc nch ho (I.freeC x c e), hd⟩
  refine ⟨I.ok, I.os, hg, ⟨fun b o e n hb hx => ?_, fun b o e n hb hx => ?_, fun b o e n hx => ?_, fun b o e hx => ?_, fun b xs e => tups b xs (I.base.tups b xs e), fun b o xs e => frzs b o xs (I.base.frzs b o xs e), fun b ps e => ?_⟩, ?_, fun x c e => ?_, ?_, fun x c e => ?_, fun p hp => ?_, hok, I.len⟩
  · exact keep b o (neL b o e) hb (neC b o e hx) (I.base.keep b o e n hb hx) (I.base.free b o e n hx)
  · obtain ⟨sl, e1⟩ := I.base.slot b o e n hb hx
    obtain ⟨sl', e2⟩ := slot b _ (neL b o e) hb (neC b o e hx) e1 (I.base.free b o e n hx)
    exact ⟨sl', e2⟩
  · obtain ⟨o', e1⟩ := I.base.there b o e hx
    exact free b o' (neC b o e hx) e1 (I.base.free b o e n hx)
  · obtain ⟨o', e1⟩ := I.base.there b o e hx
    exact there b o' (neC b o e hx) e1
  · obtain ⟨m1, e1⟩ := I.base.tbls b ps e
    obtain ⟨m2, e2⟩ := tbls b _ e1
    exact ⟨m1 ++ m2, by rw [e2, Array.append_assoc]⟩
  · obtain ⟨m, hn, hl⟩ := I.loc
    refine ⟨m, ns m hn, fun i x v e1 e2 e3 => ?_⟩
    obtain ⟨u, r, l⟩ := hl i x v e1 e2 e3
    refine ⟨u, r, ?_⟩
    rcases l with l | ⟨k, c, e, z⟩
    · exact .inl l
    · exact .inr ⟨k, c, e, cellK x c e _ z⟩
  · obtain ⟨v, z⟩ := I.cell x c e
    exact ⟨v, cellK x c e v z⟩
  · obtain ⟨m, ⟨o, _, _, ho, _⟩, _⟩ := I.loc
    exact free _ o (fun z => (hch _ z).2.1 rfl) ho I.free
  · obtain ⟨v, o, ho, hd⟩ := I.cell x c e
    exact free c o (fun z => (hch c z).2.2.1 x c e rfl) ho (I.freeC x c e)
  · obtain ⟨e, n, ne, nf, d⟩ := I.pin p hp
    have nch : p.1 ∉ ch := fun z => (hch p.1 z).2.2.2 p hp rfl
    exact ⟨keep p.1 p.2 ne nf nch e n, free p.1 p.2 nch e n, ne, nf, d⟩
theorem Inv.un {t' : Nat} (I : Inv X pins σ H s) (u : Un X.fs [] H H' s.heap h') (hok : HOk X.prog X.w H' h') : Inv X pins σ H' { s with heap := h', toks := t' } := by
  obtain ⟨m, ⟨o, es, ep, ho, r⟩, _⟩ := id I.loc
  obtain ⟨sl, hL⟩ := u.any ho I.free (by simp)
  exact I.step (g' := s.gens) (d' := s.drawn) (ch := []) (fun _ z => nomatch z) (fun b o _ hb _ e n => u.keep b o e n hb (by simp)) (fun b o _ hb _ e n => u.slot b o e n hb (by simp)) (fun b o _ e n => u.free b o e n (by simp)) (fun b o _ e => u.there b o e (by simp)) u.tups u.frzs u.tbls (fun m' hm => by
    obtain ⟨o', es', ep', ho', r'⟩ := hm
    rw [ho] at ho'; cases ho'
    exact ⟨_, es', ep', hL, r'⟩) hok I.bare
theorem Inv.call {g' : Array GenState} {t' : Nat} {d' : Drawn} {ch : List Addr} (I : Inv X pins σ H s) (u : Un (frs X.stack) ch H H' s.heap h') (hok : HOk X.prog X.w H' h') (hg : AllBare g')
    (hch : ∀ b ∈ ch, (b ∈ X.ex ∨ X.s_0.heap.objs.size ≤ b) ∧ b ≠ X.env.locals ∧ (∀ x c, X.env.cells.lookup x = some c → c ≠ b) ∧ ∀ p ∈ X.pn ++ pins, p.1 ≠ b) :
    Inv X pins σ H' { s with heap := h', gens := g', drawn := d', toks := t' } := by
  obtain ⟨m, ⟨o, es, ep, ho, r⟩, _⟩ := id I.loc
  obtain ⟨sl, hL⟩ := u.any ho I.free fun z => (hch _ z).2.1 rfl
  exact I.step (ch := ch) hch (fun b o hL hb hc e n => u.keep b o e n (fun z => (List.mem_cons.mp (I.stkSub b z)).elim hL hb) hc) (fun b o _ _ hc e n => u.any e n hc) (fun b o hc e n => u.free b o e n hc) (fun b o hc e => u.there b o e hc) u.tups u.frzs u.tbls (fun m' hm => by
    obtain ⟨o', es', ep', ho', r'⟩ := hm
    rw [ho] at ho'; cases ho'
    exact ⟨_, es', ep', hL, r'⟩) hok hg
theorem Inv.turned {t' : Nat} {it : Addr} (I : Inv X pins σ H s) (k : ∀ b o, b ≠ it → s.heap.get? b = some o → h'.get? b = some o) (hn : H it = none) (hL : it ≠ X.env.locals)
    (h1 : it ∈ X.ex ∨ X.s_0.heap.objs.size ≤ it) (h2 : ∀ x c, X.env.cells.lookup x = some c → c ≠ it) (h3 : ∀ p ∈ X.pn ++ pins, p.1 ≠ it) : Inv X pins σ H { s with heap := h', toks := t' } := by
  have nit : ∀ b u, H b = some u → b ≠ it := fun b u e z => by rw [z, hn] at e; cases e
  refine I.step (g' := s.gens) (d' := s.drawn) (ch := [it]) (fun b hb => ?_) (fun b o _ _ hc e _ => k b o (fun z => hc (by simp [z])) e) (fun b o _ _ hc e _ => ⟨o.slots, k b o (fun z => hc (by simp [z])) e⟩) (fun _ _ _ _ n => n)
    (fun b o hc e => ⟨o, k b o (fun z => hc (by simp [z])) e⟩) (fun _ _ e => e) (fun _ _ _ e => e) (fun b ps e => ⟨#[], by rw [e]; simp⟩) (fun m hm => ?_) (fun b u e => ?_) I.bare
  · have e : b = it := by simpa using hb
    subst e
    exact ⟨h1, hL, h2, h3⟩
  · obtain ⟨o, es, ep, ho, r⟩ := hm
    exact ⟨o, es, ep, k _ o (Ne.symm hL) ho, r⟩
  · refine (I.hok b u e).stay (fun c v hc q => k c v ?_ q) (fun _ q => q) fun _ _ q => q
    rcases hc with z | z
    · rw [z]; exact nit b u e
    · exact nit c _ z
theorem Inv.tok (I : Inv X pins σ H s) (t : Nat) : Inv X pins σ H { s with toks := t } := I.un (h' := s.heap) (t' := t) Un.refl I.hok
theorem Inv.kept {t' : Nat} (I : Inv X pins σ H s) (k : ∀ b u, s.heap.get? b = some u → h'.get? b = some u) : Inv X pins σ H { s with heap := h', toks := t' } := I.un (Un.kept k) (I.hok.kept k)
theorem Inv.laid {a : Addr} {o : HO} {t' : Nat} (I : Inv X pins σ H s) (k : ∀ b u, s.heap.get? b = some u → h'.get? b = some u) (hp : s.heap.objs.size ≤ a) (new : ObjOk X.prog X.w (upd H a o) h' a o) :
    Inv X pins σ (upd H a o) { s with heap := h', toks := t' } := I.un (Un.laid k hp (I.hok.fresh hp)) (I.hok.laid k hp new)
theorem Inv.write {x e : Addr} {o : HO} {t' : Nat} (I : Inv X pins σ H s) (mu : Mut (H x)) (he : e = x ∨ H e = some (.own x)) (k : ∀ b u, b ≠ e → s.heap.get? b = some u → h'.get? b = some u) (heo : ∃ u, h'.get? e = some u)
    (new : ObjOk X.prog X.w (upd H x o) h' x o) : Inv X pins σ (upd H x o) { s with heap := h', toks := t' } := I.un (Un.write mu he k heo) (I.hok.write mu he k heo new)
theorem Inv.weak {σ' : List (Option V)} (I : Inv X pins σ H s) (hl : σ'.length = σ.length) (w : ∀ (i : Nat) v, σ'[i]? = some (some v) → σ[i]? = some (some v)) : Inv X pins σ' H s :=
  ⟨I.ok, I.os, I.bare, I.base, let ⟨m, hn, hl'⟩ := I.loc; ⟨m, hn, fun i x v e1 e2 e3 => hl' i x v e1 (w i v e2) e3⟩, I.cell, I.free, I.freeC, I.pin, I.hok, hl.trans I.len⟩
theorem Inv.pins_of {pins' : List (Addr × Obj)} (I : Inv X pins σ H s) (h : ∀ p ∈ pins', s.heap.get? p.1 = some p.2 ∧ H p.1 = none ∧ p.1 ≠ X.env.locals ∧ p.1 ∉ X.fs ∧ ∀ v, p.2.data ≠ .cell v) : Inv X pins' σ H s :=
  ⟨I.ok, I.os, I.bare, I.base, I.loc, I.cell, I.free, I.freeC, fun p hp => (List.mem_append.mp hp).elim (fun z => I.pin p (List.mem_append_left _ z)) (h p), I.hok, I.len⟩

theorem nodup_ix {N : List Str} (hN : N.Nodup) {i j : Nat} {x : Str} (a : N[i]? = some x) (b : N[j]? = some x) : i = j := by
  obtain ⟨h1, e1⟩ := List.getElem?_eq_some_iff.mp a
  obtain ⟨h2, e2⟩ := List.getElem?_eq_some_iff.mp b
  exact (List.getElem_inj hN).mp (e1.trans e2.symm)

theorem store_ok2 {M : Model} {A : Around} {E : Value → Shared → Prop} {i : Nat} {x : Str} {v : V} {u : Value} {Q : Unit → Shared → Prop} (I : Inv X pins σ H s) (hN : X.N.Nodup) (hi : X.N[i]? = some x) (hx : Loc X.env.scope x) (r : RelV v u)
    (h : ∀ s', Inv X pins (σ.set i (some v)) H s' → (∃ a, Heap.SameBut a s.heap s'.heap ∧ (a = X.env.locals ∨ X.env.cells.lookup x = some a)) → Q () s') (hf : X.fn x = true ∨ X.env.scope.names.lookup x = some .local := by first | exact .inl rfl | exact .inr rfl | assumption) : wpAny M A (storeName X.env x u) Q E s := by
  obtain ⟨m, hn, hl⟩ := id I.loc
  have hcls : (X.env.scope.kind == .class || (X.env.scope.kind == .module && X.env.locals != X.env.globals)) = false := by rw [I.ok.kind]; rfl
  have hiσ : i < σ.length := by rw [I.len]; exact (List.getElem?_eq_some_iff.mp hi).1
  have cne := I.cne
  have tracked : ∀ {a : Addr} {h' : Heap}, (∃ o, s.heap.get? a = some o ∧ H a = none) → Heap.SameBut a s.heap h' → HOk X.prog X.w H h' := fun {a h'} ha hs b ob e => by
    obtain ⟨_, _, hfree⟩ := ha
    refine (I.hok b ob e).stay (fun c w' hc q => (hs.2 c ?_).trans q) (fun _ q => q) fun _ _ q => q
    rintro rfl
    rcases hc with rfl | hc
    · rw [hfree] at e; cases e
    · rw [hfree] at hc; cases hc
  rcases hx with hk | hk
  · refine wpAny_storeName_local hk hn (fun h' hn' hs => ?_) hcls
    obtain ⟨oL, _, _, hoL, _⟩ := id hn
    refine h _ ⟨I.ok, I.os, I.bare, ⟨fun b o e n hb hx => ?_, fun b o e n hb hx => ?_, I.base.free, fun b o e hx => ?_, I.base.tups, I.base.frzs, I.base.tbls⟩, ⟨_, hn', fun j y v' e1 e2 e3 => ?_⟩, fun y c e => ?_, I.free, I.freeC, fun p hp => ?_, tracked ⟨oL, hoL, I.free⟩ hs, by simpa using I.len⟩ ⟨_, hs, .inl rfl⟩
    · exact (hs.2 b (Nat.ne_of_lt (Nat.lt_of_lt_of_le (Heap.lt_size e) I.ok.above))).trans (I.base.keep b o e n hb hx)
    · obtain ⟨sl, e1⟩ := I.base.slot b o e n hb hx
      exact ⟨sl, (hs.2 b (Nat.ne_of_lt (Nat.lt_of_lt_of_le (Heap.lt_size e) I.ok.above))).trans e1⟩
    · obtain ⟨o', e1⟩ := I.base.there b o e hx
      exact ⟨o', (hs.2 b (Nat.ne_of_lt (Nat.lt_of_lt_of_le (Heap.lt_size e) I.ok.above))).trans e1⟩
    · by_cases hj : j = i
      · subst hj
        rw [hi] at e1; cases e1
        rw [List.getElem?_set_self hiσ] at e2
        cases e2
        exact ⟨u, r, .inl ⟨hk, by simp⟩⟩
      · rw [List.getElem?_set_ne (Ne.symm hj)] at e2
        obtain ⟨u', r', q⟩ := hl j y v' e1 e2 e3
        refine ⟨u', r', ?_⟩
        rcases q with ⟨k, e⟩ | ⟨k, c, e, z⟩
        · refine .inl ⟨k, ?_⟩
          have : y ≠ x := fun e => hj (nodup_ix hN e1 (e ▸ hi))
          simp [this, e]
        · exact .inr ⟨k, c, e, z.sameBut hs (cne y c e)⟩
    · obtain ⟨w', z⟩ := I.cell y c e
      exact ⟨w', z.sameBut hs (cne y c e)⟩
    · obtain ⟨e, n, ne, nf, d⟩ := I.pin p hp
      exact ⟨(hs.2 p.1 ne).trans e, n, ne, nf, d⟩
  · have hfn : X.fn x = true := by
      rcases hf with z | z
      · exact z
      · rw [z] at hk; cases hk
    obtain ⟨c, hc⟩ := I.ok.has x (.inl hk)
    obtain ⟨w', z⟩ := I.cell x c hc
    refine wpAny_storeName_cell I.ok.kind hk hc z (fun h' hc' hs => ?_)
    obtain ⟨oc, hoc, hocd⟩ := id z
    refine h { s with heap := h' } ⟨I.ok, I.os, I.bare, ⟨fun b o e n hb hx => ?_, fun b o e n hb hx => ?_, I.base.free, fun b o e hx => ?_, I.base.tups, I.base.frzs, I.base.tbls⟩, ⟨m, hn.sameBut hs (Ne.symm (cne x c hc)), fun j y v' e1 e2 e3 => ?_⟩, fun y c' e => ?_, I.free, I.freeC, fun p hp => ?_, tracked ⟨oc, hoc, I.freeC x c hc⟩ hs, by simpa using I.len⟩ ⟨c, hs, .inr hc⟩
    · exact (hs.2 b (Nat.ne_of_lt (Nat.lt_of_lt_of_le (Heap.lt_size e) (I.ok.cab x c hfn hc)))).trans (I.base.keep b o e n hb hx)
    · obtain ⟨sl, e1⟩ := I.base.slot b o e n hb hx
      exact ⟨sl, (hs.2 b (Nat.ne_of_lt (Nat.lt_of_lt_of_le (Heap.lt_size e) (I.ok.cab x c hfn hc)))).trans e1⟩
    · obtain ⟨o', e1⟩ := I.base.there b o e hx
      exact ⟨o', (hs.2 b (Nat.ne_of_lt (Nat.lt_of_lt_of_le (Heap.lt_size e) (I.ok.cab x c hfn hc)))).trans e1⟩
    · by_cases hj : j = i
      · subst hj
        rw [hi] at e1; cases e1
        rw [List.getElem?_set_self hiσ] at e2
        cases e2
        exact ⟨u, r, .inr ⟨.inl hk, c, hc, hc'⟩⟩
      · rw [List.getElem?_set_ne (Ne.symm hj)] at e2
        obtain ⟨u', r', q⟩ := hl j y v' e1 e2 e3
        refine ⟨u', r', ?_⟩
        rcases q with q | ⟨k, c', e, z'⟩
        · exact .inl q
        · refine .inr ⟨k, c', e, z'.sameBut hs ?_⟩
          rintro rfl
          exact hj (nodup_ix hN e1 (I.ok.inj _ _ _ e hc ▸ hi))
    · by_cases hcc : c' = c
      · subst hcc; exact ⟨_, hc'⟩
      · obtain ⟨w2, z2⟩ := I.cell y c' e
        exact ⟨w2, z2.sameBut hs hcc⟩
    · obtain ⟨e, n, ne, nf, d⟩ := I.pin p hp
      refine ⟨(hs.2 p.1 ?_).trans e, n, ne, nf, d⟩
      intro q
      rw [q, hoc] at e
      have q' : oc = p.2 := Option.some.inj e
      exact d w' (by rw [← q']; exact hocd)
theorem store_ok {M : Model} {A : Around} {E : Value → Shared → Prop} {i : Nat} {x : Str} {v : V} {u : Value} {Q : Unit → Shared → Prop} (I : Inv X pins σ H s) (hN : X.N.Nodup) (hi : X.N[i]? = some x) (hx : Loc X.env.scope x) (r : RelV v u)
    (h : ∀ s', Inv X pins (σ.set i (some v)) H s' → Q () s') (hf : X.fn x = true ∨ X.env.scope.names.lookup x = some .local := by first | exact .inl rfl | exact .inr rfl | assumption) : wpAny M A (storeName X.env x u) Q E s :=
  store_ok2 I hN hi hx r (fun s' I' _ => h s' I') hf
theorem Inv.call' {s' : Shared} {ch : List Addr} (I : Inv X pins σ H s) (ho : s'.os = s.os) (u : Un (frs X.stack) ch H H' s.heap s'.heap) (hok : HOk X.prog X.w H' s'.heap) (hg : AllBare s'.gens)
    (hch : ∀ b ∈ ch, (b ∈ X.ex ∨ X.s_0.heap.objs.size ≤ b) ∧ b ≠ X.env.locals ∧ (∀ x c, X.env.cells.lookup x = some c → c ≠ b) ∧ ∀ p ∈ X.pn ++ pins, p.1 ≠ b) : Inv X pins σ H' s' := by
  obtain ⟨h', g', d', t', o'⟩ := s'
  have e : o' = s.os := ho
  subst e
  exact I.call (g' := g') (t' := t') (d' := d') u hok hg hch
end

noncomputable abbrev XK := Value → Option Addr → Hp → Prop
noncomputable abbrev St := List (Option V)
noncomputable abbrev VK := V → Hp → Prop
noncomputable abbrev TE := St → Hp → VK → Prop
noncomputable abbrev TT := St → Hp → (Bool → Hp → Prop) → Prop
noncomputable abbrev TA := St → Hp → (List V → Hp → Prop) → Prop
structure Ends where
  nx : St → Hp → Prop
  rt : VK
  bk : St → Hp → Prop := fun _ _ => False
  ct : St → Hp → Prop := fun _ _ => False
noncomputable abbrev TS := Ends → St → Hp → Prop

inductive EP (X : Cx) (pins : List (Addr × Obj)) (σ : St) (Q : VK) (u : Value) (s' : Shared) : Prop
  | mk (v : V) (H' : Hp) (hI : Inv X pins σ H' s') (hr : RelV v u) (q : Q v H') : EP X pins σ Q u s'
inductive TP (X : Cx) (pins : List (Addr × Obj)) (σ : St) (Q : Bool → Hp → Prop) (b : Bool) (s' : Shared) : Prop
  | mk (H' : Hp) (hI : Inv X pins σ H' s') (q : Q b H') : TP X pins σ Q b s'
inductive AP (X : Cx) (pins : List (Addr × Obj)) (σ : St) (Q : List V → Hp → Prop) (us : List Value) (s' : Shared) : Prop
  | mk (vs : List V) (H' : Hp) (hI : Inv X pins σ H' s') (hr : Vals vs us) (q : Q vs H') : AP X pins σ Q us s'
inductive SPn (X : Cx) (pins : List (Addr × Obj)) (N : St → Hp → Prop) (s' : Shared) : Prop
  | mk (σ' : St) (H' : Hp) (hI : Inv X pins σ' H' s') (q : N σ' H') : SPn X pins N s'
inductive SPr (X : Cx) (pins : List (Addr × Obj)) (Q : VK) (u : Value) (s' : Shared) : Prop
  | mk (v : V) (σ' : St) (H' : Hp) (hI : Inv X pins σ' H' s') (hr : RelV v u) (q : Q v H') : SPr X pins Q u s'
noncomputable def SP (X : Cx) (pins : List (Addr × Obj)) (D : Ends) (f : Flow) (s' : Shared) : Prop :=
  match f with
  | .next => SPn X pins D.nx s'
  | .brk => SPn X pins D.bk s'
  | .cont => SPn X pins D.ct s'
  | .ret u => SPr X pins D.rt u s'

noncomputable def PE (X : Cx) (e : Expr) (t : TE) : Prop :=
  ∀ (pins : List (Addr × Obj)) (s : Shared) (σ : St) (H : Hp) (Q : VK), Inv X pins σ H s → t σ H Q → wpAny (model X.prog X.w) X.A (eval e X.env) (EP X pins σ Q) X.xe s
noncomputable def PT (X : Cx) (e : Expr) (t : TT) : Prop :=
  ∀ (pins : List (Addr × Obj)) (s : Shared) (σ : St) (H : Hp) (Q : Bool → Hp → Prop), Inv X pins σ H s → t σ H Q → wpAny (model X.prog X.w) X.A (isTrue e X.env (eval e X.env)) (TP X pins σ Q) X.xe s
noncomputable def PW (X : Cx) (e : Expr) (t : TT) : Prop :=
  ∀ (whole : Sem Value) (pins : List (Addr × Obj)) (s : Shared) (σ : St) (H : Hp) (Q : Bool → Hp → Prop), Inv X pins σ H s → t σ H Q → wpAny (model X.prog X.w) X.A (isTrue e X.env whole) (TP X pins σ Q) X.xe s
theorem PW.pt {X : Cx} {e : Expr} {t : TT} (h : PW X e t) : PT X e t := h _
noncomputable def PA (X : Cx) (es : List Expr) (t : TA) : Prop :=
  ∀ (pos : Pos) (pins : List (Addr × Obj)) (s : Shared) (σ : St) (H : Hp) (Q : List V → Hp → Prop), Inv X pins σ H s → t σ H Q → wpAny (model X.prog X.w) X.A (spliced (backTo pos (starEach es X.env))) (AP X pins σ Q) X.xe s
noncomputable def PS (X : Cx) (st : Stmt) (t : TS) : Prop :=
  ∀ (pins : List (Addr × Obj)) (s : Shared) (σ : St) (H : Hp) (D : Ends), Inv X pins σ H s → t D σ H → wpAny (model X.prog X.w) X.A (exec st X.env) (SP X pins D) X.xe s
noncomputable def PSs (X : Cx) (st : List Stmt) (t : TS) : Prop :=
  ∀ (pins : List (Addr × Obj)) (s : Shared) (σ : St) (H : Hp) (D : Ends), Inv X pins σ H s → t D σ H → wpAny (model X.prog X.w) X.A (execs st X.env) (SP X pins D) X.xe s
theorem thn {α : Type} {t : Sem α} {Q Q' : α → Shared → Prop} {M : Model} {A : Around} {E : Value → Shared → Prop} {s : Shared} (h : wpAny M A t Q E s) (hQ : ∀ a s, Q a s → Q' a s) : wpAny M A t Q' E s := wpAny_mono h hQ fun _ _ x => x
end L2

namespace L2
open PySem PySem.Spec PyProof.Rows
section
variable {X : Cx}

theorem bin {a b : Expr} {ta tb : TE} (ha : PE X a ta) (hb : PE X b tb) {pins : List (Addr × Obj)} {s : Shared} {σ : St} {H : Hp} {R : V → V → Hp → Prop} (I : Inv X pins σ H s) (h : ta σ H fun x H1 => tb σ H1 fun y H2 => R x y H2)
    {α : Type} {Q : α → Shared → Prop} {f : Value → Value → Sem α}
    (hf : ∀ v u s2 x y H2, Inv X pins σ H2 s2 → RelV x v → RelV y u → R x y H2 → wpAny (model X.prog X.w) X.A (f v u) Q X.xe s2) :
    wpAny (model X.prog X.w) X.A (eval a X.env) (fun v s₁ => wpAny (model X.prog X.w) X.A (eval b X.env) (fun u s₂ => wpAny (model X.prog X.w) X.A (f v u) Q X.xe s₂) X.xe s₁) X.xe s := by
  refine thn (ha pins s σ H _ I h) fun v s1 ⟨x, H1, I1, r1, q1⟩ => ?_
  refine thn (hb pins s1 σ H1 _ I1 q1) fun u s2 ⟨y, H2, I2, r2, q2⟩ => ?_
  exact hf v u s2 x y H2 I2 r1 r2 q2

inductive UVar (o : Option (Option V)) (H : Hp) (Q : VK) : Prop
  | mk (v : V) (h : o = some (some v)) (q : Q v H) : UVar o H Q
noncomputable def tVar (i : Nat) : TE := fun σ H Q => UVar σ[i]? H Q
noncomputable def tC (v : V) : TE := fun _ H Q => Q v H
theorem pe_var {i : Nat} {x : Str} {pos : Pos} (hN : X.N[i]? = some x) (hv : Vis X.env.scope x) (hd : (x == ("__debug__" : Str)) = false := by decide) (hcd : (x == ("__classdict__" : Str)) = false := by decide) : PE X (.Name x pos) (tVar i) := by
  intro pins s σ H Q I h
  obtain ⟨v, e, h⟩ := h
  obtain ⟨m, hn, hl⟩ := I.loc
  obtain ⟨u, r, l⟩ := hl i x v hN e hv
  have fin : EP X pins σ Q u s := ⟨v, H, I, r, h⟩
  rcases l with ⟨hk, hm⟩ | ⟨hk, c, hc, hcell⟩
  · exact wpAny_Name (wpAny_loadName_local I.ok.kind hk hn hm fin) hd
  · rcases hk with hk | hk
    · exact wpAny_Name (wpAny_loadName_cell I.ok.kind hk hc hcell fin) hd
    · exact wpAny_Name (wpAny_loadName_free I.ok.kind hk hc hcell fin hcd) hd
theorem pe_int {i j pos} : PE X (.Constant (.int i) j pos) (tC (.int i)) := fun _ _ _ H _ I h => wpAny_Constant_int ⟨.int i, H, I.tok _, ⟨_, rfl⟩, h⟩
theorem pe_bl {b j pos} : PE X (.Constant (.bool b) j pos) (tC (.bl b)) := fun _ _ _ H _ I h => Constant_bool ⟨.bl b, H, I, rfl, h⟩
theorem pe_non {j pos} : PE X (.Constant .none j pos) (tC .non) := fun _ _ _ H _ I h => Constant_none ⟨.non, H, I, rfl, h⟩

noncomputable def Gl (X : Cx) (x : Str) : Prop := X.env.kindOf x = some .globalImplicit
theorem ld_glob {E : Value → Shared → Prop} {pins : List (Addr × Obj)} {s : Shared} {σ : St} {H : Hp} {x : Str} {u : Value} {pos : Pos} {Q : Value → Shared → Prop} (I : Inv X pins σ H s) (hg : Gl X x) (hm : X.mg x = some u) (h : Q u s)
    (hd : (x == ("__debug__" : Str)) = false := by decide) : wpAny (model X.prog X.w) X.A (eval (.Name x pos) X.env) Q E s :=
  Calls.Name_function_global I.ok.kind hg (Calls.loadGlobal_global (by rw [I.ok.glob]; exact I.mod.glob.keeps I.bk) hm h) hd
theorem ld_blt {E : Value → Shared → Prop} {pins : List (Addr × Obj)} {s : Shared} {σ : St} {H : Hp} {x : Str} {u : Value} {pos : Pos} {Q : Value → Shared → Prop} (I : Inv X pins σ H s) (hg : Gl X x) (hm : X.mg x = none) (hv : bootBuiltins x = some u) (h : Q u s)
    (hn : x ≠ "__name__" := by decide) (hd : (x == ("__debug__" : Str)) = false := by decide) : wpAny (model X.prog X.w) X.A (eval (.Name x pos) X.env) Q E s := by
  obtain ⟨mb, h1, h2⟩ := I.mod.blt
  exact Calls.Name_function_global I.ok.kind hg (Calls.loadGlobal_builtin (by rw [I.ok.glob]; exact I.mod.glob.keeps I.bk) hm (by rw [I.ok.blt]; exact h1.keeps I.bk) ((h2 x hn).trans hv) h) hd
theorem pe_glob {x : Str} {v : V} {u : Value} {pos : Pos} (hg : Gl X x) (hm : X.mg x = some u) (r : RelV v u) (hd : (x == ("__debug__" : Str)) = false := by decide) : PE X (.Name x pos) (tC v) :=
  fun _ _ _ H _ I h => ld_glob I hg hm ⟨v, H, I, r, h⟩ hd

variable {a b : Expr} {ta tb : TE} {pos : Pos}

noncomputable def PC (X : Cx) (op : CmpOp) (a b : Expr) (t : TE) : Prop :=
  ∀ (pins : List (Addr × Obj)) (s : Shared) (σ : St) (H : Hp) (Q : VK), Inv X pins σ H s → t σ H Q →
    wpAny (model X.prog X.w) X.A (eval a X.env) (fun v s₁ => wpAny (model X.prog X.w) X.A (eval b X.env) (fun u s₂ => wpAny (model X.prog X.w) X.A (compareOp op v u) (EP X pins σ Q) X.xe s₂) X.xe s₁) X.xe s
inductive UBl (x : V) (H : Hp) (Q : Bool → Hp → Prop) : Prop
  | mk (c : Bool) (h : x = .bl c) (q : Q c H) : UBl x H Q
noncomputable def tB (t : TE) : TT := fun σ H Q => t σ H fun x H1 => UBl x H1 Q
theorem pt_cmp {op : CmpOp} {t : TE} (h : PC X op a b t) (h1 : behindInMarks op b = false := by first | exact nobehind _ (by decide) (by decide) | rfl) : PT X (.Compare a [op] [b] pos) (tB t) := by
  intro pins s σ H Q I hw
  refine wpAny_isTrue_Compare1 (thn (h pins s σ H _ I hw) fun v s1 h1 => thn h1 fun u s2 h2 => thn h2 fun c s3 ⟨x, H1, I1, r1, q1⟩ => ?_) h1
  obtain ⟨d, rfl, q⟩ := q1
  cases r1
  exact wpAny_truthy_bool ⟨H1, I1, q⟩
theorem pt_val {e : Expr} {t : TE} (h : PE X e t) (he : ∀ whole, isTrue e X.env whole = (do let v ← whole; standAt e.pos; holding [v] (truthy v)) := by intro _; rfl) : PT X e (tB t) := by
  intro pins s σ H Q I hw
  refine isTrue_plain (thn (h pins s σ H _ I hw) fun v s1 ⟨x, H1, I1, r1, q1⟩ => ?_) (he _)
  obtain ⟨d, rfl, q⟩ := q1
  cases r1
  exact wpAny_truthy_bool ⟨H1, I1, q⟩

variable {tA tB' : TT} {rest : List Expr}
noncomputable def tAnd (t u : TT) : TT := fun σ H Q => t σ H fun c H1 => if c = true then u σ H1 Q else Q false H1
noncomputable def tOr (t u : TT) : TT := fun σ H Q => t σ H fun c H1 => if c = true then Q true H1 else u σ H1 Q
noncomputable def tNot (t : TT) : TT := fun σ H Q => t σ H fun c H1 => Q (!c) H1
theorem pw_and1 (ha : PT X a tA) : PW X (.BoolOp .And [a] pos) tA := by
  intro wh pins s σ H Q I h
  refine isTrue_and (thn (ha pins s σ H Q I h) fun c s1 e => ?_)
  cases c with
  | true => exact isTrue_and_nil e
  | false => exact e
theorem pw_or1 (ha : PT X a tA) : PW X (.BoolOp .Or [a] pos) tA := by
  intro wh pins s σ H Q I h
  refine isTrue_or (thn (ha pins s σ H Q I h) fun c s1 e => ?_)
  cases c with
  | false => exact isTrue_or_nil e
  | true => exact e
theorem pw_and (ha : PT X a tA) (hb : PW X (.BoolOp .And (b :: rest) pos) tB') : PW X (.BoolOp .And (a :: b :: rest) pos) (tAnd tA tB') := by
  intro wh pins s σ H Q I h
  refine isTrue_and (thn (ha pins s σ H _ I h) fun c s1 ⟨H1, I1, q1⟩ => ?_)
  cases c with
  | true => exact hb wh pins s1 σ H1 Q I1 q1
  | false => exact ⟨H1, I1, q1⟩
theorem pw_or (ha : PT X a tA) (hb : PW X (.BoolOp .Or (b :: rest) pos) tB') : PW X (.BoolOp .Or (a :: b :: rest) pos) (tOr tA tB') := by
  intro wh pins s σ H Q I h
  refine isTrue_or (thn (ha pins s σ H _ I h) fun c s1 ⟨H1, I1, q1⟩ => ?_)
  cases c with
  | true => exact ⟨H1, I1, q1⟩
  | false => exact hb wh pins s1 σ H1 Q I1 q1
theorem pt_not (ha : PT X a tA) : PT X (.UnaryOp .Not a pos) (tNot tA) := by
  intro pins s σ H Q I h
  exact isTrue_not (thn (ha pins s σ H (fun c H1 => Q (!c) H1) I h) fun c s1 h0 => by obtain ⟨H1, I1, q1⟩ := h0; exact ⟨H1, I1, q1⟩)
noncomputable def tAndV (ta tb : TE) : TE := fun σ H Q => ta σ H fun x H1 => ∃ c, x = .bl c ∧ if c = true then tb σ H1 Q else Q (.bl false) H1
noncomputable def tOrV (ta tb : TE) : TE := fun σ H Q => ta σ H fun x H1 => ∃ c, x = .bl c ∧ if c = true then Q (.bl true) H1 else tb σ H1 Q
noncomputable def tNotV (ta : TE) : TE := fun σ H Q => ta σ H fun x H1 => ∃ c, x = .bl c ∧ Q (.bl (!c)) H1
theorem pe_one {op} {t : TE} (h : PE X a t) : PE X (.BoolOp op [a] pos) t := fun pins s σ H Q I hw => BoolOp_one (h pins s σ H Q I hw)
theorem pe_and (ha : PE X a ta) (hb : PE X (.BoolOp .And (b :: rest) pos) tb) : PE X (.BoolOp .And (a :: b :: rest) pos) (tAndV ta tb) := by
  intro pins s σ H Q I h
  refine BoolOp_and (thn (ha pins s σ H _ I h) fun v s1 ⟨x, H1, I1, r1, q1⟩ => ?_)
  obtain ⟨c, rfl, q1⟩ := q1
  cases r1
  refine wpAny_truthy_bool ?_
  cases c with
  | true => exact hb pins s1 σ H1 Q I1 q1
  | false => exact ⟨.bl false, H1, I1, rfl, q1⟩
theorem pe_or (ha : PE X a ta) (hb : PE X (.BoolOp .Or (b :: rest) pos) tb) : PE X (.BoolOp .Or (a :: b :: rest) pos) (tOrV ta tb) := by
  intro pins s σ H Q I h
  refine BoolOp_or (thn (ha pins s σ H _ I h) fun v s1 ⟨x, H1, I1, r1, q1⟩ => ?_)
  obtain ⟨c, rfl, q1⟩ := q1
  cases r1
  refine wpAny_truthy_bool ?_
  cases c with
  | false => exact hb pins s1 σ H1 Q I1 q1
  | true => exact ⟨.bl true, H1, I1, rfl, q1⟩
theorem pe_not (ha : PE X a ta) : PE X (.UnaryOp .Not a pos) (tNotV ta) := by
  intro pins s σ H Q I h
  refine UnaryOp_ (thn (ha pins s σ H _ I h) fun v s1 ⟨x, H1, I1, r1, q1⟩ => ?_)
  obtain ⟨c, rfl, q1⟩ := q1
  cases r1
  exact not_of (wpAny_truthy_bool ⟨.bl (!c), H1, I1, rfl, q1⟩)
noncomputable def tIf (t : TT) (ta tb : TE) : TE := fun σ H Q => t σ H fun c H1 => if c = true then ta σ H1 Q else tb σ H1 Q
theorem pe_ifExp {c : Expr} (hc : PT X c tA) (ha : PE X a ta) (hb : PE X b tb) : PE X (.IfExp c a b pos) (tIf tA ta tb) := by
  intro pins s σ H Q I h
  refine wpAny_IfExp (thn (hc pins s σ H _ I h) fun d s1 ⟨H1, I1, q1⟩ => ?_)
  cases d with
  | true => exact ha pins s1 σ H1 Q I1 q1
  | false => exact hb pins s1 σ H1 Q I1 q1
end
end L2

namespace L2
open PySem PySem.Spec PyProof.Rows

noncomputable def SqL (K : PySem.W.Frag) (H : Hp) (a : Addr) (xs : List V) : Prop :=
  Rd H a (.lst xs) ∨
    ∃ (o : Obj) (its : Array Value) (n : Nat), K.lookup a = some o ∧ o.cls = .type "list" ∧ o.dict = none ∧ o.data = .seq its n ∧ its.size ≤ sizeLine ∧ Vals xs its.toList
noncomputable def SqT (K : PySem.W.Frag) (H : Hp) (a : Addr) (xs : List V) : Prop :=
  Rd H a (.tup xs) ∨
    ∃ (o : Obj) (its : Array Value) (n : Nat), K.lookup a = some o ∧ o.cls = .type "tuple" ∧ o.data = .seq its n ∧ its.size ≤ sizeLine ∧ Vals xs its.toList
noncomputable def absV : Value → Option V
  | .none => some .non
  | .bool b => some (.bl b)
  | .int i _ => some (.int i)
  | .str x _ => some (.str x)
  | .bytes b _ => some (.byt b)
  | .float b _ => some (.flt b)
  | .ref a => some (.ref a)
  | .type n => some (.ty n)
  | _ => none
theorem RelV.abs {x : V} {u : Value} (r : RelV x u) : absV u = some x := by
  cases x with
  | non => cases r; rfl
  | bl _ => cases r; rfl
  | int _ => obtain ⟨t, rfl⟩ := r; rfl
  | str _ => obtain ⟨t, rfl⟩ := r; rfl
  | byt _ => obtain ⟨t, rfl⟩ := r; rfl
  | flt _ => obtain ⟨t, rfl⟩ := r; rfl
  | ref _ => cases r; rfl
  | ty _ => cases r; rfl
theorem RelV.inj {x y : V} {u : Value} (r : RelV x u) (q : RelV y u) : x = y := Option.some.inj (r.abs.symm.trans q.abs)
theorem Vals.inj : ∀ {xs ys : List V} {us : List Value}, Vals xs us → Vals ys us → xs = ys
  | _, _, _, .nil, .nil => rfl
  | _, _, _, .cons r t, .cons r' t' => by rw [r.inj r', Vals.inj t t']
section
variable {X : Cx} {pins : List (Addr × Obj)} {σ : St} {H : Hp} {s : Shared} {a : Addr} {xs ys : List V}
theorem SqL.of {K : PySem.W.Frag} (h : H a = some (.lst xs)) : SqL K H a xs := .inl (.inl h)
theorem Inv.list (I : Inv X pins σ H s) (h : SqL X.K H a xs) : ∃ its : List Value, Vals xs its ∧ PlainL s.heap a its.toArray ∧ xs.length ≤ sizeLine := by
  rcases h with h | ⟨o, its, n, hk, hc, hd, hs, hz, r⟩
  · obtain ⟨z, its, n, r, e⟩ := h.ok I.hok
    exact ⟨its, r, ⟨_, n, e, rfl, rfl, rfl⟩, z⟩
  · refine ⟨its.toList, r, ⟨o, n, I.kIn a o hk, hc, hd, by simpa using hs⟩, ?_⟩
    have e := r.length
    simp only [Array.length_toList] at e
    omega
theorem Inv.tuple (I : Inv X pins σ H s) (h : SqT X.K H a xs) : ∃ its : List Value, Vals xs its ∧ IsTup s.heap a its.toArray ∧ xs.length ≤ sizeLine := by
  rcases h with h | ⟨o, its, n, hk, hc, hs, hz, r⟩
  · obtain ⟨z, its, r, p⟩ := h.ok I.hok
    exact ⟨its, r, p, z⟩
  · refine ⟨its.toList, r, ⟨o, I.kIn a o hk, hc, n, by simpa using hs⟩, ?_⟩
    have e := r.length
    simp only [Array.length_toList] at e
    omega
theorem Inv.list_inj (I : Inv X pins σ H s) (h : SqL X.K H a xs) (h' : SqL X.K H a ys) : xs = ys := by
  obtain ⟨its, r, ⟨o, n, e, _, _, d⟩, _⟩ := I.list h
  obtain ⟨its', r', ⟨o', n', e', _, _, d'⟩, _⟩ := I.list h'
  rw [e] at e'; cases e'
  rw [d] at d'
  injection d' with d1 _
  have : its = its' := by simpa using congrArg Array.toList d1
  subst this
  exact r.inj r'
end

noncomputable abbrev Cx.wish (X : Cx) (E : Value → Shared → Prop) : Cx := { X with xe := E }
noncomputable abbrev Cx.nox (X : Cx) : Cx := X.wish fun _ _ => False
theorem Cx.Ok.wish {X : Cx} (ok : X.Ok) (E : Value → Shared → Prop) : (X.wish E).Ok :=
  ⟨ok.mod, ok.kind, ok.glob, ok.blt, ok.above, ok.inj, ok.has, ok.cab, ok.hd, ok.frames, ok.stk, ok.exf, ok.bs, ok.bsz, ok.noex, ok.exfs, ok.funs, ok.frf⟩
theorem Cx.Ok.unwish {X : Cx} {E : Value → Shared → Prop} (ok : (X.wish E).Ok) : X.Ok :=
  ⟨ok.mod, ok.kind, ok.glob, ok.blt, ok.above, ok.inj, ok.has, ok.cab, ok.hd, ok.frames, ok.stk, ok.exf, ok.bs, ok.bsz, ok.noex, ok.exfs, ok.funs, ok.frf⟩
section
variable {X : Cx} {pins : List (Addr × Obj)} {σ : St} {H : Hp} {s : Shared} {E : Value → Shared → Prop}
theorem Inv.wish (I : Inv X pins σ H s) (E : Value → Shared → Prop) : Inv (X.wish E) pins σ H s := ⟨I.ok.wish E, I.os, I.bare, I.base, I.loc, I.cell, I.free, I.freeC, I.pin, I.hok, I.len⟩
theorem Inv.unwish (I : Inv (X.wish E) pins σ H s) : Inv X pins σ H s := ⟨I.ok.unwish, I.os, I.bare, I.base, I.loc, I.cell, I.free, I.freeC, I.pin, I.hok, I.len⟩
theorem SP.unwish {D : Ends} {f : Flow} {s' : Shared} (h : SP (X.wish E) pins D f s') : SP X pins D f s' := by
  cases f with
  | next => obtain ⟨σ', H', I, q⟩ := h; exact ⟨σ', H', I.unwish, q⟩
  | brk => obtain ⟨σ', H', I, q⟩ := h; exact ⟨σ', H', I.unwish, q⟩
  | cont => obtain ⟨σ', H', I, q⟩ := h; exact ⟨σ', H', I.unwish, q⟩
  | ret u => obtain ⟨v, σ', H', I, r, q⟩ := h; exact ⟨v, σ', H', I.unwish, r, q⟩
theorem PSs.nox {st : List Stmt} {t : TS} (h : PSs X.nox st t) : PSs X st t := fun pins s σ H D I hw =>
  wpAny_mono (h pins s σ H D (I.wish _) hw) (fun _ _ q => q.unwish) fun _ _ z => False.elim z
end

section
variable {X : Cx} {st : Stmt} {rest : List Stmt} {t u : TS} {e : Expr} {te : TE} {pos : Pos}
noncomputable def tNext : TS := fun D σ H => D.nx σ H
noncomputable def tSeq (t u : TS) : TS := fun D σ H => t { D with nx := u D } σ H
theorem pss_nil : PSs X [] tNext := fun _ _ σ H _ I h => wpAny_execs_nil ⟨σ, H, I, h⟩
theorem pss_cons (h1 : PS X st t) (h2 : PSs X rest u) : PSs X (st :: rest) (tSeq t u) := by
  intro pins s σ H D I h
  refine wpAny_execs_cons (thn (h1 pins s σ H { D with nx := u D } I h) fun f s1 q => ?_)
  cases f with
  | next =>
    obtain ⟨σ', H', I', q⟩ := q
    exact h2 pins s1 σ' H' D I' q
  | ret v => exact q
  | brk => exact q
  | cont => exact q
theorem pss_one (h1 : PS X st t) : PSs X [st] t := by
  intro pins s σ H D I h
  refine wpAny_execs_cons (thn (h1 pins s σ H D I h) fun f s1 q => ?_)
  cases f with
  | next => exact wpAny_execs_nil q
  | ret v => exact q
  | brk => exact q
  | cont => exact q
noncomputable def tBreak : TS := fun D σ H => D.bk σ H
theorem ps_break : PS X (.Break pos) tBreak := fun _ _ σ H _ I h => wpAny_Break ⟨σ, H, I, h⟩
theorem Inv.quiet {pins : List (Addr × Obj)} {σ : St} {H : Hp} {s : Shared} (I : Inv X pins σ H s) : interactive X.env = false := by simp [interactive, I.ok.kind]
noncomputable def tDrop (te : TE) : TS := fun D σ H => te σ H fun _ H1 => D.nx σ H1
theorem ps_expr (he : PE X e te) (hs : swapsWith e none pos.line X.env = pure false := by rfl) : PS X (.Expr e pos) (tDrop te) := by
  intro pins s σ H D I h
  exact wpAny_Expr_any (thn (he pins s σ H _ I h) fun v s1 ⟨x, H1, I1, r1, q1⟩ => ⟨σ, H1, I1, q1⟩) I.quiet hs
noncomputable def tRet (te : TE) : TS := fun D σ H => te σ H D.rt
theorem ps_ret (he : PE X e te) : PS X (.Return (some e) pos) (tRet te) := by
  intro pins s σ H D I h
  exact wpAny_Return_some (thn (he pins s σ H _ I h) fun v s1 ⟨x, H1, I1, r1, q1⟩ => ⟨x, σ, H1, I1, r1, q1⟩)
noncomputable def tRetN : TS := fun D _ H => D.rt .non H
theorem ps_retN : PS X (.Return none pos) tRetN := fun _ _ σ H _ I h => wpAny_Return_none ⟨.non, σ, H, I, rfl, h⟩
noncomputable def tIfS (c : TT) (t u : TS) : TS := fun D σ H => c σ H fun b H1 => if b = true then t D σ H1 else u D σ H1
theorem ps_if {c : Expr} {a b : List Stmt} {tc : TT} (hc : PT X c tc) (ha : PSs X a t) (hb : PSs X b u) : PS X (.If c a b pos) (tIfS tc t u) := by
  intro pins s σ H D I h
  refine wpAny_If (thn (hc pins s σ H _ I h) fun d s1 ⟨H1, I1, q1⟩ => ?_)
  cases d with
  | true => exact ha pins s1 σ H1 D I1 q1
  | false => exact hb pins s1 σ H1 D I1 q1
noncomputable def tNever : TS := fun _ _ _ => False
theorem pss_never {sts : List Stmt} : PSs X sts tNever := fun _ _ _ _ _ _ h => h.elim
end

noncomputable abbrev TG := V → St → Hp → (St → Hp → Prop) → Prop
noncomputable def PG (X : Cx) (target : Expr) (t : TG) : Prop :=
  ∀ (pins : List (Addr × Obj)) (s : Shared) (σ : St) (H : Hp) (v : V) (u : Value) (Q : St → Hp → Prop), Inv X pins σ H s → RelV v u → t v σ H Q →
    wpAny (model X.prog X.w) X.A (assign target X.env u) (fun _ s' => SPn X pins Q s') X.xe s
noncomputable abbrev TSet := V → V → V → Hp → (Hp → Prop) → Prop
noncomputable def PSet (X : Cx) (t : TSet) : Prop :=
  ∀ (pins : List (Addr × Obj)) (s : Shared) (σ : St) (H : Hp) (o i v : V) (ov iv u : Value) (Q : Hp → Prop), Inv X pins σ H s → RelV o ov → RelV i iv → RelV v u → t o i v H Q →
    wpAny (model X.prog X.w) X.A (setItem ov iv u) (fun _ s' => ∃ H', Inv X pins σ H' s' ∧ Q H') X.xe s
section
variable {X : Cx} {pos : Pos}
noncomputable def gName (i : Nat) : TG := fun v σ H Q => Q (σ.set i (some v)) H
theorem pg_name {i : Nat} {x : Str} (hN : X.N.Nodup) (hi : X.N[i]? = some x) (hx : Loc X.env.scope x) (hf : X.fn x = true ∨ X.env.scope.names.lookup x = some .local := by first | exact .inl rfl | exact .inr rfl | assumption) : PG X (.Name x pos) (gName i) := by
  intro pins s σ H v u Q I r h
  exact wpAny_assign_Name (store_ok I hN hi hx r (fun s' I' => ⟨_, H, I', h⟩) hf)
noncomputable def gSub (to ti : TE) (t : TSet) : TG := fun v σ H Q => to σ H fun o H1 => ti σ H1 fun i H2 => t o i v H2 fun H3 => Q σ H3
theorem pg_sub {o i : Expr} {to ti : TE} {t : TSet} (ho : PE X o to) (hi : PE X i ti) (hs : PSet X t)
    (ha : ∀ v, assign (.Subscript o i pos) X.env v = (do
      let ov ← holding [v] (eval o X.env)
      let iv ← holding [v, ov] (eval i X.env)
      standAt pos
      holding [v, ov, iv] (setItem ov iv v)
      release [v, ov, iv] []) := by intro _; rfl) : PG X (.Subscript o i pos) (gSub to ti t) := by
  intro pins s σ H v u Q I r h
  rw [ha]
  refine wpAny_bind (wpAny_holding (thn (ho pins s σ H _ I h) fun ov s1 ⟨x, H1, I1, r1, q1⟩ => ?_))
  refine wpAny_bind (wpAny_holding (thn (hi pins s1 σ H1 _ I1 q1) fun iv s2 ⟨y, H2, I2, r2, q2⟩ => ?_))
  refine wpAny_bind (wpAny_standAt (wpAny_bind (wpAny_holding (thn (hs pins s2 σ H2 x y v ov iv u _ I2 r1 r2 r q2) fun _ s3 ⟨H3, I3, q3⟩ => ?_))))
  exact wpAny_release ⟨σ, H3, I3, q3⟩
noncomputable def tAsg (te : TE) (g : TG) : TS := fun D σ H => te σ H fun x H1 => g x σ H1 D.nx
theorem ps_asg {tg e : Expr} {te : TE} {g : TG} (he : PE X e te) (hg : PG X tg g) (hs : swapsWithSole [tg] e pos.line X.env = pure false := by rfl) (hw : swappedStores [tg] e X.env = pure none := by rfl)
    (h1 : (assignEach [tg] X.env).map (·.2) = [assign tg X.env] := by rfl) : PS X (.Assign [tg] e pos) (tAsg te g) := by
  intro pins s σ H D I h
  refine wpAny_Assign_stores (thn (he pins s σ H _ I h) fun v s1 ⟨x, H1, I1, r1, q1⟩ => ?_) hs hw
  rw [h1]
  exact thn (hg pins s1 σ H1 x v _ I1 r1 q1) fun _ s2 q => q
theorem ps_set {i : Nat} {x : Str} {e : Expr} {te : TE} {pos' : Pos} (hN : X.N.Nodup) (hi : X.N[i]? = some x) (hx : Loc X.env.scope x) (he : PE X e te) (hs : swapsWith e (some (.Name x pos')) pos.line X.env = pure false := by rfl) (hf : X.fn x = true ∨ X.env.scope.names.lookup x = some .local := by first | exact .inl rfl | exact .inr rfl | assumption) :
    PS X (.Assign [.Name x pos'] e pos) (tAsg te (gName i)) := by
  intro pins s σ H D I h
  refine wpAny_Assign_Name (thn (he pins s σ H _ I h) fun v s1 ⟨y, H1, I1, r1, q1⟩ => ?_) hs
  exact store_ok I1 hN hi hx r1 (fun s2 I2 => ⟨_, H1, I2, q1⟩) hf
end

section
variable {X : Cx} {pos : Pos}
noncomputable def tWhile (c : TT) (tb : TS) : TS := fun D σ H => ∃ W : Nat → St → Hp → Prop, (∃ m, W m σ H) ∧ ∀ m σ H, W m σ H →
  c σ H fun b H1 => if b = true then ∃ N : St → Hp → Prop, (∀ σ' H', N σ' H' → ∃ m', m' < m ∧ W m' σ' H') ∧ tb { D with nx := N, ct := N, bk := D.nx } σ H1 else D.nx σ H1
theorem ps_while {c : Expr} {body : List Stmt} {tc : TT} {tb : TS} (hp : PassesOwn (model X.prog X.w) X.A X.env X.xe) (hc : PT X c tc) (hb : PSs X body tb) : PS X (.While c body [] pos) (tWhile tc tb) := by
  intro pins s σ H D I h
  obtain ⟨W, ⟨m0, w0⟩, turn⟩ := h
  refine wpAny_While (codeAny_whileLoop (fun n s' => ∃ σ' H', Inv X pins σ' H' s' ∧ W n σ' H') ?_ m0 ⟨σ, H, I, w0⟩)
  rintro n s1 ⟨σ1, H1, I1, w1⟩
  refine wpAny_passesOwn hp (thn (hc pins s1 σ1 H1 _ I1 (turn n σ1 H1 w1)) fun b s2 ⟨H2, I2, q2⟩ => ?_)
  cases b with
  | true =>
    obtain ⟨N, hN, q2⟩ := q2
    rw [if_pos rfl]
    refine wpAny_passesOwn hp (thn (hb pins s2 σ1 H2 _ I2 q2) fun f s3 q3 => ?_)
    cases f with
    | next =>
      obtain ⟨σ3, H3, I3, n3⟩ := q3
      obtain ⟨m', hm, w3⟩ := hN σ3 H3 n3
      exact ⟨m', hm, σ3, H3, I3, w3⟩
    | cont =>
      obtain ⟨σ3, H3, I3, n3⟩ := q3
      obtain ⟨m', hm, w3⟩ := hN σ3 H3 n3
      exact ⟨m', hm, σ3, H3, I3, w3⟩
    | brk => exact q3
    | ret v => exact q3
  | false =>
    rw [if_neg Bool.false_ne_true]
    exact wpAny_execs_nil ⟨σ1, H2, I2, q2⟩
end

structure It where
  go : Nat → Hp → Prop
  yld : Nat → Hp → V → Hp → Prop
  stop : Nat → Hp → Prop
noncomputable def FpOk (X : Cx) (pins : List (Addr × Obj)) (H : Hp) (b : Addr) : Prop :=
  H b = none ∧ b ≠ X.env.locals ∧ b ∉ X.fs ∧ (b ∈ X.ex ∨ X.s_0.heap.objs.size ≤ b) ∧ (∀ x c, X.env.cells.lookup x = some c → c ≠ b) ∧ ∀ p ∈ X.pn ++ pins, p.1 ≠ b
theorem Inv.fpOk {X : Cx} {pins : List (Addr × Obj)} {σ : St} {H H' : Hp} {s : Shared} {b : Addr} (I : Inv X pins σ H s) (hb : s.heap.objs.size ≤ b) (hn : H' b = none) : FpOk X pins H' b := by
  refine ⟨hn, Nat.ne_of_gt (Nat.lt_of_lt_of_le I.lt hb), I.nofs hb, .inr (Nat.le_trans I.sz hb), fun x c e z => ?_, fun p hp z => ?_⟩
  · obtain ⟨v, q⟩ := I.cell x c e
    exact absurd (Nat.lt_of_lt_of_le q.lt (by rw [z]; exact hb)) (Nat.lt_irrefl _)
  · exact absurd (Nat.lt_of_lt_of_le (Heap.lt_size (I.pin p hp).1) (by rw [z]; exact hb)) (Nat.lt_irrefl _)
structure Turn (P : Program) (w : World) (K : PySem.W.Frag) (tg : Expr) (J : It) (fp : List Addr) (it : Addr) (tn : Nat → Heap → Prop) : Prop where
  mem : it ∈ fp
  obj : ∀ i h, tn i h → ∀ b ∈ fp, ∃ o, h.get? b = some o ∧ ∀ v, o.data ≠ .cell v
  keep : ∀ i h h', tn i h → (∀ b ∈ fp, ∀ o, h.get? b = some o → h'.get? b = some o) → tn i h'
  item : ∀ (X : Cx), X.prog = P → X.w = w → X.K = K → X.calm = true → ∀ (i : Nat) (pins : List (Addr × Obj)) (s : Shared) (σ : St) (H : Hp) (E : Value → Shared → Prop), Inv X pins σ H s → (∀ b ∈ fp, FpOk X pins H b) → tn i s.heap → J.go i H →
    wpAny (model P w) X.A (pyNext (.ref it)) (fun r s1 => ∃ u, r = some u ∧
      wpAny (model P w) X.A (letOwnedTupleGo tg (.ref it) u) (fun _ s2 => ∃ x H', Inv X pins σ H' s2 ∧ RelV x u ∧ J.yld i H x H' ∧ tn (i + 1) s2.heap ∧ ∀ b ∈ fp, H' b = none) E s1) E s
  done : ∀ (X : Cx), X.prog = P → X.w = w → X.K = K → X.calm = true → ∀ (i : Nat) (pins : List (Addr × Obj)) (s : Shared) (σ : St) (H : Hp) (E : Value → Shared → Prop), Inv X pins σ H s → (∀ b ∈ fp, FpOk X pins H b) → tn i s.heap → J.stop i H →
    wpAny (model P w) X.A (pyNext (.ref it)) (fun r s1 => r = none ∧ Inv X pins σ H s1) E s
  self : ∀ (A : Around) (i : Nat) (s : Shared) (Q : Value → Shared → Prop) (E : Value → Shared → Prop), tn i s.heap → Q (.ref it) s → wpAny (model P w) A (pyIter (.ref it)) Q E s
noncomputable abbrev TI := St → Hp → (It → Hp → Prop) → Prop
inductive PIE (X : Cx) (pins : List (Addr × Obj)) (σ : St) (tg : Expr) (R : It → Hp → Prop) (itv : Value) (s2 : Shared) : Prop
  | mk (it : Addr) (fp : List Addr) (tn : Nat → Heap → Prop) (J : It) (H' : Hp) (h1 : itv = .ref it) (h2 : Inv X pins σ H' s2) (h3 : Turn X.prog X.w X.K tg J fp it tn) (h4 : tn 0 s2.heap) (h5 : ∀ b ∈ fp, FpOk X pins H' b) (q : R J H') : PIE X pins σ tg R itv s2
noncomputable def PI (X : Cx) (tg iter : Expr) (wi : TI) : Prop :=
  ∀ (pins : List (Addr × Obj)) (s : Shared) (σ : St) (H : Hp) (R : It → Hp → Prop), Inv X pins σ H s → wi σ H R →
    wpAny (model X.prog X.w) X.A (eval iter X.env) (fun v s1 => wpAny (model X.prog X.w) X.A (pyIter v) (PIE X pins σ tg R) X.xe s1) X.xe s

theorem go_of {M : Model} {A : Around} {E : Value → Shared → Prop} {s : Shared} {tg : Expr} {it : Addr} {u : Value} {o : Obj} {n : String} {vs : Array Value} {Q : Unit → Shared → Prop} (ho : s.heap.get? it = some o) (hc : o.cls = .type n) (hd : o.data = .fields vs)
    (hn : ["enumerate", "zip", "dict_itemiterator", "dict_reverseitemiterator", "odict_iterator", "itertools.zip_longest", "itertools.pairwise"].contains n = false) (hQ : Q () s) : wpAny M A (letOwnedTupleGo tg (.ref it) u) Q E s := by
  unfold letOwnedTupleGo
  cases tg <;> first
    | exact wpAny_pure hQ
    | (cases u <;> first
        | exact wpAny_pure hQ
        | (refine wpAny_bind (wpAny_load ho ?_)
           rw [hc, hd]
           show wpAny M A (if (["enumerate", "zip", "dict_itemiterator", "dict_reverseitemiterator", "odict_iterator", "itertools.zip_longest", "itertools.pairwise"].contains n && vs[0]? == some (rawInt _)) = true then _ else _) Q E s
           rw [if_neg (by intro h; rw [hn, Bool.false_and] at h; cases h)]
           exact wpAny_pure hQ))

noncomputable def Itl (K : PySem.W.Frag) (a : Addr) : It :=
  ⟨fun i H => ∃ xs x, SqL K H a xs ∧ xs[i]? = some x, fun i H x H' => H' = H ∧ ∀ xs, SqL K H a xs → xs[i]? = some x, fun i H => ∃ xs, SqL K H a xs ∧ xs.length ≤ i⟩
theorem turn_list {P : Program} {w : World} {K : PySem.W.Frag} {tg : Expr} (a it : Addr) : Turn P w K tg (Itl K a) [it] it (fun i h => h.IsListIter it a i) where
  mem := by simp
  obj := fun i h st b hb => by
    have e : b = it := by simpa using hb
    subst e
    obtain ⟨o, e, c, d⟩ := st
    exact ⟨o, e, fun v z => by rw [d] at z; cases z⟩
  keep := fun i h h' st k => st.at fun o e => k it (by simp) o e
  item := by
    intro X hP hw hK hc i pins s σ H E I hf st hg
    subst hP hw hK
    obtain ⟨xs, x, hq, hx⟩ := hg
    obtain ⟨its, rv, p, hz⟩ := I.list hq
    obtain ⟨u, hu, ru⟩ := rv.get hx
    obtain ⟨f0, f1, f2, f3, f4, f5⟩ := hf it (by simp)
    refine wpAny_pyNext_list_item st p.isList (x := u) (by simpa using hu) fun h' st' sb => ?_
    have I1 : Inv X pins σ H { s with heap := h' } := I.turned (t' := s.toks) (fun b o hb e => (sb.2 b hb).trans e) f0 f1 f3 f4 f5
    obtain ⟨o, e, c, d⟩ := id st'
    exact ⟨u, rfl, go_of (s := { s with heap := h' }) e c d (by decide) ⟨x, H, I1, ru, ⟨rfl, fun ys hy => by rw [I.list_inj hy hq]; exact hx⟩, st', fun b hb => (hf b hb).1⟩⟩
  done := by
    intro X hP hw hK hc i pins s σ H E I hf st hg
    subst hP hw hK
    obtain ⟨xs, hq, hx⟩ := hg
    obtain ⟨its, rv, p, hz⟩ := I.list hq
    obtain ⟨f0, f1, f2, f3, f4, f5⟩ := hf it (by simp)
    have hl := rv.length
    exact wpAny_pyNext_list_end (I.ok.hd hc) st p.isList (by simp; omega) fun h' eb => ⟨rfl, I.turned (t' := s.toks) (fun b o hb e => eb b o hb e) f0 f1 f3 f4 f5⟩
  self := fun _ _ _ _ _ st h => wpAny_pyIter_listiter st h
end L2

namespace L2
open PySem PySem.Spec PyProof.Rows
section
variable {X : Cx} {tg : Expr}
inductive UList (K : PySem.W.Frag) (x : V) (H : Hp) (R : It → Hp → Prop) : Prop
  | mk (a : Addr) (h : x = .ref a) (hs : ∃ xs, SqL K H a xs) (q : R (Itl K a) H) : UList K x H R
noncomputable def iList (K : PySem.W.Frag) (tl : TE) : TI := fun σ H R => tl σ H fun x H1 => UList K x H1 R
theorem pi_list {l : Expr} {tl : TE} (hl : PE X l tl) : PI X tg l (iList X.K tl) := by
  intro pins s σ H R I h
  refine thn (hl pins s σ H _ I h) fun v s1 ⟨x, H1, I1, r1, q1⟩ => ?_
  obtain ⟨a, e, ⟨xs, hq⟩, q⟩ := q1
  subst e
  cases r1
  obtain ⟨its, rv, p, hz⟩ := I1.list hq
  refine wpAny_pyIter_list p.isList ?_
  refine ⟨s1.heap.objs.size, [s1.heap.objs.size], _, _, H1, rfl, I1.kept (t' := s1.toks) fun b o e => Heap.get?_push_of_some _ e, turn_list a _, ⟨_, Heap.get?_push_size _ rfl, rfl, rfl⟩, fun b hb => ?_, q⟩
  have e : b = s1.heap.objs.size := by simpa using hb
  subst e
  exact I1.fpOk (Nat.le_refl _) (I1.hok.fresh (Nat.le_refl _))

noncomputable def tFor (wi : TI) (g : TG) (tb : TS) : TS := fun D σ H => wi σ H fun J H1 => ∃ W : Nat → Nat → St → Hp → Prop, (∃ m, W 0 m σ H1) ∧ ∀ i m σ H, W i m σ H →
  (J.stop i H ∧ D.nx σ H) ∨ (J.go i H ∧ ∃ N : St → Hp → Prop, (∀ σ' H', N σ' H' → ∃ m', m' < m ∧ W (i + 1) m' σ' H') ∧ ∀ x H', J.yld i H x H' → g x σ H' fun σ2 H2 => tb { D with nx := N, ct := N, bk := D.nx } σ2 H2)
noncomputable def pinsAt (fp : List Addr) (h : Heap) : List (Addr × Obj) := fp.filterMap fun b => (h.get? b).map fun o => (b, o)
theorem mem_pinsAt {fp : List Addr} {h : Heap} {b : Addr} {o : Obj} (hb : b ∈ fp) (e : h.get? b = some o) : (b, o) ∈ pinsAt fp h := List.mem_filterMap.mpr ⟨b, hb, by rw [e]; rfl⟩
theorem of_pinsAt {fp : List Addr} {h : Heap} {p : Addr × Obj} (hp : p ∈ pinsAt fp h) : p.1 ∈ fp ∧ h.get? p.1 = some p.2 := by
  obtain ⟨b, hb, e⟩ := List.mem_filterMap.mp hp
  cases q : h.get? b with
  | none => rw [q] at e; cases e
  | some o =>
    rw [q] at e
    have e' : (b, o) = p := Option.some.inj e
    subst e'
    exact ⟨hb, q⟩
theorem Inv.pinned {pins : List (Addr × Obj)} {σ : St} {H : Hp} {s : Shared} {fp : List Addr} (I : Inv X pins σ H s) (hf : ∀ b ∈ fp, FpOk X pins H b) (ho : ∀ b ∈ fp, ∃ o, s.heap.get? b = some o ∧ ∀ v, o.data ≠ .cell v) : Inv X (pins ++ pinsAt fp s.heap) σ H s :=
  I.pins_of fun p hp => (List.mem_append.mp hp).elim (fun z => I.pin p (List.mem_append_right _ z)) fun z => by
    obtain ⟨hb, e⟩ := of_pinsAt z
    obtain ⟨f0, f1, f2, _⟩ := hf p.1 hb
    obtain ⟨o, e', d⟩ := ho p.1 hb
    rw [e] at e'; cases e'
    exact ⟨e, f0, f1, f2, d⟩
theorem Inv.unpinned {pins pl : List (Addr × Obj)} {σ : St} {H : Hp} {s : Shared} (I : Inv X (pins ++ pl) σ H s) : Inv X pins σ H s := I.pins_of fun p hp => I.pin p (List.mem_append_right _ (List.mem_append_left _ hp))
theorem ps_for {iter : Expr} {body : List Stmt} {wi : TI} {g : TG} {tb : TS} {pos : Pos} (hp : PassesOwn (model X.prog X.w) X.A X.env X.xe) (hc : X.calm = true) (hi : PI X tg iter wi) (hg : PG X tg g) (hb : PSs X body tb)
    (hs : ∀ x, foldedSetIterable iter X.env x = pure x := by intro _; rfl) : PS X (.For tg iter body [] pos) (tFor wi g tb) := by
  intro pins s σ H D I h
  refine wpAny_For (thn (hi pins s σ H _ I h) fun v s1 h1 => thn h1 fun itv s2 h2 => ?_) hs
  obtain ⟨it, fp, tn, J, H2, e, I2, T, st2, f2, W, ⟨m0, w0⟩, turn⟩ := h2
  subst e
  have stat : ∀ {H' : Hp}, (∀ b ∈ fp, H' b = none) → ∀ b ∈ fp, FpOk X pins H' b := fun hn b hb => ⟨hn b hb, (f2 b hb).2⟩
  refine codeAny_forLoop_any (fun n s' => ∃ i σ' H', Inv X pins σ' H' s' ∧ tn i s'.heap ∧ (∀ b ∈ fp, H' b = none) ∧ W i n σ' H') ?_ m0 ⟨0, σ, H2, I2, st2, fun b hb => (f2 b hb).1, w0⟩
  rintro n s3 ⟨i, σ3, H3, I3, st3, fr3, w3⟩
  rcases turn i n σ3 H3 w3 with ⟨stop, qn⟩ | ⟨go, N, hN, step⟩
  · refine wpAny_passesOwn hp (thn (T.done X rfl rfl rfl hc i pins s3 σ3 H3 X.xe I3 (stat fr3) st3 stop) fun r s4 ⟨hr, I4⟩ => ?_)
    subst hr
    exact wpAny_execs_nil ⟨σ3, H3, I4, qn⟩
  · refine wpAny_passesOwn hp (thn (T.item X rfl rfl rfl hc i pins s3 σ3 H3 X.xe I3 (stat fr3) st3 go) fun r s4 ⟨u, hr, h4⟩ => ?_)
    subst hr
    refine wpAny_passesOwn hp (thn h4 fun _ s5 ⟨x, H5, I5, r5, y5, st5, fr5⟩ => ?_)
    have I5' := I5.pinned (stat fr5) (T.obj _ _ st5)
    refine wpAny_passesOwn hp (thn (hg _ s5 σ3 H5 x u _ I5' r5 (step x H5 y5)) fun _ s6 ⟨σ6, H6, I6, q6⟩ => ?_)
    refine wpAny_passesOwn hp (thn (hb _ s6 σ6 H6 _ I6 q6) fun f s7 q7 => ?_)
    have again : ∀ {σ7 : St} {H7 : Hp}, Inv X (pins ++ pinsAt fp s5.heap) σ7 H7 s7 → N σ7 H7 → ∃ m, m < n ∧ ∃ i σ' H', Inv X pins σ' H' s7 ∧ tn i s7.heap ∧ (∀ b ∈ fp, H' b = none) ∧ W i m σ' H' := fun {σ7 H7} I7 n7 => by
      obtain ⟨m', hm, w7⟩ := hN σ7 H7 n7
      refine ⟨m', hm, i + 1, σ7, H7, I7.unpinned, T.keep _ _ _ st5 fun b hb o e => (I7.pin (b, o) (List.mem_append_right _ (List.mem_append_right _ (mem_pinsAt hb e)))).1, fun b hb => ?_, w7⟩
      obtain ⟨o, e, d⟩ := T.obj _ _ st5 b hb
      exact (I7.pin (b, o) (List.mem_append_right _ (List.mem_append_right _ (mem_pinsAt hb e)))).2.1
    cases f with
    | next => obtain ⟨σ7, H7, I7, n7⟩ := q7; exact again I7 n7
    | cont => obtain ⟨σ7, H7, I7, n7⟩ := q7; exact again I7 n7
    | brk => obtain ⟨σ7, H7, I7, q7⟩ := q7; exact ⟨σ7, H7, I7.unpinned, q7⟩
    | ret v => obtain ⟨x7, σ7, H7, I7, r7, q7⟩ := q7; exact ⟨x7, σ7, H7, I7.unpinned, r7, q7⟩
end

theorem for_list {K : PySem.W.Frag} {a : Addr} {xs : List V} {g : TG} {tb : TS} {D : Ends} {σ : St} {H : Hp} (Pv : Nat → St → Hp → Prop) (h0 : Pv 0 σ H) (hl : ∀ i σ H, i ≤ xs.length → Pv i σ H → SqL K H a xs)
    (hs : ∀ i x σ H, xs[i]? = some x → Pv i σ H → g x σ H fun σ2 H2 => tb { D with nx := Pv (i + 1), ct := Pv (i + 1), bk := D.nx } σ2 H2) (hd : ∀ σ H, Pv xs.length σ H → D.nx σ H) :
    ∃ W : Nat → Nat → St → Hp → Prop, (∃ m, W 0 m σ H) ∧ ∀ i m σ H, W i m σ H →
      ((Itl K a).stop i H ∧ D.nx σ H) ∨ ((Itl K a).go i H ∧ ∃ N : St → Hp → Prop, (∀ σ' H', N σ' H' → ∃ m', m' < m ∧ W (i + 1) m' σ' H') ∧ ∀ x H', (Itl K a).yld i H x H' → g x σ H' fun σ2 H2 => tb { D with nx := N, ct := N, bk := D.nx } σ2 H2) := by
  refine ⟨fun i m σ H => m = xs.length - i ∧ i ≤ xs.length ∧ Pv i σ H, ⟨xs.length, by simp, Nat.zero_le _, h0⟩, ?_⟩
  rintro i m σ H ⟨rfl, hi, p⟩
  have q := hl i σ H hi p
  by_cases hlt : i < xs.length
  · refine .inr ⟨⟨xs, xs[i], q, by simp [hlt]⟩, Pv (i + 1), fun σ' H' p' => ⟨xs.length - (i + 1), by omega, rfl, hlt, p'⟩, fun x H' y => ?_⟩
    obtain ⟨e, y⟩ := y
    subst e
    exact hs i x σ _ (y xs q) p
  · have e : i = xs.length := by omega
    subst e
    exact .inl ⟨⟨xs, q, Nat.le_refl _⟩, hd σ H p⟩
end L2

namespace L2
open PySem PySem.Spec PyProof.Rows

noncomputable abbrev R2 := V → V → Hp → VK → Prop
noncomputable def OpR (X : Cx) (f : Value → Value → Sem Value) (r : R2) : Prop :=
  ∀ (pins : List (Addr × Obj)) (s : Shared) (σ : St) (H : Hp) (x y : V) (v u : Value) (Q : VK), Inv X pins σ H s → RelV x v → RelV y u → r x y H Q →
    wpAny (model X.prog X.w) X.A (f v u) (EP X pins σ Q) X.xe s
noncomputable def CallR (X : Cx) (f : Value) (r : List V → Hp → VK → Prop) : Prop :=
  ∀ (pins : List (Addr × Obj)) (s : Shared) (σ : St) (H : Hp) (xs : List V) (us : List Value) (Q : VK), Inv X pins σ H s → Vals xs us → r xs H Q →
    wpAny (model X.prog X.w) X.A (call f us) (EP X pins σ Q) X.xe s

noncomputable def tOp (r : R2) (ta tb : TE) : TE := fun σ H Q => ta σ H fun x H1 => tb σ H1 fun y H2 => r x y H2 Q
inductive UI (C : Int → Int → Prop) (g : Int → Int → V) (x y : V) (H : Hp) (Q : VK) : Prop
  | mk (i j : Int) (h1 : x = .int i) (h2 : y = .int j) (h3 : C i j) (q : Q (g i j) H) : UI C g x y H Q
inductive UI0 (g : Int → Int → V) (x y : V) (H : Hp) (Q : VK) : Prop
  | mk (i j : Int) (h1 : x = .int i) (h2 : y = .int j) (q : Q (g i j) H) : UI0 g x y H Q
noncomputable def rI (C : Int → Int → Prop) (g : Int → Int → V) : R2 := fun x y H Q => UI C g x y H Q
noncomputable def rI0 (g : Int → Int → V) : R2 := fun x y H Q => UI0 g x y H Q

section
variable {X : Cx} {a b c : Expr} {ta tb tc : TE} {pos : Pos}

theorem binT (ha : PE X a ta) (hb : PE X b tb) {pins : List (Addr × Obj)} {s : Shared} {σ : St} {H : Hp} {R : V → V → Hp → Prop} (I : Inv X pins σ H s)
    (h : ta σ H fun x H1 => tb σ H1 fun y H2 => R x y H2) {Q : Value → Shared → Prop} {f : Value → Value → Sem Value}
    (hf : ∀ v u s2 x y H2, Inv X pins σ H2 s2 → RelV x v → RelV y u → R x y H2 → wpAny (model X.prog X.w) X.A (f v u) Q X.xe s2) :
    wpAny (model X.prog X.w) X.A (eval a X.env) (fun v s₁ => wpAny (model X.prog X.w) X.A (eval b X.env) (fun u s₂ => wpAny (model X.prog X.w) X.A (f v u) Q X.xe s₂) X.xe s₁) X.xe s := by
  refine thn (ha pins s σ H _ I h) fun v s1 ⟨x, H1, I1, r1, q1⟩ => ?_
  refine thn (hb pins s1 σ H1 _ I1 q1) fun u s2 ⟨y, H2, I2, r2, q2⟩ => ?_
  exact hf v u s2 x y H2 I2 r1 r2 q2

theorem pe_op {op : Operator} {r : R2} (ho : OpR X (binaryOp op) r) (ha : PE X a ta) (hb : PE X b tb) : PE X (.BinOp a op b pos) (tOp r ta tb) := by
  intro pins s σ H Q I h
  exact wpAny_BinOp (binT ha hb I h fun v u s2 x y H2 I2 rx ry q => ho pins s2 σ H2 x y v u Q I2 rx ry q)

theorem opI {f : Value → Value → Sem Value} {C : Int → Int → Prop} {g : Int → Int → Int}
    (rule : ∀ (i j : Int) (t u : Tok) (s : Shared) (Q : Value → Shared → Prop) (E : Value → Shared → Prop), C i j → Q (.int (g i j) s.toks) { s with toks := s.toks + 1 } → wpAny (model X.prog X.w) X.A (f (.int i t) (.int j u)) Q E s) :
    OpR X f (rI C fun i j => .int (g i j)) := by
  intro pins s σ H x y v u Q I rx ry h
  obtain ⟨i, j, rfl, rfl, hc, q⟩ := h
  obtain ⟨t, rfl⟩ := rx
  obtain ⟨t', rfl⟩ := ry
  exact rule i j t t' s _ _ hc ⟨.int (g i j), H, I.tok _, ⟨_, rfl⟩, q⟩
theorem opI0 {f : Value → Value → Sem Value} {g : Int → Int → Int}
    (rule : ∀ (i j : Int) (t u : Tok) (s : Shared) (Q : Value → Shared → Prop) (E : Value → Shared → Prop), Q (.int (g i j) s.toks) { s with toks := s.toks + 1 } → wpAny (model X.prog X.w) X.A (f (.int i t) (.int j u)) Q E s) :
    OpR X f (rI0 fun i j => .int (g i j)) := by
  intro pins s σ H x y v u Q I rx ry h
  obtain ⟨i, j, rfl, rfl, q⟩ := h
  obtain ⟨t, rfl⟩ := rx
  obtain ⟨t', rfl⟩ := ry
  exact rule i j t t' s _ _ ⟨.int (g i j), H, I.tok _, ⟨_, rfl⟩, q⟩
theorem opB0 {f : Value → Value → Sem Value} {g : Int → Int → Bool}
    (rule : ∀ (i j : Int) (t u : Tok) (s : Shared) (Q : Value → Shared → Prop) (E : Value → Shared → Prop), Q (.bool (g i j)) s → wpAny (model X.prog X.w) X.A (f (.int i t) (.int j u)) Q E s) :
    OpR X f (rI0 fun i j => .bl (g i j)) := by
  intro pins s σ H x y v u Q I rx ry h
  obtain ⟨i, j, rfl, rfl, q⟩ := h
  obtain ⟨t, rfl⟩ := rx
  obtain ⟨t', rfl⟩ := ry
  exact rule i j t t' s _ _ ⟨.bl (g i j), H, I, rfl, q⟩


theorem op_add : OpR X (binaryOp .Add) (rI0 fun i j => .int (i + j)) := opI0 fun _ _ _ _ _ _ _ q => add_int q
theorem op_sub : OpR X (binaryOp .Sub) (rI0 fun i j => .int (i - j)) := opI0 fun _ _ _ _ _ _ _ q => sub_int q
theorem op_mod : OpR X (binaryOp .Mod) (rI (fun _ j => 0 < j) fun i j => .int (i % j)) := opI fun i j _ _ _ _ _ hc q => by
  have h1 : (0 : Int) < j := hc
  exact mod_int' (by omega) (by rw [Int.fmod_eq_emod_of_nonneg i (by omega)]; exact q)



end

noncomputable def scal : V → V → Bool
  | .non, .non => true | .non, .int _ => true | .int _, .non => true | .non, .bl _ => true | .bl _, .non => true | .non, .str _ => true | .str _, .non => true
  | .int _, .int _ => true | .bl _, .bl _ => true | .str _, .str _ => true | .byt _, .byt _ => true
  | .int _, .str _ => true | .str _, .int _ => true | .bl _, .str _ => true | .str _, .bl _ => true
  | _, _ => false
noncomputable def rEq : R2 := fun x y H Q => scal x y = true ∧ Q (.bl (decide (x = y))) H
noncomputable def rNe : R2 := fun x y H Q => scal x y = true ∧ Q (.bl (!decide (x = y))) H

theorem dec_int {i j : Int} : decide (V.int i = V.int j) = (i == j) := by
  rw [Bool.eq_iff_iff]
  simp
theorem dec_bl {i j : Bool} : decide (V.bl i = V.bl j) = (i == j) := by
  rw [Bool.eq_iff_iff]
  simp
theorem dec_str {i j : Str} : decide (V.str i = V.str j) = (i == j) := by
  rw [Bool.eq_iff_iff]
  simp
theorem dec_byt {i j : Array UInt8} : decide (V.byt i = V.byt j) = (i.toList == j.toList) := by
  rw [Bool.eq_iff_iff]
  cases i
  cases j
  simp

section
variable {X : Cx} {a b c : Expr} {ta tb tc : TE} {pos : Pos}
theorem fin_bl {pins : List (Addr × Obj)} {σ : St} {H : Hp} {s : Shared} {Q : VK} {k k' : Bool} (I : Inv X pins σ H s) (q : Q (.bl k) H) (e : k = k') : EP X pins σ Q (.bool k') s := by
  subst e
  exact ⟨.bl k, H, I, rfl, q⟩
theorem op_eq : OpR X (compareOp .Eq) rEq := by
  intro pins s σ H x y v u Q I rx ry h
  obtain ⟨hs, q⟩ := h
  cases x with
  | non =>
    cases rx
    cases y with
    | non => cases ry; exact PySem.EqNone.eq_none_none (fin_bl I q (by simp))
    | bl j => cases ry; exact PySem.EqNone.eq_none_bool (fin_bl I q (by simp))
    | int j => obtain ⟨t', rfl⟩ := ry; exact PySem.EqNone.eq_none_int (fin_bl I q (by simp))
    | str j => obtain ⟨t', rfl⟩ := ry; exact PySem.EqNone.eq_none_str (fin_bl I q (by simp))
    | _ => exact absurd (show false = true from hs) Bool.false_ne_true
  | bl i =>
    cases rx
    cases y with
    | non => cases ry; exact PySem.EqNone.eq_bool_none (fin_bl I q (by simp))
    | bl j => cases ry; exact eq_bool (fin_bl I q dec_bl)
    | str j => obtain ⟨t', rfl⟩ := ry; exact PySem.EqMixed.eq_bool_str (fin_bl I q (by simp))
    | _ => exact absurd (show false = true from hs) Bool.false_ne_true
  | int i =>
    obtain ⟨t, rfl⟩ := rx
    cases y with
    | non => cases ry; exact PySem.EqNone.eq_int_none (fin_bl I q (by simp))
    | int j => obtain ⟨t', rfl⟩ := ry; exact eq_int (fin_bl I q dec_int)
    | str j => obtain ⟨t', rfl⟩ := ry; exact PySem.EqMixed.eq_int_str (fin_bl I q (by simp))
    | _ => exact absurd (show false = true from hs) Bool.false_ne_true
  | str i =>
    obtain ⟨t, rfl⟩ := rx
    cases y with
    | non => cases ry; exact PySem.EqNone.eq_str_none (fin_bl I q (by simp))
    | bl j => cases ry; exact PySem.EqMixed.eq_str_bool (fin_bl I q (by simp))
    | int j => obtain ⟨t', rfl⟩ := ry; exact PySem.EqMixed.eq_str_int (fin_bl I q (by simp))
    | str j => obtain ⟨t', rfl⟩ := ry; exact eq_str (fin_bl I q dec_str)
    | _ => exact absurd (show false = true from hs) Bool.false_ne_true
  | byt i =>
    obtain ⟨t, rfl⟩ := rx
    cases y with
    | byt j => obtain ⟨t', rfl⟩ := ry; exact PySem.W.eq_bytes (fin_bl I q dec_byt)
    | _ => exact absurd (show false = true from hs) Bool.false_ne_true
  | _ => cases y <;> exact absurd (show false = true from hs) Bool.false_ne_true
theorem op_ne : OpR X (compareOp .NotEq) rNe := by
  intro pins s σ H x y v u Q I rx ry h
  obtain ⟨hs, q⟩ := h
  cases x with
  | non =>
    cases rx
    cases y with
    | non => cases ry; exact PySem.EqNone.ne_none_none (fin_bl I q (by simp))
    | bl j => cases ry; exact PySem.EqNone.ne_none_bool (fin_bl I q (by simp))
    | int j => obtain ⟨t', rfl⟩ := ry; exact PySem.EqNone.ne_none_int (fin_bl I q (by simp))
    | str j => obtain ⟨t', rfl⟩ := ry; exact PySem.EqNone.ne_none_str (fin_bl I q (by simp))
    | _ => exact absurd (show false = true from hs) Bool.false_ne_true
  | bl i =>
    cases rx
    cases y with
    | non => cases ry; exact PySem.EqNone.ne_bool_none (fin_bl I q (by simp))
    | bl j => cases ry; exact ne_bool (fin_bl I q (congrArg not dec_bl))
    | str j => obtain ⟨t', rfl⟩ := ry; exact PySem.EqMixed.ne_bool_str (fin_bl I q (by simp))
    | _ => exact absurd (show false = true from hs) Bool.false_ne_true
  | int i =>
    obtain ⟨t, rfl⟩ := rx
    cases y with
    | non => cases ry; exact PySem.EqNone.ne_int_none (fin_bl I q (by simp))
    | int j => obtain ⟨t', rfl⟩ := ry; exact ne_int (fin_bl I q (congrArg not dec_int))
    | str j => obtain ⟨t', rfl⟩ := ry; exact PySem.EqMixed.ne_int_str (fin_bl I q (by simp))
    | _ => exact absurd (show false = true from hs) Bool.false_ne_true
  | str i =>
    obtain ⟨t, rfl⟩ := rx
    cases y with
    | non => cases ry; exact PySem.EqNone.ne_str_none (fin_bl I q (by simp))
    | bl j => cases ry; exact PySem.EqMixed.ne_str_bool (fin_bl I q (by simp))
    | int j => obtain ⟨t', rfl⟩ := ry; exact PySem.EqMixed.ne_str_int (fin_bl I q (by simp))
    | str j => obtain ⟨t', rfl⟩ := ry; exact ne_str (fin_bl I q (congrArg not dec_str))
    | _ => exact absurd (show false = true from hs) Bool.false_ne_true
  | byt i =>
    obtain ⟨t, rfl⟩ := rx
    cases y with
    | byt j => obtain ⟨t', rfl⟩ := ry; exact PySem.W.ne_bytes (fin_bl I q (congrArg not dec_byt))
    | _ => exact absurd (show false = true from hs) Bool.false_ne_true
  | _ => cases y <;> exact absurd (show false = true from hs) Bool.false_ne_true

theorem op_lt : OpR X (compareOp .Lt) (rI0 fun i j => .bl (decide (i < j))) := opB0 fun _ _ _ _ _ _ _ q => lt_int q
theorem op_le : OpR X (compareOp .LtE) (rI0 fun i j => .bl (decide (i ≤ j))) := opB0 fun _ _ _ _ _ _ _ q => le_int q
theorem op_gt : OpR X (compareOp .Gt) (rI0 fun i j => .bl (decide (j < i))) := opB0 fun _ _ _ _ _ _ _ q => gt_int q
theorem op_ge : OpR X (compareOp .GtE) (rI0 fun i j => .bl (decide (j ≤ i))) := opB0 fun _ _ _ _ _ _ _ q => ge_int q




theorem nomark (b : Expr) {op : CmpOp} (h : op ≠ .In := by decide) (h2 : op ≠ .NotIn := by decide) : behindInMarks op b = false := by
  have e1 : (op == CmpOp.In) = false := by cases op <;> first | rfl | exact absurd rfl h
  have e2 : (op == CmpOp.NotIn) = false := by cases op <;> first | rfl | exact absurd rfl h2
  cases b <;> simp [behindInMarks, e1, e2]
theorem pe_cmpR {op : CmpOp} {r : R2} (ho : OpR X (compareOp op) r) (ha : PE X a ta) (hb : PE X b tb) (hm : behindInMarks op b = false) : PE X (.Compare a [op] [b] pos) (tOp r ta tb) := by
  intro pins s σ H Q I h
  exact wpAny_Compare1 (binT ha hb I h fun v u s2 x y H2 I2 rx ry q => ho pins s2 σ H2 x y v u Q I2 rx ry q) hm
noncomputable def tTest (t : TE) : TT := fun σ H Q => t σ H fun x H' => UBl x H' Q
theorem pt_cmpR {op : CmpOp} {r : R2} (ho : OpR X (compareOp op) r) (ha : PE X a ta) (hb : PE X b tb) (hm : behindInMarks op b = false) : PT X (.Compare a [op] [b] pos) (tTest (tOp r ta tb)) := by
  intro pins s σ H Q I h
  refine wpAny_isTrue_Compare1 (thn (ha pins s σ H _ I h) fun v s1 ⟨x, H1, I1, r1, q1⟩ => thn (hb pins s1 σ H1 _ I1 q1) fun u s2 ⟨y, H2, I2, r2, q2⟩ =>
    thn (ho pins s2 σ H2 x y v u _ I2 r1 r2 q2) fun c s3 ⟨z, H3, I3, r3, k, e, q3⟩ => ?_) hm
  subst e
  cases r3
  exact wpAny_truthy_bool ⟨H3, I3, q3⟩
noncomputable def tChain (r r' : R2) (ta tb tc : TE) : TE := fun σ H Q => ta σ H fun x H1 => tb σ H1 fun y H2 => r x y H2 fun z H3 => ∃ k, z = .bl k ∧
  (if k = true then tc σ H3 fun w' H4 => r' y w' H4 Q else Q (.bl false) H3)
theorem pe_chain {op op' : CmpOp} {r r' : R2} (ho : OpR X (compareOp op) r) (ho' : OpR X (compareOp op') r') (ha : PE X a ta) (hb : PE X b tb) (hc : PE X c tc)
    (hm : lastMarks [op, op'] [b, c] = false := by with_unfolding_all rfl) : PE X (.Compare a [op, op'] [b, c] pos) (tChain r r' ta tb tc) := by
  intro pins s σ H Q I h
  refine Compare_chain (thn (ha pins s σ H _ I h) fun v s1 ⟨x, H1, I1, r1, q1⟩ => chain_link (thn (hb pins s1 σ H1 _ I1 q1) fun u s2 ⟨y, H2, I2, r2, q2⟩ =>
    thn (ho pins s2 σ H2 x y v u _ I2 r1 r2 q2) fun d s3 ⟨z, H3, I3, r3, k, e, q3⟩ => ?_)) hm
  subst e
  cases r3
  refine wpAny_truthy_bool ?_
  cases k with
  | false => exact ite_ff ⟨.bl false, H3, I3, rfl, q3⟩
  | true => exact ite_tt (chain_last (thn (hc pins s3 σ H3 _ I3 q3) fun w' s4 ⟨z', H4, I4, r4, q4⟩ => ho' pins s4 σ H4 y z' u w' Q I4 r2 r4 q4))
theorem pt_chain {op op' : CmpOp} {r r' : R2} (ho : OpR X (compareOp op) r) (ho' : OpR X (compareOp op') r') (ha : PE X a ta) (hb : PE X b tb) (hc : PE X c tc)
    (hm : lastMarks [op, op'] [b, c] = false := by with_unfolding_all rfl) : PT X (.Compare a [op, op'] [b, c] pos) (tTest (tChain r r' ta tb tc)) := by
  intro pins s σ H Q I h
  refine isTrue_chain (thn (ha pins s σ H _ I h) fun v s1 ⟨x, H1, I1, r1, q1⟩ => test_link (thn (hb pins s1 σ H1 _ I1 q1) fun u s2 ⟨y, H2, I2, r2, q2⟩ =>
    thn (ho pins s2 σ H2 x y v u _ I2 r1 r2 q2) fun d s3 ⟨z, H3, I3, r3, k, e, q3⟩ => ?_)) hm
  subst e
  cases r3
  refine wpAny_truthy_bool ?_
  cases k with
  | false =>
    obtain ⟨k', e', q'⟩ := q3
    cases e'
    exact ite_ff ⟨H3, I3, q'⟩
  | true =>
    refine ite_tt (test_last (thn (hc pins s3 σ H3 _ I3 q3) fun w' s4 ⟨z', H4, I4, r4, q4⟩ => thn (ho' pins s4 σ H4 y z' u w' _ I4 r2 r4 q4) fun d' s5 ⟨z2, H5, I5, r5, k2, e2, q5⟩ => ?_))
    subst e2
    cases r5
    exact wpAny_truthy_bool ⟨H5, I5, q5⟩

theorem line63 : (sizeLine : Nat) < 2 ^ 63 := by rw [sizeLine_eq]; decide



theorem vals1 {x : V} {us : List Value} (r : Vals [x] us) : ∃ u, us = [u] ∧ RelV x u := by
  cases r with
  | cons r1 r2 => cases r2; exact ⟨_, rfl, r1⟩
theorem vals2 {x y : V} {us : List Value} (r : Vals [x, y] us) : ∃ u w', us = [u, w'] ∧ RelV x u ∧ RelV y w' := by
  cases r with
  | cons r1 r2 =>
    cases r2 with
    | cons r3 r4 => cases r4; exact ⟨_, _, rfl, r1, r3⟩
theorem call_max2 (hc : X.calm = true) : CallR X (.builtin "max") (fun xs H Q => ∃ i j, xs = [.int i, .int j] ∧ Q (.int (if j > i then j else i)) H) := by
  intro pins s σ H xs us Q I r h
  obtain ⟨i, j, rfl, q⟩ := h
  obtain ⟨u, w', rfl, ⟨t, rfl⟩, ⟨t', rfl⟩⟩ := vals2 r
  refine max_two_ints (I.ok.hd hc) fun h' tk k => ⟨_, H, I.kept k, ?_, q⟩
  by_cases hj : j > i
  · rw [if_pos hj, if_pos hj]; exact ⟨_, rfl⟩
  · rw [if_neg hj, if_neg hj]; exact ⟨_, rfl⟩
theorem call_min2 (hc : X.calm = true) : CallR X (.builtin "min") (fun xs H Q => ∃ i j, xs = [.int i, .int j] ∧ Q (.int (if j < i then j else i)) H) := by
  intro pins s σ H xs us Q I r h
  obtain ⟨i, j, rfl, q⟩ := h
  obtain ⟨u, w', rfl, ⟨t, rfl⟩, ⟨t', rfl⟩⟩ := vals2 r
  refine min_two_ints (I.ok.hd hc) fun h' tk k => ⟨_, H, I.kept k, ?_, q⟩
  by_cases hj : j < i
  · rw [if_pos hj, if_pos hj]; exact ⟨_, rfl⟩
  · rw [if_neg hj, if_neg hj]; exact ⟨_, rfl⟩
end
end L2

namespace L2
open PySem PySem.Spec PyProof.Rows

structure ObjM (h : Heap) (x dx C : Addr) (mA : Str → Option Value) : Prop where
  obj : h.get? x = some (PySem.W.instObj C dx)
  ns : h.Ns1 dx mA
  ne : dx ≠ x

theorem lookIn_ns {h : Heap} {dx : Addr} {mA : Str → Option Value} (n : h.Ns1 dx mA) : ∃ od, h.get? dx = some od ∧ ∀ name, PySem.W.lookIn name od = some (mA name) := by
  obtain ⟨o, es, ep, ho, hd, hk, _, hm⟩ := n
  refine ⟨o, ho, fun name => ?_⟩
  have e := hm name
  unfold nsFind findBy at e
  rw [← Array.find?_toList] at e
  unfold PySem.W.lookIn
  rw [hd]
  dsimp only
  split
  · rename_i y q
    rw [q] at e
    exact congrArg some e
  · rename_i q
    rw [q] at e
    have a : es.toList.any (·.refKey) = false := by
      rw [List.any_eq_false]
      intro y hy
      obtain ⟨z, t, hkey⟩ := hk y (Array.mem_toList_iff.mp hy)
      simp [DictEntry.refKey, hkey]
    have a' : ¬ es.toList.any (·.refKey) = true := by rw [a]; exact Bool.false_ne_true
    rw [if_neg a']
    exact congrArg some e

theorem ObjM.look {h : Heap} {x dx C : Addr} {mA : Str → Option Value} (I : ObjM h x dx C mA) : ∃ od, PySem.W.InstAt h x (PySem.W.instObj C dx) C (some od) ∧ ∀ name, PySem.W.lookIn name od = some (mA name) :=
  let ⟨od, ho, hl⟩ := lookIn_ns I.ns
  ⟨od, ⟨I.obj, rfl, rfl, ho⟩, hl⟩

section
variable {prog : Program} {w : World} {A : Around} {E : Value → Shared → Prop} {s : Shared} {K : PySem.W.Frag} {x dx C f : Addr} {mA : Str → Option Value} {name : Str} {v : Value}

theorem get_map {expr : Bool} {Q : Value → Shared → Prop} (X : K.In s.heap) (I : ObjM s.heap x dx C mA) (hg : PySem.W.plainGet K C name = true) (hh : PySem.W.hasDictIn K C = true)
    (ha : PySem.W.findIn K (.ref C) name = some none) (hv : mA name = some v) (hv' : PySem.W.handedIn v = true) (h : Q v { s with toks := s.toks + 1 }) :
    wpAny (model prog w) A (getAttr (.ref x) name expr) Q E s := by
  obtain ⟨od, J, hl⟩ := I.look
  exact PySem.W.get_value X J (PySem.W.plainGet_of hg).1 (PySem.W.findObj_own hh ha rfl (by rw [hl, hv])) hv' h



theorem set_map {ns : List Str} {Q : Unit → Shared → Prop} (X : K.In s.heap) (I : ObjM s.heap x dx C mA)
    (hs : PySem.W.findIn K (.ref C) "__setattr__" = some (some (.builtin "object.__setattr__"))) (hp : PySem.W.plainOver K C = true) (ht : PySem.W.takerIn K C name = some none) (hh : PySem.W.hasDictIn K C = true)
    (hw : PySem.Within mA ns) (hsz : ns.length ≤ sizeLine)
    (h : ∀ h', ObjM h' x dx C (fun y => if y = name then some v else mA y) → Heap.SameBut dx s.heap h' → Q () { s with heap := h', toks := s.toks + 2 }) :
    wpAny (model prog w) A (setAttr (.ref x) name v) Q E s := by
  obtain ⟨od, J, hl⟩ := I.look
  refine PySem.W.set_plain X J hs (PySem.W.osa_open (s := { s with toks := s.toks + 1 }) (r := none) X J hp ht fun b => ?_)
  obtain ⟨cd, hc, hd'⟩ := PySem.W.any_some hh
  have hx : s.heap.get? x = some ⟨.ref C, some dx, .plain, #[]⟩ := I.obj
  refine wpAny_bind (wpAny_pure (wpAny_bind (wpAny_bind (wpAny_loadPart hx (wpAny_bind (PySem.W.Looks.here (s := { s with toks := s.toks + 1 }) (PySem.W.looks_clsIn X hc) ?_))))))
  rw [hd']
  refine wpAny_pure (a := some dx) (wpAny_bind (wpAny_pure (wpAny_bind ?_)))
  refine wpAny_nsSet1 (s := { s with toks := s.toks + 1 }) I.ns fun h' hn2 hs2 => ?_
  obtain ⟨oD, esD, epD, hoD, hdD, hcD⟩ := hn2.count (PySem.Within.cons name v hw)
  refine wpAny_bind (wpAny_lookBehind hoD (by rw [hdD]; exact pastItsLine_dict (Nat.le_trans hcD (by rw [List.length_cons]; omega))) ?_)
  exact wpAny_pure (h _ ⟨(hs2.2 _ (Ne.symm I.ne)).trans I.obj, hn2, I.ne⟩ hs2)

theorem make_map {R : Result → Shared → Prop} {vs : List Value} {kw : List (Str × Value)} (X : K.In s.heap) (hm : PySem.W.makesIn K C = true)
    (hi : PySem.W.findIn K (.ref C) "__init__" = some (some (.ref f))) (hf : PySem.W.typeIn K (.ref f) = some (.type "function"))
    (h : codeAny (model prog w) (A.under (.builtin "type.__call__" ⟨.ref C :: vs, kw⟩)) (.call (.ref f) ⟨.ref (s.heap.objs.size + 1) :: vs, kw⟩) (PySem.W.InitBack (s.heap.objs.size + 1) R)
      { s with heap := (s.heap.push PySem.W.emptyDict).push (PySem.W.instObj C s.heap.objs.size) }) :
    codeAny (model prog w) A (.call (.ref C) ⟨vs, kw⟩) R s := by
  obtain ⟨hh, g, d, t, os⟩ := s
  exact PySem.W.make_core (PySem.W.makes_of X hm) (PySem.W.looks_findIn X hi) (fun self => PySem.W.bind_fn X self hf) (.inl rfl) h
end

noncomputable def putF (f : Str) (v : V) : List (Str × V) → List (Str × V)
  | [] => [(f, v)]
  | (g, x) :: r => if g = f then (g, v) :: r else (g, x) :: putF f v r
theorem lookup_putF (f g : Str) (v : V) : ∀ fs : List (Str × V), (putF f v fs).lookup g = if g = f then some v else fs.lookup g
  | [] => by
    show List.lookup g [(f, v)] = _
    by_cases h : g = f
    · have hb : (g == f) = true := beq_iff_eq.mpr h
      simp only [List.lookup, hb, if_pos h]
    · have hb : (g == f) = false := beq_eq_false_iff_ne.mpr h
      simp only [List.lookup, hb, if_neg h]
  | (k, x) :: r => by
    have ih := lookup_putF f g v r
    rw [show putF f v ((k, x) :: r) = (if k = f then (k, v) :: r else (k, x) :: putF f v r) from rfl]
    by_cases hk : k = f
    · rw [if_pos hk]
      by_cases h : g = k
      · have hb : (g == k) = true := beq_iff_eq.mpr h
        simp only [List.lookup, hb, if_pos (h.trans hk)]
      · have hb : (g == k) = false := beq_eq_false_iff_ne.mpr h
        simp only [List.lookup, hb, if_neg (fun e : g = f => h (e.trans hk.symm))]
    · rw [if_neg hk]
      by_cases h : g = k
      · have hb : (g == k) = true := beq_iff_eq.mpr h
        simp only [List.lookup, hb, if_neg (fun e : g = f => hk (h.symm.trans e))]
      · have hb : (g == k) = false := beq_eq_false_iff_ne.mpr h
        simp only [List.lookup, hb]
        exact ih
theorem keys_putF (f : Str) (v : V) : ∀ fs : List (Str × V), f ∈ (putF f v fs).map (·.1) ∧ ∀ g, g ∈ fs.map (·.1) → g ∈ (putF f v fs).map (·.1)
  | [] => ⟨by simp [putF], fun g h => by simp at h⟩
  | (k, x) :: r => by
    obtain ⟨i1, i2⟩ := keys_putF f v r
    rw [show putF f v ((k, x) :: r) = (if k = f then (k, v) :: r else (k, x) :: putF f v r) from rfl]
    by_cases hk : k = f
    · rw [if_pos hk]
      subst hk
      exact ⟨by simp, fun g h => by simpa using h⟩
    · rw [if_neg hk]
      refine ⟨?_, fun g h => ?_⟩
      · rw [List.map_cons]
        exact List.mem_cons_of_mem _ i1
      · rw [List.map_cons] at h ⊢
        rcases List.mem_cons.mp h with e | e
        · exact List.mem_cons.mpr (.inl e)
        · exact List.mem_cons_of_mem _ (i2 g e)
theorem length_putF (f : Str) (v : V) : ∀ fs : List (Str × V), (putF f v fs).length ≤ fs.length + 1
  | [] => by simp [putF]
  | (k, x) :: r => by
    have ih := length_putF f v r
    rw [show putF f v ((k, x) :: r) = (if k = f then (k, v) :: r else (k, x) :: putF f v r) from rfl]
    by_cases hk : k = f
    · rw [if_pos hk, List.length_cons, List.length_cons]; omega
    · rw [if_neg hk, List.length_cons, List.length_cons]; omega

theorem RelO.some_of {v : V} {o : Option Value} (r : RelO (some v) o) : ∃ u, o = some u ∧ RelV v u := by
  cases o with
  | none => exact (show False from r).elim
  | some u => exact ⟨u, rfl, r⟩
theorem handed_of {v : V} {u : Value} (r : RelV v u) : PySem.W.handedIn u = true := by
  cases v with
  | non => cases (show u = Value.none from r); rfl
  | bl b => cases (show u = Value.bool b from r); rfl
  | int i => obtain ⟨t, e⟩ := (show ∃ t, u = Value.int i t from r); cases e; rfl
  | str x => obtain ⟨t, e⟩ := (show ∃ t, u = Value.str x t from r); cases e; rfl
  | byt b => obtain ⟨t, e⟩ := (show ∃ t, u = Value.bytes b t from r); cases e; rfl
  | flt b => obtain ⟨t, e⟩ := (show ∃ t, u = Value.float b t from r); cases e; rfl
  | ref a => cases (show u = Value.ref a from r); rfl
  | ty n => cases (show u = Value.type n from r); rfl

section
variable {P : Program} {w : World} {H H' : Hp} {h h' : Heap} {a C dx : Addr} {fs fs' : List (Str × V)}
theorem ins_get (hok : HOk P w H h) (e : H a = some (.ins C dx fs)) : ∃ mA, ObjM h a dx C mA ∧ (∀ f, RelO (fs.lookup f) (mA f)) ∧ PySem.Within mA (fs.map (·.1)) ∧ fs.length ≤ 1000 ∧ H dx = some (.own a) := by
  obtain ⟨d, z, ne, ob, mA, n, r, q⟩ := (show ObjOk P w H h a (.ins C dx fs) from hok a _ e)
  exact ⟨mA, ⟨ob, n, ne⟩, r, q, z, d⟩
end

structure Cls (K : PySem.W.Frag) (C : Addr) : Prop where
  pg : PySem.W.plainGet K C Str.empty = true
  hd : PySem.W.hasDictIn K C = true
  po : PySem.W.plainOver K C = true
  sa : PySem.W.findIn K (.ref C) "__setattr__" = some (some (.builtin "object.__setattr__"))
theorem Cls.get {K : PySem.W.Frag} {C : Addr} (c : Cls K C) (f : Str) : PySem.W.plainGet K C f = true := c.pg
noncomputable def NoAttr (K : PySem.W.Frag) (C : Addr) (f : Str) : Prop := PySem.W.findIn K (.ref C) f = some none
theorem NoAttr.taker {K : PySem.W.Frag} {C : Addr} {f : Str} (n : NoAttr K C f) : PySem.W.takerIn K C f = some none := by
  unfold PySem.W.takerIn
  rw [show PySem.W.findIn K (.ref C) f = some none from n]
  rfl

section
variable {X : Cx} {pins : List (Addr × Obj)} {σ : St} {H : Hp} {s : Shared} {a C dx : Addr} {fs : List (Str × V)} {f : Str} {v : V} {A : Around} {E : Value → Shared → Prop}

theorem getattr_ok {b : Bool} {Q : Value → Shared → Prop} (I : Inv X pins σ H s) (e : H a = some (.ins C dx fs)) (c : Cls X.K C) (n : NoAttr X.K C f) (l : fs.lookup f = some v)
    (h : ∀ u s', Inv X pins σ H s' → RelV v u → Q u s') : wpAny (model X.prog X.w) A (getAttr (.ref a) f b) Q E s := by
  obtain ⟨mA, O, r, _, _, _⟩ := ins_get I.hok e
  obtain ⟨u, hu, ru⟩ := RelO.some_of (v := v) (o := mA f) (by rw [← l]; exact r f)
  exact get_map I.kIn O (c.get f) c.hd n hu (handed_of ru) (h u _ (I.tok _) ru)



theorem setattr_ok {y : V} {u : Value} {Q : Unit → Shared → Prop} (I : Inv X pins σ H s) (e : H a = some (.ins C dx fs)) (c : Cls X.K C) (n : NoAttr X.K C f) (hl : fs.length < 1000) (ry : RelV y u)
    (h : ∀ s', Inv X pins σ (upd H a (.ins C dx (putF f y fs))) s' → Q () s') : wpAny (model X.prog X.w) A (setAttr (.ref a) f u) Q E s := by
  obtain ⟨mA, O, r, wi, _, ho⟩ := ins_get I.hok e
  have hz : (fs.map (·.1)).length ≤ sizeLine := by rw [List.length_map, sizeLine_eq]; omega
  refine set_map I.kIn O c.sa c.po n.taker c.hd wi hz fun h' O' sb => h _ ?_
  have hd : ∃ o, h'.get? dx = some o := let ⟨o, _, _, e', _⟩ := O'.ns; ⟨o, e'⟩
  refine I.write (x := a) (e := dx) (by rw [e]; exact True.intro) (.inr ho) (fun b q hb z => (sb.2 b hb).trans z) hd ?_
  refine ⟨by rw [upd_ne O.ne]; exact ho, ?_, O.ne, O'.obj, _, O'.ns, fun g => ?_, fun g hg => ?_⟩
  · have := length_putF f y fs; omega
  · show RelO ((putF f y fs).lookup g) (if g = f then some u else mA g)
    rw [lookup_putF]
    by_cases q : g = f
    · rw [if_pos q, if_pos q]; exact ry
    · rw [if_neg q, if_neg q]; exact r g
  · by_cases q : g = f
    · rw [q]; exact (keys_putF f y fs).1
    · refine (keys_putF f y fs).2 g (wi g fun z => hg ?_)
      show (if g = f then some u else mA g) = none
      rw [if_neg q]; exact z

theorem Inv.made (I : Inv X pins σ H s) : Inv X pins σ (upd (upd H s.heap.objs.size (.own (s.heap.objs.size + 1))) (s.heap.objs.size + 1) (.ins C s.heap.objs.size []))
    { s with heap := (s.heap.push PySem.W.emptyDict).push (PySem.W.instObj C s.heap.objs.size) } := by
  have e1 : (s.heap.push PySem.W.emptyDict).get? s.heap.objs.size = some PySem.W.emptyDict := Heap.get?_push_size s.heap rfl
  have e2 : ((s.heap.push PySem.W.emptyDict).push (PySem.W.instObj C s.heap.objs.size)).get? (s.heap.objs.size + 1) = some (PySem.W.instObj C s.heap.objs.size) := by
    have := Heap.get?_push_size (s.heap.push PySem.W.emptyDict) (o := PySem.W.instObj C s.heap.objs.size) rfl
    rwa [Heap.size_push] at this
  have e3 : (s.heap.push PySem.W.emptyDict).Ns s.heap.objs.size (fun _ => none) := ⟨PySem.W.emptyDict, #[], _, e1, rfl, (fun e he => absurd he (by simp)), fun _ => rfl⟩
  have I1 := I.laid (a := s.heap.objs.size) (o := .own (s.heap.objs.size + 1)) (h' := s.heap.push PySem.W.emptyDict) (t' := s.toks) (fun b u q => Heap.get?_push_of_some _ q) (Nat.le_refl _) ⟨_, e1⟩
  refine I1.laid (a := s.heap.objs.size + 1) (o := .ins C s.heap.objs.size []) (t' := s.toks) (fun b u q => Heap.get?_push_of_some _ q) (Nat.le_of_eq (Heap.size_push _ _)) ?_
  have ne : s.heap.objs.size ≠ s.heap.objs.size + 1 := Nat.ne_of_lt (Nat.lt_succ_self _)
  refine ⟨by rw [upd_ne ne, upd_same], Nat.zero_le _, ne, e2, fun _ => none, (Heap.Ns1.of_empty e3).at fun o q => Heap.get?_push_of_some _ q, fun _ => True.intro, fun y hy => absurd rfl hy⟩

theorem attr_of {prog : Program} {w : World} {env : Env} {e : Expr} {f : Str} {pos : Pos} {s : Shared} {Q : Value → Shared → Prop} (hb : attributeBase e f env (eval e env) = eval e env)
    (h : wpAny (model prog w) A (eval e env) (fun o s₁ => wpAny (model prog w) A (getAttr o f true) Q E s₁) E s) : wpAny (model prog w) A (eval (.Attribute e f pos) env) Q E s :=
  Attribute_any_ h (by rw [arm_eval_Attribute, hb])
end

inductive FldIs (K : PySem.W.Frag) (f : Str) (x : V) (H : Hp) (v : V) : Prop
  | mk (a C dx : Addr) (fs : List (Str × V)) (h1 : x = .ref a) (h2 : H a = some (.ins C dx fs)) (h3 : Cls K C) (h4 : NoAttr K C f) (h5 : fs.lookup f = some v) : FldIs K f x H v
inductive StF (K : PySem.W.Frag) (f : Str) (x y : V) (H H' : Hp) : Prop
  | mk (a C dx : Addr) (fs : List (Str × V)) (h1 : x = .ref a) (h2 : H a = some (.ins C dx fs)) (h3 : Cls K C) (h4 : NoAttr K C f) (h5 : fs.length < 1000) (h6 : H' = upd H a (.ins C dx (putF f y fs))) : StF K f x y H H'
inductive UV (A : V → Prop) (H : Hp) (Q : VK) : Prop
  | mk (v : V) (h : A v) (q : Q v H) : UV A H Q
inductive UH (A Q : Hp → Prop) : Prop
  | mk (H : Hp) (h : A H) (q : Q H) : UH A Q
noncomputable def tFld (K : PySem.W.Frag) (ta : TE) (f : Str) : TE := fun σ H Q => ta σ H fun x H1 => UV (FldIs K f x H1) H1 Q
noncomputable def sFld (K : PySem.W.Frag) (ta tv : TE) (f : Str) : TS := fun D σ H => tv σ H fun y H1 => ta σ H1 fun x H2 => UH (StF K f x y H2) (D.nx σ)
noncomputable def InOp (X : Cx) (op : Operator) (rd : V → V → Hp → VK → Prop) : Prop :=
  ∀ (pins : List (Addr × Obj)) (s : Shared) (σ : St) (H : Hp) (x y : V) (u v : Value) (Q : VK), Inv X pins σ H s → RelV x u → RelV y v → rd x y H Q → wpAny (model X.prog X.w) X.A (inplaceOp op u v) (EP X pins σ Q) X.xe s
noncomputable def sFldAug (K : PySem.W.Frag) (ta tv : TE) (rd : V → V → Hp → VK → Prop) (f : Str) : TS := fun D σ H => ta σ H fun x H1 => ∃ a C dx fs v, x = .ref a ∧ H1 a = some (.ins C dx fs) ∧ Cls K C ∧ NoAttr K C f ∧ fs.lookup f = some v ∧
  tv σ H1 fun y H2 => rd v y H2 fun z H3 => ∃ dx' fs', H3 a = some (.ins C dx' fs') ∧ fs'.length < 1000 ∧ D.nx σ (upd H3 a (.ins C dx' (putF f z fs')))

section
variable {X : Cx} {o e value : Expr} {f : Str} {pos pos' tpos : Pos} {ta tv : TE}
theorem pe_fld (he : PE X e ta) (hb : attributeBase e f X.env (eval e X.env) = eval e X.env) : PE X (.Attribute e f pos) (tFld X.K ta f) := by
  intro pins s σ H Q I h
  refine attr_of hb (thn (he pins s σ H _ I h) fun u s1 h0 => ?_)
  obtain ⟨x, H1, I1, rx, v, ⟨a, C, dx, fs, ex, ea, c, n, l⟩, q⟩ := h0
  subst ex
  obtain rfl : u = Value.ref a := rx
  exact getattr_ok I1 ea c n l fun u' s2 I2 ru => ⟨v, H1, I2, ru, q⟩
theorem ps_fld (ha : PE X o ta) (hv : PE X value tv) (hs : swapsWith value (some (.Attribute o f pos')) pos.line X.env = pure false) : PS X (.Assign [.Attribute o f pos'] value pos) (sFld X.K ta tv f) := by
  intro pins s σ H D I h
  refine plainObj_wpAny_Assign_Attribute (thn (hv pins s σ H _ I h) fun u s1 h1 => ?_) hs
  obtain ⟨y, H1, I1, ry, q⟩ := h1
  refine thn (ha pins s1 σ H1 _ I1 q) fun ov s2 h2 => ?_
  obtain ⟨x, H2, I2, rx, H3, ⟨a, C, dx, fs, ex, ea, c, n, l, eH⟩, q2⟩ := h2
  subst ex
  subst eH
  obtain rfl : ov = Value.ref a := rx
  exact setattr_ok I2 ea c n l ry fun s3 I3 => ⟨σ, _, I3, q2⟩
theorem ps_fldaug {op : Operator} {rd : V → V → Hp → VK → Prop} (ha : PE X o ta) (hv : PE X value tv) (hop : InOp X op rd) : PS X (.AugAssign (.Attribute o f tpos) op value pos) (sFldAug X.K ta tv rd f) := by
  intro pins s σ H D I h
  refine wpAny_AugAssign_AttributeAny (thn (ha pins s σ H _ I h) fun ov s1 h0 => ?_)
  obtain ⟨x, H1, I1, rx, a, C, dx, fs, v, ex, ea, c, n, l, q⟩ := h0
  subst ex
  obtain rfl : ov = Value.ref a := rx
  refine getattr_ok I1 ea c n l fun u s2 I2 ru => thn (hv pins s2 σ H1 _ I2 q) fun w3 s3 h3 => ?_
  obtain ⟨y, H2, I3, ry, q3⟩ := h3
  refine thn (hop pins s3 σ H2 v y u w3 _ I3 ru ry q3) fun w4 s4 h4 => ?_
  obtain ⟨z, H3, I4, rz, dx', fs', ea', l', q4⟩ := h4
  exact setattr_ok I4 ea' c n l' rz fun s5 I5 => ⟨σ, _, I5, q4⟩
noncomputable def rAdd : V → V → Hp → VK → Prop := fun x y H Q => ∃ i j, x = .int i ∧ y = .int j ∧ Q (.int (i + j)) H
theorem in_add : InOp X .Add rAdd := by
  rintro pins s σ H x y u v Q I rx ry ⟨i, j, rfl, rfl, q⟩
  obtain ⟨t, rfl⟩ := (show ∃ t, u = Value.int i t from rx)
  obtain ⟨t', rfl⟩ := (show ∃ t', v = Value.int j t' from ry)
  exact PyProof.Rows.iadd_int ⟨.int (i + j), H, I.tok _, ⟨_, rfl⟩, q⟩

end

section
variable {X : Cx} {pins : List (Addr × Obj)} {σ : St} {H : Hp} {s : Shared} {A : Around} {E : Value → Shared → Prop} {Q : Value → Shared → Prop} {c : Value} {b : Bool}
end
end L2

namespace L2
open PySem PySem.Spec PyProof.Rows

structure Room (k : Nat) (A : Around) : Prop where
  hd : A.handled = none
  dp : A.depth + 3 * k + 5 < recursionLimit
  un : A.units + 16 * k + 200 < cLine
theorem Room.mono {j k : Nat} {A : Around} (r : Room k A) (h : j ≤ k) : Room j A := ⟨r.hd, by have := r.dp; omega, by have := r.un; omega⟩
theorem Room.deeper {k : Nat} {A : Around} (r : Room (k + 1) A) (env : Env) : Room k (A.deeper env) :=
  ⟨r.hd, by have := r.dp; show A.depth + 1 + 3 * k + 5 < _; omega, by have := r.un; show A.units + 3 + 16 * k + 200 < _; omega⟩
theorem make_depth {A : Around} {C : Addr} {us : List Value} {kw : List (Str × Value)} : (A.under (.builtin "type.__call__" ⟨.ref C :: us, kw⟩)).depth = A.depth + 1 := by
  first | rfl | simp [Around.under, Code.weight, Code.isCreation, Code.isGuard, Code.isCaller, Code.frames, Code.isFrame, guardIds]
theorem make_units {A : Around} {C : Addr} {us : List Value} {kw : List (Str × Value)} : (A.under (.builtin "type.__call__" ⟨.ref C :: us, kw⟩)).units = A.units + 1 := by
  first | rfl | simp [Around.under, Code.cUnits, Code.frames, Code.isFrame]
theorem Room.make {k : Nat} {A : Around} (r : Room (k + 1) A) (C : Addr) (us : List Value) (kw : List (Str × Value)) : Room k (A.under (.builtin "type.__call__" ⟨.ref C :: us, kw⟩)) :=
  ⟨r.hd, by have := r.dp; rw [make_depth]; omega, by have := r.un; rw [make_units]; omega⟩
theorem Room.depth {k : Nat} {A : Around} (r : Room k A) : A.depth < recursionLimit := by have := r.dp; omega

noncomputable def tNil : TA := fun _ H Q => Q [] H
noncomputable def tCons (ta : TE) (tr : TA) : TA := fun σ H Q => ta σ H fun x H1 => tr σ H1 fun xs H2 => Q (x :: xs) H2
section
variable {X : Cx} {e : Expr} {es : List Expr} {te : TE} {t : TA} {pos : Pos}
theorem pa_nil : PA X [] tNil := fun _ _ _ _ H Q I h => Calls.spliced_nil ⟨[], H, I, .nil, h⟩
theorem pa_cons (ha : PE X e te) (hr : PA X es t) (hs : starEach (e :: es) X.env = (false, eval e X.env) :: starEach es X.env := by rfl) : PA X (e :: es) (tCons te t) := by
  intro pos pins s σ H Q I h
  rw [hs]
  show wpAny _ _ (spliced ((false, eval e X.env) :: backTo pos (starEach es X.env))) _ _ s
  refine Calls.spliced_cons (thn (ha pins s σ H _ I h) fun u s1 ⟨x, H1, I1, r1, q1⟩ => ?_)
  exact thn (hr pos pins s1 σ H1 _ I1 q1) fun us s2 ⟨xs, H2, I2, r2, q2⟩ => ⟨x :: xs, H2, I2, .cons r1 r2, q2⟩

noncomputable def tTup (t : TA) : TE := fun σ H Q => t σ H fun xs H1 => xs.length ≤ sizeLine ∧ ∀ p, H1 p = none → Q (.ref p) (upd H1 p (.tup xs))
inductive ULst (xs : List V) (H : Hp) (Q : VK) : Prop
  | mk (h : xs.length ≤ sizeLine) (q : ∀ p, H p = none → Q (.ref p) (upd H p (.lst xs))) : ULst xs H Q
noncomputable def tLst (t : TA) : TE := fun σ H Q => t σ H fun xs H1 => ULst xs H1 Q
theorem pe_tup {x1} (h : PA X es t) : PE X (.Tuple es x1 pos) (tTup t) := by
  intro pins s σ H Q I hq
  refine wpAny_Tuple_spliced (thn (h pos pins s σ H _ I hq) fun us s1 ⟨xs, H1, I1, r, z, q⟩ => ⟨by rw [← r.length]; exact z, ?_⟩)
  have hf : H1 s1.heap.objs.size = none := I1.hok.fresh (Nat.le_refl _)
  refine ⟨.ref s1.heap.objs.size, upd H1 s1.heap.objs.size (.tup xs), I1.laid (t' := s1.toks) (fun b u e => Heap.get?_push_of_some _ e) (Nat.le_refl _) ?_, rfl, q _ hf⟩
  exact ⟨z, us, r, ⟨_, Heap.get?_push_size _ rfl, rfl, _, rfl⟩⟩
theorem pe_lst (h : PA X es t) : PE X (.List es pos) (tLst t) := by
  intro pins s σ H Q I hq
  refine wpAny_List_spliced (thn (h pos pins s σ H _ I hq) fun us s1 ⟨xs, H1, I1, r, z, q⟩ => ⟨by rw [← r.length]; exact z, ?_⟩)
  have hf : H1 s1.heap.objs.size = none := I1.hok.fresh (Nat.le_refl _)
  refine ⟨.ref s1.heap.objs.size, upd H1 s1.heap.objs.size (.lst xs), I1.laid (t' := s1.toks) (fun b u e => Heap.get?_push_of_some _ e) (Nat.le_refl _) ?_, rfl, q _ hf⟩
  exact ⟨z, us, 0, r, Heap.get?_push_size _ rfl⟩
end

noncomputable abbrev Sp := List V → Hp → VK → XK → Prop
noncomputable abbrev CXT := List Env → Hp → Shared → XK → Value → Shared → Prop

structure Env0 (P : Program) (w : World) (K : PySem.W.Frag) (mg : Str → Option Value) (base : Heap) (A : Around) (outer : List Env) (s : Shared) (H : Hp) : Prop where
  frames : A.frames = some outer
  mod : Mod K mg base
  bs : ∀ b o, base.get? b = some o → s.heap.get? b = some o ∧ H b = none
  bsz : base.objs.size ≤ s.heap.objs.size
  funs : s.heap.FunFrames base outer
  frf : ∀ b ∈ frs outer, H b = none
  hok : HOk P w H s.heap
  bare : AllBare s.gens
noncomputable def CE (outer : List Env) (P : Program) (w : World) (H : Hp) (s : Shared) (Q : VK) (u : Value) (s' : Shared) : Prop :=
  ∃ v H', s'.os = s.os ∧ AllBare s'.gens ∧ Un (frs outer) [] H H' s.heap s'.heap ∧ HOk P w H' s'.heap ∧ RelV v u ∧ Q v H'
noncomputable def CR (CX : CXT) (outer : List Env) (P : Program) (w : World) (H : Hp) (s : Shared) (Q : VK) (E : XK) (r : Result) (s' : Shared) : Prop :=
  match r with
  | .ok (.ret u) => CE outer P w H s Q u s'
  | .ok _ => False
  | .error e => CX outer H s E e s'
structure FnOk (P : Program) (w : World) (K : PySem.W.Frag) (mg : Str → Option Value) (base : Heap) (CX : CXT) (k : Nat) (f : Addr) (fd : FuncData) (ps : List Str) (sp : Sp) : Prop where
  len : ∀ vs H Q E, sp vs H Q E → vs.length = ps.length
  run : ∀ (A : Around) (outer : List Env) (s : Shared) (H : Hp) (args : Args) (us : List Value) (vs : List V) (Q : VK) (E : XK), Room k A → Env0 P w K mg base A outer s H → BindsTo s fd args (ps.zip us) → Vals vs us → sp vs H Q E →
    codeAny (model P w) A (.call (.ref f) args) (CR CX outer P w H s Q E) s
theorem FnOk.mono {P : Program} {w : World} {K : PySem.W.Frag} {mg : Str → Option Value} {base : Heap} {CX : CXT} {j k : Nat} {f : Addr} {fd : FuncData} {ps : List Str} {sp : Sp} (F : FnOk P w K mg base CX j f fd ps sp) (h : j ≤ k) :
    FnOk P w K mg base CX k f fd ps sp := ⟨F.len, fun A outer s H args us vs Q E hr => F.run A outer s H args us vs Q E (hr.mono h)⟩

theorem Env0.make {P : Program} {w : World} {K : PySem.W.Frag} {mg : Str → Option Value} {base : Heap} {A : Around} {outer : List Env} {s : Shared} {H : Hp} (e : Env0 P w K mg base A outer s H) (C : Addr) (us : List Value) (kw : List (Str × Value)) :
    Env0 P w K mg base (A.under (.builtin "type.__call__" ⟨.ref C :: us, kw⟩)) outer s H := ⟨by first | exact e.frames | (simpa [Around.under, Code.envs, Code.isFrame, pushEnvs] using e.frames), e.mod, e.bs, e.bsz, e.funs, e.frf, e.hok, e.bare⟩

section
variable {X : Cx} {pins : List (Addr × Obj)} {σ : St} {H : Hp} {s s' : Shared}
theorem Inv.env0 (I : Inv X pins σ H s) : Env0 X.prog X.w X.K X.mg X.base X.A X.stack s H :=
  ⟨I.ok.frames, I.ok.mod, I.bs, Nat.le_trans I.ok.bsz I.sz, I.stack, I.stkFree, I.hok, I.bare⟩
theorem Inv.after {Q : VK} {u : Value} (I : Inv X pins σ H s) (h : CE X.stack X.prog X.w H s Q u s') : EP X pins σ Q u s' := by
  obtain ⟨v, H', os, bare, un, hok, r, q⟩ := h
  obtain ⟨hh, g, d, t, os'⟩ := s'
  obtain rfl : os' = s.os := os
  exact ⟨v, H', I.call (h' := hh) (g' := g) (d' := d) (t' := t) (ch := []) un hok bare (fun b z => absurd z (by simp)), r, q⟩
end

noncomputable def tCall (sp : Sp) (dvs : List V) (E : XK) (t : TA) : TE := fun σ H Q => t σ H fun vs H1 => sp (vs ++ dvs) H1 Q E
noncomputable def tMake (C : Addr) (sp : Sp) (dvs : List V) (E : XK) (t : TA) : TE := fun σ H Q => t σ H fun vs H1 => ∀ x dx, H1 x = none → H1 dx = none → dx ≠ x →
  sp (.ref x :: (vs ++ dvs)) (upd (upd H1 dx (.own x)) x (.ins C dx [])) (fun v H2 => v = .non ∧ Q (.ref x) H2) E

noncomputable def Binds (K : PySem.W.Frag) (fd : FuncData) (ps : List Str) (ds : List Value) : Prop :=
  ∀ (s : Shared) (us : List Value), K.In s.heap → (us ++ ds).length = ps.length → BindsTo s fd ⟨us, []⟩ (ps.zip (us ++ ds))
theorem Binds.all {K : PySem.W.Frag} {fd : FuncData} {ps : List Str} (h : ∀ us : List Value, us.length = ps.length → bindArgs fd ⟨us, []⟩ = pure (ps.zip us)) : Binds K fd ps [] := fun s us _ hl => by
  rw [List.append_nil] at hl ⊢
  exact .of_eq (h us hl)

noncomputable def Passes (CX : CXT) (X : Cx) (E : XK) : Prop := ∀ (pins : List (Addr × Obj)) (σ : St) (H : Hp) (s : Shared) (e : Value) (s' : Shared), Inv X pins σ H s → CX X.stack H s E e s' → X.xe e s'

section
variable {X : Cx} {CX : CXT} {k : Nat} {f C : Addr} {fd : FuncData} {ps : List Str} {sp : Sp} {dvs : List V} {ds : List Value} {E : XK} {x m : Str} {p pos apos : Pos} {e o : Expr} {es : List Expr} {ta : TE} {t : TA}

theorem run_fn {pins : List (Addr × Obj)} {σ : St} {H : Hp} {s : Shared} {Q : VK} {us : List Value} {vs : List V} (F : FnOk X.prog X.w X.K X.mg X.base CX k f fd ps sp) (hr : Room k X.A) (hb : Binds X.K fd ps ds) (hd : Vals dvs ds) (hx : Passes CX X E)
    (I : Inv X pins σ H s) (r : Vals vs us) (h : sp (vs ++ dvs) H Q E) : wpAny (model X.prog X.w) X.A (call (.ref f) us) (EP X pins σ Q) X.xe s := by
  have r2 : Vals (vs ++ dvs) (us ++ ds) := r.append hd
  have hl : (us ++ ds).length = ps.length := by rw [← r2.length]; exact F.len _ _ _ _ h
  refine wpAny_call (codeAny_mono (F.run X.A X.stack s H ⟨us, []⟩ (us ++ ds) (vs ++ dvs) Q E hr I.env0 (hb s us I.kIn hl) r2 h) fun r s' hq => ?_)
  cases r with
  | error e => exact hx pins σ H s e s' I hq
  | ok fl =>
    cases fl with
    | ret u => exact I.after hq
    | next => exact False.elim hq
    | brk => exact False.elim hq
    | cont => exact False.elim hq

theorem pe_call (F : FnOk X.prog X.w X.K X.mg X.base CX k f fd ps sp) (hr : Room k X.A) (hg : Gl X x) (hm : X.mg x = some (.ref f)) (hk : PySem.W.keepIn X.K (.ref f) = true) (hb : Binds X.K fd ps ds) (hd : Vals dvs ds) (hx : Passes CX X E)
    (ha : PA X (e :: es) t) (hdb : (x == ("__debug__" : Str)) = false := by decide) (he : starEach (e :: es) X.env = (false, eval e X.env) :: starEach es X.env := by rfl) (hpl : (backTo pos (starEach es X.env)).any (·.1) = false := by rfl) :
    PE X (.Call (.Name x p) (e :: es) [] pos) (tCall sp dvs E t) := by
  intro pins s σ H Q I h
  refine wpAny_Call_Name_kw (ld_glob I hg hm ?_ hdb)
  refine PySem.W.callWith_K (h₀ := X.base) I.ok.mod.kin hk (thn (ha pos pins s σ H _ I h) fun us s1 ⟨vs, H1, I1, r, q⟩ => ⟨I1.kIn, ?_⟩) he hpl
  exact run_fn F hr hb hd hx I1 r q


structure Mk (K : PySem.W.Frag) (C f : Addr) : Prop where
  makes : PySem.W.makesIn K C = true
  init : PySem.W.findIn K (.ref C) "__init__" = some (some (.ref f))
  fn : PySem.W.isFn K (.ref f) = true
  kp : PySem.W.keepIn K (.ref C) = true

theorem run_make {pins : List (Addr × Obj)} {σ : St} {H : Hp} {s : Shared} {Q : VK} {us : List Value} {vs : List V} (M : Mk X.K C f) (F : FnOk X.prog X.w X.K X.mg X.base CX k f fd ps sp) (hr : Room (k + 1) X.A) (hb : Binds X.K fd ps ds) (hd : Vals dvs ds)
    (hx : Passes CX X E) (I : Inv X pins σ H s) (r : Vals vs us)
    (h : ∀ x dx, H x = none → H dx = none → dx ≠ x → sp (.ref x :: (vs ++ dvs)) (upd (upd H dx (.own x)) x (.ins C dx [])) (fun v H2 => v = .non ∧ Q (.ref x) H2) E) :
    wpAny (model X.prog X.w) X.A (call (.ref C) us) (EP X pins σ Q) X.xe s := by
  have hq := h (s.heap.objs.size + 1) s.heap.objs.size (I.hok.fresh (Nat.le_succ _)) (I.hok.fresh (Nat.le_refl _)) (Nat.ne_of_lt (Nat.lt_succ_self _))
  have I2 := Inv.made (C := C) I
  have r2 : Vals (V.ref (s.heap.objs.size + 1) :: (vs ++ dvs)) (Value.ref (s.heap.objs.size + 1) :: (us ++ ds)) := .cons rfl (r.append hd)
  have hl : (Value.ref (s.heap.objs.size + 1) :: us ++ ds).length = ps.length := by
    have e := r2.length
    rw [F.len _ _ _ _ hq] at e
    exact e.symm
  refine wpAny_call (make_map (f := f) I.kIn M.makes M.init (beq_iff_eq.mp M.fn) (codeAny_mono (F.run _ X.stack _ _ ⟨Value.ref (s.heap.objs.size + 1) :: us, []⟩ (Value.ref (s.heap.objs.size + 1) :: (us ++ ds)) _ _ E (hr.make C us [])
    (I2.env0.make C us []) (hb _ (Value.ref (s.heap.objs.size + 1) :: us) I2.kIn hl) r2 hq) fun r s' hq' => ?_))
  cases r with
  | error e => exact hx pins σ _ _ e s' I2 hq'
  | ok fl =>
    cases fl with
    | ret u =>
      obtain ⟨v, H', I3, rv, ev, q3⟩ := I2.after hq'
      subst ev
      exact ⟨rv, ⟨V.ref (s.heap.objs.size + 1), H', I3, rfl, q3⟩⟩
    | next => exact False.elim hq'
    | brk => exact False.elim hq'
    | cont => exact False.elim hq'
theorem pe_make (M : Mk X.K C f) (F : FnOk X.prog X.w X.K X.mg X.base CX k f fd ps sp) (hr : Room (k + 1) X.A) (hg : Gl X x) (hm : X.mg x = some (.ref C)) (hb : Binds X.K fd ps ds) (hd : Vals dvs ds) (hx : Passes CX X E)
    (ha : PA X (e :: es) t) (hdb : (x == ("__debug__" : Str)) = false := by decide) (he : starEach (e :: es) X.env = (false, eval e X.env) :: starEach es X.env := by rfl) (hpl : (backTo pos (starEach es X.env)).any (·.1) = false := by rfl) :
    PE X (.Call (.Name x p) (e :: es) [] pos) (tMake C sp dvs E t) := by
  intro pins s σ H Q I h
  refine wpAny_Call_Name_kw (ld_glob I hg hm ?_ hdb)
  refine PySem.W.callWith_K (h₀ := X.base) I.ok.mod.kin M.kp (thn (ha pos pins s σ H _ I h) fun us s1 ⟨vs, H1, I1, r, q⟩ => ⟨I1.kIn, ?_⟩) he hpl
  exact run_make M F hr hb hd hx I1 r q
theorem pe_make0 (M : Mk X.K C f) (F : FnOk X.prog X.w X.K X.mg X.base CX k f fd ps sp) (hr : Room (k + 1) X.A) (hg : Gl X x) (hm : X.mg x = some (.ref C)) (hb : Binds X.K fd ps ds) (hd : Vals dvs ds) (hx : Passes CX X E)
    (hdb : (x == ("__debug__" : Str)) = false := by decide) : PE X (.Call (.Name x p) [] [] pos) (tMake C sp dvs E tNil) := by
  intro pins s σ H Q I h
  refine wpAny_Call_Name_kw (ld_glob I hg hm ?_ hdb)
  exact PySem.W.callWith_K0 I.kIn M.kp (run_make (us := []) M F hr hb hd hx I .nil h)
end

section
variable {X : Cx} {CX : CXT} {k : Nat} {f C : Addr} {fd : FuncData} {ps ks : List Str} {sp : Sp} {E : XK} {x m : Str} {p pos apos kpos : Pos} {e o : Expr} {es : List Expr} {kws : List Keyword} {te ta : TE} {t tk : TA} {nm : Option Str}

variable {g : List Value → List Value → List Value} {gV : List V → List V → List V}
end

structure FnScope (N P : List Str) (sc : Scope) : Prop where
  kind : sc.kind = .function
  co : sc.isCoroutine = false
  gen : sc.isGenerator = false
  nd : N.Nodup
  pre : N.take P.length = P
  par : ∀ x ∈ P, sc.names.lookup x = some .local ∨ sc.names.lookup x = some .cell
  nofree : ∀ y ∈ sc.names, y.2 ≠ .free

theorem bindL_out {kindOf : Str → Option NameKind} {x : Str} : ∀ {binds : List (Str × Value)} {m : Str → Option Value}, (∀ v, (x, v) ∉ binds) → bindL kindOf binds m x = m x
  | [], _, _ => rfl
  | (n, v) :: r, m, h => by
    unfold bindL
    rw [bindL_out fun w hw => h w (List.mem_cons_of_mem _ hw)]
    split
    · have : x ≠ n := by rintro rfl; exact h v List.mem_cons_self
      simp [this]
    · rfl
theorem bindC_out {kindOf : Str → Option NameKind} {x : Str} : ∀ {binds : List (Str × Value)} {m : Str → Option Value}, (∀ v, (x, v) ∉ binds) → bindC kindOf binds m x = m x
  | [], _, _ => rfl
  | (n, v) :: r, m, h => by
    unfold bindC
    rw [bindC_out fun w hw => h w (List.mem_cons_of_mem _ hw)]
    split
    · rfl
    · have : x ≠ n := by rintro rfl; exact h v List.mem_cons_self
      simp [this]
theorem bindL_get {kindOf : Str → Option NameKind} {x : Str} {v : Value} : ∀ {P : List Str} {vs : List Value} {i : Nat} {m : Str → Option Value}, P.Nodup → P[i]? = some x → vs[i]? = some v → kindOf x = some .local →
    bindL kindOf (P.zip vs) m x = some v
  | [], _, _, _, _, h, _, _ => by simp at h
  | _ :: _, [], _, _, _, _, h, _ => by simp at h
  | p :: P, w :: vs, 0, m, nd, h1, h2, hk => by
    simp at h1 h2; subst h1; subst h2
    show bindL kindOf ((p, w) :: P.zip vs) m p = _
    unfold bindL
    rw [bindL_out fun v hv => (List.nodup_cons.mp nd).1 (List.of_mem_zip hv).1, if_pos hk]
    simp
  | p :: P, w :: vs, i + 1, m, nd, h1, h2, hk => by
    show bindL kindOf ((p, w) :: P.zip vs) m x = _
    unfold bindL
    exact bindL_get (i := i) (List.nodup_cons.mp nd).2 (by simpa using h1) (by simpa using h2) hk
theorem bindC_get {kindOf : Str → Option NameKind} {x : Str} {v : Value} : ∀ {P : List Str} {vs : List Value} {i : Nat} {m : Str → Option Value}, P.Nodup → P[i]? = some x → vs[i]? = some v → kindOf x ≠ some .local →
    bindC kindOf (P.zip vs) m x = some v
  | [], _, _, _, _, h, _, _ => by simp at h
  | _ :: _, [], _, _, _, _, h, _ => by simp at h
  | p :: P, w :: vs, 0, m, nd, h1, h2, hk => by
    simp at h1 h2; subst h1; subst h2
    show bindC kindOf ((p, w) :: P.zip vs) m p = _
    unfold bindC
    rw [bindC_out fun v hv => (List.nodup_cons.mp nd).1 (List.of_mem_zip hv).1, if_neg hk]
    simp
  | p :: P, w :: vs, i + 1, m, nd, h1, h2, hk => by
    show bindC kindOf ((p, w) :: P.zip vs) m x = _
    unfold bindC
    exact bindC_get (i := i) (List.nodup_cons.mp nd).2 (by simpa using h1) (by simpa using h2) hk

noncomputable def start (N : List Str) (vs : List V) : St := vs.map some ++ List.replicate (N.length - vs.length) none

noncomputable def cxOf (CX : CXT) (P : Program) (w : World) (K : PySem.W.Frag) (mg : Str → Option Value) (base : Heap) (N : List Str) (qual : Str) (scope : Scope) (f : Addr) (cd : Value) (A : Around) (outer : List Env) (s : Shared) (H : Hp) (E : XK) : Cx where
  prog := P
  w := w
  K := K
  mg := mg
  base := base
  A := A.deeper (envOfC qual scope s.heap.objs.size f cd)
  N := N
  s_0 := s
  H_0 := H
  env := envOfC qual scope s.heap.objs.size f cd
  outer := outer
  stack := envOfC qual scope s.heap.objs.size f cd :: outer
  ex := []
  calm := true
  fn := fun _ => true
  pn := []
  xe := fun e s' => wpAny (model P w) (A.deeper (envOfC qual scope s.heap.objs.size f cd)) (leaving (envOfC qual scope s.heap.objs.size f cd) e) (fun _ s'' => CX outer H s E e s'') (fun e' s'' => CX outer H s E e' s'') s'

theorem cell_has {sc : Scope} {n : Nat} {x : Str} (h : sc.names.lookup x = some .cell) : ∃ c, (cellsFrom n sc.names []).lookup x = some c := by
  have q := PySem.W.cellsFrom_some sc.names n [] (.inl h)
  exact Option.isSome_iff_exists.mp q

theorem inv_start {CX : CXT} {P : Program} {w : World} {K : PySem.W.Frag} {mg : Str → Option Value} {base : Heap} {N ps : List Str} {qual : Str} {scope : Scope} {f : Addr} {cd : Value} {A : Around} {outer : List Env} {s s1 : Shared} {H : Hp} {E : XK} {us : List Value} {vs : List V}
    (S : FnScope N ps scope) (hd : A.handled = none) (e0 : Env0 P w K mg base A outer s H) (hl : vs.length = ps.length) (r : Vals vs us)
    (x : InCallC s s.heap.objs.size (bindL (envOfC qual scope s.heap.objs.size f cd).kindOf (ps.zip us) fun _ => none) (cellsFrom (s.heap.objs.size + 1) scope.names []) (bindC (envOfC qual scope s.heap.objs.size f cd).kindOf (ps.zip us) fun _ => none) s1) :
    Inv (cxOf CX P w K mg base N qual scope f cd A outer s H E) [] (start N vs) H s1 := by
  have hpl : ps.length ≤ N.length := by have := congrArg List.length S.pre; rw [List.length_take] at this; omega
  obtain ⟨h1, tk, rfl, hk⟩ := x.done
  have noA : ∀ b : Addr, b ∉ (cxOf CX P w K mg base N qual scope f cd A outer s H E).ex := fun b z => absurd (show b ∈ ([] : List Addr) from z) (by simp)
  refine ⟨⟨e0.mod, S.kind, rfl, rfl, Nat.le_refl _, fun y z c h1 h2 => ?_, fun y hy => ?_, fun y c _ h => ?_, fun _ => hd, Around.frames_deeper e0.frames, .inr ⟨rfl, rfl⟩, fun b z => absurd z (noA b), e0.bs, e0.bsz, fun b _ _ => noA b, fun b z => absurd z (noA b), e0.funs, e0.frf⟩,
    rfl, e0.bare, Un.kept hk, ⟨_, x.toInCall.ns, fun i y v h1 h2 h3 => ?_⟩, fun y c h => ⟨_, x.cell y c h⟩, e0.hok.fresh (Nat.le_refl _), fun y c h => ?_, fun p hp => absurd (show p ∈ ([] : List (Addr × Obj)) from hp) (by simp), e0.hok.kept hk, ?_⟩
  · exact name_of_addr x.apart (PySem.mem_of_lookup h1) (PySem.mem_of_lookup h2)
  · have hy : scope.names.lookup y = some .cell ∨ scope.names.lookup y = some .free := hy
    rcases hy with hy | hy
    · exact cell_has hy
    · exact absurd rfl (S.nofree _ (PySem.mem_of_lookup hy))
  · exact Nat.le_of_lt (x.above y c (PySem.mem_of_lookup h))
  · have hi : i < vs.length := by
      unfold start at h2
      by_cases hi : i < vs.length
      · exact hi
      · rw [List.getElem?_append_right (by simpa using hi)] at h2
        rw [List.getElem?_replicate] at h2
        split at h2 <;> cases h2
    have ha : vs[i]? = some v := by
      unfold start at h2
      rw [List.getElem?_append_left (by simpa using hi), List.getElem?_map] at h2
      cases e : vs[i]? with
      | none => rw [e] at h2; cases h2
      | some a => rw [e] at h2; cases h2; rfl
    obtain ⟨u, hu, rv⟩ := r.get ha
    have hp : ps[i]? = some y := by
      rw [← S.pre, List.getElem?_take_of_lt (by omega)]; exact h1
    have ndP : ps.Nodup := by rw [← S.pre]; exact S.nd.sublist (List.take_sublist _ _)
    refine ⟨u, rv, ?_⟩
    rcases S.par y (List.mem_of_getElem? hp) with k | k
    · exact .inl ⟨k, bindL_get ndP hp hu k⟩
    · obtain ⟨c, e⟩ := cell_has (n := s.heap.objs.size + 1) k
      refine .inr ⟨.inl k, c, e, ?_⟩
      have q := x.cell y c e
      rw [bindC_get ndP hp hu (by show scope.names.lookup y ≠ _; rw [k]; decide)] at q
      exact q
  · exact e0.hok.fresh (Nat.le_of_lt (x.above y c (PySem.mem_of_lookup h)))
  · unfold start
    show _ = N.length
    rw [List.length_append, List.length_map, List.length_replicate]
    omega

theorem fn_of {CX : CXT} {P : Program} {w : World} {K : PySem.W.Frag} {mg : Str → Option Value} {base : Heap} {k : Nat} {f : Addr} {name qual : Str} {params : Arguments} {body : List Stmt} {scope : Scope} {dV kV doc pm cdv ct oc : Value} {an od : Option Addr}
    {osl : Array (Option Value)} {N ps : List Str} {sp : Sp} (lk : K.lookup f = some ⟨oc, od, .func (PySem.W.fnOf name qual params body scope dV kV doc pm an cdv ct), osl⟩) (hcd : PySem.W.codeIn K cdv qual = true) (S : FnScope N ps scope)
    (len : ∀ vs H Q E, sp vs H Q E → vs.length = ps.length)
    (hbody : ∀ (A : Around) (outer : List Env) (s : Shared) (H : Hp) (vs : List V) (Q : VK) (E : XK), Room k (A.deeper (envOfC qual scope s.heap.objs.size f cdv)) → sp vs H Q E →
      ∃ t, PSs (cxOf CX P w K mg base N qual scope f cdv A outer s H E) body t ∧ t { nx := fun _ H' => Q .non H', rt := Q } (start N vs) H) :
    FnOk P w K mg base CX (k + 1) f (PySem.W.fnOf name qual params body scope dV kV doc pm an cdv ct) ps sp := by
  refine ⟨len, fun A outer s H args us vs Q E hr e0 hb r hsp => ?_⟩
  have hl := len _ _ _ _ hsp
  have KX : K.In s.heap := e0.mod.kin.keeps fun b o e => (e0.bs b o e).1
  have lim : s.heap.NoLimit := e0.mod.nolimit.keeps fun b o e => (e0.bs b o e).1
  have hkind : ∀ y ∈ ps.zip us, scope.names.lookup y.1 = some .local ∨ (scope.names.lookup y.1 = some .cell ∧ ((cellsFrom (s.heap.objs.size + 1) scope.names []).lookup y.1).isSome = true) := fun ⟨n, v⟩ hy => by
    rcases S.par n (List.of_mem_zip hy).1 with q | q
    · exact .inl q
    · exact .inr ⟨q, PySem.W.cellsFrom_some _ _ _ (.inl q)⟩
  refine codeAny_call_function hr.depth (KX _ _ lk) rfl S.co S.gen rfl (PySem.W.codeRec_of KX hcd) (hb _ _ _ _ ?_)
  refine wpAny_newFunctionEnv_cells S.kind hkind fun env he s1 x => ?_
  subst he
  refine ⟨lim.keeps x.toInCall.keep, codeAny_func ?_⟩
  obtain ⟨t, ht, hq⟩ := hbody A outer s H vs Q E (hr.deeper _) hsp
  have I : Inv (cxOf CX P w K mg base N qual scope f cdv A outer s H E) [] (start N vs) H s1 := inv_start S hr.hd e0 hl r x
  refine wpAny_mono (ht [] s1 (start N vs) H _ I hq) (fun fl s' hs => ?_) fun e s' hs => hs
  have fin : ∀ {σ' : St} {H' : Hp} {v : V} {u : Value}, Inv (cxOf CX P w K mg base N qual scope f cdv A outer s H E) [] σ' H' s' → RelV v u → Q v H' → CE outer P w H s Q u s' :=
    fun {σ' H' v u} J rv q => ⟨v, H', J.os, J.bare, J.base, J.hok, rv, q⟩
  cases fl with
  | ret u =>
    obtain ⟨v, σ', H', J, rv, q⟩ := hs
    exact fin J rv q
  | next =>
    obtain ⟨σ', H', J, q⟩ := hs
    exact fin (v := V.non) (u := Value.none) J rfl q
  | brk =>
    obtain ⟨_, _, _, q⟩ := hs
    exact False.elim q
  | cont =>
    obtain ⟨_, _, _, q⟩ := hs
    exact False.elim q
end L2

namespace L2
open PySem PySem.Spec PyProof.Rows
section
variable {X : Cx} {x : Str} {p pos : Pos} {e : Expr} {es : List Expr} {t : TA} {id T : String} {r : List V → Hp → VK → Prop}

noncomputable def tCB (r : List V → Hp → VK → Prop) (t : TA) : TE := fun σ H Q => t σ H fun vs H1 => r vs H1 Q
theorem pe_callB (hc : CallR X (.builtin id) r) (hg : Gl X x) (hm : X.mg x = none) (hv : bootBuiltins x = some (.builtin id)) (ha : PA X (e :: es) t) (hn : x ≠ "__name__" := by decide) (hdb : (x == ("__debug__" : Str)) = false := by decide)
    (he : starEach (e :: es) X.env = (false, eval e X.env) :: starEach es X.env := by rfl) (hpl : (backTo pos (starEach es X.env)).any (·.1) = false := by rfl) : PE X (.Call (.Name x p) (e :: es) [] pos) (tCB r t) := by
  intro pins s σ H Q I h
  refine wpAny_Call_Name_kw (ld_blt I hg hm hv ?_ hn hdb)
  exact PyProof.Rows.callWith_builtin1 (thn (ha pos pins s σ H _ I h) fun us s1 ⟨vs, H1, I1, r1, q1⟩ => hc pins s1 σ H1 vs us Q I1 r1 q1) he hpl
theorem pe_callTy (hc : CallR X (.type T) r) (hg : Gl X x) (hm : X.mg x = none) (hv : bootBuiltins x = some (.type T)) (ha : PA X (e :: es) t) (hn : x ≠ "__name__" := by decide) (hdb : (x == ("__debug__" : Str)) = false := by decide)
    (he : starEach (e :: es) X.env = (false, eval e X.env) :: starEach es X.env := by rfl) (hpl : (backTo pos (starEach es X.env)).any (·.1) = false := by rfl) : PE X (.Call (.Name x p) (e :: es) [] pos) (tCB r t) := by
  intro pins s σ H Q I h
  refine wpAny_Call_Name_kw (ld_blt I hg hm hv ?_ hn hdb)
  exact PyProof.Rows.callWith_type1 (thn (ha pos pins s σ H _ I h) fun us s1 ⟨vs, H1, I1, r1, q1⟩ => hc pins s1 σ H1 vs us Q I1 r1 q1) he hpl
end
end L2

namespace HT
open PySem PyProof.Rows



section
open PySem.SeqAt
open PySem.AutoSeq1 (wpAny_loadPart')
open PySem.MeetsSeq PySem.MeetsSeq2 PySem.MeetsSeq3

end

section
variable {prog : Program} {w : World} {A : Around} {E : Value → Shared → Prop} {s : Shared}



noncomputable def sIx (n d : Nat) : Option Int → Nat
  | none => d
  | some v => if v < 0 then (v + (n : Int)).toNat else min v.toNat n
theorem sIx_nat (n d k : Nat) : sIx n d (some (k : Int)) = min k n := by
  show (if (k : Int) < 0 then ((k : Int) + (n : Int)).toNat else min (k : Int).toNat n) = min k n
  rw [if_neg (by omega), Int.toNat_natCast]

end
end HT

namespace L2
open PySem PySem.Spec PyProof.Rows

noncomputable abbrev TO := St → Hp → (Option Int → Hp → Prop) → Prop
noncomputable def PO (X : Cx) (e : Option Expr) (t : TO) : Prop :=
  ∀ (pins : List (Addr × Obj)) (s : Shared) (σ : St) (H : Hp) (Q : Option Int → Hp → Prop), Inv X pins σ H s → t σ H Q →
    wpAny (model X.prog X.w) X.A (evalPart e X.env) (fun u s' => ∃ o H', Inv X pins σ H' s' ∧ IsPart u o ∧ Q o H') X.xe s
inductive UPart (x : V) (H : Hp) (Q : Option Int → Hp → Prop) : Prop
  | mk (i : Int) (h : x = .int i) (q : Q (some i) H) : UPart x H Q
noncomputable def tPart (t : TE) : TO := fun σ H Q => t σ H fun x H1 => UPart x H1 Q


section
variable {X : Cx} {e : Expr} {te : TE} {lo hi : Option Expr} {tl th : TO} {pos p2 : Pos}

theorem po_some (h : PE X e te) : PO X (some e) (tPart te) := by
  intro pins s σ H Q I hw
  rw [evalPart_some]
  refine thn (h pins s σ H _ I hw) fun u s1 ⟨x, H1, I1, r1, q1⟩ => ?_
  obtain ⟨i, rfl, q⟩ := q1
  obtain ⟨t, rfl⟩ := r1
  exact ⟨some i, H1, I1, .int i t, q⟩

noncomputable def SlR (X : Cx) (r : V → Option Int → Option Int → Hp → VK → Prop) : Prop :=
  ∀ (pins : List (Addr × Obj)) (s : Shared) (σ : St) (H : Hp) (x : V) (v vl vu : Value) (lo hi : Option Int) (sl : Addr) (Q : VK), Inv X pins σ H s → RelV x v → s.heap.IsSliceOf sl vl vu .none → IsPart vl lo → IsPart vu hi → r x lo hi H Q →
    ∃ T id, typeLookup (.type T) "__getitem__" = pure (some (.builtin id)) ∧ s.TypeIs v T ∧ wpAny (model X.prog X.w) X.A (getItem v (.ref sl)) (EP X pins σ Q) X.xe s
noncomputable def tSl (r : V → Option Int → Option Int → Hp → VK → Prop) (te : TE) (tl th : TO) : TE := fun σ H Q => te σ H fun x H1 => tl σ H1 fun l H2 => th σ H2 fun u H3 => r x l u H3 Q
theorem pe_slice {r : V → Option Int → Option Int → Hp → VK → Prop} (hr : SlR X r) (he : PE X e te) (hl : PO X lo tl) (hu : PO X hi th) : PE X (.Subscript e (.Slice lo hi none p2) pos) (tSl r te tl th) := by
  intro pins s σ H Q I h
  refine Subscript_ (thn (he pins s σ H _ I h) fun v s1 ⟨x, H1, I1, r1, q1⟩ => ?_)
  refine wpAny_Slice (thn (hl pins s1 σ H1 _ I1 q1) fun vl s2 ⟨l, H2, I2, pl, q2⟩ => thn (hu pins s2 σ H2 _ I2 q2) fun vu s3 ⟨u, H3, I3, pu, q3⟩ => ?_)
  rw [evalPart_none]
  refine wpAny_pure ?_
  have I4 : Inv X pins σ H3 { s3 with heap := s3.heap.push { cls := .type "slice", data := .fields #[vl, vu, .none] } } := I3.kept (t' := s3.toks) fun b ob q => Heap.get?_push_of_some _ q
  obtain ⟨T, id, hT, ht, hg⟩ := hr pins { s3 with heap := s3.heap.push { cls := .type "slice", data := .fields #[vl, vu, .none] } } σ H3 x v vl vu l u s3.heap.objs.size Q I4 r1 (Heap.IsSliceOf.new ..) pl pu q3
  show wpAny (model X.prog X.w) X.A (subscriptTail e (.Slice lo hi none p2) v (.ref s3.heap.objs.size)) (EP X pins σ Q) X.xe { s3 with heap := s3.heap.push { cls := .type "slice", data := .fields #[vl, vu, .none] } }
  exact tail_any (ops := [.ref s3.heap.objs.size, v]) ht hT hg (by with_unfolding_all rfl)

noncomputable def cutV (xs : List V) (lo hi : Option Int) : List V := (xs.drop (HT.sIx xs.length 0 lo)).take (HT.sIx xs.length xs.length hi - HT.sIx xs.length 0 lo)
theorem cutV_length (xs : List V) (lo hi : Option Int) : (cutV xs lo hi).length ≤ xs.length := by
  unfold cutV
  rw [List.length_take, List.length_drop]
  omega

end
end L2

namespace L2
open PySem PySem.Spec PyProof.Rows

noncomputable def ixN (n : Nat) (i : Int) : Option Nat := if 0 ≤ i then (if i < n then some i.toNat else none) else if -(n : Int) ≤ i then some (i + n).toNat else none
noncomputable def atI {α : Type} (xs : List α) (i : Int) : Option α := (ixN xs.length i).bind fun j => xs[j]?
theorem ixN_seq {n : Nat} {i : Int} {j : Nat} (h : ixN n i = some j) : seqIndex? i n = some j ∧ j < n ∧ -(n : Int) ≤ i ∧ i < n := by
  unfold ixN at h
  by_cases h0 : 0 ≤ i
  · rw [if_pos h0] at h
    by_cases h1 : i < n
    · rw [if_pos h1] at h
      have e : i.toNat = j := Option.some.inj h
      exact ⟨by rw [seqIndex_of h0 h1, e], by omega, by omega, h1⟩
    · rw [if_neg h1] at h; cases h
  · rw [if_neg h0] at h
    by_cases h1 : -(n : Int) ≤ i
    · rw [if_pos h1] at h
      have e : (i + n).toNat = j := Option.some.inj h
      exact ⟨by rw [seqIndex_neg (by omega) h1, e], by omega, h1, by omega⟩
    · rw [if_neg h1] at h; cases h
theorem atI_get {α : Type} {xs : List α} {i : Int} {v : α} (h : atI xs i = some v) : ∃ j, seqIndex? i xs.length = some j ∧ xs[j]? = some v ∧ j < xs.length ∧ -(xs.length : Int) ≤ i ∧ i < xs.length := by
  unfold atI at h
  cases e : ixN xs.length i with
  | none => rw [e] at h; cases h
  | some j =>
    rw [e] at h
    obtain ⟨h1, h2, h3, h4⟩ := ixN_seq e
    exact ⟨j, h1, h, h2, h3, h4⟩
theorem atI_nat {α : Type} {xs : List α} {j : Nat} {v : α} (h : xs[j]? = some v) : atI xs (j : Int) = some v := by
  have hj : j < xs.length := (List.getElem?_eq_some_iff.mp h).1
  have e : ixN xs.length (j : Int) = some j := by
    unfold ixN
    rw [if_pos (by omega), if_pos (by omega)]; simp
  unfold atI; rw [e]; exact h

noncomputable def PlainIx (b : Expr) : Prop := ∀ o i, subscripted b false o i = operate [o, i] (getItem o i)
noncomputable def IxR (X : Cx) (r : R2) : Prop :=
  ∀ (value slice : Expr) (pins : List (Addr × Obj)) (s : Shared) (σ : St) (H : Hp) (x y : V) (v u : Value) (Q : VK), Inv X pins σ H s → RelV x v → RelV y u → r x y H Q →
    subscripted slice false v u = operate [v, u] (getItem v u) → wpAny (model X.prog X.w) X.A (subscriptTail value slice v u) (EP X pins σ Q) X.xe s
noncomputable def MtR (X : Cx) (id : String) (r : V → List V → Hp → VK → Prop) : Prop :=
  ∀ (pins : List (Addr × Obj)) (s : Shared) (σ : St) (H : Hp) (x : V) (xs : List V) (v : Value) (us : List Value) (Q : VK), Inv X pins σ H s → RelV x v → Vals xs us → r x xs H Q →
    wpAny (model X.prog X.w) X.A (call (.builtin id) (v :: us)) (EP X pins σ Q) X.xe s
section
variable {X : Cx} {a b : Expr} {ta tb : TE} {pos : Pos}
theorem pe_ix {r : R2} (hr : IxR X r) (ha : PE X a ta) (hb : PE X b tb) (hs : PlainIx b) : PE X (.Subscript a b pos) (tOp r ta tb) := by
  intro pins s σ H Q I h
  exact Subscript_ (binT ha hb I h fun v u s2 x y H2 I2 rx ry q => hr a b pins s2 σ H2 x y v u Q I2 rx ry q (hs _ _))

inductive IxIs (K : PySem.W.Frag) (x y : V) (H : Hp) (v : V) : Prop
  | mk (p : Addr) (xs : List V) (i : Int) (h1 : x = .ref p) (h2 : y = .int i) (h3 : SqL K H p xs) (h4 : atI xs i = some v) : IxIs K x y H v
inductive IxIsT (K : PySem.W.Frag) (x y : V) (H : Hp) (v : V) : Prop
  | mk (p : Addr) (xs : List V) (i : Int) (h1 : x = .ref p) (h2 : y = .int i) (h3 : SqT K H p xs) (h4 : atI xs i = some v) : IxIsT K x y H v
noncomputable def rIxL (K : PySem.W.Frag) : R2 := fun x y H Q => UV (IxIs K x y H) H Q
noncomputable def rIxT (K : PySem.W.Frag) : R2 := fun x y H Q => UV (IxIsT K x y H) H Q
theorem ix_list : IxR X (rIxL X.K) := by
  intro value slice pins s σ H x y v u Q I rx ry h hs
  obtain ⟨z, ⟨p, xs, i, rfl, rfl, hq, he⟩, q⟩ := h
  cases rx
  obtain ⟨t, rfl⟩ := ry
  obtain ⟨its, r, pl, hz⟩ := I.list hq
  obtain ⟨j, h1, h2, h3, h4, h5⟩ := atI_get he
  obtain ⟨w, ew, rw'⟩ := r.get h2
  have hl := r.length
  have hn := line63
  have fin : EP X pins σ Q w s := ⟨z, H, I, rw', q⟩
  by_cases h0 : 0 ≤ i
  · have hj : i.toNat = j := by
      rw [seqIndex_of h0 h5] at h1
      exact Option.some.inj h1
    exact item_listR pl.isList h0 (by omega) (by rw [hj]; simpa using ew) fin hs
  · have hj : (i + (its.toArray.size : Int)).toNat = j := by
      rw [seqIndex_neg (by omega) h4] at h1
      rw [List.size_toArray, ← hl]
      exact Option.some.inj h1
    exact subscriptTail_builtinR (x := w) pl.isList.typeIs slot_list_getitem.lookup
      (wpAny_getItem_list_neg (Q := fun r s' => r = w ∧ EP X pins σ Q r s') pl.isList (by omega) (by rw [List.size_toArray] <;> omega) (by omega) (by rw [hj]; simpa using ew) ⟨rfl, fin⟩) hs
theorem ix_tup : IxR X (rIxT X.K) := by
  intro value slice pins s σ H x y v u Q I rx ry h hs
  obtain ⟨z, ⟨p, xs, i, rfl, rfl, hq, he⟩, q⟩ := h
  cases rx
  obtain ⟨t, rfl⟩ := ry
  obtain ⟨its, r, pl, hz⟩ := I.tuple hq
  obtain ⟨j, h1, h2, h3, h4, h5⟩ := atI_get he
  obtain ⟨w, ew, rw'⟩ := r.get h2
  have hl := r.length
  have hn := line63
  have fin : EP X pins σ Q w s := ⟨z, H, I, rw', q⟩
  exact subscriptTail_builtinR (x := w) pl.typeIs slot_tuple_getitem.lookup
    (getItem_tuple (j := j) (Q := fun r s' => r = w ∧ EP X pins σ Q r s') pl (by omega) (by omega) (by rw [List.size_toArray, ← hl]; exact h1) (by simpa using ew) ⟨rfl, fin⟩) hs

theorem mapSeq_set (its : List Value) (n j : Nat) (u : Value) : Obj.mapSeq (·.setIfInBounds j u) { cls := .type "list", data := .seq its.toArray n } = { cls := .type "list", data := .seq (its.set j u).toArray n } := by
  simp [Obj.mapSeq]
theorem Inv.lst {pins : List (Addr × Obj)} {σ : St} {H : Hp} {s : Shared} {p : Addr} {xs : List V} (I : Inv X pins σ H s) (h : H p = some (.lst xs)) :
    ∃ (its : List Value) (n : Nat), Vals xs its ∧ s.heap.get? p = some { cls := .type "list", data := .seq its.toArray n } ∧ xs.length ≤ sizeLine := by
  obtain ⟨z, its, n, r, e⟩ := I.hok p _ h
  exact ⟨its, n, r, e, z⟩
theorem Inv.lstUpd {pins : List (Addr × Obj)} {σ : St} {H : Hp} {s : Shared} {p : Addr} {xs ys : List V} {its its' : List Value} {n n' : Nat} {f : Obj → Obj} (I : Inv X pins σ H s) (h : H p = some (.lst xs))
    (ho : s.heap.get? p = some { cls := .type "list", data := .seq its.toArray n }) (hf : f { cls := .type "list", data := .seq its.toArray n } = { cls := .type "list", data := .seq its'.toArray n' }) (r : Vals ys its') (hz : ys.length ≤ sizeLine) (t : Nat) :
    Inv X pins σ (upd H p (.lst ys)) { s with heap := s.heap.update p f, toks := t } := by
  have e : (s.heap.update p f).get? p = some { cls := .type "list", data := .seq its'.toArray n' } := by
    rw [Heap.get?_update_self f ho (by rw [hf] <;> rfl), hf]
  refine I.write (x := p) (e := p) (by rw [h]; trivial) (.inl rfl) (fun b u hb q => (Heap.get?_update_other _ _ (Ne.symm hb)).trans q) ⟨_, e⟩ ?_
  exact ⟨hz, its', n', r, e⟩
noncomputable def rSetL : V → V → V → Hp → (Hp → Prop) → Prop := fun o i v H Q => ∃ p xs k j, o = .ref p ∧ i = .int k ∧ H p = some (.lst xs) ∧ ixN xs.length k = some j ∧ Q (upd H p (.lst (xs.set j v)))
theorem set_list : PSet X rSetL := by
  intro pins s σ H o i v ov iv u Q I ro ri rv h
  obtain ⟨p, xs, k, j, rfl, rfl, hp, hj, q⟩ := h
  cases ro
  obtain ⟨t, rfl⟩ := ri
  obtain ⟨its, n, r, ho, hz⟩ := I.lst hp
  obtain ⟨h1, h2, h3, h4⟩ := ixN_seq hj
  have hl := r.length
  have hn := line63
  have I' : Inv X pins σ (upd H p (.lst (xs.set j v))) { s with heap := s.heap.update p (Obj.mapSeq (·.setIfInBounds j u)) } :=
    I.lstUpd hp ho (mapSeq_set its n j u) (r.set rv j) (by rw [List.length_set]; exact hz) s.toks
  by_cases h0 : 0 ≤ k
  · have hk : k.toNat = j := by
      rw [seqIndex_of h0 h4] at h1
      exact Option.some.inj h1
    exact PySem.W.ki_setAt ho h0 (by omega) (by rw [List.size_toArray, ← hl]; exact h4) (by rw [hk]; exact ⟨_, I', q⟩)
  · have hk : (k + (its.toArray.size : Int)).toNat = j := by
      rw [seqIndex_neg (by omega) h3] at h1
      rw [List.size_toArray, ← hl]
      exact Option.some.inj h1
    exact PySem.W.ki_setBack ho (by omega) (by rw [List.size_toArray, ← hl]; exact h3) (by omega) (by rw [hk]; exact ⟨_, I', q⟩)

theorem slice_bounds (lo hi : Option Int) (n : Nat) : (sliceBounds lo hi none n).1 = ((HT.sIx n 0 lo : Nat) : Int) ∧ (sliceBounds lo hi none n).2.1 = ((HT.sIx n n hi : Nat) : Int) ∧ (sliceBounds lo hi none n).2.2 = 1 := by
  refine ⟨?_, ?_, rfl⟩
  · cases lo with
    | none => simp [sliceBounds, HT.sIx]
    | some i =>
      simp only [sliceBounds, HT.sIx, Option.getD_none, show (1 : Int) > 0 by decide, if_true]
      by_cases h : i < 0
      · simp only [h, if_true] <;> omega
      · simp only [h, if_false] <;> omega
  · cases hi with
    | none => simp [sliceBounds, HT.sIx]
    | some i =>
      simp only [sliceBounds, HT.sIx, Option.getD_none, show (1 : Int) > 0 by decide, if_true]
      by_cases h : i < 0
      · simp only [h, if_true] <;> omega
      · simp only [h, if_false] <;> omega
theorem slicePick_cut (its : List Value) (lo hi : Option Int) : slicePick its.toArray lo hi none = ((its.drop (HT.sIx its.length 0 lo)).take (HT.sIx its.length its.length hi - HT.sIx its.length 0 lo)).toArray := by
  obtain ⟨h1, h2, h3⟩ := slice_bounds lo hi its.toArray.size
  unfold slicePick
  rw [h1, h2, h3]
  simp only [sliceRange_one, pick_run, List.size_toArray] <;> rfl
noncomputable def rSlL (K : PySem.W.Frag) : V → Option Int → Option Int → Hp → VK → Prop := fun x lo hi H Q => ∃ a xs, x = .ref a ∧ SqL K H a xs ∧ ∀ p, H p = none → Q (.ref p) (upd H p (.lst (cutV xs lo hi)))
theorem sl_list : SlR X (rSlL X.K) := by
  intro pins s σ H x v vl vu lo hi sl Q I rx hs pl pu h
  obtain ⟨a, xs, rfl, hx, q⟩ := h
  cases rx
  obtain ⟨its, r, ht, hz⟩ := I.list hx
  have hlen := r.length
  refine ⟨"list", _, slot_list_getitem.lookup, ht.isList.typeIs, ?_⟩
  refine wpAny_getItem_list_slice ht.isList hs pl pu .none (by simp) ?_ (by rw [List.size_toArray] <;> omega)
  rw [slicePick_cut, ← hlen]
  refine ⟨.ref s.heap.objs.size, _, I.laid (t' := s.toks) (o := .lst (cutV xs lo hi)) (fun b ob q => Heap.get?_push_of_some _ q) (Nat.le_refl _) ?_, rfl, q _ (I.hok.fresh (Nat.le_refl _))⟩
  exact ⟨Nat.le_trans (cutV_length xs lo hi) hz, _, 0, (r.drop (HT.sIx xs.length 0 lo)).take (HT.sIx xs.length xs.length hi - HT.sIx xs.length 0 lo), Heap.get?_push_size _ rfl⟩

noncomputable def flatV : V → Bool
  | .non => true
  | .bl _ => true
  | .int _ => true
  | .str _ => true
  | _ => false
noncomputable def eqV : V → V → Bool
  | .non, .non => true
  | .bl a, .bl b => a == b
  | .bl a, .int b => (if a then 1 else 0) == b
  | .int a, .bl b => a == (if b then 1 else 0)
  | .int a, .int b => a == b
  | .str a, .str b => a == b
  | _, _ => false
theorem eqAt_V {A : Around} {s : Shared} {y x : V} {u v : Value} (ry : RelV y u) (rx : RelV x v) (fy : flatV y = true) (fx : flatV x = true) : SeqAt.EqAt A s u v (eqV y x) := by
  cases y with
  | non =>
    cases ry
    cases x with
    | non => cases rx; exact SeqAt.EqAt.same _
    | bl b => cases rx; exact SeqAt.EqAt.none_bool b
    | int b => obtain ⟨t, rfl⟩ := rx; exact SeqAt.EqAt.none_int b t
    | str b => obtain ⟨t, rfl⟩ := rx; exact SeqAt.EqAt.none_str b t
    | _ => exact absurd (show false = true from fx) Bool.false_ne_true
  | bl a =>
    cases ry
    cases x with
    | non => cases rx; exact SeqAt.EqAt.bool_none a
    | bl b => cases rx; exact SeqAt.EqAt.bool_bool a b
    | int b => obtain ⟨t, rfl⟩ := rx; exact SeqAt.EqAt.bool_int a b t
    | str b => obtain ⟨t, rfl⟩ := rx; exact SeqAt.EqAt.bool_str a b t
    | _ => exact absurd (show false = true from fx) Bool.false_ne_true
  | int a =>
    obtain ⟨t', rfl⟩ := ry
    cases x with
    | non => cases rx; exact SeqAt.EqAt.int_none a t'
    | bl b => cases rx; exact SeqAt.EqAt.int_bool a t' b
    | int b => obtain ⟨t, rfl⟩ := rx; exact SeqAt.EqAt.int_int a t' b t
    | str b => obtain ⟨t, rfl⟩ := rx; exact SeqAt.EqAt.int_str a t' b t
    | _ => exact absurd (show false = true from fx) Bool.false_ne_true
  | str a =>
    obtain ⟨t', rfl⟩ := ry
    cases x with
    | non => cases rx; exact SeqAt.EqAt.str_none a t'
    | bl b => cases rx; exact SeqAt.EqAt.str_bool a t' b
    | int b => obtain ⟨t, rfl⟩ := rx; exact SeqAt.EqAt.str_int a t' b t
    | str b => obtain ⟨t, rfl⟩ := rx; exact SeqAt.EqAt.str_str a t' b t
    | _ => exact absurd (show false = true from fx) Bool.false_ne_true
  | _ => exact absurd (show false = true from fy) Bool.false_ne_true
noncomputable def eqU (x : V) (u : Value) : Bool := match u with
  | .none => eqV .non x
  | .bool b => eqV (.bl b) x
  | .int i _ => eqV (.int i) x
  | .str z _ => eqV (.str z) x
  | _ => false
theorem eqU_of {x y : V} {u : Value} (r : RelV y u) (f : flatV y = true) : eqU x u = eqV y x := by
  cases y with
  | non => cases r; rfl
  | bl b => cases r; rfl
  | int i => obtain ⟨t, rfl⟩ := r; rfl
  | str z => obtain ⟨t, rfl⟩ := r; rfl
  | _ => exact absurd (show false = true from f) Bool.false_ne_true
theorem mem_eqAt {A : Around} {s : Shared} {x : V} {v : Value} (rx : RelV x v) (fx : flatV x = true) : ∀ {xs : List V} {us : List Value}, Vals xs us → xs.all flatV = true → ∀ u ∈ us, SeqAt.EqAt A s u v (eqU x u)
  | _, _, .nil, _ => fun u hu => by cases hu
  | y :: xs, u :: us, .cons r t, f => fun u' hu => by
    rw [List.all_cons, Bool.and_eq_true] at f
    rcases List.mem_cons.mp hu with rfl | hu
    · rw [eqU_of r f.1]; exact eqAt_V r rx f.1 fx
    · exact mem_eqAt rx fx t f.2 u' hu

inductive ULen (K : PySem.W.Frag) (xs : List V) (H : Hp) (Q : VK) : Prop
  | mk (p : Addr) (ys : List V) (h : xs = [.ref p]) (hs : SqL K H p ys ∨ SqT K H p ys) (q : Q (.int ys.length) H) : ULen K xs H Q
theorem call_len_seq : CallR X (.builtin "len") (fun xs H Q => ULen X.K xs H Q) := by
  intro pins s σ H xs us Q I r h
  obtain ⟨p, ys, rfl, hq, q⟩ := h
  obtain ⟨u, rfl, rx⟩ := vals1 r
  cases rx
  have hn := line63
  rcases hq with hq | hq
  · obtain ⟨its, r', pl, hz⟩ := I.list hq
    have hlen := r'.length
    exact Calls.call_len_list pl.isList (by simp only [List.size_toArray] <;> omega) ⟨.int ys.length, H, I.tok _, ⟨s.toks + 1, by rw [List.size_toArray, hlen]⟩, q⟩
  · obtain ⟨its, r', pl, hz⟩ := I.tuple hq
    have hlen := r'.length
    exact len_tuple pl (by simp only [List.size_toArray] <;> omega) ⟨.int ys.length, H, I.tok _, ⟨s.toks + 1, by rw [List.size_toArray, hlen]⟩, q⟩

noncomputable def tyV (K : PySem.W.Frag) (T : String) (x : V) (H : Hp) : Prop := match x with
  | .str _ => T = "str"
  | .int _ => T = "int"
  | .ref p => (T = "list" ∧ ∃ xs, SqL K H p xs) ∨ (T = "tuple" ∧ ∃ o, K.lookup p = some o ∧ o.cls = .type "tuple" ∧ o.dict = none) ∨
      (T = "dict" ∧ ((∃ kvs, H p = some (.dK kvs)) ∨ ∃ kvs, H p = some (.dT kvs))) ∨ (T = "set" ∧ ∃ S n, H p = some (.set S n))
  | _ => False
theorem tyV_is {pins : List (Addr × Obj)} {σ : St} {H : Hp} {s : Shared} {T : String} {x : V} {v : Value} (I : Inv X pins σ H s) (r : RelV x v) (ty : tyV X.K T x H) :
    s.TypeIs v T ∧ ∀ a, v = .ref a → ∃ ob, s.heap.get? a = some ob ∧ ob.dict = none := by
  cases x with
  | str z =>
    obtain ⟨t, rfl⟩ := r
    cases (show T = "str" from ty)
    exact ⟨typeIs_str s z t, fun _ e => nomatch e⟩
  | int i =>
    obtain ⟨t, rfl⟩ := r
    cases (show T = "int" from ty)
    exact ⟨typeIs_int s i t, fun _ e => nomatch e⟩
  | ref p =>
    cases r
    rcases ty with ⟨rfl, xs, hq⟩ | ⟨rfl, o, hk, hc, hd⟩ | ⟨rfl, hk⟩ | ⟨rfl, S, n, hk⟩
    · obtain ⟨its, _, pl, _⟩ := I.list hq
      refine ⟨pl.isList.typeIs, fun a e => ?_⟩
      cases e
      obtain ⟨o, n, e, c, hd, _⟩ := pl
      exact ⟨o, e, hd⟩
    · refine ⟨⟨o, I.kIn p o hk, hc⟩, fun a e => ?_⟩
      cases e
      exact ⟨o, I.kIn _ o hk, hd⟩
    · have z : ∃ o, s.heap.get? p = some o ∧ o.ExactDict := by
        rcases hk with ⟨kvs, hk⟩ | ⟨kvs, hk⟩
        · obtain ⟨_, _, _, _, o, _, _, e, ex, _⟩ := I.hok p _ hk
          exact ⟨o, e, ex⟩
        · obtain ⟨_, _, _, _, o, _, _, e, ex, _⟩ := I.hok p _ hk
          exact ⟨o, e, ex⟩
      obtain ⟨o, e, ex⟩ := z
      refine ⟨⟨o, e, ex.1⟩, fun a e2 => ?_⟩
      cases e2
      exact ⟨o, e, ex.2.1⟩
    · obtain ⟨o, _, _, _, e, ex, _⟩ := I.hok p _ hk
      refine ⟨⟨o, e, ex.1⟩, fun a e2 => ?_⟩
      cases e2
      exact ⟨o, e, ex.2.1⟩
  | _ => exact False.elim ty
noncomputable def tBM (K : PySem.W.Frag) (T : String) (r : V → List V → Hp → VK → Prop) (to : TE) (t : TA) : TE := fun σ H Q => to σ H fun x H1 => tyV K T x H1 ∧ t σ H1 fun xs H2 => r x xs H2 Q
variable {o e : Expr} {es : List Expr} {to : TE} {t : TA} {name : Str} {apos cpos : Pos} {T id : String} {r : V → List V → Hp → VK → Prop}
theorem pe_bm (pa : PlainAttrs T) (slot : Slot T name id) (hty : typeOf (.builtin id) = pure (.type "method_descriptor")) (hm : MtR X id r) (ho : PE X o to) (ha : PA X (e :: es) t)
    (hbase : attributeBase o name X.env (eval o X.env) = eval o X.env := by rfl)
    (hfew : ((backTo cpos (starEach (e :: es) X.env)).all (fun x => !x.1) && (backToKw cpos (keywordEach [] X.env)).all (fun x => x.1.isSome)
      && decide ((e :: es).length + ([] : List Keyword).length + (if ([] : List Keyword).isEmpty then 0 else 1) < 30)) = true := by rfl)
    (hline : (apos.endLine == cpos.line) = true := by rfl) (hs : starEach (e :: es) X.env = (false, eval e X.env) :: starEach es X.env := by rfl) (hplain : (backTo cpos (starEach es X.env)).any (·.1) = false := by rfl) :
    PE X (.Call (.Attribute o name apos) (e :: es) [] cpos) (tBM X.K T r to t) := by
  intro pins s σ H Q I h
  refine wpAny_Call_method_late hbase hfew hline rfl (thn (ho pins s σ H _ I h) fun v s1 ⟨x, H1, I1, r1, ty, q1⟩ => ?_)
  obtain ⟨h1, h2⟩ := tyV_is I1 r1 ty
  refine ⟨T, id, pa, slot, hty, h1, h2, ?_⟩
  have hA := ha cpos pins s1 σ H1 _ I1 q1
  rw [hs] at hA ⊢
  refine Calls.callWith_builtin (by show (false || (backTo cpos (starEach es X.env)).any (·.1)) = false; rw [hplain] <;> rfl) (Calls.evalArgs_plain ?_)
  exact thn hA fun us s2 ⟨vs, H2, I2, r2, q2⟩ => hm pins s2 σ H2 x vs v us Q I2 r1 r2 q2
/- xs.append(e), list.index on a module's tuple .. are MtR facts of 06m -/
end
end L2

namespace L2
open PySem PySem.Spec PyProof.Rows

noncomputable def MtM (X : Cx) (id : String) (r : V → List V → Hp → VK → Prop) : Prop :=
  ∀ (pins : List (Addr × Obj)) (s : Shared) (σ : St) (H : Hp) (x : V) (xs : List V) (v : Value) (us : List Value) (Q : VK), Inv X pins σ H s → RelV x v → Vals xs us → r x xs H Q →
    wpAny (model X.prog X.w) X.A (call (.builtin id) (v :: us)) (EP X pins σ Q) X.xe s

theorem Vals.one : ∀ {x : V} {us : List Value}, Vals [x] us → ∃ u, us = [u] ∧ RelV x u
  | _, _, .cons r .nil => ⟨_, rfl, r⟩

section
variable {X : Cx} {pins : List (Addr × Obj)} {σ : St} {H : Hp} {s : Shared} {l b : Addr} {xs ys zs : List V}

theorem Inv.lset {its its' : List Value} {n : Nat} {f : Array Value → Array Value} {t' : Nat} (I : Inv X pins σ H s) (hH : H l = some (.lst xs))
    (e : s.heap.get? l = some { cls := .type "list", data := .seq its.toArray n }) (hf : f its.toArray = its'.toArray) (hv : Vals ys its') (hz : ys.length ≤ sizeLine) :
    Inv X pins σ (upd H l (.lst ys)) { s with heap := s.heap.update l (Obj.mapSeq f), toks := t' } := by
  have q := PySem.IsL.update e f
  rw [hf] at q
  refine I.write (x := l) (e := l) (by rw [hH]; exact trivial) (.inl rfl) (fun b' u hb hu => (Heap.get?_update_other s.heap (Obj.mapSeq f) (Ne.symm hb)).trans hu) ⟨_, q⟩ ?_
  exact ⟨hz, its', _, hv, q⟩
theorem Inv.lstM (I : Inv X pins σ H s) (hH : H l = some (.lst xs)) : xs.length ≤ sizeLine ∧ ∃ (its : List Value) (n : Nat), Vals xs its ∧ xs.length = its.length ∧ s.heap.get? l = some { cls := .type "list", data := .seq its.toArray n } := by
  obtain ⟨z, its, n, r, e⟩ := I.hok l _ hH
  exact ⟨z, its, n, r, r.length, e⟩

theorem notLongL {n : Nat} (h : n ≤ sizeLine) : Builtin.List.listTooLong n = false := by
  unfold Builtin.List.listTooLong
  exact decide_eq_false (by omega)
end

section
variable {X : Cx}

inductive UApp (x : V) (vs : List V) (H : Hp) (Q : VK) : Prop
  | mk (l : Addr) (xs : List V) (y : V) (h1 : x = .ref l) (h2 : vs = [y]) (h3 : H l = some (.lst xs)) (h4 : xs.length < sizeLine) (q : Q .non (upd H l (.lst (xs ++ [y])))) : UApp x vs H Q
inductive UExt (x : V) (vs : List V) (H : Hp) (Q : VK) : Prop
  | mk (l b : Addr) (xs zs : List V) (h1 : x = .ref l) (h2 : vs = [.ref b]) (h3 : H l = some (.lst xs)) (h4 : H b = some (.lst zs)) (h5 : xs.length + zs.length ≤ sizeLine) (q : Q .non (upd H l (.lst (xs ++ zs)))) : UExt x vs H Q
noncomputable def rAppend : V → List V → Hp → VK → Prop := fun x vs H Q => UApp x vs H Q
theorem mt_append : MtM X "list.append" rAppend := by
  intro pins s σ H x vs v us Q I rx rv h
  obtain ⟨l, xs, y, rfl, rfl, hH, hz, q⟩ := h
  cases rx
  obtain ⟨u, rfl, ru⟩ := rv.one
  obtain ⟨z, its, n, r, hl, e⟩ := I.lstM hH
  refine call_meets F.slot_list_append ⟨_, e, rfl⟩ F.entry_list_append (F.args_list_append_2 _ _) (PySem.list_append l its.toArray n u (by rw [List.size_toArray]; omega)) ⟨e, ?_⟩
  refine ⟨.non, _, I.lset (its' := its ++ [u]) hH e (by simp) (r.append (.cons ru .nil)) ?_, rfl, q⟩
  rw [List.length_append, List.length_singleton]
  omega

noncomputable def rExtend : V → List V → Hp → VK → Prop := fun x vs H Q => UExt x vs H Q
theorem mt_extend : MtM X "list.extend" rExtend := by
  intro pins s σ H x vs v us Q I rx rv h
  obtain ⟨l, b, xs, zs, rfl, rfl, hH, hB, hz, q⟩ := h
  cases rx
  obtain ⟨u, rfl, ru⟩ := rv.one
  cases ru
  obtain ⟨z, its, n, r, hl, e⟩ := I.lstM hH
  obtain ⟨z2, its2, n2, r2, hl2, e2⟩ := I.lstM hB
  have hsz : its.toArray.size + its2.toArray.size ≤ sizeLine := by rw [List.size_toArray, List.size_toArray]; omega
  have hlong : ¬ (!its.toArray.isEmpty && Builtin.List.listTooLong (its.toArray.size + its2.toArray.size)) = true := by
    rw [notLongL hsz, Bool.and_false]
    exact Bool.false_ne_true
  refine call_meets F.slot_list_extend ⟨_, e, rfl⟩ F.entry_list_extend (F.args_list_extend_2 _ _)
    (AutoSeq1.list_extend_list_list_0 l its.toArray n b its2.toArray n2 hlong (by rw [List.size_toArray]; omega) (by omega)) ⟨e, e2, ?_⟩
  refine ⟨.non, _, I.lset (its' := its ++ its2) hH e (by simp) (r.append r2) ?_, rfl, q⟩
  rw [List.length_append]
  omega






end

section
variable {prog : Program} {w : World} {A : Around} {E : Value → Shared → Prop} {s : Shared}
set_option maxRecDepth 100000 in
end

section
variable {X : Cx}
end
end L2

namespace L2
open PySem PySem.Spec PyProof.Rows

theorem Vals.ints : ∀ {ns : List Int} {us : List Value}, Vals (ns.map V.int) us → IntsAre us ns
  | [], us, h => by
    rw [List.map_nil] at h
    cases h
    exact IntsAre.nil
  | n :: ns, us, h => by
    rw [List.map_cons] at h
    cases h with
    | cons r t =>
      obtain ⟨k, rfl⟩ := r
      exact IntsAre.cons n k (Vals.ints t)
theorem vals_of_ints : ∀ {us : List Value} {ns : List Int}, IntsAre us ns → Vals (ns.map V.int) us
  | _, _, .nil => by rw [List.map_nil]; exact Paired.nil
  | _, _, .cons n t h => by rw [List.map_cons]; exact Paired.cons (show RelV (V.int n) (Value.int n t) from ⟨t, rfl⟩) (vals_of_ints h)
theorem Vals.bls : ∀ {bs : List Bool} {us : List Value}, Vals (bs.map V.bl) us → us = bs.map Value.bool
  | [], us, h => by
    rw [List.map_nil] at h
    cases h
    rfl
  | b :: bs, us, h => by
    rw [List.map_cons] at h
    cases h with
    | cons r t =>
      cases r
      rw [Vals.bls t, List.map_cons]
theorem Vals.ref1 {a : Addr} {us : List Value} (r : Vals [V.ref a] us) : us = [Value.ref a] := by
  cases r with
  | cons r t =>
    cases t
    cases r
    rfl

section
variable {prog : Program} {w : World} {A : Around} {E : Value → Shared → Prop} {s : Shared} {l : Addr} {its : List Value} {ns : List Int} {Q : Value → Shared → Prop}
theorem sum_raw (hh : A.handled = none) (hl : s.heap.IsList l its.toArray) (hi : IntsAre its ns)
    (h : ∀ h' tk t', (∀ b o, s.heap.get? b = some o → h'.get? b = some o) → Q (.int ns.sum t') { s with heap := h', toks := tk }) : wpAny (model prog w) A (call (.builtin "sum") [.ref l]) Q E s := by
  obtain ⟨xs, e⟩ := hi.allInts.items
  have hn : numsOf (intItems xs).toList = ns := by rw [← e]; exact hi.numsOf
  rw [nums_intItems] at hn
  rw [e] at hl
  refine PySem.sum_intListG hh hl fun h' tk t' hk => ?_
  have := h h' tk t' hk
  rw [preSum_eq, List.take_of_length_le (by simp), hn]; exact this
theorem max_raw (hh : A.handled = none) (hl : s.heap.IsList l its.toArray) (hi : IntsAre its ns) (hne : 0 < ns.length)
    (h : ∀ h' tk M t', (∀ b o, s.heap.get? b = some o → h'.get? b = some o) → M ∈ ns → (∀ a, a ∈ ns → a ≤ M) → Q (.int M t') { s with heap := h', toks := tk }) : wpAny (model prog w) A (call (.builtin "max") [.ref l]) Q E s := by
  obtain ⟨xs, e⟩ := hi.allInts.items
  have hn : numsOf (intItems xs).toList = ns := by rw [← e]; exact hi.numsOf
  rw [nums_intItems] at hn
  subst hn
  rw [e] at hl
  have hsz : 0 < xs.size := by simpa using hne
  refine PySem.max_intList hh hl hsz fun v h' tk hv hk => ?_
  obtain ⟨t, rfl⟩ := intItems_at hv
  obtain ⟨h1, h2⟩ := argBest_gt (numAt xs) (xs.size - 1)
  refine h h' tk _ t hk ?_ fun a ha => ?_
  · rw [numAt_eq]; exact PySem.getD_mem (by rw [List.length_map, Array.length_toList]; omega)
  · obtain ⟨j, hj, rfl⟩ := mem_getD ha
    rw [List.length_map, Array.length_toList] at hj
    rw [← numAt_eq]; exact h2 j (by omega)
theorem min_raw (hh : A.handled = none) (hl : s.heap.IsList l its.toArray) (hi : IntsAre its ns) (hne : 0 < ns.length)
    (h : ∀ h' tk M t', (∀ b o, s.heap.get? b = some o → h'.get? b = some o) → M ∈ ns → (∀ a, a ∈ ns → M ≤ a) → Q (.int M t') { s with heap := h', toks := tk }) : wpAny (model prog w) A (call (.builtin "min") [.ref l]) Q E s := by
  obtain ⟨xs, e⟩ := hi.allInts.items
  have hn : numsOf (intItems xs).toList = ns := by rw [← e]; exact hi.numsOf
  rw [nums_intItems] at hn
  subst hn
  rw [e] at hl
  have hsz : 0 < xs.size := by simpa using hne
  refine PySem.min_intList hh hl hsz fun v h' tk hv hk => ?_
  obtain ⟨t, rfl⟩ := intItems_at hv
  obtain ⟨h1, h2⟩ := argBest_lt (numAt xs) (xs.size - 1)
  refine h h' tk _ t hk ?_ fun a ha => ?_
  · rw [numAt_eq]; exact PySem.getD_mem (by rw [List.length_map, Array.length_toList]; omega)
  · obtain ⟨j, hj, rfl⟩ := mem_getD ha
    rw [List.length_map, Array.length_toList] at hj
    rw [← numAt_eq]; exact h2 j (by omega)
end

section
variable {X : Cx}
noncomputable def rSum (K : PySem.W.Frag) : List V → Hp → VK → Prop := fun vs H Q => ∃ (a : Addr) (ns : List Int), vs = [V.ref a] ∧ SqL K H a (ns.map V.int) ∧ Q (.int ns.sum) H
noncomputable def rMin (K : PySem.W.Frag) : List V → Hp → VK → Prop := fun vs H Q => ∃ (a : Addr) (ns : List Int), vs = [V.ref a] ∧ SqL K H a (ns.map V.int) ∧ 0 < ns.length ∧ ∀ m, m ∈ ns → (∀ y, y ∈ ns → m ≤ y) → Q (.int m) H
theorem cr_sum (hc : X.calm = true) : CallR X (.builtin "sum") (rSum X.K) := by
  intro pins s σ H vs us Q I r h
  obtain ⟨a, ns, rfl, hs, q⟩ := h
  obtain ⟨its, rv, hl, _⟩ := I.list hs
  rw [Vals.ref1 r]
  exact sum_raw (I.ok.hd hc) hl.isList rv.ints fun h' tk t' hk => ⟨.int _, H, I.kept hk, ⟨_, rfl⟩, q⟩
theorem cr_min (hc : X.calm = true) : CallR X (.builtin "min") (rMin X.K) := by
  intro pins s σ H vs us Q I r h
  obtain ⟨a, ns, rfl, hs, hne, q⟩ := h
  obtain ⟨its, rv, hl, _⟩ := I.list hs
  rw [Vals.ref1 r]
  exact min_raw (I.ok.hd hc) hl.isList rv.ints hne fun h' tk m t' hk h1 h2 => ⟨.int _, H, I.kept hk, ⟨_, rfl⟩, q m h1 h2⟩

end

section
variable {X : Cx}
end

section
variable {X : Cx}
end

theorem iter_any {prog : Program} {w : World} {A : Around} {E : Value → Shared → Prop} {s : Shared} {l : Addr} {items : Array Value} {Q : Value → Shared → Prop} (hl : s.heap.IsList l items)
    (h : ∀ s₂ : Shared, s₂ = { s with heap := s.heap.push { cls := .type "list_iterator", data := .fields #[.ref l, .int 0 0] } } →
      (s₂.heap.IsListIter s.heap.objs.size l 0 ∧ s₂.heap.IsList l items) → l ≠ s.heap.objs.size → Q (.ref s.heap.objs.size) s₂) : wpAny (model prog w) A (pyIter (.ref l)) Q E s := by
  have hlt : l < s.heap.objs.size := by obtain ⟨_, e, _⟩ := hl; exact Heap.lt_size e
  exact wpAny_pyIter_list hl (h _ rfl ⟨⟨_, Heap.get?_push_size _ rfl, rfl, rfl⟩, hl.push _⟩ (Nat.ne_of_lt hlt))
theorem truth_bools {prog : Program} {w : World} {A : Around} {bs : List Bool} {its : List Value} (e : its = bs.map Value.bool) :
    TruthOf prog w A (fun i v => its.toArray[i]? = some v) (fun i => bs.getD i false) := fun i v s Q E hv hq => by
  have hv' : its[i]? = some v := by simpa using hv
  rw [e, List.getElem?_map] at hv'
  obtain ⟨b, hb, rfl⟩ := Option.map_eq_some_iff.mp hv'
  have hg : bs.getD i false = b := by rw [List.getD_eq_getElem?_getD, hb] <;> rfl
  have hq' : Q (bs.getD i false) s := hq
  rw [hg] at hq'
  exact wpAny_truthy_bool hq'
theorem any_range : ∀ bs : List Bool, (List.range bs.length).any (fun i => bs.getD i false) = bs.any id
  | [] => rfl
  | b :: bs => by
    rw [List.length_cons, List.range_succ_eq_map, List.any_cons, List.any_map, List.any_cons, ← any_range bs]
    all_goals rfl
theorem all_range : ∀ bs : List Bool, (List.range bs.length).all (fun i => bs.getD i false) = bs.all id
  | [] => rfl
  | b :: bs => by
    rw [List.length_cons, List.range_succ_eq_map, List.all_cons, List.all_map, List.all_cons, ← all_range bs]
    all_goals rfl
section
variable {X : Cx}
noncomputable def rAny (K : PySem.W.Frag) : List V → Hp → VK → Prop := fun vs H Q => ∃ (a : Addr) (bs : List Bool), vs = [V.ref a] ∧ SqL K H a (bs.map V.bl) ∧ Q (.bl (bs.any id)) H
noncomputable def rAll (K : PySem.W.Frag) : List V → Hp → VK → Prop := fun vs H Q => ∃ (a : Addr) (bs : List Bool), vs = [V.ref a] ∧ SqL K H a (bs.map V.bl) ∧ Q (.bl (bs.all id)) H
theorem cr_any (hc : X.calm = true) : CallR X (.builtin "any") (rAny X.K) := by
  intro pins s σ H vs us Q I r h
  obtain ⟨a, bs, rfl, hs, q⟩ := h
  obtain ⟨its, rv, hl, _⟩ := I.list hs
  rw [Vals.ref1 r]
  have hb := rv.bls
  refine call_any_walk (iter_any hl.isList fun s₂ e2 st hne => ?_)
  subst e2
  refine ⟨_, _, _, _, _, _, _, rfl, Walks.list (A := X.A.in1) (I.ok.hd hc) _ a hne its.toArray, st, truth_bools hb, fun h' tk hk => ?_⟩
  refine ⟨.bl _, H, I.kept fun b o eo => hk b o (fun hmem => ?_) (Heap.get?_push_of_some _ eo), ?_, q⟩
  · rcases List.mem_cons.mp hmem with e1 | hmem
    · exact absurd (e1 ▸ Heap.lt_size eo) (Nat.lt_irrefl _)
    · cases hmem
  · show Value.bool _ = Value.bool _
    rw [← any_range, hb, List.size_toArray, List.length_map]
theorem cr_all (hc : X.calm = true) : CallR X (.builtin "all") (rAll X.K) := by
  intro pins s σ H vs us Q I r h
  obtain ⟨a, bs, rfl, hs, q⟩ := h
  obtain ⟨its, rv, hl, _⟩ := I.list hs
  rw [Vals.ref1 r]
  have hb := rv.bls
  refine call_all_walk (iter_any hl.isList fun s₂ e2 st hne => ?_)
  subst e2
  refine ⟨_, _, _, _, _, _, _, rfl, Walks.list (A := X.A.in1) (I.ok.hd hc) _ a hne its.toArray, st, truth_bools hb, fun h' tk hk => ?_⟩
  refine ⟨.bl _, H, I.kept fun b o eo => hk b o (fun hmem => ?_) (Heap.get?_push_of_some _ eo), ?_, q⟩
  · rcases List.mem_cons.mp hmem with e1 | hmem
    · exact absurd (e1 ▸ Heap.lt_size eo) (Nat.lt_irrefl _)
    · cases hmem
  · show Value.bool _ = Value.bool _
    rw [← all_range, hb, List.size_toArray, List.length_map]
end

section
variable {X : Cx} {pins : List (Addr × Obj)} {σ : St} {H : Hp} {s : Shared}
end
section
variable {X : Cx}
end
end L2

namespace L2
open PySem PySem.Spec PyProof.Rows
noncomputable abbrev CellAt (h : Heap) (c : Addr) (v : Option Value) : Prop := h.IsCell c v
noncomputable def relS (scope sc : Scope) : Scope :=
  { scope with names := scope.names.map fun (n, k) => if (k == .free && sc.kind == .function && sc.names.lookup n == some .cell) then (n, .cell) else (n, k) }

noncomputable def cloFrom (cells : List (Str × Addr)) : List (Str × NameKind) → List (Str × Addr) → List (Str × Addr)
  | [], acc => acc
  | (n, k) :: r, acc => if k == .free then cloFrom cells r ((n, (cells.lookup n).getD 0) :: acc) else cloFrom cells r acc

theorem closure_loop (env : Env) (f : Str × NameKind → List (Str × Addr) → Sem (ForInStep (List (Str × Addr))))
    (hf : ∀ n k c, f (n, k) c = if k == .free then (do let a ← cellOf env n; pure (.yield ((n, a) :: c))) else pure (.yield c)) :
    ∀ (names : List (Str × NameKind)) (acc : List (Str × Addr)), (∀ y ∈ names, y.2 = .free → ∃ c, env.cells.lookup y.1 = some c) → forIn names acc f = pure (cloFrom env.cells names acc)
  | [], acc, _ => by rw [List.forIn_nil]; rfl
  | (n, k) :: r, acc, h => by
    rw [List.forIn_cons, hf]
    have ih := fun acc => closure_loop env f hf r acc fun y hy => h y (List.mem_cons_of_mem _ hy)
    unfold cloFrom
    by_cases hk : (k == NameKind.free) = true
    · rw [if_pos hk, if_pos hk]
      obtain ⟨c, hc⟩ := h (n, k) List.mem_cons_self (by simpa using hk)
      have e : cellOf env n = pure c := by unfold cellOf; rw [hc]
      rw [e]
      have e2 : (env.cells.lookup n).getD 0 = c := by rw [hc]; rfl
      rw [e2]
      exact ih _
    · rw [if_neg hk, if_neg hk]
      exact ih _
theorem closure_ok {scope : Scope} {env : Env} (h : ∀ y ∈ scope.names, y.2 = .free → ∃ c, env.cells.lookup y.1 = some c) : closureFor scope env = pure (cloFrom env.cells scope.names []) := by
  simp only [closureFor]
  rw [closure_loop env _ (fun n k c => rfl) scope.names [] h]
  rfl

theorem mem_lookup {α : Type} : ∀ {l : List (Str × α)} {n : Str} {c : α}, (n, c) ∈ l → ∃ c', l.lookup n = some c'
  | (k, v) :: r, n, c, h => by
    rw [List.lookup_cons]
    cases hb : n == k with
    | true => exact ⟨_, rfl⟩
    | false =>
      rcases List.mem_cons.mp h with e | h
      · cases e; simp at hb
      · exact mem_lookup h

theorem cloFrom_mem {cells : List (Str × Addr)} : ∀ {names : List (Str × NameKind)} {acc : List (Str × Addr)} {n : Str} {c : Addr}, (n, c) ∈ cloFrom cells names acc → (n, c) ∈ acc ∨ ((n, .free) ∈ names ∧ c = (cells.lookup n).getD 0)
  | [], _, _, _, h => .inl h
  | (m, k) :: r, acc, n, c, h => by
    unfold cloFrom at h
    split at h
    · rename_i hk
      have hk : k = .free := by simpa using hk
      rcases cloFrom_mem h with h | ⟨h1, h2⟩
      · rcases List.mem_cons.mp h with e | h
        · cases e; exact .inr ⟨hk ▸ List.mem_cons_self, rfl⟩
        · exact .inl h
      · exact .inr ⟨List.mem_cons_of_mem _ h1, h2⟩
    · rcases cloFrom_mem h with h | ⟨h1, h2⟩
      · exact .inl h
      · exact .inr ⟨List.mem_cons_of_mem _ h1, h2⟩
theorem cloFrom_acc {cells : List (Str × Addr)} : ∀ {names : List (Str × NameKind)} {acc : List (Str × Addr)} {p : Str × Addr}, p ∈ acc → p ∈ cloFrom cells names acc
  | [], _, _, h => h
  | (m, k) :: r, acc, p, h => by
    unfold cloFrom
    split
    · exact cloFrom_acc (List.mem_cons_of_mem _ h)
    · exact cloFrom_acc h
theorem cloFrom_has {cells : List (Str × Addr)} : ∀ {names : List (Str × NameKind)} {acc : List (Str × Addr)} {n : Str}, (n, .free) ∈ names → (n, (cells.lookup n).getD 0) ∈ cloFrom cells names acc
  | (m, k) :: r, acc, n, h => by
    unfold cloFrom
    rcases List.mem_cons.mp h with e | h
    · cases e
      exact cloFrom_acc List.mem_cons_self
    · split
      · exact cloFrom_has h
      · exact cloFrom_has h

theorem cells_mem : ∀ {names : List (Str × NameKind)} {h : Heap} {acc : List (Str × Addr)} {x : Str} {c : Addr}, (x, c) ∈ cellsFrom h.objs.size names acc →
    (x, c) ∈ acc ∨ ((x, .cell) ∈ names ∧ h.objs.size ≤ c ∧ CellAt (pushCells h names) c none)
  | [], _, _, _, _, h => .inl h
  | (n, k) :: r, h, acc, x, c, hm => by
    unfold cellsFrom at hm
    unfold pushCells
    split at hm
    · rename_i hk
      rw [if_pos hk]
      have hk : k = .cell := by simpa using hk
      rw [← Heap.size_push h { cls := .type "cell", data := .cell none }] at hm
      rcases cells_mem hm with hm | ⟨h1, h2, h3⟩
      · rcases List.mem_cons.mp hm with e | hm
        · cases e
          exact .inr ⟨hk ▸ List.mem_cons_self, Nat.le_refl _, _, pushCells_keeps r _ _ _ (Heap.get?_push_size _ rfl), rfl⟩
        · exact .inl hm
      · rw [Heap.size_push] at h2
        exact .inr ⟨List.mem_cons_of_mem _ h1, Nat.le_of_succ_le h2, h3⟩
    · rename_i hk
      rw [if_neg hk]
      rcases cells_mem hm with hm | ⟨h1, h2, h3⟩
      · exact .inl hm
      · exact .inr ⟨List.mem_cons_of_mem _ h1, h2, h3⟩
theorem cells_acc : ∀ {names : List (Str × NameKind)} {n : Nat} {acc : List (Str × Addr)} {p : Str × Addr}, p ∈ acc → p ∈ cellsFrom n names acc
  | [], _, _, _, h => h
  | (m, k) :: r, n, acc, p, h => by
    unfold cellsFrom
    split
    · exact cells_acc (List.mem_cons_of_mem _ h)
    · exact cells_acc h
theorem cells_has : ∀ {names : List (Str × NameKind)} {n : Nat} {acc : List (Str × Addr)} {x : Str}, (x, .cell) ∈ names → ∃ c, (x, c) ∈ cellsFrom n names acc
  | (m, k) :: r, n, acc, x, h => by
    unfold cellsFrom
    rcases List.mem_cons.mp h with e | h
    · cases e
      exact ⟨n, cells_acc List.mem_cons_self⟩
    · split
      · exact cells_has h
      · exact cells_has h
theorem cells_inj : ∀ {names : List (Str × NameKind)} {h : Heap} {acc : List (Str × Addr)} {x y : Str} {c : Addr}, (∀ p ∈ acc, p.2 < h.objs.size) → (∀ x y c, (x, c) ∈ acc → (y, c) ∈ acc → x = y) →
    (x, c) ∈ cellsFrom h.objs.size names acc → (y, c) ∈ cellsFrom h.objs.size names acc → x = y
  | [], _, _, _, _, _, _, hi, h1, h2 => hi _ _ _ h1 h2
  | (n, k) :: r, h, acc, x, y, c, hl, hi, h1, h2 => by
    unfold cellsFrom at h1 h2
    split at h1
    · rename_i hk
      rw [if_pos hk] at h2
      rw [← Heap.size_push h { cls := .type "cell", data := .cell none }] at h1 h2
      refine cells_inj (h := h.push _) (fun p hp => ?_) (fun x y c a b => ?_) h1 h2
      · rw [Heap.size_push]
        rcases List.mem_cons.mp hp with rfl | hp
        · exact Nat.lt_succ_self _
        · exact Nat.lt_succ_of_lt (hl p hp)
      · rcases List.mem_cons.mp a with e | a <;> rcases List.mem_cons.mp b with e' | b
        · cases e; cases e'; rfl
        · cases e; exact absurd (hl _ b) (Nat.lt_irrefl _)
        · cases e'; exact absurd (hl _ a) (Nat.lt_irrefl _)
        · exact hi _ _ _ a b
    · rename_i hk
      rw [if_neg hk] at h2
      exact cells_inj hl hi h1 h2

theorem newEnv_comp {M : Model} {A : Around} {E : Value → Shared → Prop} {s : Shared} {scope : Scope} {globals : Addr} {closure : List (Str × Addr)} {qual : Str} {func : Option Addr} {code : Value} {around : Env} {builtins : Addr} {Q : Env → Shared → Prop}
    (h : Q (newEnv scope s.heap.objs.size globals (cellsFrom (s.heap.objs.size + 1) scope.names closure) qual func code (some around) builtins)
      { s with heap := pushCells (s.heap.push { cls := .type "dict", data := .dict #[] }) scope.names }) :
    wpAny M A (newFunctionEnv scope globals closure [] qual func code (some around) builtins) Q E s := by
  simp only [newFunctionEnv, Option.isSome_some, if_true]
  refine wpAny_bind (wpAny_alloc ?_)
  refine wpAny_bind (wpAny_layCells _ (fun n k c => rfl) scope.names closure _ _ ?_)
  rw [show ({ s with heap := s.heap.push { cls := .type "dict", data := .dict #[] } } : Shared).heap.objs.size = s.heap.objs.size + 1 from Heap.size_push ..]
  rw [List.forIn_nil]
  exact wpAny_bind (wpAny_pure (wpAny_pure h))

theorem lookup_relS {sc : Scope} : ∀ {names : List (Str × NameKind)} {x : Str} {k : NameKind},
    (names.map fun (n, k) => if (k == NameKind.free && sc.kind == .function && sc.names.lookup n == some .cell) then (n, NameKind.cell) else (n, k)).lookup x = some k →
    ∃ k', names.lookup x = some k' ∧ (k = k' ∨ (k' = .free ∧ k = .cell))
  | [], _, _, h => by simp at h
  | (n, k₀) :: r, x, k, h => by
    have ih := @lookup_relS sc r x k
    have h' : List.lookup x ((if (k₀ == NameKind.free && sc.kind == .function && sc.names.lookup n == some .cell) = true then (n, NameKind.cell) else (n, k₀)) :: (r.map _)) = some k := h
    cases hx : x == n with
    | true =>
      simp only [List.lookup_cons, hx]
      by_cases hc : (k₀ == NameKind.free && sc.kind == .function && sc.names.lookup n == some .cell) = true
      · rw [if_pos hc] at h'
        simp only [List.lookup_cons, hx] at h'
        cases h'
        simp only [Bool.and_eq_true, beq_iff_eq] at hc
        exact ⟨k₀, rfl, .inr ⟨hc.1.1, rfl⟩⟩
      · rw [if_neg hc] at h'
        simp only [List.lookup_cons, hx] at h'
        cases h'
        exact ⟨_, rfl, .inl rfl⟩
    | false =>
      simp only [List.lookup_cons, hx]
      by_cases hc : (k₀ == NameKind.free && sc.kind == .function && sc.names.lookup n == some .cell) = true
      · rw [if_pos hc] at h'
        simp only [List.lookup_cons, hx] at h'
        exact ih h'
      · rw [if_neg hc] at h'
        simp only [List.lookup_cons, hx] at h'
        exact ih h'



structure BlkOk (N : List Str) (sc scope : Scope) (own : List (Str × Nat)) : Prop where
  kind : scope.kind = .function
  uniq : ∀ y ∈ scope.names, scope.names.lookup y.1 = some y.2
  ix : ∀ p ∈ own, N[p.2]? = some p.1
  free : ∀ y ∈ scope.names, y.2 = .free → sc.names.lookup y.1 = some .cell ∨ sc.names.lookup y.1 = some .free
  own : ∀ y ∈ scope.names, y.2 = .local ∨ y.2 = .cell → y.1 ∈ own.map (·.1) ∨ y.1 ∉ N
noncomputable def wipe (σ : St) : List Nat → St
  | [] => σ
  | v :: vs => (wipe σ vs).set v none
theorem wipe_length (σ : St) : ∀ vs : List Nat, (wipe σ vs).length = σ.length
  | [] => rfl
  | v :: vs => by unfold wipe; rw [List.length_set, wipe_length σ vs]
theorem wipe_some {σ : St} {i : Nat} {x : V} : ∀ {vs : List Nat}, (wipe σ vs)[i]? = some (some x) → σ[i]? = some (some x) ∧ i ∉ vs
  | [], h => ⟨h, by simp⟩
  | v :: vs, h => by
    unfold wipe at h
    by_cases hi : v = i
    · subst hi
      by_cases hv : v < (wipe σ vs).length
      · rw [List.getElem?_set_self hv] at h; cases h
      · rw [List.getElem?_eq_none (by simpa using hv)] at h; cases h
    · rw [List.getElem?_set_ne hi] at h
      obtain ⟨h1, h2⟩ := wipe_some h
      exact ⟨h1, by simp only [List.mem_cons, not_or]; exact ⟨fun e => hi e.symm, h2⟩⟩

noncomputable abbrev Cx.blk (X : Cx) (s : Shared) (H : Hp) (scope : Scope) (cenv : Env) (fp : List Addr) : Cx := { X with s_0 := s, H_0 := H, env := cenv, outer := X.stack, ex := fp, fn := fun x => scope.names.lookup x == some .cell, pn := [], xe := fun _ _ => False }
section
variable {X : Cx} {pins : List (Addr × Obj)} {σ : St} {H : Hp} {s : Shared}
theorem block_start {scope : Scope} {own : List (Str × Nat)} {fp : List Addr} (I : Inv X pins σ H s) (ok : BlkOk X.N X.env.scope scope own) (hN : X.N.Nodup) (hfp : ∀ b ∈ fp, FpOk X pins H b ∧ b < s.heap.objs.size) :
    Inv (X.blk s H scope (compEnvC scope (cellsFrom (s.heap.objs.size + 1) scope.names (cloFrom X.env.cells scope.names [])) s.heap.objs.size X.env) fp) [] (wipe σ (own.map (·.2))) H { s with heap := pushCells (s.heap.push { cls := .type "dict", data := .dict #[] }) scope.names } := by
  have hfree : ∀ y ∈ scope.names, y.2 = .free → ∃ c, X.env.cells.lookup y.1 = some c := fun y hy e => by
    rcases ok.free y hy e with k | k
    · exact I.ok.has _ (.inl k)
    · exact I.ok.has _ (.inr k)
  generalize hcenv : compEnvC scope (cellsFrom (s.heap.objs.size + 1) scope.names (cloFrom X.env.cells scope.names [])) s.heap.objs.size X.env = cenv
  have kp : ∀ b o, s.heap.get? b = some o → (pushCells (s.heap.push { cls := .type "dict", data := .dict #[] }) scope.names).get? b = some o := fun b o e => pushCells_keeps _ _ _ _ (Heap.get?_push_of_some _ e)
  have hL : cenv.locals = s.heap.objs.size := by rw [← hcenv]; rfl
  have hcl : cenv.cells = cellsFrom (s.heap.objs.size + 1) scope.names (cloFrom X.env.cells scope.names []) := by rw [← hcenv]; rfl
  have hsc : cenv.scope = relS scope X.env.scope := by rw [← hcenv]; rfl
  rw [← Heap.size_push s.heap { cls := .type "dict", data := .dict #[] }] at hcl
  have cm : ∀ {y c}, (y, c) ∈ cloFrom X.env.cells scope.names [] → X.env.cells.lookup y = some c ∧ c < s.heap.objs.size := fun {y c} hm => by
    rcases cloFrom_mem hm with hm | ⟨h1, rfl⟩
    · cases hm
    · obtain ⟨c, hc⟩ := hfree _ h1 rfl
      rw [hc]
      obtain ⟨w, z⟩ := I.cell _ _ hc
      exact ⟨rfl, z.lt⟩
  have mem : ∀ {y c}, cenv.cells.lookup y = some c → (X.env.cells.lookup y = some c ∧ c < s.heap.objs.size) ∨ (s.heap.objs.size + 1 ≤ c ∧ CellAt (pushCells (s.heap.push { cls := .type "dict", data := .dict #[] }) scope.names) c none) := fun {y c} e => by
    rw [hcl] at e
    rcases cells_mem (PySem.mem_of_lookup e) with hm | ⟨_, h2, h3⟩
    · exact .inl (cm hm)
    · rw [Heap.size_push] at h2; exact .inr ⟨h2, h3⟩
  have look : ∀ {y}, scope.names.lookup y = some .free → ∃ c, cenv.cells.lookup y = some c ∧ X.env.cells.lookup y = some c := fun {y} hl => by
    have hy : (y, NameKind.free) ∈ scope.names := PySem.mem_of_lookup hl
    obtain ⟨c', e'⟩ := mem_lookup (cells_acc (names := scope.names) (n := (s.heap.push { cls := .type "dict", data := .dict #[] }).objs.size) (cloFrom_has (cells := X.env.cells) (acc := []) hy))
    rw [← hcl] at e'
    refine ⟨c', e', ?_⟩
    rw [hcl] at e'
    rcases cells_mem (PySem.mem_of_lookup e') with hm | ⟨h1, _, _⟩
    · exact (cm hm).1
    · have := ok.uniq _ h1
      rw [hl] at this; cases this
  have okB : (X.blk s H scope cenv fp).Ok := by
    refine ⟨I.ok.mod, by show cenv.scope.kind = _; rw [hsc]; exact ok.kind, by show cenv.globals = _; rw [← hcenv]; exact I.ok.glob, by show cenv.builtins = _; rw [← hcenv]; exact I.ok.blt, by show s.heap.objs.size ≤ cenv.locals; rw [hL]; exact Nat.le_refl _,
      fun y z c e1 e2 => ?_, fun y hy => ?_, fun y c z e => ?_, I.ok.hd, I.ok.frames, .inl rfl, fun b hb => ⟨?_, fun y c e z => ?_⟩, I.bs, Nat.le_trans I.ok.bsz I.sz, fun b o e hb => ?_, fun b hb z => ?_, I.stack, I.stkFree⟩
    · have e1 : cenv.cells.lookup y = some c := e1
      have e2 : cenv.cells.lookup z = some c := e2
      rw [hcl] at e1 e2
      refine cells_inj (fun p hp => ?_) (fun y z c a b => I.ok.inj y z c (cm a).1 (cm b).1) (PySem.mem_of_lookup e1) (PySem.mem_of_lookup e2)
      rw [Heap.size_push]
      exact Nat.lt_succ_of_lt (cm (y := p.1) (c := p.2) hp).2
    · show ∃ c, cenv.cells.lookup y = some c
      have key : ∀ k, cenv.kindOf y = some k → (k = .cell ∨ k = .free) → ∃ c, cenv.cells.lookup y = some c := fun k hk hk' => by
        unfold Env.kindOf at hk
        rw [hsc] at hk
        obtain ⟨k', e, r⟩ := lookup_relS hk
        have : k' = .cell ∨ k' = .free := by
          rcases r with rfl | ⟨rfl, _⟩
          · exact hk'
          · exact .inr rfl
        rcases this with rfl | rfl
        · obtain ⟨c, hm⟩ := cells_has (n := (s.heap.push { cls := .type "dict", data := .dict #[] }).objs.size) (acc := cloFrom X.env.cells scope.names []) (PySem.mem_of_lookup e)
          obtain ⟨c', e'⟩ := mem_lookup hm
          exact ⟨c', by rw [hcl]; exact e'⟩
        · obtain ⟨c, h1, _⟩ := look e
          exact ⟨c, h1⟩
      rcases hy with hy | hy
      · exact key _ hy (.inl rfl)
      · exact key _ hy (.inr rfl)
    · have z : (scope.names.lookup y == some NameKind.cell) = true := z
      have z : scope.names.lookup y = some .cell := by simpa using z
      have e : cenv.cells.lookup y = some c := e
      rw [hcl] at e
      rcases cells_mem (PySem.mem_of_lookup e) with hm | ⟨_, h2, _⟩
      · rcases cloFrom_mem hm with hm | ⟨h1, _⟩
        · cases hm
        · have q := ok.uniq _ h1
          rw [z] at q; cases q
      · rw [Heap.size_push] at h2
        exact Nat.le_of_succ_le h2
    · show b ≠ cenv.locals
      rw [hL]; exact Nat.ne_of_lt (hfp b hb).2
    · have e : cenv.cells.lookup y = some c := e
      rcases mem e with ⟨h1, _⟩ | ⟨h1, _⟩
      · exact (hfp b hb).1.2.2.2.2.1 y c h1 z
      · have h2 : s.heap.objs.size + 1 ≤ b := by rw [← z]; exact h1
        exact absurd (Nat.lt_of_lt_of_le (hfp b hb).2 (Nat.le_of_succ_le h2)) (Nat.lt_irrefl _)
    · rcases (hfp b hb).1.2.2.2.1 with z | z
      · exact I.ok.noex b o e z
      · exact absurd (Nat.lt_of_lt_of_le (Heap.lt_size e) (Nat.le_trans I.ok.bsz z)) (Nat.lt_irrefl _)
    · rcases List.mem_cons.mp (I.stkSub b z) with z | z
      · exact (hfp b hb).1.2.1 z
      · exact (hfp b hb).1.2.2.1 z
  refine ⟨okB, rfl, I.bare, Un.kept kp, ⟨fun _ => none, ?_, fun i y av e1 e2 e3 => ?_⟩, fun y c e => ?_, ?_, fun y c e => ?_, fun p hp => ?_, I.hok.kept kp, by rw [wipe_length]; exact I.len⟩
  · show Heap.Ns _ cenv.locals _
    rw [hL]
    exact Heap.Ns.keeps (Heap.Ns.new ..) fun b o e => pushCells_keeps _ _ _ _ e
  · obtain ⟨e2, hne⟩ := wipe_some e2
    have hfr : scope.names.lookup y = some .free ∧ (cenv.kindOf y = some .cell ∨ cenv.kindOf y = some .free) := by
      have key : ∀ k, cenv.scope.names.lookup y = some k → k = .local ∨ k = .cell ∨ k = .free → scope.names.lookup y = some .free ∧ (cenv.kindOf y = some .cell ∨ cenv.kindOf y = some .free) := fun k hk hk' => by
        have hk0 := hk
        rw [hsc] at hk
        obtain ⟨k', e, r⟩ := lookup_relS hk
        have no : ¬ (k' = .local ∨ k' = .cell) := fun hh => by
          rcases ok.own _ (PySem.mem_of_lookup e) hh with e' | e'
          · obtain ⟨p, hp, hpy⟩ := List.mem_map.mp e'
            have e3 := ok.ix p hp
            have : p.1 = y := hpy
            rw [this] at e3
            exact hne (List.mem_map.mpr ⟨p, hp, nodup_ix hN e3 e1⟩)
          · exact e' (List.mem_of_getElem? e1)
        rcases r with rfl | ⟨rfl, rfl⟩
        · rcases hk' with rfl | rfl | rfl
          · exact absurd (.inl rfl) no
          · exact absurd (.inr rfl) no
          · exact ⟨e, .inr hk0⟩
        · exact ⟨e, .inl hk0⟩
      have e3 : Vis cenv.scope y := e3
      rcases e3 with e3 | e3 | e3
      · exact key _ e3 (.inl rfl)
      · exact key _ e3 (.inr (.inl rfl))
      · exact key _ e3 (.inr (.inr rfl))
    obtain ⟨m, hn, hl⟩ := I.loc
    have hvis : Vis X.env.scope y := (ok.free _ (PySem.mem_of_lookup hfr.1) rfl).elim (fun k => .inr (.inl k)) (fun k => .inr (.inr k))
    obtain ⟨w, r, q⟩ := hl i y av e1 e2 hvis
    refine ⟨w, r, .inr ⟨hfr.2, ?_⟩⟩
    obtain ⟨c, h1, h2⟩ := look hfr.1
    rcases q with ⟨k, _⟩ | ⟨_, c', e', z⟩
    · have k : X.env.scope.names.lookup y = some .local := k
      rcases ok.free _ (PySem.mem_of_lookup hfr.1) rfl with k' | k' <;> rw [show X.env.scope.names.lookup y = _ from k'] at k <;> cases k
    · rw [h2] at e'; cases e'
      exact ⟨c, h1, z.keeps kp⟩
  · have e : cenv.cells.lookup y = some c := e
    rcases mem e with ⟨h1, _⟩ | ⟨_, z⟩
    · obtain ⟨w, z⟩ := I.cell y c h1
      exact ⟨w, z.keeps kp⟩
    · exact ⟨_, z⟩
  · show H cenv.locals = none
    rw [hL]; exact I.hok.fresh (Nat.le_refl _)
  · have e : cenv.cells.lookup y = some c := e
    rcases mem e with ⟨h1, _⟩ | ⟨h1, _⟩
    · exact I.freeC y c h1
    · exact I.hok.fresh (Nat.le_of_succ_le h1)
  · exact absurd (show p ∈ ([] : List (Addr × Obj)) ++ [] from hp) (by simp)

theorem app_ok {E : Value → Shared → Prop} {D : Addr} {xs : List V} {y : V} {v : Value} {Q : Value → Shared → Prop} (I : Inv X pins σ H s) (hD : H D = some (.lst xs)) (hz : xs.length < sizeLine) (r : RelV y v)
    (h : ∀ s', Inv X pins σ (upd H D (.lst (xs ++ [y]))) s' → Q .none s') : wpAny (model X.prog X.w) X.A (call (.builtin "list.append") [.ref D, v]) Q E s := by
  obtain ⟨hz', its, n, ri, e⟩ := I.hok D _ hD
  have hl := ri.length
  refine append_at (hsz := by rw [List.size_toArray]; omega) e fun h' sb ho' => ?_
  refine h { s with heap := h' } (I.write (t' := s.toks) (by rw [hD]; trivial) (.inl rfl) (fun b u hb q => (sb.2 b hb).trans q) ⟨_, ho'⟩ ⟨by rw [List.length_append]; exact hz, its ++ [v], n + 1, ri.append (.cons r .nil), ?_⟩)
  rw [ho']
  simp

noncomputable def PTs (X : Cx) (ifs : List Expr) (t : TT) : Prop :=
  ∀ (pins : List (Addr × Obj)) (s : Shared) (σ : St) (H : Hp) (Q : Bool → Hp → Prop), Inv X pins σ H s → t σ H Q →
    wpAny (model X.prog X.w) X.A (forIn ifs true fun c r => if r = true then do let ok ← isTrue c X.env (eval c X.env); pure (ForInStep.yield ok) else pure (ForInStep.yield r)) (TP X pins σ Q) X.xe s
noncomputable def tYes : TT := fun _ H Q => Q true H
theorem pts_nil : PTs X [] tYes := fun _ _ _ H _ I h => wpAny_tests_nil ⟨H, I, h⟩
theorem pts_one {c : Expr} {t : TT} (h : PT X c t) : PTs X [c] t := fun pins s σ H Q I hw => wpAny_tests_one (h pins s σ H Q I hw)
end

theorem thnF {α : Type} {t : Sem α} {Q Q' : α → Shared → Prop} {M : Model} {A : Around} {E : Value → Shared → Prop} {s : Shared} (h : wpAny M A t Q (fun _ _ => False) s) (hQ : ∀ a s, Q a s → Q' a s) : wpAny M A t Q' E s := wpAny_mono h hQ fun _ _ z => False.elim z

theorem compLoop_any {prog : Program} {w : World} {A : Around} {R : Result → Shared → Prop} {s : Shared} {elt target iter : Expr} {ifs : List Expr} {scope : Scope} {pos : Pos} {it acc : Value} {env : Env} (I : Nat → Shared → Prop)
    (turn : ∀ n s, I n s → wpAny (model prog w) A (pyNext it) (fun r s₁ => match r with
      | none => R (.ok .next) s₁
      | some v => wpAny (model prog w) A (letOwnedTupleGo target it v) (fun _ s₁' => wpAny (model prog w) A (assign target env v) (fun _ s₂ =>
          wpAny (model prog w) A (forIn ifs true fun c r => if r = true then do let ok ← isTrue c env (eval c env); pure (ForInStep.yield ok) else pure (ForInStep.yield r)) (fun ok s₃ =>
            if ok = true then wpAny (model prog w) A (eval elt env) (fun x s₄ =>
              wpAny (model prog w) A (call (.builtin "list.append") [acc, x]) (fun _ s₅ => ∃ m, m < n ∧ I m s₅) (notedBy (model prog w) A env fun e s' => R (.error e) s') s₄) (notedBy (model prog w) A env fun e s' => R (.error e) s') s₃
            else ∃ m, m < n ∧ I m s₃) (notedBy (model prog w) A env fun e s' => R (.error e) s') s₂) (notedBy (model prog w) A env fun e s' => R (.error e) s') s₁') (notedBy (model prog w) A env fun e s' => R (.error e) s') s₁) (notedBy (model prog w) A env fun e s' => R (.error e) s') s)
    (n : Nat) (h : I n s) :
    codeAny (model prog w) A (.compLoop (.ListComp elt [⟨target, iter, ifs, 0⟩] scope pos) 0 it acc env) R s := by
  refine codeAny_loop rfl I (fun n s hI => ?_) n h
  show wpAny _ A ((compTurn (.ListComp elt [⟨target, iter, ifs, 0⟩] scope pos) 0 it acc env).onRaise (fun x => do noteFrame x env; theTreesLotGoes x)) _ _ s
  refine wpAny_noted ?_
  rw [compTurn_list]
  refine wpAny_bind (wpAny_standAt (wpAny_bind (wpAny_mono (turn n s hI) (fun r s₁ h₁ => ?_) fun _ _ h' => h')))
  cases r with
  | none => exact wpAny_pure h₁
  | some v =>
    refine wpAny_bind (wpAny_mono h₁ (fun _ s₁' h₁' => ?_) fun _ _ h' => h')
    refine wpAny_bind (wpAny_mono h₁' (fun _ s₂ h₂ => wpAny_bind (wpAny_mono h₂ (fun ok s₃ h₃ => ?_) fun _ _ h' => h')) fun _ _ h' => h')
    cases ok with
    | false => exact wpAny_pure ⟨rfl, h₃⟩
    | true =>
      exact wpAny_bind (wpAny_bind (wpAny_mono h₃ (fun x s₄ h₄ => wpAny_bind (wpAny_mono h₄ (fun _ s₅ h₅ => wpAny_pure (wpAny_pure ⟨rfl, h₅⟩)) fun _ _ h' => h')) fun _ _ h' => h'))

section
variable {X : Cx}
noncomputable def tLc (wi : TI) (g : TG) (tt : TT) (te : TE) (vs : List Nat) : TE := fun σ H Q => wi σ H fun J H1 => ∀ D, H1 D = none → ∃ W : Nat → Nat → Hp → Prop, (∃ m, W 0 m (upd H1 D (.lst []))) ∧ ∀ i m H, W i m H →
  (J.stop i H ∧ Q (.ref D) H) ∨ (J.go i H ∧ ∃ Nx : Hp → Prop, (∀ H', Nx H' → ∃ m', m' < m ∧ W (i + 1) m' H') ∧ ∀ x H', J.yld i H x H' → g x (wipe σ vs) H' fun σ2 H2 => wipe σ2 vs = wipe σ vs ∧ tt σ2 H2 fun b H3 =>
    if b = true then te σ2 H3 fun y H4 => ∃ acc, H4 D = some (.lst acc) ∧ acc.length < sizeLine ∧ Nx (upd H4 D (.lst (acc ++ [y]))) else Nx H3)
theorem lc_core {pins : List (Addr × Obj)} {s : Shared} {σ : St} {H : Hp} {Q : VK} {elt tg iter : Expr} {ifs : List Expr} {scope : Scope} {own : List (Str × Nat)} {pos pos' : Pos} {wi : TI} {g : TG} {tt : TT} {te : TE} {use : Option (Value → Sem Unit)} {Qf : Value → Shared → Prop}
    (hc : X.calm = true) (hN : X.N.Nodup) (I : Inv X pins σ H s) (hi : PI X tg iter wi) (ok : BlkOk X.N X.env.scope scope own)
    (hg : ∀ (s : Shared) (H : Hp) (C : Addr) (cl : List (Str × Addr)) (fp : List Addr), PG (X.blk s H scope (compEnvC scope cl C X.env) fp) tg g) (ht : ∀ (s : Shared) (H : Hp) (C : Addr) (cl : List (Str × Addr)) (fp : List Addr), PTs (X.blk s H scope (compEnvC scope cl C X.env) fp) ifs tt)
    (he : ∀ (s : Shared) (H : Hp) (C : Addr) (cl : List (Str × Addr)) (fp : List Addr), PE (X.blk s H scope (compEnvC scope cl C X.env) fp) elt te) (hs : ∀ x, foldedSetIterable iter X.env x = pure x)
    (h : tLc wi g tt te (own.map (·.2)) σ H Q)
    (hRR : ∀ D C s' m H', Inv X pins σ H' s' → Q (.ref D) H' → s'.heap.Ns C m → FpOk X pins H' C → compPost (model X.prog X.w) X.A X.xe use Qf (.ref D) C (.ok .next) s') :
    wpAny (model X.prog X.w) X.A (comprehension (.ListComp elt [⟨tg, iter, ifs, 0⟩] scope pos) scope X.env pos' (newList []) false (eval iter X.env) use) Qf X.xe s := by
  have hfree : ∀ y ∈ scope.names, y.2 = .free → ∃ c, X.env.cells.lookup y.1 = some c := fun y hy e => by
    rcases ok.free y hy e with k | k
    · exact I.ok.has _ (.inl k)
    · exact I.ok.has _ (.inr k)
  refine wpAny_comprehension_free (use := use) rfl hs (closure_ok hfree) ok.kind (fun y hy e => by rw [ok.uniq y hy, e])
    (thn (hi pins s σ H _ I h) fun xv s1 hx => thn hx fun itv s2 h2 => ?_)
  obtain ⟨it, fp, tn, J, H2, e, I2, T, st2, f2, q⟩ := h2
  subst e
  refine wpAny_newObj_type (newEnv_comp ?_) (by show 0 ≤ sizeLine; decide)
  generalize hD : s2.heap.objs.size = D
  have hDn : H2 D = none := I2.hok.fresh (Nat.le_of_eq hD)
  obtain ⟨W, ⟨m0, w0⟩, turn⟩ := q D hDn
  generalize hs3 : ({ s2 with heap := s2.heap.push { cls := .type "list", data := .seq ([] : List Value).toArray } } : Shared) = s3
  have I3 : Inv X pins σ (upd H2 D (.lst [])) s3 := by
    rw [← hs3]
    refine I2.laid (t' := s2.toks) (fun b o e => Heap.get?_push_of_some _ e) (Nat.le_of_eq hD) ⟨Nat.zero_le _, [], 0, .nil, ?_⟩
    rw [← hD]
    exact Heap.get?_push_size _ rfl
  have h3 : s3.heap = s2.heap.push { cls := .type "list", data := .seq ([] : List Value).toArray } := by rw [← hs3]
  have sz : ∀ b ∈ fp, b < s2.heap.objs.size := fun b hb => by
    obtain ⟨o, e, _⟩ := T.obj _ _ st2 b hb
    exact Heap.lt_size e
  have f3 : ∀ b ∈ fp, FpOk X pins (upd H2 D (.lst [])) b ∧ b < s3.heap.objs.size := fun b hb => by
    have hlt := sz b hb
    refine ⟨⟨?_, (f2 b hb).2⟩, by rw [h3, Heap.size_push]; exact Nat.lt_succ_of_lt hlt⟩
    rw [upd_ne (by rw [← hD]; exact Nat.ne_of_lt hlt)]
    exact (f2 b hb).1
  have st3 : tn 0 s3.heap := T.keep _ _ _ st2 fun b _ o e => by rw [h3]; exact Heap.get?_push_of_some _ e
  have I4 := block_start I3 ok hN f3
  have pg := hg s3 (upd H2 D (.lst [])) s3.heap.objs.size (cellsFrom (s3.heap.objs.size + 1) scope.names (cloFrom X.env.cells scope.names [])) fp
  have pt := ht s3 (upd H2 D (.lst [])) s3.heap.objs.size (cellsFrom (s3.heap.objs.size + 1) scope.names (cloFrom X.env.cells scope.names [])) fp
  have pe := he s3 (upd H2 D (.lst [])) s3.heap.objs.size (cellsFrom (s3.heap.objs.size + 1) scope.names (cloFrom X.env.cells scope.names [])) fp
  show codeAny _ _ (.compStart (.ListComp elt [⟨tg, iter, ifs, 0⟩] scope pos) 0 (.ref it) (.ref D) (compEnvC scope (cellsFrom (s3.heap.objs.size + 1) scope.names (cloFrom X.env.cells scope.names [])) s3.heap.objs.size X.env)) (compPost (model X.prog X.w) X.A X.xe use Qf (.ref D) s3.heap.objs.size) { s3 with heap := pushCells (s3.heap.push { cls := .type "dict", data := .dict #[] }) scope.names }
  have nfp : ∀ b ∈ fp, (upd H2 D (.lst [])) b = none := fun b hb => (f3 b hb).1.1
  generalize hce : compEnvC scope (cellsFrom (s3.heap.objs.size + 1) scope.names (cloFrom X.env.cells scope.names [])) s3.heap.objs.size X.env = ce at I4 pg pt pe ⊢
  have cL : ce.locals = s3.heap.objs.size := by subst hce; rfl
  generalize hH3 : upd H2 D (.lst []) = H3 at I3 I4 pg pt pe w0 nfp f3
  generalize hs4 : ({ s3 with heap := pushCells (s3.heap.push { cls := .type "dict", data := .dict #[] }) scope.names } : Shared) = s4 at I4 ⊢
  have st4 : tn 0 s4.heap := T.keep _ _ _ st3 fun b _ o e => by rw [← hs4]; exact pushCells_keeps _ _ _ _ (Heap.get?_push_of_some _ e)
  have stat : ∀ {σ' : St} {H' : Hp} {s' : Shared}, Inv (X.blk s3 H3 scope ce fp) [] σ' H' s' → (∀ b ∈ fp, H' b = none) → ∀ b ∈ fp, FpOk (X.blk s3 H3 scope ce fp) [] H' b := fun {σ' H' s'} I' hn b hb =>
    ⟨hn b hb, (I'.ok.exf b hb).1, I'.ok.exfs b hb, .inl hb, fun x c e => (I'.ok.exf b hb).2 x c e, fun p hp => absurd (show p ∈ ([] : List (Addr × Obj)) ++ [] from hp) (by simp)⟩
  have loop : codeAny (model X.prog X.w) X.A (.compLoop (.ListComp elt [⟨tg, iter, ifs, 0⟩] scope pos) 0 (.ref it) (.ref D) ce) (compPost (model X.prog X.w) X.A X.xe use Qf (.ref D) s3.heap.objs.size) s4 := by
    refine compLoop_any (fun n s' => ∃ i H', Inv (X.blk s3 H3 scope ce fp) [] (wipe σ (own.map (·.2))) H' s' ∧ tn i s'.heap ∧ (∀ b ∈ fp, H' b = none) ∧ W i n H') ?_ m0 ⟨0, H3, I4, st4, nfp, w0⟩
    rintro n s5 ⟨i, H5, I5, st5, n5, w5⟩
    rcases turn i n H5 w5 with ⟨stop, qq⟩ | ⟨go, Nx, hNx, step⟩
    · have td := T.done (X.blk s3 H3 scope ce fp) rfl rfl rfl hc i [] s5 _ H5 (fun _ _ => False) I5 (stat I5 n5) st5 stop
      refine thnF td fun r s6 ⟨hr, I6⟩ => ?_
      subst hr
      have I7 : Inv X pins σ H5 s6 := I3.call' (ch := fp) I6.os I6.base I6.hok I6.bare fun b hb => ⟨(f3 b hb).1.2.2.2.1, (f3 b hb).1.2.1, (f3 b hb).1.2.2.2.2.1, (f3 b hb).1.2.2.2.2.2⟩
      have nC : H5 s3.heap.objs.size = none := by
        have z : H5 ce.locals = none := I6.free
        rw [cL] at z
        exact z
      obtain ⟨m, hn, _⟩ := I6.loc
      have hn : s6.heap.Ns ce.locals m := hn
      rw [cL] at hn
      exact hRR D s3.heap.objs.size s6 m H5 I7 qq hn (I3.fpOk (Nat.le_refl _) nC)
    · have ti := T.item (X.blk s3 H3 scope ce fp) rfl rfl rfl hc i [] s5 _ H5 (fun _ _ => False) I5 (stat I5 n5) st5 go
      refine thnF ti fun r s6 ⟨u, hr, h6⟩ => ?_
      subst hr
      refine thnF h6 fun _ s7 ⟨x, H7, I7, r7, y7, st7, n7⟩ => ?_
      have I7' := I7.pinned (stat I7 n7) (T.obj _ _ st7)
      refine thnF (pg _ s7 _ H7 x u _ I7' r7 (step x H7 y7)) fun _ s8 ⟨σ8, H8, I8, hw8, q8⟩ => ?_
      refine thnF (pt _ s8 σ8 H8 _ I8 q8) fun b s9 ⟨H9, I9, q9⟩ => ?_
      have fin : ∀ {s' : Shared} {H' : Hp}, Inv (X.blk s3 H3 scope ce fp) ([] ++ pinsAt fp s7.heap) σ8 H' s' → Nx H' → ∃ m, m < n ∧ ∃ i H', Inv (X.blk s3 H3 scope ce fp) [] (wipe σ (own.map (·.2))) H' s' ∧ tn i s'.heap ∧ (∀ b ∈ fp, H' b = none) ∧ W i m H' := fun {s' H'} I' nx => by
        obtain ⟨m', hm, w'⟩ := hNx H' nx
        have pin' : ∀ b ∈ fp, ∀ o, s7.heap.get? b = some o → s'.heap.get? b = some o ∧ H' b = none := fun b hb o e =>
          let z := I'.pin (b, o) (List.mem_append_right _ (List.mem_append_right _ (mem_pinsAt hb e)))
          ⟨z.1, z.2.1⟩
        have hl : (wipe σ (own.map (·.2))).length = σ8.length := by rw [← hw8, wipe_length]
        refine ⟨m', hm, i + 1, H', (I'.unpinned (pins := [])).weak hl (fun j v e => ?_), T.keep _ _ _ st7 fun b hb o e => (pin' b hb o e).1, fun b hb => ?_, w'⟩
        · rw [← hw8] at e
          exact (wipe_some e).1
        · obtain ⟨o, e, _⟩ := T.obj _ _ st7 b hb
          exact (pin' b hb o e).2
      cases b with
      | false =>
        simp only [Bool.false_eq_true, if_false] at q9 ⊢
        exact fin I9 q9
      | true =>
        simp only [if_true] at q9 ⊢
        refine thnF (pe _ s9 σ8 H9 _ I9 q9) fun z s10 ⟨yv, H10, I10, r10, acc, hD10, hz10, nx⟩ => ?_
        exact app_ok (X := X.blk s3 H3 scope ce fp) I10 hD10 hz10 r10 fun s11 I11 => fin I11 nx
  exact codeAny_compStart_list loop (T.self X.A 0 _ _ _ st4 loop)
theorem pe_lc {elt tg iter : Expr} {ifs : List Expr} {scope : Scope} {own : List (Str × Nat)} {pos : Pos} {wi : TI} {g : TG} {tt : TT} {te : TE} (hc : X.calm = true) (hN : X.N.Nodup) (hi : PI X tg iter wi) (ok : BlkOk X.N X.env.scope scope own)
    (hg : ∀ (s : Shared) (H : Hp) (C : Addr) (cl : List (Str × Addr)) (fp : List Addr), PG (X.blk s H scope (compEnvC scope cl C X.env) fp) tg g) (ht : ∀ (s : Shared) (H : Hp) (C : Addr) (cl : List (Str × Addr)) (fp : List Addr), PTs (X.blk s H scope (compEnvC scope cl C X.env) fp) ifs tt)
    (he : ∀ (s : Shared) (H : Hp) (C : Addr) (cl : List (Str × Addr)) (fp : List Addr), PE (X.blk s H scope (compEnvC scope cl C X.env) fp) elt te) (hs : ∀ x, foldedSetIterable iter X.env x = pure x := by intro _; rfl) :
    PE X (.ListComp elt [⟨tg, iter, ifs, 0⟩] scope pos) (tLc wi g tt te (own.map (·.2))) := by
  intro pins s σ H Q I h
  rw [eval_ListComp]
  refine lc_core hc hN I hi ok hg ht he hs h fun D C s' m H' I' q hn f => ⟨m, hn, fun h'' sb => ?_⟩
  obtain ⟨f0, f1, f2, f3, f4, f5⟩ := f
  exact ⟨.ref D, H', I'.turned (t' := s'.toks) (fun b o hb e => (sb.2 b hb).trans e) f0 f1 f3 f4 f5, rfl, q⟩
theorem ps_setLc {i : Nat} {y : Str} {py : Pos} {elt tg iter : Expr} {ifs : List Expr} {scope : Scope} {own : List (Str × Nat)} {pos spos : Pos} {wi : TI} {g : TG} {tt : TT} {te : TE} (hc : X.calm = true) (hN : X.N.Nodup) (hy : X.N[i]? = some y) (hyl : X.env.scope.names.lookup y = some .local)
    (hsw : swapsWith (.ListComp elt [⟨tg, iter, ifs, 0⟩] scope pos) (some (.Name y py)) spos.line X.env = pure true) (hi : PI X tg iter wi) (ok : BlkOk X.N X.env.scope scope own)
    (hg : ∀ (s : Shared) (H : Hp) (C : Addr) (cl : List (Str × Addr)) (fp : List Addr), PG (X.blk s H scope (compEnvC scope cl C X.env) fp) tg g) (ht : ∀ (s : Shared) (H : Hp) (C : Addr) (cl : List (Str × Addr)) (fp : List Addr), PTs (X.blk s H scope (compEnvC scope cl C X.env) fp) ifs tt)
    (he : ∀ (s : Shared) (H : Hp) (C : Addr) (cl : List (Str × Addr)) (fp : List Addr), PE (X.blk s H scope (compEnvC scope cl C X.env) fp) elt te) (hs : ∀ x, foldedSetIterable iter X.env x = pure x := by intro _; rfl) :
    PS X (.Assign [.Name y py] (.ListComp elt [⟨tg, iter, ifs, 0⟩] scope pos) spos) (tAsg (tLc wi g tt te (own.map (·.2))) (gName i)) := by
  intro pins s σ H D I h
  rw [exec_Assign_Name_used _ _ _ _ hsw]
  refine wpAny_bind (wpAny_standAt (wpAny_bind ?_))
  show wpAny _ X.A (do let _ ← comprehension (.ListComp elt [⟨tg, iter, ifs, 0⟩] scope pos) scope X.env (firstIterPos [⟨tg, iter, ifs, 0⟩] pos) (newList []) false (eval iter X.env) (some (assign (.Name y py) X.env))) _ _ s
  have h : tLc wi g tt te (own.map (·.2)) σ H (fun x H1 => gName i x σ H1 D.nx) := h
  refine wpAny_bind (thn (lc_core (Qf := fun _ s' => SP X pins D .next s') hc hN I hi ok hg ht he hs h fun L C s' m H' I' q hn f => ?_) fun _ s' hq => wpAny_pure (wpAny_pure hq))
  show wpAny _ _ (assign (.Name y py) X.env (.ref L)) _ _ _
  refine wpAny_assign_Name (store_ok2 (v := V.ref L) I' hN hy (.inl hyl) rfl (fun s2 I2 ⟨a, sb, ha⟩ => ?_) (.inr hyl))
  obtain ⟨f0, f1, f2, f3, f4, f5⟩ := f
  have haC : C ≠ a := by
    rcases ha with z | z
    · rw [z]; exact f1
    · exact fun e => f4 y a z e.symm
  refine ⟨m, hn.sameBut sb haC, fun h3 sb3 => ?_⟩
  exact ⟨_, H', I2.turned (t' := s2.toks) (fun b o hb e => (sb3.2 b hb).trans e) f0 f1 f3 f4 f5, q⟩
theorem sw_true {elt : Expr} {gs : List Comprehension} {scope : Scope} {pos py : Pos} {y : Str} {l : Nat} {env : Env} (hk : env.scope.kind = .function) (hy : env.scope.names.lookup y = some .local) (hl : (py.line == pos.line) = true)
    (ha : (scope.names.any fun (n, k) => n == y && (k == .local || k == .cell)) = false) : swapsWith (.ListComp elt gs scope pos) (some (.Name y py)) l env = pure true := by
  have ky : env.kindOf y = some .local := hy
  have hb : env.blockKind = .function := by unfold Env.blockKind; rw [hk]; rfl
  unfold swapsWith
  simp only [hb, ky, ha, Expr.pos, hl]
  rfl
end

theorem lc_list {K : PySem.W.Frag} {a : Addr} {xs : List V} {g : TG} {tt : TT} {te : TE} {vs : List Nat} {σ : St} {H1 : Hp} {D : Addr} {Qd : Hp → Prop} (Pv : Nat → Hp → Prop) (h0 : Pv 0 (upd H1 D (.lst []))) (hl : ∀ i H, i ≤ xs.length → Pv i H → SqL K H a xs)
    (hs : ∀ i x H, xs[i]? = some x → Pv i H → g x (wipe σ vs) H fun σ2 H2 => wipe σ2 vs = wipe σ vs ∧ tt σ2 H2 fun b H3 =>
      if b = true then te σ2 H3 fun y H4 => ∃ acc, H4 D = some (.lst acc) ∧ acc.length < sizeLine ∧ Pv (i + 1) (upd H4 D (.lst (acc ++ [y]))) else Pv (i + 1) H3) (hd : ∀ H, Pv xs.length H → Qd H) :
    ∃ W : Nat → Nat → Hp → Prop, (∃ m, W 0 m (upd H1 D (.lst []))) ∧ ∀ i m H, W i m H →
      ((Itl K a).stop i H ∧ Qd H) ∨ ((Itl K a).go i H ∧ ∃ Nx : Hp → Prop, (∀ H', Nx H' → ∃ m', m' < m ∧ W (i + 1) m' H') ∧ ∀ x H', (Itl K a).yld i H x H' → g x (wipe σ vs) H' fun σ2 H2 => wipe σ2 vs = wipe σ vs ∧ tt σ2 H2 fun b H3 =>
        if b = true then te σ2 H3 fun y H4 => ∃ acc, H4 D = some (.lst acc) ∧ acc.length < sizeLine ∧ Nx (upd H4 D (.lst (acc ++ [y]))) else Nx H3) := by
  refine ⟨fun i m H => m = xs.length - i ∧ i ≤ xs.length ∧ Pv i H, ⟨xs.length, by simp, Nat.zero_le _, h0⟩, ?_⟩
  rintro i m H ⟨rfl, hi, p⟩
  have q := hl i H hi p
  by_cases hlt : i < xs.length
  · refine .inr ⟨⟨xs, xs[i], q, by simp [hlt]⟩, Pv (i + 1), fun H' p' => ⟨xs.length - (i + 1), by omega, rfl, hlt, p'⟩, fun x H' y => ?_⟩
    obtain ⟨e, y⟩ := y
    subst e
    exact hs i x _ (y xs q) p
  · have e : i = xs.length := by omega
    subst e
    exact .inl ⟨⟨xs, q, Nat.le_refl _⟩, hd H p⟩
noncomputable def blkC (N : List Str) (sc scope : Scope) (own : List (Str × Nat)) : Bool :=
  (match scope.kind with | .function => true | _ => false) && (scope.names.all fun y => decide (scope.names.lookup y.1 = some y.2)) && (own.all fun p => decide (N[p.2]? = some p.1)) &&
    (scope.names.all fun y => match y.2 with
      | .free => (match sc.names.lookup y.1 with | some .cell => true | some .free => true | _ => false)
      | .local => decide (y.1 ∈ own.map (·.1)) || decide (y.1 ∉ N)
      | .cell => decide (y.1 ∈ own.map (·.1)) || decide (y.1 ∉ N)
      | _ => true)
theorem blkOk_by {N : List Str} {sc scope : Scope} {own : List (Str × Nat)} (h : blkC N sc scope own = true) : BlkOk N sc scope own := by
  unfold blkC at h
  simp only [Bool.and_eq_true, List.all_eq_true, decide_eq_true_eq] at h
  obtain ⟨⟨⟨h1, h2⟩, h3⟩, h4⟩ := h
  refine ⟨?_, h2, h3, fun y hy e => ?_, fun y hy e => ?_⟩
  · split at h1
    · assumption
    · cases h1
  · have q := h4 y hy
    simp only [e] at q
    split at q <;> first | exact .inl (by assumption) | exact .inr (by assumption) | cases q
  · have q := h4 y hy
    rcases e with e | e <;> (simp only [e, Bool.or_eq_true, decide_eq_true_eq] at q; exact q)
end L2

namespace L2
open PySem PySem.Spec PyProof.Rows


section
variable {prog : Program} {w : World} {A : Around} {R : Result → Shared → Prop} {s : Shared} {elt t0 i0 t1 i1 : Expr} {ifs0 ifs1 : List Expr} {scope : Scope} {pos : Pos} {it acc : Value} {env : Env}
end

section
variable {X : Cx}
end
end L2

namespace L2
open PySem PySem.Spec PyProof.Rows

section
variable {κ : Type} [DecidableEq κ]



end




section
variable {P : Program} {w : World} {H : Hp} {h : Heap} {a : Addr}
end



section
variable {X : Cx} {pins : List (Addr × Obj)} {σ : St} {H : Hp} {s : Shared} {a : Addr} {y v : V} {u r : Value} {o : Option V} {A : Around} {E : Value → Shared → Prop}


end

section
variable {X : Cx} {pins : List (Addr × Obj)} {σ : St} {H : Hp} {s : Shared} {a : Addr} {kvs : List (Key × V)} {k : Key} {u : Value} {A : Around} {E : Value → Shared → Prop}
end





section
variable {X : Cx} {o i e value : Expr} {pos pos' tpos : Pos} {td ty tv : TE}
end


section
variable {X : Cx} {pos : Pos}
end






section
variable {X : Cx} {pins : List (Addr × Obj)} {σ : St} {H : Hp} {s : Shared} {a : Addr} {y d : V} {u r : Value} {o : Option V} {A : Around} {E : Value → Shared → Prop}
end

section
variable {X : Cx} {o e f : Expr} {apos cpos : Pos} {td ty tx : TE}
end

section
variable {X : Cx} {pins : List (Addr × Obj)} {σ : St} {H : Hp} {s : Shared} {a : Addr} {kvs : List (Key × V)} {A : Around} {E : Value → Shared → Prop}
end


section
variable {X : Cx} {pins : List (Addr × Obj)} {σ : St} {H : Hp} {s : Shared} {a : Addr} {y : V} {u : Value} {A : Around} {E : Value → Shared → Prop}
end
end L2

namespace L2
open PySem PySem.Spec PyProof.Rows


section
variable {prog : Program} {w : World} {A : Around} {E : Value → Shared → Prop}


end

section
variable {X : Cx}
end
end L2

namespace L2
open PySem PySem.Spec PyProof.Rows

theorem boot_reversed5 : bootBuiltins "reversed" = some (.type "reversed") := by decide +kernel

section
variable {X : Cx} {pins : List (Addr × Obj)} {σ : St} {H : Hp} {s : Shared} {h' : Heap}

end
section
variable {X : Cx}

theorem pi_one {tg : Expr} {pins : List (Addr × Obj)} {σ : St} {H : Hp} {s : Shared} {R : It → Hp → Prop} {J : It} {tn : Nat → Heap → Prop} {tk : Nat} (I : Inv X pins σ H s) (o : Obj)
    (T : Turn X.prog X.w X.K tg J [s.heap.objs.size] s.heap.objs.size tn) (st : tn 0 (s.heap.push o)) (q : R J H) : PIE X pins σ tg R (.ref s.heap.objs.size) { s with heap := s.heap.push o, toks := tk } := by
  refine ⟨s.heap.objs.size, [s.heap.objs.size], tn, J, H, rfl, I.kept fun b ob e => Heap.get?_push_of_some _ e, T, st, fun b hb => ?_, q⟩
  have e : b = s.heap.objs.size := by simpa using hb
  subst e
  exact I.fpOk (Nat.le_refl _) (I.hok.fresh (Nat.le_refl _))
end

section
variable {X : Cx} {tg : Expr}
end

noncomputable def Itv (K : PySem.W.Frag) (a : Addr) (n : Nat) : It :=
  ⟨fun i H => i < n ∧ ∃ (xs : List V) (x : V), SqL K H a xs ∧ xs[n - 1 - i]? = some x, fun i H x H' => H' = H ∧ ∀ xs, SqL K H a xs → xs[n - 1 - i]? = some x, fun i _ => n ≤ i⟩
theorem turn_rev {P : Program} {w : World} {K : PySem.W.Frag} {tg : Expr} (a it : Addr) (n : Nat) : Turn P w K tg (Itv K a n) [it] it (fun i h => i ≤ n ∧ h.IsRevIter it a ((n : Int) - 1 - (i : Nat))) where
  mem := by simp
  obj := fun i h st b hb => by
    have e : b = it := by simpa using hb
    subst e
    obtain ⟨_, o, e, c, d⟩ := st
    exact ⟨o, e, fun v z => by rw [d] at z; cases z⟩
  keep := fun i h h' st k => ⟨st.1, st.2.at fun o e => k it (by simp) o e⟩
  item := by
    intro X hP hw hK hc i pins s σ H E I hf st hg
    subst hP hw hK
    obtain ⟨hin, xs, x, hq, hx⟩ := hg
    obtain ⟨its, rv, p, hz⟩ := I.list hq
    obtain ⟨u, hu, ru⟩ := rv.get hx
    obtain ⟨f0, f1, f2, f3, f4, f5⟩ := hf it (by simp)
    obtain ⟨_, hit⟩ := st
    have e1 : (n : Int) - 1 - ((i : Nat) : Int) = ((n - 1 - i : Nat) : Int) := by omega
    rw [e1] at hit
    refine wpAny_pyNext_rev_item hit p.isList (x := u) (by simpa using hu) fun h' st' sb => ?_
    have e2 : ((n - 1 - i : Nat) : Int) - 1 = (n : Int) - 1 - ((i + 1 : Nat) : Int) := by omega
    rw [e2] at st'
    have I1 : Inv X pins σ H { s with heap := h' } := I.turned (t' := s.toks) (fun b o hb e => (sb.2 b hb).trans e) f0 f1 f3 f4 f5
    obtain ⟨o, e, c, d⟩ := id st'
    exact ⟨u, rfl, go_of (s := { s with heap := h' }) e c d (by decide) ⟨x, H, I1, ru, ⟨rfl, fun ys hy => by rw [I.list_inj hy hq]; exact hx⟩, ⟨hin, st'⟩, fun b hb => (hf b hb).1⟩⟩
  done := by
    intro X hP hw hK hc i pins s σ H E I hf st hg
    subst hP hw hK
    obtain ⟨f0, f1, f2, f3, f4, f5⟩ := hf it (by simp)
    obtain ⟨hin, hit⟩ := st
    have hge : n ≤ i := hg
    have e1 : (n : Int) - 1 - ((i : Nat) : Int) = -1 := by omega
    rw [e1] at hit
    exact wpAny_pyNext_rev_end (I.ok.hd hc) hit fun h' eb => ⟨rfl, I.turned (t' := s.toks) (fun b o hb e => eb b o hb e) f0 f1 f3 f4 f5⟩
  self := fun A i s Q E st h => wpAny_pyIter_revIter st.2 h
noncomputable def iRev (K : PySem.W.Frag) (ta : TA) : TI := fun σ H R => ta σ H fun vs H1 => ∃ (a : Addr) (xs : List V), vs = [.ref a] ∧ SqL K H1 a xs ∧ R (Itv K a xs.length) H1
section
variable {X : Cx} {tg : Expr}
theorem pi_reversed {e : Expr} {ta : TA} {p pos : Pos} (hg : Gl X "reversed") (hm : X.mg "reversed" = none) (ha : PA X [e] ta) (hs : starEach [e] X.env = [(false, eval e X.env)] := by rfl) : PI X tg (.Call (.Name "reversed" p) [e] [] pos) (iRev X.K ta) := by
  intro pins s σ H R I h
  refine Call_ (ld_blt I hg hm boot_reversed5 (PyProof.Rows.callWith_type1 (thn (ha pos pins s σ H _ I h) fun us s1 ⟨vs, H1, I1, r1, q1⟩ => ?_) hs rfl))
  obtain ⟨a, xs, e, hq, q⟩ := q1
  subst e
  cases r1 with
  | cons r rr =>
    cases rr
    cases r
    obtain ⟨its, rv, p', hz⟩ := I1.list hq
    have hl := rv.length
    have e1 : ((its.toArray.size : Nat) : Int) - 1 = (xs.length : Int) - 1 - ((0 : Nat) : Int) := by simp only [List.size_toArray]; omega
    refine call_reversed_list p'.isList (wpAny_pyIter_revIter (l := a) (i := ((its.toArray.size : Nat) : Int) - 1) ⟨_, Heap.get?_push_size _ rfl, rfl, rfl⟩ ?_)
    refine pi_one (tk := s1.toks) I1 _ (turn_rev a _ xs.length) ⟨Nat.zero_le _, ?_⟩ q
    rw [← e1]
    exact ⟨_, Heap.get?_push_size _ rfl, rfl, rfl⟩
end


section
variable {prog : Program} {w : World} {A : Around} {E : Value → Shared → Prop} {s : Shared}
end

section
variable {X : Cx} {pins : List (Addr × Obj)} {σ : St} {H : Hp} {s : Shared} {d : Addr} {o : Obj}
end

section
variable {P : Program} {w : World} {K : PySem.W.Frag} {tg : Expr} {d : Addr} {o : Obj} {es : Array DictEntry} {ep : Nat}
end

section
variable {X : Cx} {tg e : Expr} {td : TE} {apos cpos : Pos}
end

end L2

section 
namespace Bits
open PySem PyProof.Rows








end Bits
end 

section 
namespace TL
open PySem PySem.Builtin PySem.Builtin.Str PySem.StrLaws













end TL
end 

namespace L2
open PySem PySem.Spec PyProof.Rows




section
variable {X : Cx} {pins : List (Addr × Obj)} {σ : St} {H : Hp} {s : Shared} {Q : VK}
end

section
variable {X : Cx}







end

section
variable {X : Cx} {o e : Expr} {to te : TE}

end
end L2

namespace L2
open PySem PySem.Spec PyProof.Rows

section
variable {X : Cx}
end



end L2

namespace Att
open PySem PySem.W PySem.Calls PyProof.Rows







section
variable {prog : Program} {w : World} {A : Around} {E : Value → Shared → Prop} {s : Shared} {K : Frag}






end
end Att

namespace L2
open PySem PySem.Spec PyProof.Rows



end L2

namespace L2
open PySem PySem.Spec PyProof.Rows


end L2

/- THE LAST THEOREM (shape; LID, My.* are yours):
   My.Adr: a structure of the addresses that your layer names (classes, functions); My.Txt K t: a structure (Prop) of the equations over K;
   My.txt_mk : {K} {implicit addresses ..} (e1 : nsIn K mainGlobals "law" = some (some (.ref f))) (e2 : K.lookup f = some ⟨oc, od, .func (fnOf "law" "law" params body scope dV kV doc pm an cdv ct), sl⟩) (e3 : codeIn K cdv "law" = true) .. : ∃ t, My.Txt K t

set_option maxRecDepth 100000 in
set_option maxHeartbeats 0 in
theorem PySem.Challenge.cw_LID_holds : PySem.Challenge.rw_LID.Holds := by
  w_on; o_law; k_head; (case hw => w_witness2)
  k_fill
  refine L2.walk_of (l := PySem.Challenge.rw_LID) (n := 63) (k := 40) (x := "script") (CX := fun w => ..) (sp := fun _ => My.sp_law) rfl (by decide) rfl ⟨rfl, by decide, by decide⟩ (fun w h Y => PySem.W.kIn_of Y) ?F ?S ?C
  case F =>
    intro w mg fa h KX G hmg
    have T : ∃ t, My.Txt (L2.KOf KX) t := by
      dsimp only [L2.KOf]                          -- K must stand as «<heap const> w.params» for k_is
      refine' My.txt_mk ?e1 ?e2 ?e3 ..
      (case e1 => PySem.W.k_is)                    -- in the order: a name -> its address -> its object -> its parts
      (case e2 => PySem.W.k_is)
      ..
    obtain ⟨t, T⟩ := T
    have e0 := hmg.symm.trans (PySem.W.mg_of KX G T.law)
    cases e0                                       -- fa is the law's own address
    exact ⟨_, fun s u => .of_eq rfl, fun base kb nb => My.law_fn T kb nb⟩     -- if «.of_eq rfl» comes too early: refine' ⟨_, ?b, fun base kb nb => My.law_fn T kb nb⟩; exact fun s u => .of_eq rfl
  case S => exact fun w H a ns hl hO hS => ..
  case C => exact ..
(the tactic k_is has no namespace: write k_is) -/

namespace L2
open PySem PySem.Spec PyProof.Rows

noncomputable def inClass (s : Stmt) (j : Nat) : Stmt := match s with
  | .ClassDef _ _ _ body _ _ _ _ _ _ _ => body.getD j (.Pass ⟨0, 0, 0, 0⟩)
  | _ => .Pass ⟨0, 0, 0, 0⟩
noncomputable def defArgs (s : Stmt) : Arguments := match s with
  | .FunctionDef _ a _ _ _ _ _ _ _ _ => a
  | _ => { posonlyargs := [], args := [], vararg := none, kwonlyargs := [], kw_defaults := [], kwarg := none, defaults := [] }
noncomputable def defBody (s : Stmt) : List Stmt := match s with
  | .FunctionDef _ _ b _ _ _ _ _ _ _ => b
  | _ => []
noncomputable def defScope (s : Stmt) : Scope := match s with
  | .FunctionDef _ _ _ _ _ _ sc _ _ _ => sc
  | _ => { kind := .function, names := [], isGenerator := false, isCoroutine := false }

noncomputable abbrev CX0 : CXT := fun _ _ _ _ _ _ => False
noncomputable abbrev E0 : XK := fun _ _ _ => False
theorem pass0 {X : Cx} : Passes CX0 X E0 := fun _ _ _ _ _ _ _ h => h.elim

structure Fun (K : PySem.W.Frag) (x qual : Str) (st : Stmt) (f : Addr) (fd : FuncData) : Prop where
  ex : ∃ (oc : Value) (od : Option Addr) (kV doc pm : Value) (an : Option Addr) (cdv ct : Value) (osl : Array (Option Value)),
    fd = PySem.W.fnOf x qual (defArgs st) (defBody st) (defScope st) .none kV doc pm an cdv ct ∧ K.lookup f = some ⟨oc, od, .func fd, osl⟩ ∧ PySem.W.codeIn K cdv qual = true
  kp : PySem.W.keepIn K (.ref f) = true
section
variable {P : Program} {w : World} {K : PySem.W.Frag} {mg : Str → Option Value} {base : Heap}
theorem Fun.ok {x qual : Str} {st : Stmt} {f : Addr} {fd : FuncData} {N ps : List Str} {k : Nat} {sp : Sp} (F : Fun K x qual st f fd) (S : FnScope N ps (defScope st)) (len : ∀ vs H Q E, sp vs H Q E → vs.length = ps.length)
    (hbody : ∀ (cdv : Value) (A : Around) (outer : List Env) (s : Shared) (H : Hp) (vs : List V) (Q : VK) (E : XK), Room k (A.deeper (envOfC qual (defScope st) s.heap.objs.size f cdv)) → sp vs H Q E →
      ∃ t, PSs (cxOf CX0 P w K mg base N qual (defScope st) f cdv A outer s H E).nox (defBody st) t ∧ t { nx := fun _ H' => Q .non H', rt := Q } (start N vs) H) : FnOk P w K mg base CX0 (k + 1) f fd ps sp := by
  obtain ⟨oc, od, kV, doc, pm, an, cdv, ct, osl, rfl, lk, hcd⟩ := F.ex
  refine fn_of lk hcd S len fun A outer s H vs Q E hr hsp => ?_
  obtain ⟨t, h, q⟩ := hbody cdv A outer s H vs Q E hr hsp
  exact ⟨t, h.nox, q⟩
theorem Fun.binds {x qual : Str} {st : Stmt} {f : Addr} {fd : FuncData} {ps : List Str} (F : Fun K x qual st f fd)
    (h : ∀ (kV doc pm : Value) (an : Option Addr) (cdv ct : Value) (us : List Value), us.length = ps.length → bindArgs (PySem.W.fnOf x qual (defArgs st) (defBody st) (defScope st) .none kV doc pm an cdv ct) ⟨us, []⟩ = pure (ps.zip us)) : Binds K fd ps [] := by
  obtain ⟨oc, od, kV, doc, pm, an, cdv, ct, osl, rfl, lk, hcd⟩ := F.ex
  exact .all (h kV doc pm an cdv ct)
theorem fun_mk {x qual : Str} {st : Stmt} {f : Addr} {oc : Value} {od an : Option Addr} {osl : Array (Option Value)} {kV doc pm cdv ct : Value} (l : K.lookup f = some ⟨oc, od, .func (PySem.W.fnOf x qual (defArgs st) (defBody st) (defScope st) .none kV doc pm an cdv ct), osl⟩)
    (c : PySem.W.codeIn K cdv qual = true) (k : PySem.W.keepIn K (.ref f) = true) : Fun K x qual st f (PySem.W.fnOf x qual (defArgs st) (defBody st) (defScope st) .none kV doc pm an cdv ct) := ⟨⟨oc, od, kV, doc, pm, an, cdv, ct, osl, rfl, l, c⟩, k⟩
end

section
variable {X : Cx}
theorem pv (i : Nat) {x : Str} {pos : Pos} (hN : X.N[i]? = some x := by rfl) (hv : Vis X.env.scope x := by first | exact Or.inl rfl | exact Or.inr (Or.inl rfl) | exact Or.inr (Or.inr rfl)) (hd : (x == ("__debug__" : Str)) = false := by decide)
    (hcd : (x == ("__classdict__" : Str)) = false := by decide) : PE X (.Name x pos) (tVar i) := pe_var hN hv hd hcd
end

theorem iteF {A B : Prop} (h : B) : if false = true then A else B := by
  rw [if_neg Bool.false_ne_true]
  exact h
theorem iteT {A B : Prop} (h : A) : if true = true then A else B := by
  rw [if_pos rfl]
  exact h
theorem ite2 {c A B : Prop} [Decidable c] (h1 : c → A) (h2 : ¬ c → B) : if c then A else B := by
  by_cases h : c
  · rw [if_pos h]
    exact h1 h
  · rw [if_neg h]
    exact h2 h

noncomputable def Same (H H' : Hp) : Prop := ∀ b o, H b = some o → H' b = some o
theorem Same.refl (H : Hp) : Same H H := fun _ _ h => h
theorem Same.trans {H H1 H2 : Hp} (a : Same H H1) (b : Same H1 H2) : Same H H2 := fun c o h => b c o (a c o h)
theorem Same.seq {K : PySem.W.Frag} {H H' : Hp} {a : Addr} {xs : List V} (e : Same H H') (h : SqL K H a xs) : SqL K H' a xs := by
  rcases h with (h | ⟨o, h⟩) | h
  · exact .inl (.inl (e _ _ h))
  · exact .inl (.inr ⟨o, e _ _ h⟩)
  · exact .inr h

section
variable {κ : Type} [DecidableEq κ]
end
theorem at_of {xs : List V} {z : Int} {j : Nat} {v : V} (e : z = (j : Int)) (h : xs[j]? = some v) : atI xs z = some v := by
  rw [e]
  exact atI_nat h
theorem nd_ix {α : Type} {l : List α} (hN : l.Nodup) {i j : Nat} {x : α} (a : l[i]? = some x) (b : l[j]? = some x) : i = j := by
  obtain ⟨h1, e1⟩ := List.getElem?_eq_some_iff.mp a
  obtain ⟨h2, e2⟩ := List.getElem?_eq_some_iff.mp b
  exact (List.getElem_inj hN).mp (e1.trans e2.symm)
end L2
end
section
section
set_option Elab.async false
set_option linter.all false
set_option maxRecDepth 100000
set_option maxHeartbeats 2000000
namespace L2
open PySem PySem.Spec PyProof.Rows
open PySem.W (WData Codec OpenSpec Well WellAll ReadsW ReadsAllW)
mutual
inductive Dw (K : PySem.W.Frag) (H : Hp) : V → WData → Prop
  | non : Dw K H .non .none
  | bl (b : Bool) : Dw K H (.bl b) (.bool b)
  | int (i : Int) : Dw K H (.int i) (.int i)
  | str (x : Str) : Dw K H (.str x) (.str x)
  | byt (b : Array UInt8) : Dw K H (.byt b) (.bytes b.toList)
  | lst {a : Addr} {xs : List V} {ds : List WData} : SqL K H a xs → DwAll K H xs ds → Dw K H (.ref a) (.list ds)
  | tup {a : Addr} {xs : List V} {ds : List WData} : SqT K H a xs → DwAll K H xs ds → Dw K H (.ref a) (.tuple ds)
inductive DwAll (K : PySem.W.Frag) (H : Hp) : List V → List WData → Prop
  | nil : DwAll K H [] []
  | cons {v : V} {vs : List V} {d : WData} {ds : List WData} : Dw K H v d → DwAll K H vs ds → DwAll K H (v :: vs) (d :: ds)
end
theorem dw_ints {K : PySem.W.Frag} {H : Hp} : ∀ ns : List Int, DwAll K H (ns.map V.int) (ns.map WData.int)
  | [] => .nil
  | n :: r => .cons (.int n) (dw_ints r)
theorem ints_dw {K : PySem.W.Frag} {H : Hp} : ∀ (ns : List Int) (xs : List V), DwAll K H xs (ns.map WData.int) → xs = ns.map V.int
  | [], xs, h => by
    cases h
    rfl
  | n :: r, xs, h => by
    cases h with
    | cons h1 h2 =>
      cases h1
      rw [ints_dw r _ h2] <;> rfl
section
variable {P : Program} {w : World} {K : PySem.W.Frag} {H : Hp} {h : Heap} {R : PySem.W.WRecords} {cl : Str → Option Addr}
theorem sqL_at {a : Addr} {xs : List V} (hok : HOk P w H h) (KX : K.In h) (q : SqL K H a xs) : ∃ (its : List Value) (o : Obj) (n : Nat), Vals xs its ∧ h.get? a = some o ∧ o.cls = .type "list" ∧ o.data = .seq its.toArray n := by
  rcases q with q | ⟨o, its, n, e, hc, _, hd, _, hv⟩
  · obtain ⟨_, its, n, hv, e⟩ := (show ObjOk P w H h a (.lst xs) from q.ok hok)
    exact ⟨its, _, n, hv, e, rfl, rfl⟩
  · exact ⟨its.toList, o, n, hv, KX _ _ e, hc, by simp [hd]⟩
theorem sqT_at {a : Addr} {xs : List V} (hok : HOk P w H h) (KX : K.In h) (q : SqT K H a xs) : ∃ (its : List Value) (o : Obj) (n : Nat), Vals xs its ∧ h.get? a = some o ∧ o.cls = .type "tuple" ∧ o.data = .seq its.toArray n := by
  rcases q with q | ⟨o, its, n, e, hc, hd, _, hv⟩
  · obtain ⟨_, its, hv, o, e, hc, n, hd⟩ := (show ObjOk P w H h a (.tup xs) from q.ok hok)
    exact ⟨its, o, n, hv, e, hc, hd⟩
  · exact ⟨its.toList, o, n, hv, KX _ _ e, hc, by simp [hd]⟩
mutual
theorem Dw.reads (hok : HOk P w H h) (KX : K.In h) : ∀ (d : WData) (v : V) (u : Value), Dw K H v d → RelV v u → ∃ as, ReadsW R cl h u d as
  | .none, _, _, x, r => by
    cases x
    cases r
    exact ⟨_, ReadsW.none⟩
  | .bool b, _, _, x, r => by
    cases x
    cases r
    exact ⟨_, ReadsW.bool b⟩
  | .int i, _, _, x, r => by
    cases x
    obtain ⟨t, rfl⟩ := r
    exact ⟨_, ReadsW.int i t⟩
  | .str s, _, _, x, r => by
    cases x
    obtain ⟨t, rfl⟩ := r
    exact ⟨_, ReadsW.str s t⟩
  | .bytes b, _, _, x, r => by
    cases x
    obtain ⟨t, rfl⟩ := r
    exact ⟨_, ReadsW.bytes _ t⟩
  | .list ds, _, _, x, r => by
    cases x with
    | lst hs ha =>
      cases r
      obtain ⟨its, o, n, rv, ho, hc, hd⟩ := sqL_at hok KX hs
      obtain ⟨as, hr⟩ := Dw.readsAll hok KX ds _ its ha rv
      exact ⟨_, ReadsW.list ho hc hd hr⟩
  | .tuple ds, _, _, x, r => by
    cases x with
    | tup hs ha =>
      cases r
      obtain ⟨its, o, n, rv, ho, hc, hd⟩ := sqT_at hok KX hs
      obtain ⟨as, hr⟩ := Dw.readsAll hok KX ds _ its ha rv
      exact ⟨_, ReadsW.tuple ho hc hd hr⟩
  | .float _, _, _, x, _ => by cases x
  | .dict _, _, _, x, _ => by cases x
  | .bytearray _, _, _, x, _ => by cases x
  | .set _, _, _, x, _ => by cases x
  | .frozenset _, _, _, x, _ => by cases x
  | .obj _ _, _, _, x, _ => by cases x
theorem Dw.readsAll (hok : HOk P w H h) (KX : K.In h) : ∀ (ds : List WData) (vs : List V) (us : List Value), DwAll K H vs ds → Vals vs us → ∃ as, ReadsAllW R cl h us ds as
  | [], _, _, x, r => by
    cases x
    cases r
    exact ⟨_, ReadsAllW.nil⟩
  | d :: ds, _, _, x, r => by
    cases x with
    | cons h1 h2 =>
      cases r with
      | cons r1 r2 =>
        obtain ⟨as, q1⟩ := Dw.reads hok KX d _ _ h1 r1
        obtain ⟨bs, q2⟩ := Dw.readsAll hok KX ds _ _ h2 r2
        exact ⟨_, ReadsAllW.cons q1 q2⟩
end
end
mutual
noncomputable def plW : WData → Bool
  | .none => true
  | .bool _ => true
  | .int _ => true
  | .str _ => true
  | .bytes _ => true
  | .list xs => plWs xs
  | .tuple xs => plWs xs
  | _ => false
noncomputable def plWs : List WData → Bool
  | [] => true
  | x :: r => plW x && plWs r
end
theorem plWs_map {α : Type} {f : α → WData} (h : ∀ a, plW (f a) = true) : ∀ l : List α, plWs (l.map f) = true
  | [] => rfl
  | x :: r => by
    show (plW (f x) && plWs (r.map f)) = true
    rw [h x, plWs_map h r] <;> rfl
theorem pl_enc : ∀ (c : Codec) (a : c.denote), plW (c.enc a) = true
  | .unit, _ => rfl
  | .bool, _ => rfl
  | .int _ _, _ => rfl
  | .nat _ _, _ => rfl
  | .u8, _ => rfl
  | .bytes _ _, _ => rfl
  | .text _ _ _ _, _ => rfl
  | .list _ _ c, a => plWs_map (fun x => pl_enc c x) a
  | .pair c d, a => by
    show (plW (c.enc a.1) && (plW (d.enc a.2) && true)) = true
    rw [pl_enc c a.1, pl_enc d a.2] <;> rfl
  | .triple c d e, a => by
    show (plW (c.enc a.1) && (plW (d.enc a.2.1) && (plW (e.enc a.2.2) && true))) = true
    rw [pl_enc c a.1, pl_enc d a.2.1, pl_enc e a.2.2] <;> rfl
  | .option c, none => rfl
  | .option c, some x => pl_enc c x
theorem pl_encAll : ∀ (cs : List Codec) (a : Codec.denoteAll cs), plWs (Codec.encAll cs a) = true
  | [], _ => rfl
  | c :: cs, a => by
    show (plW (c.enc a.1) && plWs (Codec.encAll cs a.2)) = true
    rw [pl_enc c a.1, pl_encAll cs a.2] <;> rfl
theorem weight_mem : ∀ {xs : List WData} {d : WData}, d ∈ xs → d.weight ≤ WData.weightAll xs
  | [], d, h => absurd h (by simp)
  | x :: r, d, h => by
    show d.weight ≤ x.weight + 1 + WData.weightAll r
    rcases List.mem_cons.mp h with e | m
    · rw [e]
      omega
    · have z := weight_mem m
      omega
noncomputable def toV : Value → V
  | .none => .non
  | .bool b => .bl b
  | .int i _ => .int i
  | .str x _ => .str x
  | .bytes b _ => .byt b
  | .ref a => .ref a
  | _ => .non
noncomputable def OkU (A : List Addr) : Value → Prop
  | .none => True
  | .bool _ => True
  | .int _ _ => True
  | .str _ _ => True
  | .bytes _ _ => True
  | .ref a => a ∈ A
  | _ => False
theorem OkU.mono {A B : List Addr} (h : ∀ a ∈ A, a ∈ B) : ∀ {u : Value}, OkU A u → OkU B u := fun {u} x => by
  cases u with
  | ref a => exact h a x
  | none => trivial
  | bool b => trivial
  | int i t => trivial
  | str s t => trivial
  | bytes b t => trivial
  | _ => exact False.elim x
theorem relV_toV {A : List Addr} {u : Value} (x : OkU A u) : RelV (toV u) u := by
  cases u with
  | ref a => rfl
  | none => rfl
  | bool b => rfl
  | int i t => exact ⟨t, rfl⟩
  | str s t => exact ⟨t, rfl⟩
  | bytes b t => exact ⟨t, rfl⟩
  | _ => exact False.elim x
theorem vals_toV {A : List Addr} : ∀ {vs : List Value}, (∀ u ∈ vs, OkU A u) → Vals (vs.map toV) vs
  | [], _ => .nil
  | u :: r, h => .cons (relV_toV (h u (List.mem_cons_self ..))) (vals_toV fun x hx => h x (List.mem_cons_of_mem _ hx))
noncomputable def ArgOb (h : Heap) (A : List Addr) (a : Addr) : Prop := ∃ vs : List Value, vs.length ≤ sizeLine ∧ (∀ u ∈ vs, OkU A u) ∧
  (h.get? a = some { cls := .type "list", data := .seq vs.toArray } ∨ h.get? a = some { cls := .type "tuple", data := .seq vs.toArray })
theorem ArgOb.mono {h : Heap} {A B : List Addr} {a : Addr} (k : ∀ a ∈ A, a ∈ B) (x : ArgOb h A a) : ArgOb h B a := by
  obtain ⟨vs, h1, h2, h3⟩ := x
  exact ⟨vs, h1, fun u hu => (h2 u hu).mono k, h3⟩
theorem wellAll_len {P : Params} {h : Heap} : ∀ {vs : List Value} {ds : List WData}, WellAll P h vs ds → vs.length = ds.length
  | _, _, .nil => rfl
  | _, _, .cons _ b => by
    show _ + 1 = _ + 1
    rw [wellAll_len b]
theorem well_list {P : Params} {h : Heap} {v : Value} {ds : List WData} (x : Well P h v (.list ds)) : ∃ (a : Addr) (vs : List Value), v = .ref a ∧ h.get? a = some { cls := .type "list", data := .seq vs.toArray } ∧ WellAll P h vs ds := by
  cases x with
  | list ho hall => exact ⟨_, _, rfl, ho, hall⟩
theorem well_tuple {P : Params} {h : Heap} {v : Value} {ds : List WData} (x : Well P h v (.tuple ds)) : ∃ (a : Addr) (vs : List Value), v = .ref a ∧ h.get? a = some { cls := .type "tuple", data := .seq vs.toArray } ∧ WellAll P h vs ds := by
  cases x with
  | tuple ho hall => exact ⟨_, _, rfl, ho, hall⟩
theorem well_cons {P : Params} {h : Heap} {us : List Value} {d : WData} {ds : List WData} (x : WellAll P h us (d :: ds)) : ∃ (v : Value) (vs : List Value), us = v :: vs ∧ Well P h v d ∧ WellAll P h vs ds := by
  cases x with
  | cons a b => exact ⟨_, _, rfl, a, b⟩
theorem line_of {n : Nat} (h : n ≤ 1048576) : n ≤ sizeLine := Nat.le_trans h (by decide)
section
variable {P : Params} {h : Heap}
mutual
theorem area_one : ∀ (d : WData) (v : Value), Well P h v d → plW d = true → d.weight ≤ 1048576 → ∃ A : List Addr, OkU A v ∧ ∀ a ∈ A, ArgOb h A a
  | .none, _, x, _, _ => by
    cases x
    exact ⟨[], trivial, fun a m => absurd m (by simp)⟩
  | .bool b, _, x, _, _ => by
    cases x
    exact ⟨[], trivial, fun a m => absurd m (by simp)⟩
  | .int i, _, x, _, _ => by
    cases x
    exact ⟨[], trivial, fun a m => absurd m (by simp)⟩
  | .str s, _, x, _, _ => by
    cases x
    exact ⟨[], trivial, fun a m => absurd m (by simp)⟩
  | .bytes b, _, x, _, _ => by
    cases x
    exact ⟨[], trivial, fun a m => absurd m (by simp)⟩
  | .list ds, _, x, p, z => by
    obtain ⟨a, vs, rfl, ho, hall⟩ := well_list x
    have z2 : WData.weightAll ds ≤ 1048576 := z
    obtain ⟨A, h1, h2⟩ := area_all ds _ hall p fun d hd => Nat.le_trans (weight_mem hd) z2
    have k : ∀ b ∈ A, b ∈ a :: A := fun b hb => List.mem_cons_of_mem _ hb
    refine ⟨a :: A, List.mem_cons_self .., fun b hb => ?_⟩
    rcases List.mem_cons.mp hb with e | m
    · rw [e]
      exact ⟨vs, line_of (by rw [wellAll_len hall]; exact Nat.le_trans (PySem.W.length_le_weightAllW ds) z2), fun u hu => (h1 u hu).mono k, .inl ho⟩
    · exact (h2 b m).mono k
  | .tuple ds, _, x, p, z => by
    obtain ⟨a, vs, rfl, ho, hall⟩ := well_tuple x
    have z2 : WData.weightAll ds ≤ 1048576 := z
    obtain ⟨A, h1, h2⟩ := area_all ds _ hall p fun d hd => Nat.le_trans (weight_mem hd) z2
    have k : ∀ b ∈ A, b ∈ a :: A := fun b hb => List.mem_cons_of_mem _ hb
    refine ⟨a :: A, List.mem_cons_self .., fun b hb => ?_⟩
    rcases List.mem_cons.mp hb with e | m
    · rw [e]
      exact ⟨vs, line_of (by rw [wellAll_len hall]; exact Nat.le_trans (PySem.W.length_le_weightAllW ds) z2), fun u hu => (h1 u hu).mono k, .inr ho⟩
    · exact (h2 b m).mono k
  | .float _, _, _, p, _ => Bool.noConfusion (show false = true from p)
  | .dict _, _, _, p, _ => Bool.noConfusion (show false = true from p)
  | .bytearray _, _, _, p, _ => Bool.noConfusion (show false = true from p)
  | .set _, _, _, p, _ => Bool.noConfusion (show false = true from p)
  | .frozenset _, _, _, p, _ => Bool.noConfusion (show false = true from p)
  | .obj _ _, _, _, p, _ => Bool.noConfusion (show false = true from p)
theorem area_all : ∀ (ds : List WData) (vs : List Value), WellAll P h vs ds → plWs ds = true → (∀ d ∈ ds, d.weight ≤ 1048576) → ∃ A : List Addr, (∀ u ∈ vs, OkU A u) ∧ ∀ a ∈ A, ArgOb h A a
  | [], _, x, _, _ => by
    cases x
    exact ⟨[], fun u m => absurd m (by simp), fun a m => absurd m (by simp)⟩
  | d :: ds, _, x, p, z => by
    obtain ⟨v, vs, rfl, x1, x2⟩ := well_cons x
    have q : plW d = true ∧ plWs ds = true := Bool.and_eq_true_iff.mp p
    obtain ⟨A, a1, a2⟩ := area_one d v x1 q.1 (z d (List.mem_cons_self ..))
    obtain ⟨B, b1, b2⟩ := area_all ds vs x2 q.2 fun e he => z e (List.mem_cons_of_mem _ he)
    have kA : ∀ b ∈ A, b ∈ A ++ B := fun b hb => List.mem_append.mpr (.inl hb)
    have kB : ∀ b ∈ B, b ∈ A ++ B := fun b hb => List.mem_append.mpr (.inr hb)
    refine ⟨A ++ B, fun u hu => ?_, fun b hb => ?_⟩
    · rcases List.mem_cons.mp hu with e | m
      · rw [e]
        exact a1.mono kA
      · exact (b1 u m).mono kB
    · rcases List.mem_append.mp hb with m | m
      · exact (a2 b m).mono kA
      · exact (b2 b m).mono kB
end
end
noncomputable def hoOf (o : Obj) : Option HO := match o.data with
  | .seq vs _ => if (o.cls == Value.type "list") = true then some (.frz o (.lst (vs.toList.map toV))) else some (.frz o (.tup (vs.toList.map toV)))
  | _ => none
noncomputable def argH (K : PySem.W.Frag) (h : Heap) (A : List Addr) : Hp := fun b => if b ∈ A then (if (K.lookup b).isNone = true then (h.get? b).bind hoOf else none) else none
noncomputable def OnlyF (H : Hp) : Prop := ∀ b, H b = none ∨ ∃ o u, H b = some (.frz o u)
theorem hoOf_lst (vs : List Value) : hoOf { cls := .type "list", data := .seq vs.toArray } = some (.frz { cls := .type "list", data := .seq vs.toArray } (.lst (vs.map toV))) := by
  show (if (Value.type "list" == Value.type "list") = true then some (HO.frz { cls := .type "list", data := .seq vs.toArray } (.lst (vs.toArray.toList.map toV))) else some (HO.frz { cls := .type "list", data := .seq vs.toArray } (.tup (vs.toArray.toList.map toV)))) = _
  rw [if_pos (beq_self_eq_true _)]
theorem hoOf_tup (vs : List Value) : hoOf { cls := .type "tuple", data := .seq vs.toArray } = some (.frz { cls := .type "tuple", data := .seq vs.toArray } (.tup (vs.map toV))) := by
  show (if (Value.type "tuple" == Value.type "list") = true then some (HO.frz { cls := .type "tuple", data := .seq vs.toArray } (.lst (vs.toArray.toList.map toV))) else some (HO.frz { cls := .type "tuple", data := .seq vs.toArray } (.tup (vs.toArray.toList.map toV)))) = _
  rw [if_neg (by decide)]
section
variable {P : Program} {w : World} {K : PySem.W.Frag} {h : Heap} {A : List Addr}
theorem argH_at {b : Addr} {o : Obj} (hb : b ∈ A) (hk : K.lookup b = none) (e : h.get? b = some o) : argH K h A b = hoOf o := by
  unfold argH
  rw [if_pos hb, hk, if_pos (show (none : Option Obj).isNone = true from rfl), e] <;> rfl
theorem of_argH {b : Addr} {u : HO} (q : argH K h A b = some u) : b ∈ A ∧ K.lookup b = none := by
  unfold argH at q
  by_cases hb : b ∈ A
  · rw [if_pos hb] at q
    cases hk : K.lookup b with
    | none => exact ⟨hb, rfl⟩
    | some o =>
      rw [hk, if_neg (by simp)] at q
      cases q
  · rw [if_neg hb] at q
    cases q
theorem argH_is (ar : ∀ a ∈ A, ArgOb h A a) {b : Addr} {u : HO} (q : argH K h A b = some u) : K.lookup b = none ∧ ∃ vs : List Value, vs.length ≤ sizeLine ∧ (∀ u ∈ vs, OkU A u) ∧
    ((h.get? b = some { cls := .type "list", data := .seq vs.toArray } ∧ u = .frz { cls := .type "list", data := .seq vs.toArray } (.lst (vs.map toV))) ∨
     (h.get? b = some { cls := .type "tuple", data := .seq vs.toArray } ∧ u = .frz { cls := .type "tuple", data := .seq vs.toArray } (.tup (vs.map toV)))) := by
  obtain ⟨hb, hk⟩ := of_argH q
  obtain ⟨vs, h1, h2, h3⟩ := ar b hb
  refine ⟨hk, vs, h1, h2, ?_⟩
  rcases h3 with e | e
  · rw [argH_at hb hk e, hoOf_lst] at q
    exact .inl ⟨e, (Option.some.inj q).symm⟩
  · rw [argH_at hb hk e, hoOf_tup] at q
    exact .inr ⟨e, (Option.some.inj q).symm⟩
theorem argH_only (ar : ∀ a ∈ A, ArgOb h A a) : OnlyF (argH K h A) := fun b => by
  cases q : argH K h A b with
  | none => exact .inl rfl
  | some u =>
    obtain ⟨_, vs, _, _, ⟨_, e⟩ | ⟨_, e⟩⟩ := argH_is ar q
    · exact .inr ⟨_, _, by rw [e]⟩
    · exact .inr ⟨_, _, by rw [e]⟩
theorem argH_ok (ar : ∀ a ∈ A, ArgOb h A a) : HOk P w (argH K h A) h := fun b u q => by
  obtain ⟨_, vs, h1, h2, ⟨e, rfl⟩ | ⟨e, rfl⟩⟩ := argH_is ar q
  · exact ⟨e, by rw [List.length_map]; exact h1, vs, _, vals_toV h2, e⟩
  · exact ⟨e, by rw [List.length_map]; exact h1, vs, vals_toV h2, _, e, rfl, _, rfl⟩
theorem seq_inj {c c' : Value} {vs us : List Value} (e : (some { cls := c, data := .seq vs.toArray } : Option Obj) = some { cls := c', data := .seq us.toArray }) : c = c' ∧ vs = us := by
  have e1 := Option.some.inj e
  have e2 : c = c' := congrArg Obj.cls e1
  have e3 : Data.seq vs.toArray = Data.seq us.toArray := congrArg Obj.data e1
  injection e3 with e4
  refine ⟨e2, ?_⟩
  have e5 := congrArg Array.toList e4
  simpa using e5
theorem argL (KX : K.In h) (ar : ∀ a ∈ A, ArgOb h A a) {a : Addr} {vs : List Value} (ha : a ∈ A) (e : h.get? a = some { cls := .type "list", data := .seq vs.toArray }) : (∀ u ∈ vs, OkU A u) ∧ SqL K (argH K h A) a (vs.map toV) := by
  obtain ⟨us, h1, h2, h3⟩ := ar a ha
  have hu : us = vs := by
    rcases h3 with q | q
    · rw [e] at q
      exact (seq_inj q).2.symm
    · rw [e] at q
      exact absurd (Value.type.inj (seq_inj q).1) (by decide)
  subst hu
  refine ⟨h2, ?_⟩
  cases hk : K.lookup a with
  | none => exact .inl (.inr ⟨_, by rw [argH_at ha hk e, hoOf_lst]⟩)
  | some o =>
    have e2 := KX a o hk
    rw [e] at e2
    obtain rfl := Option.some.inj e2
    exact .inr ⟨_, us.toArray, _, hk, rfl, rfl, rfl, by rw [List.size_toArray]; exact h1, by simpa using vals_toV h2⟩
theorem argT (KX : K.In h) (ar : ∀ a ∈ A, ArgOb h A a) {a : Addr} {vs : List Value} (ha : a ∈ A) (e : h.get? a = some { cls := .type "tuple", data := .seq vs.toArray }) : (∀ u ∈ vs, OkU A u) ∧ SqT K (argH K h A) a (vs.map toV) := by
  obtain ⟨us, h1, h2, h3⟩ := ar a ha
  have hu : us = vs := by
    rcases h3 with q | q
    · rw [e] at q
      exact absurd (Value.type.inj (seq_inj q).1) (by decide)
    · rw [e] at q
      exact (seq_inj q).2.symm
  subst hu
  refine ⟨h2, ?_⟩
  cases hk : K.lookup a with
  | none => exact .inl (.inr ⟨_, by rw [argH_at ha hk e, hoOf_tup]⟩)
  | some o =>
    have e2 := KX a o hk
    rw [e] at e2
    obtain rfl := Option.some.inj e2
    exact .inr ⟨_, us.toArray, _, hk, rfl, rfl, by rw [List.size_toArray]; exact h1, by simpa using vals_toV h2⟩
mutual
theorem dw_one {Pm : Params} (KX : K.In h) (ar : ∀ a ∈ A, ArgOb h A a) : ∀ (d : WData) (v : Value), Well Pm h v d → plW d = true → OkU A v → Dw K (argH K h A) (toV v) d
  | .none, _, x, _, _ => by
    cases x
    exact .non
  | .bool b, _, x, _, _ => by
    cases x
    exact .bl b
  | .int i, _, x, _, _ => by
    cases x
    exact .int i
  | .str s, _, x, _, _ => by
    cases x
    exact .str s
  | .bytes b, _, x, _, _ => by
    cases x
    have z := Dw.byt (K := K) (H := argH K h A) b.toArray
    exact z
  | .list ds, _, x, p, hu => by
    obtain ⟨a, vs, rfl, ho, hall⟩ := well_list x
    obtain ⟨h2, hs⟩ := argL KX ar hu ho
    exact .lst hs (dw_all KX ar ds _ hall p h2)
  | .tuple ds, _, x, p, hu => by
    obtain ⟨a, vs, rfl, ho, hall⟩ := well_tuple x
    obtain ⟨h2, hs⟩ := argT KX ar hu ho
    exact .tup hs (dw_all KX ar ds _ hall p h2)
  | .float _, _, _, p, _ => Bool.noConfusion (show false = true from p)
  | .dict _, _, _, p, _ => Bool.noConfusion (show false = true from p)
  | .bytearray _, _, _, p, _ => Bool.noConfusion (show false = true from p)
  | .set _, _, _, p, _ => Bool.noConfusion (show false = true from p)
  | .frozenset _, _, _, p, _ => Bool.noConfusion (show false = true from p)
  | .obj _ _, _, _, p, _ => Bool.noConfusion (show false = true from p)
theorem dw_all {Pm : Params} (KX : K.In h) (ar : ∀ a ∈ A, ArgOb h A a) : ∀ (ds : List WData) (vs : List Value), WellAll Pm h vs ds → plWs ds = true → (∀ u ∈ vs, OkU A u) → DwAll K (argH K h A) (vs.map toV) ds
  | [], _, x, _, _ => by
    cases x
    exact .nil
  | d :: ds, _, x, p, hu => by
    obtain ⟨v, vs, rfl, x1, x2⟩ := well_cons x
    have q : plW d = true ∧ plWs ds = true := Bool.and_eq_true_iff.mp p
    exact .cons (dw_one KX ar d v x1 q.1 (hu _ (List.mem_cons_self ..))) (dw_all KX ar ds vs x2 q.2 fun u m => hu u (List.mem_cons_of_mem _ m))
end
end
theorem spec_call {P : Program} {w : World} {K : PySem.W.Frag} {mg mb : Str → Option Value} {CX : CXT} {k : Nat} {fa : Addr} {fd : FuncData} {ps : List Str} {sp : Sp} {s₁ : Shared} {vals : List Value} {ds : List WData} {R : PySem.W.WRecords} {cl : Str → Option Addr} {d0 : WData}
    (KX : K.In s₁.heap) (hns : s₁.heap.Ns mainGlobals mg) (hb : s₁.heap.Ns builtinsNs mb) (hbb : ∀ x : Str, x ≠ "__name__" → mb x = bootBuiltins x) (hlim : s₁.heap.NoLimit) (hg : s₁.gens = #[])
    (hwl : WellAll w.params s₁.heap vals ds) (hpl : plWs ds = true) (hwt : ∀ d ∈ ds, d.weight ≤ 1048576) (hr : Room k callerA)
    (F : ∀ base : Heap, K.In base → base.Ns mainGlobals mg → FnOk P w K mg base CX k fa fd ps sp) (hbind : ∀ (s : Shared) (us : List Value), us.length = ps.length → BindsTo s fd ⟨us, []⟩ (ps.zip us)) (hlen : ds.length = ps.length)
    (hsp : ∀ (H : Hp) (xs : List V), OnlyF H → DwAll K H xs ds → sp xs H (fun v H' => Dw K H' v d0) fun _ _ _ => False)
    (hCX : ∀ H e s', CX [] H s₁ (fun _ _ _ => False) e s' → False) :
    codeAny (model P w) callerA (.call (.ref fa) ⟨vals, []⟩) (fun r s' => ∃ u as, r = .ok (.ret u) ∧ ReadsW R cl s'.heap u d0 as ∧ OldK s₁.heap s'.heap ∧ s'.os = s₁.os ∧ AllBare s'.gens) s₁ := by
  obtain ⟨A, ho, ar⟩ := area_all ds vals hwl hpl hwt
  have hO : OnlyF (argH K s₁.heap A) := argH_only ar
  have hok : HOk P w (argH K s₁.heap A) s₁.heap := argH_ok ar
  have hS := dw_all KX ar ds vals hwl hpl ho
  have hV := vals_toV ho
  have hK : ∀ b u, argH K s₁.heap A b = some u → K.lookup b = none := fun b u q => (argH_is ar q).1
  have noA : ∀ {b : Addr} {o : Obj} {es : Array DictEntry} {ep : Nat}, s₁.heap.get? b = some o → o.data = .dict es ep → argH K s₁.heap A b = none := fun {b o es ep} e d => by
    cases q : argH K s₁.heap A b with
    | none => rfl
    | some u =>
      obtain ⟨_, vs, _, _, ⟨e2, _⟩ | ⟨e2, _⟩⟩ := argH_is ar q
      · rw [e2] at e
        cases e
        have d' : Data.seq vs.toArray _ = Data.dict es ep := d
        cases d'
      · rw [e2] at e
        cases e
        have d' : Data.seq vs.toArray _ = Data.dict es ep := d
        cases d'
  generalize argH K s₁.heap A = H at hO hok hS hK noA
  have base_of : ∀ {b : Addr} {o : Obj}, s₁.heap.get? b = some o → H b = none → (hidT s₁.heap H).get? b = some o := fun e n => hidT_get e n
  have nsK : ∀ {b : Addr} {m : Str → Option Value}, s₁.heap.Ns b m → (hidT s₁.heap H).Ns b m := fun {b m} ⟨o, es, ep, e, d, r⟩ => ⟨o, es, ep, base_of e (noA e d), d, r⟩
  have nK : ∀ b o, K.lookup b = some o → H b = none := fun b o e => by
    cases q : H b with
    | none => rfl
    | some u =>
      rw [hK b u q] at e
      cases e
  have hKb : K.In (hidT s₁.heap H) := fun b o e => base_of (KX b o e) (nK b o e)
  have hM : Mod K mg (hidT s₁.heap H) := ⟨hKb, nsK hns, ⟨mb, nsK hb, hbb⟩, let ⟨mc, h1, h2⟩ := hlim; ⟨mc, nsK h1, h2⟩⟩
  have e0 : Env0 P w K mg (hidT s₁.heap H) callerA [] s₁ H := ⟨rfl, hM, fun b o e => of_hidT e, Nat.le_of_eq (hidT_size _ _), trivial, fun b hb => absurd (show b ∈ ([] : List Addr) from hb) (by simp), hok, .of_eq hg⟩
  have hl : vals.length = ps.length := by rw [wellAll_len hwl]; exact hlen
  refine codeAny_mono ((F _ hKb (nsK hns)).run callerA [] s₁ H ⟨vals, []⟩ vals (vals.map toV) _ _ hr e0 (hbind s₁ vals hl) hV (hsp H _ hO hS)) fun r s' x => ?_
  cases r with
  | error e => exact (hCX H e s' x).elim
  | ok fl =>
    cases fl with
    | next => exact False.elim x
    | brk => exact False.elim x
    | cont => exact False.elim x
    | ret u =>
      obtain ⟨v, H', os, bare, un, hok', r', q⟩ := x
      have kept : ∀ b o, s₁.heap.get? b = some o → s'.heap.get? b = some o := fun b o e => by
        cases q2 : H b with
        | none => exact un.keep b o e q2 (by intro z; exact absurd (show b ∈ ([] : List Addr) from z) (by simp)) (by simp)
        | some u2 =>
          rcases hO b with z | ⟨ob, u3, z⟩
          · rw [q2] at z
            cases z
          · have z2 := un.frzs b ob _ z
            obtain ⟨e1, _⟩ := hok b _ z
            obtain ⟨e2, _⟩ := hok' b _ z2
            rw [e] at e1
            cases e1
            exact e2
      have KX' : K.In s'.heap := fun b o e => kept b o (KX b o e)
      obtain ⟨as, hrd⟩ := Dw.reads (R := R) (cl := cl) hok' KX' d0 v u q r'
      exact ⟨u, as, rfl, hrd, OldK.of_keep kept, os, bare⟩
theorem layable_weight {ds : List WData} (h : WData.layableAll ds = true) : ∀ d ∈ ds, d.weight ≤ 1048576 := fun d hd =>
  (PySem.W.layableW_iff.mp (List.all_eq_true.mp h d hd)).2.2
theorem encAll_len : ∀ (cs : List Codec) (a : Codec.denoteAll cs), (Codec.encAll cs a).length = cs.length
  | [], _ => rfl
  | c :: cs, a => by
    show (Codec.encAll cs a.2).length + 1 = cs.length + 1
    rw [encAll_len cs a.2]
theorem walk_spec {r : OpenSpec} {k : Nat} {q : Program} {loose : List Str} {XP : (Str → Option Value) → Heap → Prop} {YP : World → Heap → Prop} {d : DefRec} {K : Params → PySem.W.Frag} {CX : World → CXT} {ps : List Str} {sp : World → Sp}
    (hwell : r.wellSaid = true) (hdf : d.params.defaults = []) (hlen : r.args.length = ps.length) (hr : Room k callerA)
    (hY : ∀ (w : World) (h : Heap), YP w h → (K w.params).In h)
    (F : ∀ (w : World) (mg : Str → Option Value) (fa : Addr) (h : Heap), YP w h → (K w.params).In h → h.Ns mainGlobals mg → mg d.name = some (.ref fa) →
      ∃ fd : FuncData, (∀ (s : Shared) (us : List Value), us.length = ps.length → BindsTo s fd ⟨us, []⟩ (ps.zip us)) ∧
        ∀ base : Heap, (K w.params).In base → base.Ns mainGlobals mg → FnOk r.prog w (K w.params) mg base (CX w) k fa fd ps (sp w))
    (hsp : ∀ (w : World) (H : Hp) (xs : List V) (a : Codec.denoteAll r.args), OnlyF H → Codec.withinAll r.args a = true → Codec.app r.args r.asked a = true → DwAll (K w.params) H xs (Codec.encAll r.args a) →
      sp w xs H (fun v H' => Dw (K w.params) H' v (r.ret.enc (Codec.app r.args r.f a))) fun _ _ _ => False)
    (hCX : ∀ (w : World) (H : Hp) (s : Shared) (e : Value) (s' : Shared), CX w [] H s (fun _ _ _ => False) e s' → False) :
    PySem.W.WalkOS q loose XP YP r d [] (fun f vs => PySem.call f vs) := by
  intro w s_0 s₁ mg mb G Y fa o pm cd doc dV kV ho hd hcd hD hmg hg args vals as hpre hlay hrd hwl hlo
  obtain ⟨a, e1, e2⟩ := PySem.W.os_pre_some hpre
  obtain ⟨e3, hwi⟩ := Codec.encAll_of_decAll r.args args a e1
  subst e3
  have KX := hY w _ Y
  obtain ⟨fd, hb, hF⟩ := F w mg fa _ Y KX G.T.g hmg
  refine PySem.W.enter_call (codeAny_mono (spec_call (R := []) (cl := classAt s_0.heap) (d0 := r.ret.enc (Codec.app r.args r.f a)) KX G.T.g G.T.b G.T.builtins G.T.nolimit hg hwl (pl_encAll _ _) (layable_weight hlay) hr hF hb (by rw [encAll_len]; exact hlen)
    (fun H xs hO hS => hsp w H xs a hO hwi e2 hS) fun H e s' => hCX w H s₁ e s') fun r' s' hq => ?_)
  obtain ⟨u, as', rfl, h1, h2, h3, h4⟩ := hq
  exact ⟨.inl ⟨u, _, as', rfl, fun _ => rfl, h1, (OpenSpec.post_iff hwell hwi _ _).mpr rfl, fun z => Bool.noConfusion (show false = true from z)⟩, h2, h3, h4⟩
theorem walk_specK {r : OpenSpec} {k : Nat} {q : Program} {loose : List Str} {XP : (Str → Option Value) → Heap → Prop} {YP : World → Heap → Prop} {d : DefRec} {K : Params → PySem.W.Frag} {CX : CXT} {ps : List Str} {sp : PySem.W.Frag → Sp}
    (hwell : r.wellSaid = true) (hdf : d.params.defaults = []) (hlen : r.args.length = ps.length) (hr : Room k callerA)
    (hY : ∀ (w : World) (h : Heap), YP w h → (K w.params).In h)
    (F : ∀ (w : World) (mg : Str → Option Value) (fa : Addr) (h : Heap), YP w h → (K w.params).In h → h.Ns mainGlobals mg → mg d.name = some (.ref fa) →
      ∃ fd : FuncData, (∀ (s : Shared) (us : List Value), us.length = ps.length → BindsTo s fd ⟨us, []⟩ (ps.zip us)) ∧
        ∀ base : Heap, (K w.params).In base → base.Ns mainGlobals mg → FnOk r.prog w (K w.params) mg base CX k fa fd ps (sp (K w.params)))
    (hsp : ∀ (K : PySem.W.Frag) (H : Hp) (xs : List V) (a : Codec.denoteAll r.args), OnlyF H → Codec.withinAll r.args a = true → Codec.app r.args r.asked a = true → DwAll K H xs (Codec.encAll r.args a) →
      sp K xs H (fun v H' => Dw K H' v (r.ret.enc (Codec.app r.args r.f a))) fun _ _ _ => False)
    (hCX : ∀ (H : Hp) (s : Shared) (e : Value) (s' : Shared), CX [] H s (fun _ _ _ => False) e s' → False) :
    PySem.W.WalkOS q loose XP YP r d [] (fun f vs => PySem.call f vs) :=
  walk_spec (K := K) (CX := fun _ => CX) (sp := fun w => sp (K w.params)) hwell hdf hlen hr hY F (fun w H xs a h1 h2 h3 h4 => hsp (K w.params) H xs a h1 h2 h3 h4) fun _ H s e s' => hCX H s e s'
end L2
end
end
section
namespace SS
open PySem

noncomputable abbrev Ris (xs : Array Nat) : Prop := xs.toList.Pairwise (· < ·)
theorem ris_lt {xs : Array Nat} (h : Ris xs) {i j : Nat} {a b : Nat} (hij : i < j) (ha : xs[i]? = some a) (hb : xs[j]? = some b) : a < b := by
  rw [← Array.getElem?_toList] at ha hb
  obtain ⟨h1, e1⟩ := List.getElem?_eq_some_iff.mp ha
  obtain ⟨h2, e2⟩ := List.getElem?_eq_some_iff.mp hb
  have := List.pairwise_iff_getElem.mp h i j h1 h2 hij
  rw [e1, e2] at this
  exact this
structure Cut (xs : Array Nat) (j k : Nat) : Prop where
  le : k ≤ xs.size
  lo : ∀ i a, i < k → xs[i]? = some a → a < j
  hi : ∀ i a, k ≤ i → xs[i]? = some a → j ≤ a
theorem below_go {xs : Array Nat} (h : Ris xs) {j : Nat} : ∀ (fuel lo hi : Nat), lo ≤ hi → hi ≤ xs.size → hi - lo ≤ fuel → (∀ i a, i < lo → xs[i]? = some a → a < j) → (∀ i a, hi ≤ i → xs[i]? = some a → j ≤ a) → Cut xs j (SetTable.below.go xs j fuel lo hi)
  | 0, lo, hi, h1, h2, h3, h4, h5 => by
    have e : lo = hi := by omega
    subst e
    unfold SetTable.below.go
    exact ⟨h2, h4, h5⟩
  | fuel + 1, lo, hi, h1, h2, h3, h4, h5 => by
    unfold SetTable.below.go
    by_cases hlt : lo < hi
    · rw [if_pos hlt]
      dsimp only
      have hm : (lo + hi) / 2 < xs.size := by omega
      have hget : xs[(lo + hi) / 2]? = some (xs.getD ((lo + hi) / 2) j) := by
        rw [Array.getD_eq_getD_getElem?, Array.getElem?_eq_getElem hm]; rfl
      by_cases hc : xs.getD ((lo + hi) / 2) j < j
      · rw [if_pos hc]
        refine below_go h fuel _ hi (by omega) h2 (by omega) (fun i a hi' ha => ?_) h5
        by_cases e : i = (lo + hi) / 2
        · subst e; rw [hget] at ha; cases ha; exact hc
        · exact Nat.lt_trans (ris_lt h (by omega) ha hget) hc
      · rw [if_neg hc]
        refine below_go h fuel lo _ (by omega) (by omega) (by omega) h4 (fun i a hi' ha => ?_)
        by_cases e : i = (lo + hi) / 2
        · subst e; rw [hget] at ha; cases ha; omega
        · have := ris_lt h (show (lo + hi) / 2 < i by omega) hget ha
          omega
    · rw [if_neg hlt]
      have e : lo = hi := by omega
      subst e
      exact ⟨h2, h4, h5⟩
theorem below_cut {xs : Array Nat} (h : Ris xs) (j : Nat) : Cut xs j (SetTable.below xs j) :=
  below_go h xs.size 0 xs.size (Nat.zero_le _) (Nat.le_refl _) (by omega) (fun i a hi => absurd hi (Nat.not_lt_zero _)) (fun i a hi ha => by
    rw [Array.getElem?_eq_none hi] at ha; cases ha)
theorem cut_one {xs : Array Nat} (h : Ris xs) {j k k' : Nat} (c : Cut xs j k) (c' : Cut xs j k') : k = k' := by
  rcases Nat.lt_trichotomy k k' with q | q | q
  · have hk : k < xs.size := Nat.lt_of_lt_of_le q c'.le
    have h1 := c'.lo k _ q (Array.getElem?_eq_getElem hk)
    have h2 := c.hi k _ (Nat.le_refl _) (Array.getElem?_eq_getElem hk)
    omega
  · exact q
  · have hk : k' < xs.size := Nat.lt_of_lt_of_le q c.le
    have h1 := c.lo k' _ q (Array.getElem?_eq_getElem hk)
    have h2 := c'.hi k' _ (Nat.le_refl _) (Array.getElem?_eq_getElem hk)
    omega
theorem ris_insert {xs : Array Nat} (h : Ris xs) {j : Nat} (hn : xs[SetTable.below xs j]? ≠ some j) : Ris (SetTable.insertAt xs (SetTable.below xs j) j) := by
  have c := below_cut h j
  unfold Ris
  rw [SetTable.toList_insertAt]
  have hs : (xs.toList.take (SetTable.below xs j) ++ xs.toList.drop (SetTable.below xs j)).Pairwise (· < ·) := by rw [List.take_append_drop]; exact h
  obtain ⟨p1, p2, p3⟩ := List.pairwise_append.mp hs
  have low : ∀ a ∈ xs.toList.take (SetTable.below xs j), a < j := fun a ha => by
    obtain ⟨i, hi, e⟩ := List.mem_take_iff_getElem.mp ha
    have : xs[i]? = some a := by rw [← Array.getElem?_toList, ← e]; exact List.getElem?_eq_getElem _
    exact c.lo i a (by omega) this
  have high : ∀ b ∈ xs.toList.drop (SetTable.below xs j), j < b := fun b hb => by
    obtain ⟨i, hi, e⟩ := List.mem_iff_getElem.mp hb
    have hx : xs[SetTable.below xs j + i]? = some b := by
      rw [← Array.getElem?_toList, ← List.getElem?_drop, ← e]; exact List.getElem?_eq_getElem _
    have h1 := c.hi _ b (by omega) hx
    by_cases q : b = j
    · subst q
      cases i with
      | zero => exact absurd hx hn
      | succ i =>
        have hb' : SetTable.below xs b < xs.size := by
          have := (Array.getElem?_eq_some_iff.mp hx).1
          omega
        have h2 := c.hi _ _ (Nat.le_refl _) (Array.getElem?_eq_getElem hb')
        have h3 := ris_lt h (show SetTable.below xs b < SetTable.below xs b + (i + 1) by omega) (Array.getElem?_eq_getElem hb') hx
        omega
    · omega
  refine List.pairwise_append.mpr ⟨p1, List.pairwise_cons.mpr ⟨fun b hb => high b hb, p2⟩, fun a ha b hb => ?_⟩
  rcases List.mem_cons.mp hb with e | hb
  · subst e; exact low a ha
  · exact Nat.lt_trans (low a ha) (high b hb)
theorem ris_range (n : Nat) : Ris (Array.range n) := by
  unfold Ris
  rw [Array.toList_range]; exact List.pairwise_lt_range

noncomputable def Bare (t : SetTable) (j : Nat) : Prop := t.place[SetTable.below t.place j]? ≠ some j
theorem slot_bare {t : SetTable} {j : Nat} (h : ∀ i, t.slot j ≠ .live i) : Bare t j := by
  intro e
  apply h (SetTable.below t.place j)
  unfold SetTable.slot
  dsimp only
  rw [e]
  simp
theorem probe_bare {t : SetTable} {f : Nat → Int} {h : Int} : ∀ (fuel : Nat) (p : SetTable.Probe) {j : Nat} {dm : Option Nat}, (∀ d, p.dummy = some d → Bare t d) → SetTable.probe.go t f h fuel p = some (.empty j dm) → Bare t (dm.getD j)
  | 0, p, j, dm, _, e => by unfold SetTable.probe.go at e; cases e
  | fuel + 1, p, j, dm, hp, e => by
    unfold SetTable.probe.go at e
    cases hs : t.slot p.j with
    | empty =>
      rw [hs] at e
      cases e
      cases hd : p.dummy with
      | none => exact slot_bare (j := p.j) fun i q => by rw [hs] at q; cases q
      | some d => exact hp d hd
    | dummy =>
      rw [hs] at e
      refine probe_bare fuel _ (fun d hd => ?_) e
      have hb : Bare t p.j := slot_bare fun i q => by rw [hs] at q; cases q
      unfold SetTable.advance at hd
      split at hd
      · cases hd; exact hb
      · cases hd; exact hb
    | live i =>
      rw [hs] at e
      dsimp only at e
      split at e
      · cases e
      · refine probe_bare fuel _ (fun d hd => hp d ?_) e
        unfold SetTable.advance at hd
        split at hd
        · exact hd
        · exact hd
theorem free_bare {t : SetTable} {h : Int} {slot : Nat} {b : Bool} (e : t.freeSlot h = some (slot, b)) : Bare t slot := by
  unfold SetTable.freeSlot at e
  cases hp : t.probe (fun _ => h + 1) h (t.probeStart h) with
  | none => rw [hp] at e; cases e
  | some mt =>
    rw [hp] at e
    cases mt with
    | empty j dm =>
      cases e
      unfold SetTable.probe at hp
      exact probe_bare _ _ (fun d hd => by cases hd) hp
    | candidate j i nx => cases e

structure Tb (led : Bool) (t : SetTable) : Prop where
  led : t.led = led
  ris : Ris t.place
theorem tb_fresh {led : Bool} (a b : Nat) : Tb led (.fresh a b led) := ⟨rfl, List.Pairwise.nil⟩
theorem tb_standIn {led : Bool} {t : SetTable} (h : Tb led t) (n : Nat) : Tb led (t.standIn n) := ⟨h.led, ris_range n⟩
theorem tb_plain {led : Bool} {t : SetTable} (h : Tb led t) (b : Bool) : Tb led { t with plain := b } := ⟨h.led, h.ris⟩
theorem tb_layNew {led : Bool} {t : SetTable} (h : Tb led t) (es : Array (Int × Value)) (k : Int) (x : Value) : Tb led (layNew t es k x).2.1 := by
  unfold layNew
  cases e : t.freeSlot k with
  | none => exact tb_standIn h _
  | some q =>
    obtain ⟨slot, b⟩ := q
    have hb := free_bare e
    have hp : Tb led (t.put slot).1 := ⟨h.led, ris_insert h.ris hb⟩
    show Tb led ((t.put slot).1.orStandIn _)
    unfold SetTable.orStandIn
    split
    · exact hp
    · exact tb_standIn hp _
theorem tb_relay {led : Bool} {t : SetTable} (h : Tb led t) (es : Array (Int × Value)) (n : Nat) : Tb led (relayAll t es n).2.1 := by
  unfold relayAll
  cases e : t.relaid (es.map (·.1)) n with
  | none => exact tb_standIn h _
  | some q =>
    obtain ⟨t', order⟩ := q
    dsimp only
    split
    · unfold SetTable.relaid SetTable.laid at e
      cases ho : SetTable.layClean (SetTable.sizeAbove n - 1) (es.map (·.1)) with
      | none => rw [ho] at e; cases e
      | some owner =>
        rw [ho] at e
        cases e
        refine ⟨h.led, ?_⟩
        show List.Pairwise (· < ·) (List.map (fun (x : Nat × Nat) => x.1) (List.filterMap (fun j => Option.map (fun x => (j, x)) (owner.getD j none)) (List.range (SetTable.sizeAbove n - 1 + 1))))
        rw [List.map_filterMap]
        refine List.Pairwise.filterMap (R := (· < ·)) _ (fun a a' haa b hb b' hb' => ?_) List.pairwise_lt_range
        cases q1 : owner.getD a none <;> rw [q1] at hb <;> simp at hb
        cases q2 : owner.getD a' none <;> rw [q2] at hb' <;> simp at hb'
        omega
    · exact tb_standIn h _

theorem perm_erase {α : Type} : ∀ {l : List α} {i : Nat} {x : α}, l[i]? = some x → (x :: l.eraseIdx i).Perm l
  | [], i, x, h => by simp at h
  | a :: l, 0, x, h => by
    have e : a = x := Option.some.inj h
    subst e; exact .refl _
  | a :: l, i + 1, x, h => by
    have ih := perm_erase (l := l) (i := i) (x := x) (by simpa using h)
    show (x :: a :: l.eraseIdx i).Perm (a :: l)
    exact (List.Perm.swap a x _).trans (ih.cons a)
theorem pick_go {α : Type} (next : Nat → Nat) : ∀ (fuel k : Nat) (left : List α) (out : Array α), left.length ≤ fuel → (pickOrder.go next fuel k left out).toList.Perm (out.toList ++ left)
  | 0, k, left, out, h => by
    have e : left = [] := List.length_eq_zero_iff.mp (by omega)
    subst e
    unfold pickOrder.go
    rw [List.append_nil]
  | fuel + 1, k, left, out, h => by
    unfold pickOrder.go
    cases e : left[next k % left.length]? with
    | none =>
      dsimp only
      have : left = [] := by
        cases left with
        | nil => rfl
        | cons a l =>
          have := List.getElem?_eq_none_iff.mp e
          have := Nat.mod_lt (next k) (show 0 < (a :: l).length by simp)
          omega
      subst this
      rw [List.append_nil]
    | some x =>
      dsimp only
      have hl : next k % left.length < left.length := (List.getElem?_eq_some_iff.mp e).1
      refine (pick_go next fuel (k + 1) _ _ (by rw [List.length_eraseIdx_of_lt hl]; omega)).trans ?_
      rw [Array.toList_push, List.append_assoc]
      exact (perm_erase e).append_left _
theorem pick_perm {α : Type} (next : Nat → Nat) (xs : Array α) : (pickOrder next xs).toList.Perm xs.toList := by
  unfold pickOrder
  have := pick_go next xs.size 0 xs.toList #[] (by simp)
  simpa using this
end SS
end
section
namespace SS
open PySem

noncomputable def numV : Value → Int
  | .int k _ => k
  | _ => 0
noncomputable def byText (w : World) : Bool := w.params.followText "set-order"
noncomputable def SetS (w : World) (h : Heap) (a : Addr) (ns : List Int) : Prop :=
  ∃ (o : Obj) (es : Array (Int × Value)) (ep : Nat) (t : SetTable), h.get? a = some o ∧ o.ExactSet ∧ o.data = .set es ep t ∧
    (∀ e ∈ es.toList, ∃ k u, e = (hashInt k, Value.int k u)) ∧ (es.toList.map fun e => numV e.2).Perm ns ∧ ns.Nodup ∧ es.size < scanBound ∧ t.fits es.size = true ∧ Tb (!byText w) t
section
variable {prog : Program} {w : World} {A : Around} {E : Value → Shared → Prop} {s : Shared} {a : Addr} {ns : List Int}
theorem elems_of {es : List (Int × Value)} (h : ∀ e ∈ es, ∃ k u, e = (hashInt k, Value.int k u)) : ElemsOf (intKind prog w) es := fun e he => by
  obtain ⟨k, u, rfl⟩ := h e he
  exact ⟨⟨k, intKind_is _ _ _ _, rfl⟩, rfl⟩
theorem is_num {e : Int × Value} {k : Int} (h : ∃ k u, e = (hashInt k, Value.int k u)) : (intKind prog w).is k e.2 = true ↔ numV e.2 = k := by
  obtain ⟨k', u, rfl⟩ := h
  show Value.isInt k (Value.int k' u) = true ↔ k' = k
  unfold Value.isInt
  constructor
  · intro q; simpa using q
  · intro q; simp [q]
theorem SetS.at_ {h h' : Heap} (x : SetS w h a ns) (k : ∀ o, h.get? a = some o → h'.get? a = some o) : SetS w h' a ns :=
  let ⟨o, es, ep, t, ho, r⟩ := x; ⟨o, es, ep, t, k o ho, r⟩
theorem SetS.lt {h : Heap} (x : SetS w h a ns) : a < h.objs.size := let ⟨_, _, _, _, ho, _⟩ := x; Heap.lt_size ho
theorem SetS.typeIs (x : SetS w s.heap a ns) : s.TypeIs (.ref a) "set" := let ⟨o, _, _, _, ho, hx, _⟩ := x; ⟨o, ho, hx.1⟩
theorem store_s {o : Obj} {es es' : Array (Int × Value)} {ep : Nat} {t t' : SetTable} {h : Heap} (ho : h.get? a = some o) (hex : o.ExactSet) (hd : o.data = .set es ep t)
    (hel : ∀ e ∈ es'.toList, ∃ k u, e = (hashInt k, Value.int k u)) (hpm : (es'.toList.map fun e => numV e.2).Perm ns) (hnd : ns.Nodup) (hb : es'.size < scanBound) (hf : t'.fits es'.size = true) (ht : Tb (!byText w) t') :
    (h.update a (Obj.putSet es' t')).get? a = some { o with data := .set es' (ep + 1) t' } ∧ SetS w (h.update a (Obj.putSet es' t')) a ns := by
  have hg : (h.update a (Obj.putSet es' t')).get? a = some { o with data := .set es' (ep + 1) t' } := by
    have q := Heap.get?_update_self (Obj.putSet es' t') ho (by rw [putSet_of es' t' hd]; rfl)
    rw [putSet_of es' t' hd] at q
    exact q
  exact ⟨hg, _, es', ep + 1, t', hg, hex, rfl, hel, hpm, hnd, hb, hf, ht⟩
theorem nums_push {es es1 : Array (Int × Value)} {k : Int} {u : Tok} (hpm : (es.toList.map fun e => numV e.2).Perm ns) (hp : es1.toList.Perm (es.toList ++ [(hashInt k, Value.int k u)])) : (es1.toList.map fun e => numV e.2).Perm (ns ++ [k]) := by
  refine (hp.map _).trans ?_
  rw [List.map_append]
  exact hpm.append_right _
theorem add_tail {g : Bool → Sem Unit} (hg : ∀ (b : Bool) (s1 : Shared) (Q' : Unit → Shared → Prop), Q' () s1 → wpAny (model prog w) A (g b) Q' E s1)
    {o : Obj} {es es1 : Array (Int × Value)} {ep : Nat} {t t2 : SetTable} (ho : s.heap.get? a = some o) (hex : o.ExactSet) (hd : o.data = .set es ep t)
    (hel : ∀ e ∈ es1.toList, ∃ k u, e = (hashInt k, Value.int k u)) (hpm : (es1.toList.map fun e => numV e.2).Perm ns) (hnd : ns.Nodup)
    (hb : es1.size < scanBound) (hf : t2.fits es1.size = true) (ht : Tb (!byText w) t2) {wasDummy : Bool} {R : Option Bool → Shared → Prop}
    (h : ∀ h', Heap.SameBut a s.heap h' → SetS w h' a ns → R (some true) { s with heap := h' }) :
    wpAny (model prog w) A (do
      storeSet a es1 t2
      if (!wasDummy && t2.tooFull) = true then do
          g (relayAll t2 es1 (SetTable.grown es1.size)).2.2
          storeSet a (relayAll t2 es1 (SetTable.grown es1.size)).1 (relayAll t2 es1 (SetTable.grown es1.size)).2.1
          pure (some true)
        else pure (some true)) R E s := by
  obtain ⟨ho1, hS1⟩ := store_s (w := w) ho hex hd hel hpm hnd hb hf ht
  have sb := Heap.SameBut.update s.heap a (Obj.putSet es1 t2)
  refine wpAny_bind (wpAny_storeSet_of ho hd ?_ (fits_of_scanBound hb))
  by_cases hc : (!wasDummy && t2.tooFull) = true
  · rw [if_pos hc]
    have hp := relayAll_perm t2 es1 (SetTable.grown es1.size)
    have hfr := relayAll_fits t2 es1 (SetTable.grown es1.size)
    have htr := tb_relay ht es1 (SetTable.grown es1.size)
    generalize relayAll t2 es1 (SetTable.grown es1.size) = Y at hp hfr htr ⊢
    obtain ⟨es2, t3, gave⟩ := Y
    dsimp only at hp hfr htr ⊢
    have hsz : es2.size = es1.size := by rw [← Array.length_toList, hp.length_eq, Array.length_toList]
    have hb2 : es2.size < scanBound := by rw [hsz]; exact hb
    obtain ⟨_, hS2⟩ := store_s (w := w) (ns := ns) ho1 hex rfl (fun e he => hel e (hp.mem_iff.mp he)) ((hp.map _).trans hpm) hnd hb2 hfr htr
    exact wpAny_bind (hg _ _ _ (wpAny_bind (wpAny_storeSet_of ho1 rfl (wpAny_pure (h _ (sb.trans (Heap.SameBut.update _ a _)) hS2)) (fits_of_scanBound hb2))))
  · rw [if_neg hc]
    exact wpAny_pure (h _ sb hS1)
noncomputable def addN (ns : List Int) (k : Int) : List Int := if k ∈ ns then ns else ns ++ [k]
theorem addN_nodup {ns : List Int} {k : Int} (h : ns.Nodup) : (addN ns k).Nodup := by
  unfold addN
  split
  · exact h
  · rename_i hk
    exact List.nodup_append.mpr ⟨h, by simp, fun x hx y hy => by rw [List.mem_singleton] at hy; subst hy; exact fun e => hk (e ▸ hx)⟩
theorem set_add {k : Int} {u : Tok} {Q : Bool → Shared → Prop} (hS : SetS w s.heap a ns) (hroom : ns.length + 1 < scanBound)
    (h : ∀ (b : Bool) h', Heap.SameBut a s.heap h' → SetS w h' a (addN ns k) → Q b { s with heap := h' }) :
    wpAny (model prog w) A (setAddHashed a (.int k u) (hashInt k)) Q E s := by
  obtain ⟨o, es, ep, t, ho, hex, hd, hel, hpm, hnd, hb, hf, ht⟩ := id hS
  have hE := elems_of (prog := prog) (w := w) hel
  have hlen : es.size = ns.length := by rw [← hpm.length_eq, List.length_map, Array.length_toList]
  have hmem : (∃ e ∈ es.toList, (intKind prog w).is k e.2 = true) ↔ k ∈ ns := by
    rw [← hpm.mem_iff, List.mem_map]
    constructor
    · rintro ⟨e, he, q⟩; exact ⟨e, he, (is_num (hel e he)).mp q⟩
    · rintro ⟨e, he, q⟩; exact ⟨e, he, (is_num (hel e he)).mpr q⟩
  unfold setAddHashed setAddHashedIn
  refine wpAny_holding (wpAny_bind (wpAny_setState_of ho hd hf ?_))
  dsimp only
  rw [byScan_of (x := Value.int k u) rfl hb hE]
  simp only [↓reduceIte]
  unfold setAddByScan
  refine wpAny_bind (wpAny_bind (wpAny_rule (wpAny_bind (wpAny_setScan_of (knd := intKind prog w) (intKind_is _ _ k u) ho hd hf hE ?_))))
  cases hr : List.findIdx? (fun e => (intKind prog w).is k e.2) es.toList with
  | some j =>
    dsimp only
    obtain ⟨hj, hpj, _⟩ := List.findIdx?_eq_some_iff_getElem.mp hr
    have hk : k ∈ ns := hmem.mp ⟨_, List.getElem_mem hj, hpj⟩
    have e : addN ns k = ns := if_pos hk
    refine wpAny_pure (wpAny_pure ?_)
    have q := h false s.heap (Heap.SameBut.refl a s.heap) (by rw [e]; exact hS)
    cases s
    exact q
  | none =>
    dsimp only
    have hk : k ∉ ns := fun hk => by
      obtain ⟨e, he, q⟩ := hmem.mpr hk
      have := List.findIdx?_eq_none_iff.mp hr e he
      rw [q] at this; cases this
    have e : addN ns k = ns ++ [k] := if_neg hk
    have hperm := layNew_perm t es (hashInt k) (Value.int k u)
    have hfits := layNew_fits t es (hashInt k) (Value.int k u)
    have htb := tb_layNew ht es (hashInt k) (Value.int k u)
    generalize layNew t es (hashInt k) (Value.int k u) = Y at hperm hfits htb ⊢
    obtain ⟨es1, t1, wasDummy, gave⟩ := Y
    dsimp only at hperm hfits htb ⊢
    rw [Array.toList_push] at hperm
    have hel1 : ∀ e ∈ es1.toList, ∃ k u, e = (hashInt k, Value.int k u) := fun e he => by
      rcases List.mem_append.mp (hperm.mem_iff.mp he) with q | q
      · exact hel e q
      · rw [List.mem_singleton] at q; exact ⟨k, u, q⟩
    have hpm1 := nums_push (k := k) (u := u) hpm hperm
    have hb1 : es1.size < scanBound := by
      rw [← Array.length_toList, hperm.length_eq, List.length_append, Array.length_toList, hlen]; exact hroom
    have hnd1 : (ns ++ [k]).Nodup := by rw [← e]; exact addN_nodup hnd
    have fin : ∀ h', Heap.SameBut a s.heap h' → SetS w h' a (ns ++ [k]) → Q true { s with heap := h' } := fun h' q1 q2 => h true h' q1 (by rw [e]; exact q2)
    refine wpAny_bind ?_
    have hgw : ∀ (b : Bool) (s1 : Shared) (Q' : Unit → Shared → Prop), Q' () s1 → wpAny (model prog w) A (match b with | true => rule "set.scan.the-table-gave-way" | false => pure ()) Q' E s1 := fun b s1 Q' hq => by
      cases b
      · exact wpAny_pure hq
      · exact wpAny_rule hq
    refine hgw _ _ _ ?_
    by_cases hpl : t1.plain = true
    · rw [if_pos hpl]
      refine wpAny_bind ?_
      rw [hashByValue_scannable 8 (show (Value.int k u).scannable = true from rfl)]
      refine wpAny_pure (add_tail hgw ho hex hd hel1 hpm1 hnd1 hb1 ?_ ?_ fun h' q1 q2 => ?_)
      · exact hfits
      · exact htb
      · exact wpAny_pure (fin h' q1 q2)
    · rw [if_neg hpl]
      refine wpAny_bind (wpAny_pure ?_)
      refine add_tail hgw ho hex hd hel1 hpm1 hnd1 hb1 ?_ ?_ fun h' q1 q2 => ?_
      · exact hfits
      · exact htb
      · exact wpAny_pure (fin h' q1 q2)
end
end SS
end
section
namespace SS
open PySem
set_option maxRecDepth 100000

noncomputable def dd (ns : List Int) : List Int := ns.foldl addN []
theorem dd_snoc (ns : List Int) (k : Int) : dd (ns ++ [k]) = addN (dd ns) k := by unfold dd; rw [List.foldl_append]; rfl
theorem addN_len (l : List Int) (k : Int) : (addN l k).length ≤ l.length + 1 := by unfold addN; split <;> simp
theorem mem_addN {l : List Int} {k x : Int} : x ∈ addN l k ↔ x ∈ l ∨ x = k := by
  unfold addN
  split
  · rename_i h
    constructor
    · exact .inl
    · rintro (q | q)
      · exact q
      · rw [q]; exact h
  · simp
theorem fold_facts : ∀ (ns l : List Int), l.Nodup → (ns.foldl addN l).Nodup ∧ (ns.foldl addN l).length ≤ l.length + ns.length ∧ ∀ x, x ∈ ns.foldl addN l ↔ x ∈ l ∨ x ∈ ns
  | [], l, h => ⟨h, by simp, fun x => by simp⟩
  | k :: ns, l, h => by
    obtain ⟨h1, h2, h3⟩ := fold_facts ns (addN l k) (addN_nodup h)
    refine ⟨h1, ?_, fun x => ?_⟩
    · have := addN_len l k
      rw [List.foldl_cons, List.length_cons]; omega
    · rw [List.foldl_cons, h3, mem_addN, List.mem_cons, or_assoc]
theorem dd_nodup (ns : List Int) : (dd ns).Nodup := (fold_facts ns [] (by simp)).1
theorem dd_len (ns : List Int) : (dd ns).length ≤ ns.length := by have := (fold_facts ns [] (by simp)).2.1; unfold dd; simpa using this
theorem mem_dd {ns : List Int} {x : Int} : x ∈ dd ns ↔ x ∈ ns := by have := (fold_facts ns [] (by simp)).2.2 x; unfold dd; simpa using this

section
variable {prog : Program} {w : World} {A : Around} {R : Result → Shared → Prop} {I : Addr} {fp wr : List Addr} {G : Array GenState → Array GenState → Prop} {n : Nat} {P : Nat → Value → Prop} {St : Nat → Shared → Prop}
theorem loop_s (W : WalksS prog w A.in1 I fp wr G n P St) {S : Addr} (hS0 : S ∉ fp) (ns : List Int) (hn : ns.length = n)
    (hv : ∀ (i : Nat) v, P i v → ∃ k t, ns[i]? = some k ∧ v = Value.int k t) (hb : n + 1 < scanBound) :
    ∀ (left i : Nat) (s : Shared), i + left = n → St i s → SetS w s.heap S (dd (ns.take i)) →
      (∀ s', Moved (S :: wr) G s s' → SetS w s'.heap S (dd ns) → R (.ok (.ret .none)) s') →
      codeAny (model prog w) A (.builtin "set.update.loop" ⟨[.ref S, .ref I], []⟩) R s := by
  have hSw : S ∉ wr := fun q => hS0 (W.sub _ q)
  have sub : ∀ b ∈ wr, b ∈ S :: wr := fun b q => List.mem_cons_of_mem _ q
  intro left
  induction left with
  | zero =>
    intro i s hi st hS hR
    have e : i = n := by omega
    subst e
    rw [← hn, List.take_length] at hS
    refine codeAny_builtin PyProof.Rows.F.entry_set_update_loop ?_
    rw [Around.under_plainId PyProof.Rows.F.plain_set_update_loop _]
    show wpAny _ A.in1 (pyNext (.ref I) >>= _) _ _ s
    exact wpAny_bind (W.done s _ _ st fun s' mv => wpAny_pure (hR s' (mv.mono sub) (hS.at_ fun o q => mv.heap S o hSw q)))
  | succ left ih =>
    intro i s hi st hS hR
    have hlt : i < n := by omega
    refine codeAny_builtin PyProof.Rows.F.entry_set_update_loop ?_
    rw [Around.under_plainId PyProof.Rows.F.plain_set_update_loop _]
    show wpAny _ A.in1 (pyNext (.ref I) >>= _) _ _ s
    refine wpAny_bind (W.item i s _ _ hlt st fun v s1 hP st1 mv => ?_)
    obtain ⟨k, t, hk, rfl⟩ := hv i v hP
    have hS1 : SetS w s1.heap S (dd (ns.take i)) := hS.at_ fun o q => mv.heap S o hSw q
    have hroom : (dd (ns.take i)).length + 1 < scanBound := by
      have h1 := dd_len (ns.take i)
      rw [List.length_take] at h1
      omega
    show wpAny _ A.in1 (holding [Value.int k t] (setAdd S (.int k t)) >>= _) _ _ s1
    refine wpAny_bind (wpAny_holding ?_)
    unfold setAdd
    refine wpAny_holding (wpAny_bind ((intKind prog w).pyHash (k := k) (intKind_is _ _ _ _) ?_))
    refine set_add (s := { s1 with toks := s1.toks + 1 }) hS1 hroom fun b h' sb hS2 => ?_
    have e2 : addN (dd (ns.take i)) k = dd (ns.take (i + 1)) := by
      rw [← dd_snoc]
      congr 1
      rw [List.take_succ, hk]; rfl
    rw [e2] at hS2
    refine wpAny_pure ⟨plainId_quiet PyProof.Rows.F.plain_set_update_loop _, ih (i + 1) _ (by omega) (W.frame _ s1 _ _ st1 (Nat.le_succ _) fun c hc o q => ?_) hS2 fun s2 mv2 q2 => ?_⟩
    · rw [sb.2 c (fun z : c = S => hS0 (by rw [← z]; exact hc))]; exact q
    · refine hR s2 (Moved.trans W.gtrans ((mv.mono sub).then_heap (Nat.le_succ _) fun c o hc q => ?_) mv2) q2
      rw [sb.2 c (fun z : c = S => hc (by rw [z]; exact List.mem_cons_self))]; exact q
end

section
variable {prog : Program} {w : World} {A : Around} {E : Value → Shared → Prop} {s : Shared}
noncomputable def setObj (w : World) : Obj := { cls := .type "set", dict := none, data := .set #[] 0 (.fresh 0 0 (!byText w)) }
theorem setS_new {h : Heap} {a : Addr} (e : h.get? a = some (setObj w)) : SetS w h a [] :=
  ⟨_, #[], 0, _, e, ⟨rfl, rfl, rfl⟩, rfl, fun e he => (by cases he), List.Perm.refl _, List.nodup_nil, by decide, rfl, tb_fresh 0 0⟩
theorem new_s (a : Value) {Q : Value → Shared → Prop} (h : Q (.ref s.heap.objs.size) { s with heap := s.heap.push (setObj w) }) :
    codeAny (model prog w) A (.call (.builtin "set.__new__") ⟨[.type "set", a], []⟩) (wants Q E) s := by
  refine codeAny_of_tree ?_
  show wpAny _ A.in1 (do checkBuiltinCall "set.__new__" ⟨[.type "set", a], []⟩; again (.builtin "set.__new__" ⟨[.type "set", a], []⟩)) _ _ s
  refine wpAny_bind (wpAny_of_eq (F.newCall_set_1 a) (wpAny_pure ⟨plainId_quiet F.plain_set_new _, codeAny_builtin F.entry_set_new ?_⟩))
  rw [Around.under_plainId F.plain_set_new _]
  unfold Builtin.«set.__new__» Builtin.Frozenset.newClass
  have hsub := sub_set_self
  obtain ⟨hp, g, d, tk, os⟩ := s
  dsimp only
  wp_walk
  refine wpAny_askSetting (wpAny_pure ?_)
  dsimp only
  simp only [newObj]
  exact wpAny_bind (wpAny_alloc (wpAny_pure (wpAny_pure h)))
end
end SS
end
section
namespace SS
open PySem
set_option maxRecDepth 100000
section
variable {prog : Program} {w : World} {A : Around} {E : Value → Shared → Prop} {s : Shared}
noncomputable def Made (w : World) (s : Shared) (ns : List Int) (r : Value) (s2 : Shared) : Prop :=
  r = .none ∧ ∃ (h' : Heap) (tk : Nat), s2 = { s with heap := h', toks := tk } ∧ SetS w h' s.heap.objs.size (dd ns) ∧ ∀ b o, s.heap.get? b = some o → h'.get? b = some o
theorem init_s {l : Addr} {vs : List Value} {ns : List Int} (hh : A.handled = none) (hl : s.heap.IsList l vs.toArray) (hi : PyProof.Rows.IntsAre vs ns) (hb : ns.length + 1 < scanBound) :
    codeAny (model prog w) A (.call (.builtin "set.__init__") ⟨[.ref s.heap.objs.size, .ref l], []⟩) (wants (Made w s ns) E) { s with heap := s.heap.push (setObj w) } := by
  have hS : (s.heap.push (setObj w)).get? s.heap.objs.size = some (setObj w) := Heap.get?_push_size _ rfl
  have hT : Shared.TypeIs { s with heap := s.heap.push (setObj w) } (.ref s.heap.objs.size) "set" := ⟨_, hS, rfl⟩
  refine codeAny_call_builtin F.called_set.init.plain F.entry_set_init (check_set_init_1 hT ?_)
  obtain ⟨⟨cl, od, dt, sl⟩, hol, hcl, nl, hdl⟩ := id hl
  dsimp only at hcl hdl
  subst hcl hdl
  have hol1 := Heap.get?_push_of_some (setObj w) hol
  have hl1 : (s.heap.push (setObj w)).IsList l vs.toArray := ⟨_, hol1, rfl, nl, rfl⟩
  have q1 := F.sub_list_set
  have q2 := F.sub_list_frozenset
  have q3 : (Value.type "list" == Value.type "dict") = false := by decide
  have hS' : (s.heap.push (setObj w)).get? s.heap.objs.size = some { cls := .type "set", dict := none, data := .set #[] 0 (.fresh 0 0 (!byText w)) } := hS
  unfold Builtin.«set.__init__» noKeywords
  unfold Builtin.Frozenset.updateFrom
  generalize hPI : pyIter = PI
  wp_walk
  subst hPI
  refine wpAny_pyIter_list hl1 (wpAny_bind (wpAny_runValue ?_))
  have hlt : l < s.heap.objs.size := Heap.lt_size hol
  have hne : l ≠ (s.heap.push (setObj w)).objs.size := by rw [Heap.size_push]; exact Nat.ne_of_lt (Nat.lt_succ_of_lt hlt)
  have hlen := hi.length
  refine loop_s (ns := ns) ((Walks.list (by simp [hh]) _ l hne vs.toArray).toS) (S := s.heap.objs.size) ?_ (by rw [List.size_toArray, hlen]) (fun i v hv => ?_) (by rw [List.size_toArray, hlen]; exact hb) vs.toArray.size 0 _ (Nat.zero_add _)
    ⟨⟨_, Heap.get?_push_size _ rfl, rfl, rfl⟩, hl1.push _⟩ (setS_new (Heap.get?_push_of_some _ hS)) fun s2 mv q => ?_
  · rw [Heap.size_push]
    simp only [List.mem_cons, List.not_mem_nil, or_false, not_or]
    exact ⟨Nat.ne_of_lt (Nat.lt_succ_self _), Nat.ne_of_gt hlt⟩
  · rw [← Array.getElem?_toList] at hv
    obtain ⟨t, e⟩ := hi.int_at i v hv
    have hin : i < ns.length := by rw [← hlen]; exact (List.getElem?_eq_some_iff.mp hv).1
    exact ⟨ns.getD i 0, t, by rw [List.getD_eq_getElem?_getD, List.getElem?_eq_getElem hin]; rfl, e⟩
  · obtain ⟨h2, g2, d2, t2, o2⟩ := s2
    have eg : g2 = s.gens := mv.gens
    have ed : d2 = s.drawn := mv.drawn
    have eo : o2 = s.os := mv.os
    subst eg ed eo
    refine wpAny_pure (wpAny_pure ⟨rfl, h2, t2, rfl, q, fun b o e => ?_⟩)
    have b1 : b < s.heap.objs.size := Heap.lt_size e
    refine mv.heap b o (fun hm => ?_) (Heap.get?_push_of_some _ (Heap.get?_push_of_some _ e))
    rcases List.mem_cons.mp hm with z | z
    · exact absurd b1 (by rw [z]; exact Nat.lt_irrefl _)
    · rw [List.mem_singleton, Heap.size_push] at z
      exact absurd b1 (by rw [z]; exact Nat.not_lt.mpr (Nat.le_succ _))
theorem call_s {l : Addr} {vs : List Value} {ns : List Int} {Q : Value → Shared → Prop} (hh : A.handled = none) (hl : s.heap.IsList l vs.toArray) (hi : PyProof.Rows.IntsAre vs ns) (hb : ns.length + 1 < scanBound)
    (h : ∀ (h' : Heap) (tk : Nat), SetS w h' s.heap.objs.size (dd ns) → (∀ b o, s.heap.get? b = some o → h'.get? b = some o) → Q (.ref s.heap.objs.size) { s with heap := h', toks := tk }) :
    wpAny (model prog w) A (call (.type "set") [.ref l]) Q E s := by
  have ft := F.called_set
  obtain ⟨c, tl, hmro⟩ := ft.mro
  have hmade := ft.made
  have hsub := ft.sub
  have h1 := ft.notType
  have h2 := ft.canCreate
  have hct := F.typeCall_set_1 (.ref l)
  refine wpAny_call (codeAny_of_tree ?_)
  show wpAny _ _ (callAny (.type "set") _) _ _ _
  refine wpAny_pure ⟨Code.quiet_builtin _ (by decide +kernel), codeAny_builtin F.entry_type_call ?_⟩
  rw [Around.under_plain (weight_type_call_type "set" [.ref l] []) rfl]
  repeat (any_goals (first | assumption | wp_step))
  refine codeAny_mono (new_s (.ref l) (E := E) (Q := fun obj s1 => obj = .ref s.heap.objs.size ∧ s1 = { s with heap := s.heap.push (setObj w) }) ⟨rfl, rfl⟩) fun r s1 hr => ?_
  cases r with
  | error e => exact hr
  | ok fl =>
    cases fl with
    | ret obj =>
      obtain ⟨rfl, rfl⟩ := hr
      have hT : Shared.TypeIs { s with heap := s.heap.push (setObj w) } (.ref s.heap.objs.size) "set" := ⟨_, Heap.get?_push_size _ rfl, rfl⟩
      have hli := ft.init.lookup
      have hbi := ft.init.bind (.ref s.heap.objs.size)
      repeat (any_goals (first | assumption | wp_step))
      refine codeAny_mono (init_s (E := E) (by simp [hh]) hl hi hb) fun r2 s2 hr2 => ?_
      cases r2 with
      | error e => exact hr2
      | ok f2 =>
        cases f2 with
        | ret x =>
          obtain ⟨rfl, h', tk, rfl, q1, q2⟩ := hr2
          repeat (any_goals (first | assumption | wp_step))
          exact h h' tk q1 q2
        | _ => exact hr2.elim
    | _ => exact hr.elim
end
end SS
end
section
namespace SS
open PySem
set_option maxRecDepth 100000

theorem slot_si_next : Slot "set_iterator" "__next__" "set_iterator.__next__" :=
  .of (owner := "set_iterator") (n := "__next__") (by rw [typeLookup_type, builtinLookup_eq_fast]; kernel_rfl) (by decide +kernel) (by decide +kernel) (by decide +kernel) (.inl (by decide +kernel)) (by rw [isSubtype_type]; kernel_rfl)
theorem slot_si_iter : Slot "set_iterator" "__iter__" "set_iterator.__iter__" :=
  .of (owner := "set_iterator") (n := "__iter__") (by rw [typeLookup_type, builtinLookup_eq_fast]; kernel_rfl) (by decide +kernel) (by decide +kernel) (by decide +kernel) (.inl (by decide +kernel)) (by rw [isSubtype_type]; kernel_rfl)
theorem entry_si_next : entryFor table "set_iterator.__next__" = some Builtin.«set_iterator.__next__» := entryFor_of_tree (by kernel_rfl)
theorem entry_si_iter : entryFor table "set_iterator.__iter__" = some Builtin.«dict_keyiterator.__iter__» :=
  entryFor_alias (id' := "dict_keyiterator.__iter__") (by kernel_rfl) rfl (by decide +kernel) (by kernel_rfl)
theorem entry_s_iter : entryFor table "set.__iter__" = some Builtin.«frozenset.__iter__» :=
  entryFor_alias (id' := "frozenset.__iter__") (by kernel_rfl) rfl (by decide +kernel) (by kernel_rfl)
theorem args_si_next (a : Value) : argsOk "set_iterator.__next__" ⟨[a], []⟩ := by unfold argsOk; kernel_rfl
theorem args_si_iter (a : Value) : argsOk "set_iterator.__iter__" ⟨[a], []⟩ := by unfold argsOk; kernel_rfl
end SS
end
section
namespace SS
open PySem
set_option maxRecDepth 100000
noncomputable def SetIs (h : Heap) (a : Addr) (es : Array (Int × Value)) (ep : Nat) (t : SetTable) : Prop := ∃ o, h.get? a = some o ∧ o.cls = .type "set" ∧ o.data = .set es ep t
noncomputable def ItIs (h : Heap) (it : Addr) (first : Value) (i : Nat) (a : Addr) (n ep : Nat) : Prop :=
  ∃ o, h.get? it = some o ∧ o.cls = .type "set_iterator" ∧ o.data = .fields #[first, .int i 0, .ref a, .int n 0, .int ep 0]
theorem SetIs.at_ {h h' : Heap} {a : Addr} {es : Array (Int × Value)} {ep : Nat} {t : SetTable} (x : SetIs h a es ep t) (k : ∀ o, h.get? a = some o → h'.get? a = some o) : SetIs h' a es ep t :=
  let ⟨o, ho, r⟩ := x; ⟨o, k o ho, r⟩
theorem ItIs.at_ {h h' : Heap} {it a : Addr} {f : Value} {i n ep : Nat} (x : ItIs h it f i a n ep) (k : ∀ o, h.get? it = some o → h'.get? it = some o) : ItIs h' it f i a n ep :=
  let ⟨o, ho, r⟩ := x; ⟨o, k o ho, r⟩
theorem ItIs.typeIs {s : Shared} {it a : Addr} {f : Value} {i n ep : Nat} (x : ItIs s.heap it f i a n ep) : s.TypeIs (.ref it) "set_iterator" := let ⟨o, ho, hc, _⟩ := x; ⟨o, ho, hc⟩
section
variable {prog : Program} {w : World} {A : Around} {E : Value → Shared → Prop} {s : Shared} {a it : Addr} {es : Array (Int × Value)} {ep : Nat} {t : SetTable}
theorem state_w {Q : (Array (Int × Value) × Nat × SetTable) → Shared → Prop} (hS : SetIs s.heap a es ep t) (hf : t.fits es.size = true) (h : Q (es, ep, t) s) : wpAny (model prog w) A (setState a) Q E s :=
  let ⟨_, ho, _, hd⟩ := hS
  wpAny_setState_of ho hd hf h
theorem entries_w {Q : Array (Int × Value) → Shared → Prop} (hS : SetIs s.heap a es ep t) (hf : t.fits es.size = true) (h : Q es s) : wpAny (model prog w) A (setEntries a) Q E s := by
  unfold setEntries
  exact wpAny_bind (state_w hS hf (wpAny_pure h))
theorem epoch_w {Q : Nat → Shared → Prop} (hS : SetIs s.heap a es ep t) (hf : t.fits es.size = true) (h : Q ep s) : wpAny (model prog w) A (setEpoch a) Q E s := by
  unfold setEpoch
  exact wpAny_bind (state_w hS hf (wpAny_pure h))
theorem byText_w {Q : Bool → Shared → Prop} (h : Q (byText w) s) : wpAny (model prog w) A setsByText Q E s := by
  unfold setsByText
  exact wpAny_bind (wpAny_askSetting (wpAny_pure h))
theorem next_plain {Q : Option (Value × Nat) → Shared → Prop} {slot given : Nat} (hS : SetIs s.heap a es ep t) (hf : t.fits es.size = true) (hb : byText w = false) (ht : Tb (!byText w) t) (hd : (!t.plain && decide (es.size > 1)) = false)
    (h : Q (match es[SetTable.below t.place slot]?, t.place[SetTable.below t.place slot]? with | some (_, x), some j => some (x, j + 1) | _, _ => none) s) : wpAny (model prog w) A (setNext a slot given ep) Q E s := by
  have hl : t.led = true := by rw [ht.led, hb]; rfl
  unfold setNext
  refine wpAny_bind (state_w hS hf ?_)
  refine wpAny_bind (byText_w ?_)
  rw [hb]
  show wpAny _ _ (if (!t.plain && decide (es.size > 1)) = true then _ else _) _ _ _
  rw [hd, if_neg (by simp)]
  refine wpAny_bind (Q := Q) ?_
  show wpAny _ _ (if (!t.led && !es.isEmpty) = true then _ else _) _ _ _
  rw [hl, if_neg (by simp)]
  exact wpAny_pure (wpAny_pure h)
theorem next_text {Q : Option (Value × Nat) → Shared → Prop} {slot given : Nat} (hS : SetIs s.heap a es ep t) (hf : t.fits es.size = true) (hb : byText w = true)
    (h : Q (((pickOrder (w.params.setOrder a ep) es)[given]?).map fun e => (e.2, slot)) s) : wpAny (model prog w) A (setNext a slot given ep) Q E s := by
  unfold setNext
  refine wpAny_bind (state_w hS hf ?_)
  refine wpAny_bind (byText_w ?_)
  rw [hb, if_pos rfl, if_neg (by simp)]
  unfold setWalk
  refine wpAny_bind (wpAny_bind (state_w hS hf (wpAny_bind (byText_w ?_))))
  rw [hb, if_pos rfl]
  exact wpAny_bind (wpAny_askSetting (wpAny_pure (wpAny_pure h)))
end
end SS
end
section
namespace SS
open PySem
set_option maxRecDepth 100000
section
variable {prog : Program} {w : World} {A : Around} {E : Value → Shared → Prop} {s : Shared} {a it : Addr} {es : Array (Int × Value)} {ep : Nat} {t : SetTable} {first : Value} {i : Nat}
theorem put_it {j : Nat} {x : Value} {Q : Unit → Shared → Prop} {vs : Array Value} (ho : ∃ o, s.heap.get? it = some o ∧ o.cls = .type "set_iterator" ∧ o.data = .fields vs) (hj : j < vs.size)
    (h : ∀ h', (∃ o, h'.get? it = some o ∧ o.cls = .type "set_iterator" ∧ o.data = .fields (vs.setIfInBounds j x)) → Heap.SameBut it s.heap h' → Q () { s with heap := h' }) :
    wpAny (model prog w) A (setField (.ref it) j x) Q E s := by
  obtain ⟨o, ho, hc, hd⟩ := ho
  exact wpAny_setField ho hd hj (h _ ⟨_, Heap.get?_update_self _ ho (Obj.isFreed_of_fields (Obj.data_mapFields hd _)), (Obj.cls_mapFields ..).trans hc, Obj.data_mapFields hd _⟩ (Heap.SameBut.update ..))
theorem next_head {Q : Option Value → Shared → Prop} (hI : ItIs s.heap it first i a es.size ep) (hS : SetIs s.heap a es ep t) (hf : t.fits es.size = true)
    (hb : wpAny (model prog w) A.in1 (if let .int slot _ := first then do
        match ← setNext a slot.toNat i ep with
        | some (x, next) =>
          setField (.ref it) 0 (rawInt next)
          setField (.ref it) 1 (rawInt ((i : Int) + 1))
          ret x
        | none => setField (.ref it) 2 .none; raiseNew (← newExc (.type "StopIteration") [])
      else do
        let some places ← seqItems? first | unsupported "internal:set_iterator"
        match places[i]? with
        | some (.int place _) =>
          let x ← setNextDrawn a place.toNat ep
          setField (.ref it) 1 (rawInt ((i : Int) + 1))
          ret x
        | some _ => unsupported "internal:set_iterator"
        | none => setField (.ref it) 0 (rawInt 0); setField (.ref it) 2 .none; raiseNew (← newExc (.type "StopIteration") []))
      (fun fin s' => ∃ v, fin = .done (.ret v) ∧ Q (some v) s') (fun e s' => s'.TypeIs e "StopIteration" ∧ Q none s') s) :
    wpAny (model prog w) A (pyNext (.ref it)) Q E s := by
  obtain ⟨o, ho, hc, hd⟩ := id hI
  have hT : s.TypeIs (.ref it) "set_iterator" := hI.typeIs
  unfold pyNext
  refine wpAny_bind (wpAny_attempt (wpAny_callSpecial?_slot (name := Str.ofString "__next__") hT slot_si_next (wpAny_call_entry slot_si_next hT entry_si_next ?_ (args_si_next _))))
  refine wpAny_bind (wpAny_pure ?_)
  refine wpAny_bind (wpAny_fieldsOf ho hd ?_)
  show wpAny _ _ (setEntries a >>= _) _ _ _
  refine wpAny_bind (entries_w hS hf ?_)
  rw [if_neg (by simp)]
  refine wpAny_mono hb (fun fin s' h => ?_) (fun e s' h => ?_)
  · obtain ⟨v, rfl, q⟩ := h
    exact ⟨v, rfl, wpAny_pure q⟩
  · exact wpAny_bind (wpAny_isInstance (T := "StopIteration") (b := true) h.1 isSubtype_stop (wpAny_pure h.2))
theorem stop_w {α : Type} {Q : α → Shared → Prop} {P : Shared → Prop} (hh : A.handled = none) (h : ∀ h', (∀ b o, s.heap.get? b = some o → h'.get? b = some o) → P { s with heap := h' }) :
    wpAny (model prog w) A (do raiseNew (← newExc (.type "StopIteration") [])) Q (fun e s' => s'.TypeIs e "StopIteration" ∧ P s') s := by
  refine wpAny_bind ?_
  simp only [newExc, newTuple]
  refine wpAny_bind (wpAny_newObj_type ?_ (by size_fits))
  refine wpAny_bind (m := firstArgMember _ _) (wpAny_of_eq (a := Value.none) (by first | rfl | (simp only [firstArgMember]; rfl)) ?_)
  refine wpAny_newObj_type ?_ (by size_fits)
  simp only [raiseNew]
  refine wpAny_bind (wpAny_handled ?_)
  rw [hh]
  exact wpAny_bind (wpAny_pure (wpAny_throw ⟨⟨_, Heap.get?_push_size _ rfl, rfl⟩, h _ fun b o e => Heap.get?_push_of_some _ (Heap.get?_push_of_some _ e)⟩))
theorem pyIter_it {n : Nat} {Q : Value → Shared → Prop} (hI : ItIs s.heap it first i a n ep) (h : Q (.ref it) s) : wpAny (model prog w) A (pyIter (.ref it)) Q E s := by
  refine wpAny_pyIter_slot hI.typeIs slot_si_iter (wpAny_call_entry slot_si_iter hI.typeIs entry_si_iter ?_ (args_si_iter _))
  show wpAny _ _ (ret (.ref it)) _ _ s
  exact wpAny_pure ⟨_, rfl, "set_iterator", _, hI.typeIs, slot_si_next.lookup, h⟩
theorem ext_of {h h' : Heap} {b : Addr} (x : Heap.SameBut b h h') : ∀ c o, c ∉ [b] → h.get? c = some o → h'.get? c = some o := fun c o hc e => (x.2 c fun z => hc (by simp [z])).trans e
theorem walks_plain (hh : A.handled = none) (hf : t.fits es.size = true) (hb : byText w = false) (ht : Tb (!byText w) t) (hd : (!t.plain && decide (es.size > 1)) = false) (hne : a ≠ it) :
    Walks prog w A it [it, a] [it] es.size (fun i v => (es.toList.map (·.2))[i]? = some v) (fun i h => ∃ slot : Nat, ItIs h it (.int slot 0) i a es.size ep ∧ SetIs h a es ep t ∧ Cut t.place slot i) where
  sub := fun b hb => by simp at hb; simp [hb]
  frame := fun i h h' st hk => by
    obtain ⟨slot, q1, q2, q3⟩ := st
    exact ⟨slot, q1.at_ fun o e => hk it (by simp) o e, q2.at_ fun o e => hk a (by simp) o e, q3⟩
  item := fun i s Q E hi st hQ => by
    obtain ⟨slot, q1, q2, q3⟩ := st
    refine next_head q1 q2 hf ?_
    have hps : t.place.size = es.size := by
      unfold SetTable.fits at hf
      rw [Bool.and_eq_true] at hf
      exact eq_of_beq hf.1
    have hbe : SetTable.below t.place slot = i := cut_one ht.ris (below_cut ht.ris slot) q3
    have hp : t.place[i]? = some (t.place.getD i 0) := by rw [Array.getD_eq_getD_getElem?, Array.getElem?_eq_getElem (by rw [hps]; exact hi)]; rfl
    refine wpAny_bind (next_plain q2 hf hb ht hd ?_)
    simp only [Int.toNat_natCast]
    rw [hbe, hp, Array.getElem?_eq_getElem hi]
    dsimp only
    refine wpAny_bind (put_it q1 (by simp) fun h1 w1 sb1 => ?_)
    refine wpAny_bind (put_it w1 (by simp) fun h2 w2 sb2 => wpAny_pure ⟨_, rfl, ?_⟩)
    refine hQ _ h2 s.toks (by simp [hi]) ⟨t.place.getD i 0 + 1, ?_, (q2.at_ fun o e => ?_), ?_⟩ fun b o hb e => ext_of sb2 b o hb (ext_of sb1 b o hb e)
    · obtain ⟨o, ho, hc, hd'⟩ := w2
      exact ⟨o, ho, hc, by rw [hd']; simp [rawInt]⟩
    · exact (sb2.2 a hne).trans ((sb1.2 a hne).trans e)
    · refine ⟨by rw [hps]; exact hi, fun j x hj hx => ?_, fun j x hj hx => ?_⟩
      · by_cases e : j = i
        · subst e; rw [hp] at hx; cases hx; omega
        · have := ris_lt ht.ris (show j < i by omega) hx hp; omega
      · have := ris_lt ht.ris (show i < j by omega) hp hx; omega
  done := fun s Q E st hQ => by
    obtain ⟨slot, q1, q2, q3⟩ := st
    refine next_head q1 q2 hf ?_
    have hps : t.place.size = es.size := by
      unfold SetTable.fits at hf
      rw [Bool.and_eq_true] at hf
      exact eq_of_beq hf.1
    have hbe : SetTable.below t.place slot = es.size := cut_one ht.ris (below_cut ht.ris slot) q3
    refine wpAny_bind (next_plain q2 hf hb ht hd ?_)
    simp only [Int.toNat_natCast]
    rw [hbe, Array.getElem?_eq_none (Nat.le_refl _)]
    dsimp only
    refine wpAny_bind (put_it q1 (by simp) fun h1 w1 sb1 => ?_)
    refine stop_w (by simp [hh]) fun h' k => hQ h' s.toks fun b o hb e => k b o (ext_of sb1 b o hb e)
  self := fun i s Q E st hQ => by
    obtain ⟨slot, q1, _⟩ := st
    exact pyIter_it q1 hQ
theorem walks_text (hh : A.handled = none) (hf : t.fits es.size = true) (hb : byText w = true) (hne : a ≠ it) :
    Walks prog w A it [it, a] [it] es.size (fun i v => ((pickOrder (w.params.setOrder a ep) es).toList.map (·.2))[i]? = some v) (fun i h => ItIs h it (.int 0 0) i a es.size ep ∧ SetIs h a es ep t) where
  sub := fun b hb => by simp at hb; simp [hb]
  frame := fun i h h' st hk => ⟨st.1.at_ fun o e => hk it (by simp) o e, st.2.at_ fun o e => hk a (by simp) o e⟩
  item := fun i s Q E hi st hQ => by
    refine next_head st.1 st.2 hf ?_
    have hl : (pickOrder (w.params.setOrder a ep) es).size = es.size := by rw [← Array.length_toList, (pick_perm _ es).length_eq, Array.length_toList]
    refine wpAny_bind (next_text st.2 hf hb ?_)
    rw [Array.getElem?_eq_getElem (by rw [hl]; exact hi)]
    dsimp only [Option.map_some]
    refine wpAny_bind (put_it st.1 (by simp) fun h1 w1 sb1 => ?_)
    refine wpAny_bind (put_it w1 (by simp) fun h2 w2 sb2 => wpAny_pure ⟨_, rfl, ?_⟩)
    refine hQ _ h2 s.toks (by simp [hl, hi]) ⟨?_, st.2.at_ fun o e => ?_⟩ fun b o hb e => ext_of sb2 b o hb (ext_of sb1 b o hb e)
    · obtain ⟨o, ho, hc, hd'⟩ := w2
      exact ⟨o, ho, hc, by rw [hd']; simp [rawInt]⟩
    · exact (sb2.2 a hne).trans ((sb1.2 a hne).trans e)
  done := fun s Q E st hQ => by
    refine next_head st.1 st.2 hf ?_
    have hl : (pickOrder (w.params.setOrder a ep) es).size = es.size := by rw [← Array.length_toList, (pick_perm _ es).length_eq, Array.length_toList]
    refine wpAny_bind (next_text st.2 hf hb ?_)
    rw [Array.getElem?_eq_none (by rw [hl]; exact Nat.le_refl _)]
    dsimp only [Option.map_none]
    refine wpAny_bind (put_it st.1 (by simp) fun h1 w1 sb1 => ?_)
    refine stop_w (by simp [hh]) fun h' k => hQ h' s.toks fun b o hb e => k b o (ext_of sb1 b o hb e)
  self := fun i s Q E st hQ => pyIter_it st.1 hQ
noncomputable def TupIs (h : Heap) (tp : Addr) (ps : List Nat) : Prop := ∃ o n, h.get? tp = some o ∧ o.data = .seq (ps.map fun (p : Nat) => rawInt p).toArray n
theorem TupIs.at_ {h h' : Heap} {tp : Addr} {ps : List Nat} (x : TupIs h tp ps) (k : ∀ o, h.get? tp = some o → h'.get? tp = some o) : TupIs h' tp ps := let ⟨o, n, ho, r⟩ := x; ⟨o, n, k o ho, r⟩
theorem walks_drawn {tp : Addr} {ps : List Nat} (hh : A.handled = none) (hf : t.fits es.size = true) (hp : ps.Perm (List.range es.size)) (hne : a ≠ it) (hnt : tp ≠ it) :
    Walks prog w A it [it, a, tp] [it] es.size (fun i v => (ps.map fun p => (es.getD p (0, .none)).2)[i]? = some v) (fun i h => ItIs h it (.ref tp) i a es.size ep ∧ SetIs h a es ep t ∧ TupIs h tp ps) where
  sub := fun b hb => by simp at hb; simp [hb]
  frame := fun i h h' st hk => ⟨st.1.at_ fun o e => hk it (by simp) o e, st.2.1.at_ fun o e => hk a (by simp) o e, st.2.2.at_ fun o e => hk tp (by simp) o e⟩
  item := fun i s Q E hi st hQ => by
    refine next_head st.1 st.2.1 hf ?_
    have hl : ps.length = es.size := by rw [hp.length_eq, List.length_range]
    have hi' : i < ps.length := by rw [hl]; exact hi
    obtain ⟨o, n, ho, hdt⟩ := id st.2.2
    have hlt : ps[i] < es.size := List.mem_range.mp (hp.mem_iff.mp (List.getElem_mem hi'))
    refine wpAny_bind (wpAny_seqItems ho hdt ?_)
    dsimp only
    have e1 : (ps.map fun (p : Nat) => rawInt p).toArray[i]? = some (Value.int ps[i] 0) := by simp [hi', rawInt]
    rw [e1]
    dsimp only
    refine wpAny_bind ?_
    unfold setNextDrawn
    refine wpAny_bind (state_w st.2.1 hf ?_)
    dsimp only
    rw [if_neg (by simp)]
    simp only [Int.toNat_natCast]
    rw [Array.getElem?_eq_getElem hlt]
    refine wpAny_pure (wpAny_bind (put_it st.1 (by simp) fun h1 w1 sb1 => wpAny_pure ⟨_, rfl, ?_⟩))
    refine hQ _ h1 s.toks ?_ ⟨?_, st.2.1.at_ fun o e => (sb1.2 a hne).trans e, st.2.2.at_ fun o e => (sb1.2 tp hnt).trans e⟩ fun b o hb e => ext_of sb1 b o hb e
    · rw [List.getElem?_map, List.getElem?_eq_getElem hi']
      simp [hlt]
    · obtain ⟨o, ho, hc, hd'⟩ := w1
      exact ⟨o, ho, hc, by rw [hd']; simp [rawInt]⟩
  done := fun s Q E st hQ => by
    refine next_head st.1 st.2.1 hf ?_
    have hl : ps.length = es.size := by rw [hp.length_eq, List.length_range]
    obtain ⟨o, n, ho, hdt⟩ := id st.2.2
    refine wpAny_bind (wpAny_seqItems ho hdt ?_)
    dsimp only
    have e1 : (ps.map fun (p : Nat) => rawInt p).toArray[es.size]? = none := by simp [hl]
    rw [e1]
    dsimp only
    refine wpAny_bind (put_it st.1 (by simp) fun h1 w1 sb1 => ?_)
    refine wpAny_bind (put_it w1 (by simp) fun h2 w2 sb2 => ?_)
    refine stop_w (by simp [hh]) fun h' k => hQ h' s.toks fun b o hb e => k b o (ext_of sb2 b o hb (ext_of sb1 b o hb e))
  self := fun i s Q E st hQ => pyIter_it st.1 hQ
end
end SS
end
section
namespace SS
open PySem
set_option maxRecDepth 100000
section
variable {prog : Program} {w : World} {A : Around} {E : Value → Shared → Prop} {s : Shared} {a : Addr} {es : Array (Int × Value)} {ep : Nat} {t : SetTable}
theorem choose_w {src : Source} {n : Nat} {Q : Nat → Shared → Prop} (hn : n ≠ 0) (h : ∀ i d, i < n → Q i { s with drawn := d }) : wpAny (model prog w) A (choose src n) Q E s :=
  fun _ _ _ => ⟨hn, h _ _ (Nat.mod_lt _ (Nat.pos_of_ne_zero hn))⟩
theorem draw_w {α : Type} : ∀ (n : Nat) (xs : List α) (s : Shared) (Q : List α → Shared → Prop), xs.length ≤ n → (∀ ys d, ys.Perm xs → Q ys { s with drawn := d }) → wpAny (model prog w) A (drawOrder n xs) Q E s
  | 0, xs, s, Q, hl, h => by
    have e : xs = [] := List.length_eq_zero_iff.mp (by omega)
    subst e
    unfold drawOrder
    exact wpAny_pure (h [] s.drawn (.refl _))
  | n + 1, [], s, Q, hl, h => by
    unfold drawOrder
    exact wpAny_pure (h [] s.drawn (.refl _))
  | n + 1, x :: xs, s, Q, hl, h => by
    unfold drawOrder
    refine wpAny_bind (choose_w (by simp) fun i d hi => ?_)
    rw [List.getElem?_eq_getElem hi]
    dsimp only
    refine wpAny_bind (draw_w n _ _ _ (by rw [List.length_eraseIdx_of_lt hi]; simp only [List.length_cons] at *; omega) fun ys d' hp => wpAny_pure ?_)
    exact h _ d' ((hp.cons _).trans (perm_erase (List.getElem?_eq_getElem hi)))
theorem ints_all : ∀ {vs : List Value}, (∀ v ∈ vs, ∃ k u, v = Value.int k u) → PyProof.Rows.IntsAre vs (vs.map numV)
  | [], _ => .nil
  | v :: vs, h => by
    obtain ⟨k, u, rfl⟩ := h v List.mem_cons_self
    exact .cons k u (ints_all fun x hx => h x (List.mem_cons_of_mem _ hx))
noncomputable def Order (ns : List Int) (vs : List Value) : Prop := ∃ ms, PyProof.Rows.IntsAre vs ms ∧ ms.Perm ns
theorem order_of {ns : List Int} {vs : List Value} (hel : ∀ e ∈ es.toList, ∃ k u, e = (hashInt k, Value.int k u)) (hpm : (es.toList.map fun e => numV e.2).Perm ns) (hp : vs.Perm (es.toList.map (·.2))) : Order ns vs := by
  refine ⟨vs.map numV, ints_all fun v hv => ?_, (hp.map _).trans ?_⟩
  · obtain ⟨e, he, rfl⟩ := List.mem_map.mp (hp.mem_iff.mp hv)
    obtain ⟨k, u, rfl⟩ := hel e he
    exact ⟨k, u, rfl⟩
  · rw [List.map_map]; exact hpm
theorem range_getD (es : Array (Int × Value)) : (List.range es.size).map (fun p => (es.getD p (0, .none)).2) = es.toList.map (·.2) := by
  refine List.ext_getElem? fun i => ?_
  rw [List.getElem?_map, List.getElem?_map]
  by_cases h : i < es.size
  · rw [List.getElem?_range h, Array.getElem?_toList, Array.getElem?_eq_getElem h]
    simp [h]
  · rw [List.getElem?_eq_none (by simpa using h), Array.getElem?_toList, Array.getElem?_eq_none (by omega)]; rfl
structure Walked (prog : Program) (w : World) (n0 : Nat) (a : Addr) (ns : List Int) (h' : Heap) (it : Addr) (vs : List Value) (fp : List Addr) (St : Nat → Heap → Prop) : Prop where
  new : n0 ≤ it
  order : Order ns vs
  walks : ∀ B : Around, B.handled = none → Walks prog w B it fp [it] vs.length (fun i v => vs[i]? = some v) St
  start : St 0 h'
  foot : ∀ b ∈ fp, b = a ∨ n0 ≤ b
theorem pyIter_s {ns : List Int} {Q : Value → Shared → Prop} (hS : SetS w s.heap a ns)
    (h : ∀ h' d' it vs fp St, (∀ b o, s.heap.get? b = some o → h'.get? b = some o) → Walked prog w s.heap.objs.size a ns h' it vs fp St → Q (.ref it) { s with heap := h', drawn := d' }) : wpAny (model prog w) A (pyIter (.ref a)) Q E s := by
  have hT := hS.typeIs
  obtain ⟨o, es, ep, t, ho, hex, hd, hel, hpm, hnd, hb, hf, ht⟩ := id hS
  have hI : SetIs s.heap a es ep t := ⟨o, ho, hex.1, hd⟩
  have hlt : a < s.heap.objs.size := Heap.lt_size ho
  refine wpAny_pyIter_slot hT F.slot_set_iter (wpAny_call_entry F.slot_set_iter hT entry_s_iter ?_ (F.args_set_iter_1 _))
  unfold Builtin.«frozenset.__iter__»
  refine wpAny_bind (wpAny_pure ?_)
  refine wpAny_bind ?_
  unfold Builtin.Frozenset.sizeOf
  refine wpAny_bind (entries_w hI hf (wpAny_pure ?_))
  refine wpAny_bind ?_
  unfold setDrawn
  refine wpAny_bind (state_w hI hf (wpAny_bind (byText_w (wpAny_pure ?_))))
  show wpAny _ _ (if (!byText w && (!t.plain && decide (es.size > 1))) = true then _ else _) _ _ _
  by_cases hc : (!byText w && (!t.plain && decide (es.size > 1))) = true
  · rw [if_pos hc]
    refine wpAny_bind (draw_w _ _ _ _ (by simp) fun ps d hp => ?_)
    have hps : ps.length = es.size := by rw [hp.length_eq, List.length_range]
    unfold newTuple
    refine wpAny_bind (wpAny_newObj_type ?_ (by
      show (ps.map fun (i : Nat) => rawInt i).toArray.size ≤ sizeLine
      rw [List.size_toArray, List.length_map, hps]; exact fits_of_scanBound hb))
    have hI1 := hI.at_ (h' := s.heap.push { cls := .type "tuple", data := .seq (ps.map fun (i : Nat) => rawInt i).toArray }) fun o e => Heap.get?_push_of_some _ e
    refine wpAny_bind (epoch_w (s := { s with heap := s.heap.push _, drawn := d }) hI1 hf ?_)
    unfold newFields
    refine wpAny_bind (wpAny_newObj_type ?_)
    refine wpAny_pure ⟨_, rfl, "set_iterator", _, ⟨_, Heap.get?_push_size _ rfl, rfl⟩, slot_si_next.lookup, ?_⟩
    have hsz : (s.heap.push { cls := .type "tuple", data := .seq (ps.map fun (i : Nat) => rawInt i).toArray }).objs.size = s.heap.objs.size + 1 := Heap.size_push _ _
    refine h _ d _ (ps.map fun p => (es.getD p (0, .none)).2) [(s.heap.push { cls := .type "tuple", data := .seq (ps.map fun (i : Nat) => rawInt i).toArray }).objs.size, a, s.heap.objs.size]
      (fun i h => ItIs h (s.heap.push { cls := .type "tuple", data := .seq (ps.map fun (i : Nat) => rawInt i).toArray }).objs.size (.ref s.heap.objs.size) i a es.size ep ∧ SetIs h a es ep t ∧ TupIs h s.heap.objs.size ps)
      (fun b o e => Heap.get?_push_of_some _ (Heap.get?_push_of_some _ e)) (Walked.mk ?_ ?_ (fun B hB => ?_) ⟨⟨_, Heap.get?_push_size _ rfl, rfl, rfl⟩, hI1.at_ fun o e => Heap.get?_push_of_some _ e, ⟨_, _, Heap.get?_push_of_some _ (Heap.get?_push_size _ rfl), rfl⟩⟩ (fun b hb => ?_))
    · rw [hsz]; exact Nat.le_succ _
    · refine order_of hel hpm ?_
      rw [← range_getD]
      exact hp.map _
    · rw [List.length_map, hps]
      exact walks_drawn hB hf hp (by rw [hsz]; exact Nat.ne_of_lt (Nat.lt_succ_of_lt hlt)) (by rw [hsz]; exact Nat.ne_of_lt (Nat.lt_succ_self _))
    · simp only [List.mem_cons, List.not_mem_nil, or_false] at hb
      rcases hb with rfl | rfl | rfl
      · rw [hsz]; exact .inr (Nat.le_succ _)
      · exact .inl rfl
      · exact .inr (Nat.le_refl _)
  · rw [if_neg hc]
    refine wpAny_bind (wpAny_pure (wpAny_bind (epoch_w hI hf ?_)))
    unfold newFields
    refine wpAny_bind (wpAny_newObj_type ?_)
    refine wpAny_pure ⟨_, rfl, "set_iterator", _, ⟨_, Heap.get?_push_size _ rfl, rfl⟩, slot_si_next.lookup, ?_⟩
    have foot : ∀ b ∈ [s.heap.objs.size, a], b = a ∨ s.heap.objs.size ≤ b := fun b hb => by
      simp only [List.mem_cons, List.not_mem_nil, or_false] at hb
      rcases hb with rfl | rfl
      · exact .inr (Nat.le_refl _)
      · exact .inl rfl
    cases hbt : byText w with
    | true =>
      refine h _ s.drawn _ ((pickOrder (w.params.setOrder a ep) es).toList.map (·.2)) [s.heap.objs.size, a] (fun i h => ItIs h s.heap.objs.size (.int 0 0) i a es.size ep ∧ SetIs h a es ep t) (fun b o e => Heap.get?_push_of_some _ e)
        (Walked.mk (Nat.le_refl _) ?_ (fun B hB => ?_) ⟨⟨_, Heap.get?_push_size _ rfl, rfl, rfl⟩, hI.at_ fun o e => Heap.get?_push_of_some _ e⟩ foot)
      · exact order_of hel hpm ((pick_perm _ es).map _)
      · rw [List.length_map, (pick_perm _ es).length_eq, Array.length_toList]
        exact walks_text hB hf hbt (Nat.ne_of_lt hlt)
    | false =>
      rw [hbt] at hc
      refine h _ s.drawn _ (es.toList.map (·.2)) [s.heap.objs.size, a] (fun i h => ∃ slot : Nat, ItIs h s.heap.objs.size (.int slot 0) i a es.size ep ∧ SetIs h a es ep t ∧ Cut t.place slot i) (fun b o e => Heap.get?_push_of_some _ e)
        (Walked.mk (Nat.le_refl _) (order_of hel hpm (.refl _)) (fun B hB => ?_) ⟨0, ⟨_, Heap.get?_push_size _ rfl, rfl, rfl⟩, hI.at_ fun o e => Heap.get?_push_of_some _ e, Nat.zero_le _, fun i x hi => absurd hi (Nat.not_lt_zero _), fun i x _ _ => Nat.zero_le _⟩ foot)
      rw [List.length_map, Array.length_toList]
      exact walks_plain hB hf hbt ht (by simpa using hc) (Nat.ne_of_lt hlt)
end
end SS
end
section
namespace SS
open PySem
set_option maxRecDepth 100000
section
variable {prog : Program} {w : World} {A : Around} {E : Value → Shared → Prop} {s : Shared} {a : Addr} {ns : List Int}
theorem set_len_look : typeLookup (.type "set") "__len__" = pure (some (.builtin "set.__len__")) := by rw [typeLookup_type, builtinLookup_eq_fast]; kernel_rfl
theorem hint_s {Q : Bool → Shared → Prop} (hT : s.TypeIs (.ref a) "set") (h : Q false s) : wpAny (model prog w) A (Builtin.List.listLengthHint (.ref a)) Q E s := by
  unfold Builtin.List.listLengthHint
  refine wpAny_bind (wpAny_specialOf hT set_len_look ?_)
  generalize hid : ("set.__len__" : String) = id0
  wp_delta
  rw [show splitId id0 = some ("set", "__len__") from by subst hid; decide +kernel]
  subst hid
  refine wpAny_bind (wpAny_isInstance (T := "set") (b := true) hT sub_set_self ?_)
  refine wpAny_ite_split (fun q => absurd q (by decide)) fun _ => ?_
  refine wpAny_ite_split (fun _ => wpAny_bind (wpAny_typeOf hT (wpAny_pure h))) fun q => absurd (by decide +kernel) q
theorem extend_s {R : Result → Shared → Prop} {S : Addr} {res : Value} (hS : SetS w s.heap a ns) (hh : A.handled = none) (hSa : S ≠ a) (hL : s.heap.get? S = some { cls := .type "list", data := .seq #[] 0 })
    (hR : ∀ h' tk d' vs c, (∀ b o, b ≠ S → s.heap.get? b = some o → h'.get? b = some o) → h'.get? S = some { cls := .type "list", dict := none, data := .seq vs.toArray c, slots := #[] } → Order ns vs → R (.ok (.ret res)) { s with heap := h', toks := tk, drawn := d' }) :
    wpAny (model prog w) A.in1 (Builtin.List.listExtendWith (.ref S) (.ref a) res)
      (fun fin s' => match fin with | .done f => R (.ok f) s' | .again c' => c'.quiet = true ∧ codeAny (model prog w) A c' R s') (fun e s' => R (.error e) s') s := by
  unfold Builtin.List.listExtendWith
  refine wpAny_bind (wpAny_typeOf hS.typeIs ?_)
  have h1 : Builtin.List.listSameRef (.ref S) (.ref a) = false := by simp [Builtin.List.listSameRef, hSa]
  have h2 : (Value.type "set" == Value.type "list") = false := by decide
  have h3 : (Value.type "set" == Value.type "tuple") = false := by decide
  simp only [h1, h2, h3, Bool.or_false, Bool.false_eq_true, if_false]
  refine wpAny_bind (pyIter_s hS fun h' d' it vs fp St kept wd => ?_)
  have hlen : vs.length = ns.length := by
    obtain ⟨ms, q1, q2⟩ := wd.order
    rw [q1.length, q2.length_eq]
  have hb : vs.length ≤ sizeLine := by
    obtain ⟨o, es, ep, t, ho, hex, hd, hel, hpm, hnd, hb, hf, ht⟩ := id hS
    rw [hlen, ← hpm.length_eq, List.length_map, Array.length_toList]
    exact fits_of_scanBound hb
  have hSlt : S < s.heap.objs.size := Heap.lt_size hL
  have hSf : S ∉ fp := fun q => by
    rcases wd.foot S q with e | e
    · exact hSa e
    · exact absurd hSlt (Nat.not_lt.mpr e)
  have hSi : S ≠ it := fun e => absurd hSlt (by rw [e]; exact Nat.not_lt.mpr wd.new)
  have W := wd.walks A.in1 (by simp [hh])
  refine wpAny_bind (wpAny_holding (hint_s (s := { s with heap := h', drawn := d' }) (hS.at_ fun o e => kept a o e).typeIs ?_))
  refine wpAny_ite_split (fun _ => ?_) fun q => absurd (by decide +kernel) q
  refine wpAny_bind (wpAny_rule (wpAny_bind ?_))
  show wpAny _ _ (updateSeq S (·.push .none) >>= fun _ => updateSeq S (·.pop)) _ _ _
  have hL1 := kept S _ hL
  refine wpAny_bind (wpAny_updateSeq (s := { s with heap := h', drawn := d' }) hL1 rfl ?_)
  have hL2 := Heap.get?_update_self (Obj.mapSeq (·.push Value.none)) hL1 rfl
  refine wpAny_updateSeq (hz := by seq_fits) hL2 rfl ?_
  have hL3 := Heap.get?_update_self (Obj.mapSeq (·.pop)) hL2 rfl
  have oth : ∀ b o, b ≠ S → h'.get? b = some o → ((h'.update S (Obj.mapSeq (·.push Value.none))).update S (Obj.mapSeq (·.pop))).get? b = some o := fun b o hb e =>
    (Heap.get?_update_other _ _ (Ne.symm hb)).trans ((Heap.get?_update_other _ _ (Ne.symm hb)).trans e)
  refine wpAny_pure ⟨plainId_quiet PySem.F.plain_extend_loop _, codeAny_extend_loopS W.toS hb S hSf res vs.length 0 _ #[] _ (Nat.sub_zero _) (Nat.zero_le _) (W.frame 0 _ _ wd.start fun b hb o e => oth b o (fun z => hSf (z ▸ hb)) e) hL3 (ItemsOf.nil _) fun s2 acc c mv hL4 hacc => ?_⟩
  have eacc : acc = vs.toArray := by
    apply Array.ext'
    refine List.ext_getElem? fun i => ?_
    by_cases hi : i < acc.size
    · have q := hacc.2 i acc[i] (Array.getElem?_eq_getElem hi)
      rw [Array.getElem?_toList, Array.getElem?_eq_getElem hi]
      exact q.symm
    · rw [Array.getElem?_toList, Array.getElem?_eq_none (by omega), List.getElem?_eq_none (by rw [← hacc.1]; omega)]
  subst eacc
  obtain ⟨h2, g2, d2, t2, o2⟩ := s2
  have eg : g2 = s.gens := mv.gens
  have ed : d2 = d' := mv.drawn
  have eo : o2 = s.os := mv.os
  subst eg ed eo
  refine hR h2 t2 d2 vs c (fun b o hb e => mv.heap b o (fun hm => ?_) (oth b o hb (kept b o e))) hL4 wd.order
  rcases List.mem_cons.mp hm with z | z
  · exact hb z
  · rw [List.mem_singleton] at z
    exact absurd (Heap.lt_size e) (by rw [z]; exact Nat.not_lt.mpr wd.new)
theorem collect_s {R : List Value → Shared → Prop} (hS : SetS w s.heap a ns) (hh : A.handled = none)
    (h : ∀ h' tk d' vs, (∀ b o, s.heap.get? b = some o → h'.get? b = some o) → s.heap.objs.size < h'.objs.size → Order ns vs → R vs { s with heap := h', toks := tk, drawn := d' }) : wpAny (model prog w) A (collect (.ref a)) R E s := by
  unfold collect
  refine wpAny_bind (wpAny_runValue (codeAny_builtin PyProof.Rows.entry_proto_collect' ?_))
  rw [Around.under_plainId PySem.F.plain_proto_collect _]
  show wpAny _ A.in1 (newList [] >>= fun l => again (.builtin "list.__iadd__" ⟨[l, .ref a], []⟩)) _ _ s
  refine wpAny_bind (wpAny_newObj_type ?_)
  refine wpAny_pure ⟨plainId_quiet PySem.F.plain_list_iadd _, codeAny_builtin PyProof.Rows.entry_list_iadd' ?_⟩
  rw [Around.under_plainId PySem.F.plain_list_iadd _]
  show wpAny _ A.in1 (Builtin.List.listExtendWith (.ref s.heap.objs.size) (.ref a) (.ref s.heap.objs.size)) _ _ _
  have key := extend_s (prog := prog) (A := A) (s := { s with heap := s.heap.push { cls := .type "list", data := .seq ([] : List Value).toArray } }) (res := .ref s.heap.objs.size) (S := s.heap.objs.size)
    (R := fun (q : Result) (s' : Shared) => ∃ h' tk d' vs c, q = .ok (.ret (.ref s.heap.objs.size)) ∧ s' = { s with heap := h', toks := tk, drawn := d' } ∧
      (∀ b o, s.heap.get? b = some o → h'.get? b = some o) ∧ h'.get? s.heap.objs.size = some { cls := .type "list", dict := none, data := .seq vs.toArray c, slots := #[] } ∧ Order ns vs)
    (hS.at_ fun o e => Heap.get?_push_of_some _ e) hh (Nat.ne_of_gt hS.lt) (Heap.get?_push_size _ rfl)
    (fun h' tk d' vs c k hl q => ⟨h', tk, d', vs, c, rfl, rfl, fun b o e => k b o (Nat.ne_of_lt (Heap.lt_size e)) (Heap.get?_push_of_some _ e), hl, q⟩)
  refine wpAny_mono key (fun fin s' x => ?_) fun e s' x => ?_
  · cases fin with
    | done f =>
      obtain ⟨h', tk, d', vs, c, e, rfl, k, hl, q⟩ := x
      cases e
      exact wpAny_bind (wpAny_load hl (wpAny_pure (by simpa using h h' tk d' vs k (Heap.lt_size hl) q)))
    | again c1 =>
      refine ⟨x.1, codeAny_mono x.2 fun r s2 y => ?_⟩
      obtain ⟨h', tk, d', vs, c, rfl, rfl, k, hl, q⟩ := y
      exact wpAny_bind (wpAny_load hl (wpAny_pure (by simpa using h h' tk d' vs k (Heap.lt_size hl) q)))
  · obtain ⟨_, _, _, _, _, e', _⟩ := x
    cases e'
theorem sorted_s {Q : Value → Shared → Prop} (hS : SetS w s.heap a ns) (hh : A.handled = none)
    (h : ∀ h' tk d' p (out : List Value) (c : Nat) (ms : List Int), (∀ b o, s.heap.get? b = some o → h'.get? b = some o) → s.heap.objs.size ≤ p → h'.get? p = some { cls := .type "list", data := .seq out.toArray c } → PyProof.Rows.IntsAre out ms → ms.Perm ns → ms.Pairwise (· ≤ ·) →
      Q (.ref p) { s with heap := h', toks := tk, drawn := d' }) : wpAny (model prog w) A (call (.builtin "sorted") [.ref a]) Q E s := by
  refine Calls.call_function_entry PyProof.Rows.kind_sorted PyProof.Rows.plain_sorted PyProof.Rows.entry_sorted (PyProof.Rows.args_sorted1 _) ?_
  unfold Builtin.«sorted»
  refine wpAny_bind (m := checkCount "sorted" 1 1 _) (wpAny_pure ?_)
  refine wpAny_bind (collect_s (A := A.in1) hS (by simp [hh]) fun h1 t1 d1 vs k1 hsz q1 => ?_)
  obtain ⟨ms, i1, p1⟩ := q1
  have hb : vs.length ≤ sizeLine := by
    obtain ⟨o, es, ep, t, ho, hex, hd, hel, hpm, hnd, hb, hf, ht⟩ := id hS
    rw [i1.length, p1.length_eq, ← hpm.length_eq, List.length_map, Array.length_toList]
    exact fits_of_scanBound hb
  refine wpAny_bind (wpAny_newList ?_ hb)
  have hL : (h1.push (PyProof.Rows.seqObj "list" vs.toArray 0)).get? h1.objs.size = some (PyProof.Rows.seqObj "list" vs.toArray 0) := Heap.get?_push_size _ rfl
  refine wpAny_bind (wpAny_holding (wpAny_call_entry PyProof.Rows.slot_list_sort ⟨_, hL, rfl⟩ PyProof.Rows.entry_list_sort (PyProof.Rows.list_sort_treeAny (s := { s with heap := h1.push (PyProof.Rows.seqObj "list" vs.toArray 0), toks := t1, drawn := d1 }) hL i1 hb fun out ns' j1 j2 j3 => ⟨_, rfl, ?_⟩) (PyProof.Rows.args_list_sort _)))
  obtain ⟨c, hg⟩ := PyProof.Rows.sortedHeap_at (vs := vs) (out := out) hL
  refine wpAny_pure ⟨_, rfl, h _ t1 d1 h1.objs.size out.toList c ns' (fun b o e => ?_) ?_ ?_ j1 (j2.trans p1) j3⟩
  · have hlt : b < h1.objs.size := Heap.lt_size (k1 b o e)
    rw [PyProof.Rows.sortedHeap_old (Nat.ne_of_lt hlt) (by rw [Heap.size_push]; exact Nat.lt_succ_of_lt hlt)]
    exact Heap.get?_push_of_some _ (k1 b o e)
  · exact Nat.le_of_lt hsz
  · simpa using hg
end
end SS
end
section
namespace VM
open Vastog

noncomputable abbrev Srt (l : List Nat) : Prop := l.Pairwise (· < ·)

theorem srt_ext : ∀ {a b : List Nat}, Srt a → Srt b → (∀ x, x ∈ a ↔ x ∈ b) → a = b
  | [], [], _, _, _ => rfl
  | [], y :: b, _, _, h => absurd ((h y).mpr List.mem_cons_self) (by simp)
  | x :: a, [], _, _, h => absurd ((h x).mp List.mem_cons_self) (by simp)
  | x :: a, y :: b, ha, hb, h => by
    have ha' := List.pairwise_cons.mp ha
    have hb' := List.pairwise_cons.mp hb
    have e : x = y := by
      rcases List.mem_cons.mp ((h x).mp List.mem_cons_self) with e | hx
      · exact e
      · rcases List.mem_cons.mp ((h y).mpr List.mem_cons_self) with e | hy
        · exact e.symm
        · have h1 := hb'.1 x hx
          have h2 := ha'.1 y hy
          omega
    subst e
    refine congrArg (x :: ·) (srt_ext ha'.2 hb'.2 fun z => ?_)
    constructor
    · intro hz
      rcases List.mem_cons.mp ((h z).mp (List.mem_cons_of_mem _ hz)) with e | h'
      · have := ha'.1 z hz
        omega
      · exact h'
    · intro hz
      rcases List.mem_cons.mp ((h z).mpr (List.mem_cons_of_mem _ hz)) with e | h'
      · have := hb'.1 z hz
        omega
      · exact h'

theorem mem_putIn {x n : Nat} : ∀ {l : List Nat}, x ∈ putIn n l ↔ x = n ∨ x ∈ l
  | [] => by simp [putIn]
  | m :: r => by
    unfold putIn
    by_cases h1 : n = m
    · subst h1; rw [if_pos rfl]; simp
    · rw [if_neg h1]
      by_cases h2 : n < m
      · rw [if_pos h2]; simp
      · rw [if_neg h2, List.mem_cons, mem_putIn (l := r), List.mem_cons]
        constructor
        · rintro (h | h | h) <;> simp [h]
        · rintro (h | h | h) <;> simp [h]

theorem srt_putIn {n : Nat} : ∀ {l : List Nat}, Srt l → Srt (putIn n l)
  | [], _ => by simp [putIn, Srt]
  | m :: r, h => by
    have h' := List.pairwise_cons.mp h
    unfold putIn
    by_cases h1 : n = m
    · rw [if_pos h1]; exact h
    · rw [if_neg h1]
      by_cases h2 : n < m
      · rw [if_pos h2]
        refine List.pairwise_cons.mpr ⟨fun z hz => ?_, h⟩
        rcases List.mem_cons.mp hz with e | hz
        · omega
        · have := h'.1 z hz; omega
      · rw [if_neg h2]
        refine List.pairwise_cons.mpr ⟨fun z hz => ?_, srt_putIn h'.2⟩
        rcases mem_putIn.mp hz with e | hz
        · omega
        · exact h'.1 z hz

theorem mem_foldr_putIn {x : Nat} {g : List Nat} : ∀ {l : List Nat}, x ∈ l.foldr putIn g ↔ x ∈ l ∨ x ∈ g
  | [] => by simp
  | y :: r => by
    rw [List.foldr_cons, mem_putIn, mem_foldr_putIn (l := r), List.mem_cons]
    constructor
    · rintro (h | h | h) <;> simp [h]
    · rintro ((h | h) | h) <;> simp [h]
theorem srt_foldr_putIn {g : List Nat} (hg : Srt g) : ∀ {l : List Nat}, Srt (l.foldr putIn g)
  | [] => hg
  | _ :: _ => by rw [List.foldr_cons]; exact srt_putIn (srt_foldr_putIn hg)
theorem mem_inOrder {x : Nat} {l : List Nat} : x ∈ inOrder l ↔ x ∈ l := by
  unfold inOrder; rw [mem_foldr_putIn]; simp
theorem srt_inOrder {l : List Nat} : Srt (inOrder l) := by
  unfold inOrder; exact srt_foldr_putIn (by simp [Srt])
theorem srt_range (n : Nat) : Srt (List.range n) := List.pairwise_lt_range
theorem srt_filter {l : List Nat} (p : Nat → Bool) (h : Srt l) : Srt (l.filter p) := List.Pairwise.filter p h
theorem srt_nodup {l : List Nat} (h : Srt l) : l.Nodup := List.Pairwise.imp (fun {_ _} h => Nat.ne_of_lt h) h

structure J where
  cached : Bool
  failing : Bool
  weight : Nat
  needs : List Nat
  goal : Bool
  answered : Bool
  taken : Nat
  outcome : Nat
  cause : Option Nat
  losses : Nat
deriving DecidableEq
noncomputable def J0 : J := ⟨false, false, 1, [], false, false, 0, 0, none, 0⟩
structure M where
  jobs : List J
  workers : Nat
  keep : Bool
  starts : Nat
noncomputable def M.start : M := ⟨[], 1, true, 0⟩
noncomputable def M.n (m : M) : Nat := m.jobs.length
noncomputable def M.j (m : M) (k : Nat) : J := m.jobs.getD k J0
noncomputable def J.ended (x : J) : Bool := x.outcome != 0
noncomputable def J.failed (x : J) : Bool := x.outcome == 3
noncomputable def J.there (x : J) : Bool := x.outcome == 1 || x.outcome == 2
noncomputable def J.running (x : J) : Bool := decide (0 < x.taken)
noncomputable def J.open_ (x : J) : Bool := x.answered && !x.cached
noncomputable def sel (m : M) (p : J → Bool) : List Nat := (List.range m.n).filter fun k => p (m.j k)
theorem M.j_ge {m : M} {k : Nat} (h : m.n ≤ k) : m.j k = J0 := by
  unfold M.j; rw [List.getD_eq_getElem?_getD, List.getElem?_eq_none h]; rfl
theorem M.j_some {m : M} {k : Nat} {x : J} (h : m.jobs[k]? = some x) : m.j k = x := by
  unfold M.j; rw [List.getD_eq_getElem?_getD, h]; rfl
theorem M.j_at {m : M} {k : Nat} (h : k < m.n) : m.jobs[k]? = some (m.j k) := by
  unfold M.j; rw [List.getD_eq_getElem?_getD]
  rw [List.getElem?_eq_getElem h]; rfl
theorem mem_sel {m : M} {p : J → Bool} {k : Nat} : k ∈ sel m p ↔ k < m.n ∧ p (m.j k) = true := by
  unfold sel; rw [List.mem_filter, List.mem_range]
theorem srt_sel (m : M) (p : J → Bool) : Srt (sel m p) := srt_filter _ (srt_range _)
theorem sel_contains {m : M} {p : J → Bool} (h0 : p J0 = false) (k : Nat) : (sel m p).contains k = p (m.j k) := by
  rw [Bool.eq_iff_iff, List.contains_iff_mem, mem_sel]
  constructor
  · exact fun h => h.2
  · intro h
    refine ⟨?_, h⟩
    by_cases hk : k < m.n
    · exact hk
    · rw [M.j_ge (by omega), h0] at h; cases h

noncomputable def M.upd (m : M) (k : Nat) (x : J) : M := { m with jobs := m.jobs.set k x }
theorem M.upd_n {m : M} {k : Nat} {x : J} : (m.upd k x).n = m.n := by unfold M.upd M.n; simp
theorem M.upd_same {m : M} {k : Nat} {x : J} (h : k < m.n) : (m.upd k x).j k = x := by
  apply M.j_some; unfold M.upd; exact List.getElem?_set_self h
theorem M.upd_ne {m : M} {k i : Nat} {x : J} (h : i ≠ k) : (m.upd k x).j i = m.j i := by
  unfold M.upd M.j; rw [List.getD_eq_getElem?_getD, List.getD_eq_getElem?_getD, List.getElem?_set_ne (Ne.symm h)]

theorem sel_same {m m' : M} {p : J → Bool} (hn : m'.n = m.n) (h : ∀ i, i < m.n → p (m'.j i) = p (m.j i)) : sel m' p = sel m p := by
  refine srt_ext (srt_sel _ _) (srt_sel _ _) fun i => ?_
  rw [mem_sel, mem_sel, hn]
  constructor
  · rintro ⟨a, b⟩; exact ⟨a, by rw [← h i a]; exact b⟩
  · rintro ⟨a, b⟩; exact ⟨a, by rw [h i a]; exact b⟩
theorem sel_put {m : M} {p : J → Bool} {k : Nat} {x : J} (hk : k < m.n) (hx : p x = true) : sel (m.upd k x) p = putIn k (sel m p) := by
  refine srt_ext (srt_sel _ _) (srt_putIn (srt_sel _ _)) fun i => ?_
  rw [mem_sel, mem_putIn, mem_sel, M.upd_n]
  by_cases e : i = k
  · subst e; rw [M.upd_same hk]; simp [hk, hx]
  · rw [M.upd_ne e]; simp [e]
theorem sel_stay {m : M} {p : J → Bool} {k : Nat} {x : J} (hx : k < m.n → p x = p (m.j k)) : sel (m.upd k x) p = sel m p := by
  refine sel_same M.upd_n fun i hi => ?_
  by_cases e : i = k
  · subst e; rw [M.upd_same hi]; exact hx hi
  · rw [M.upd_ne e]
theorem sel_drop {m : M} {p : J → Bool} {k : Nat} {x : J} (hk : k < m.n) (hx : p x = false) : sel (m.upd k x) p = (sel m p).filter fun i => i != k := by
  refine srt_ext (srt_sel _ _) (srt_filter _ (srt_sel _ _)) fun i => ?_
  rw [mem_sel, List.mem_filter, mem_sel, M.upd_n]
  by_cases e : i = k
  · subst e; rw [M.upd_same hk]; simp [hx]
  · rw [M.upd_ne e]; simp [e]
theorem length_putIn {k : Nat} : ∀ {l : List Nat}, k ∉ l → (putIn k l).length = l.length + 1
  | [], _ => rfl
  | m :: r, h => by
    unfold putIn
    rw [if_neg (fun e => h (by simp [e]))]
    by_cases h2 : k < m
    · rw [if_pos h2]; rfl
    · rw [if_neg h2, List.length_cons, length_putIn (fun e => h (List.mem_cons_of_mem _ e))]; rfl

noncomputable def runL (m : M) : List Running := (sel m J.running).map fun k => ⟨k, (m.j k).taken⟩

structure R (s : State) (m : M) : Prop where
  jobs : s.jobs = m.jobs.map fun x => ⟨x.cached, x.failing, x.weight, x.needs⟩
  goals : s.goals = sel m J.goal
  workers : s.workers = m.workers
  keep : s.keep = m.keep
  answered : s.answered = sel m J.answered
  built : s.built = sel m fun x => x.outcome == 1
  fetched : s.fetched = sel m fun x => x.outcome == 2
  failed : ∀ k, told s.failed k = if (m.j k).outcome = 3 then (m.j k).cause else none
  failedN : s.failed.length = (sel m J.failed).length
  running : s.running.Perm (runL m)
  losses : ∀ k, (told s.losses k).getD 0 = (m.j k).losses
  starts : s.starts = m.starts

structure WF (m : M) : Prop where
  len : m.n ≤ 64
  wk1 : 1 ≤ m.workers
  wk8 : m.workers ≤ 8
  needs : ∀ k, ∀ d ∈ (m.j k).needs, d < k
  needsS : ∀ k, Srt (m.j k).needs
  w1 : ∀ k, 1 ≤ (m.j k).weight
  w8 : ∀ k, (m.j k).weight ≤ 8
  run0 : ∀ k, 0 < (m.j k).taken → (m.j k).outcome = 0
  runA : ∀ k, 0 < (m.j k).taken → (m.j k).answered = true
  out3 : ∀ k, (m.j k).outcome ≤ 3
  cause : ∀ k, (m.j k).outcome = 3 → ∃ c, (m.j k).cause = some c ∧ c < m.n
  tk8 : ∀ k, (m.j k).taken ≤ 8
  loss : ∀ k, (m.j k).losses ≤ 3 ∧ ((m.j k).losses = 3 → (m.j k).outcome = 3)

theorem R.start : R Vastog.start M.start :=
  ⟨rfl, rfl, rfl, rfl, rfl, rfl, rfl, fun k => by rw [M.j_ge (Nat.zero_le _)]; rfl, rfl, List.Perm.refl _, fun k => by rw [M.j_ge (Nat.zero_le _)]; rfl, rfl⟩
theorem WF.start : WF M.start := by
  have h : ∀ k, M.start.j k = J0 := fun k => M.j_ge (Nat.zero_le _)
  refine ⟨by decide, by decide, by decide, ?_, ?_, ?_, ?_, ?_, ?_, ?_, ?_, ?_, ?_⟩ <;> intro k <;> rw [h] <;> simp [J0]

section
variable {s : State} {m : M} (r : R s m)
theorem R.len (r : R s m) : s.jobs.length = m.n := by rw [r.jobs, List.length_map]; rfl
theorem R.job (r : R s m) (k : Nat) : s.job k = ⟨(m.j k).cached, (m.j k).failing, (m.j k).weight, (m.j k).needs⟩ := by
  unfold State.job
  rw [r.jobs, List.getElem?_map]
  by_cases h : k < m.n
  · rw [M.j_at h]; rfl
  · rw [M.j_ge (by omega), List.getElem?_eq_none (by show m.n ≤ k; omega)]; rfl
theorem R.there (r : R s m) (k : Nat) : s.there k = (m.j k).there := by
  unfold State.there
  rw [r.built, r.fetched, sel_contains (by rfl), sel_contains (by rfl)]; rfl
theorem R.isFailed (r : R s m) (w : WF m) (k : Nat) : s.isFailed k = (m.j k).failed := by
  unfold State.isFailed
  rw [r.failed]
  unfold J.failed
  by_cases h : (m.j k).outcome = 3
  · obtain ⟨c, hc, _⟩ := w.cause k h
    rw [if_pos h, hc, h]; rfl
  · rw [if_neg h]; simp [h]
theorem J.ended_eq {x : J} (h : x.outcome ≤ 3) : (x.there || x.failed) = x.ended := by
  unfold J.there J.failed J.ended
  have : x.outcome = 0 ∨ x.outcome = 1 ∨ x.outcome = 2 ∨ x.outcome = 3 := by omega
  rcases this with e | e | e | e <;> rw [e] <;> rfl
theorem R.ended (r : R s m) (w : WF m) (k : Nat) : s.ended k = (m.j k).ended := by
  unfold State.ended
  rw [r.there, r.isFailed w, J.ended_eq (w.out3 k)]
theorem mem_runL {m : M} {x : Running} : x ∈ runL m ↔ x.job < m.n ∧ 0 < x.takes ∧ x.takes = (m.j x.job).taken := by
  unfold runL
  rw [List.mem_map]
  constructor
  · rintro ⟨k, hk, rfl⟩
    rw [mem_sel] at hk
    exact ⟨hk.1, of_decide_eq_true hk.2, rfl⟩
  · rintro ⟨a, b, c⟩
    exact ⟨x.job, mem_sel.mpr ⟨a, decide_eq_true (by rw [← c]; exact b)⟩, by rw [← c]⟩
theorem J0_of {m : M} {k : Nat} {p : J → Bool} (h0 : p J0 = false) (h : p (m.j k) = true) : k < m.n := by
  by_cases hk : k < m.n
  · exact hk
  · rw [M.j_ge (by omega), h0] at h; cases h
theorem R.isRunning (r : R s m) (k : Nat) : s.isRunning k = (m.j k).running := by
  unfold State.isRunning
  rw [Bool.eq_iff_iff, List.any_eq_true]
  constructor
  · rintro ⟨x, hx, e⟩
    have := mem_runL.mp (r.running.mem_iff.mp hx)
    have e' : x.job = k := eq_of_beq e
    rw [e'] at this
    exact decide_eq_true (by omega)
  · intro h
    have hk := J0_of (p := J.running) rfl h
    exact ⟨⟨k, (m.j k).taken⟩, r.running.mem_iff.mpr (mem_runL.mpr ⟨hk, of_decide_eq_true h, rfl⟩), beq_self_eq_true k⟩
theorem R.isAnswered (r : R s m) (k : Nat) : s.isAnswered k = (m.j k).answered := by
  unfold State.isAnswered
  rw [r.answered, sel_contains rfl]
theorem R.open_ (r : R s m) (k : Nat) : s.open_ k = (m.j k).open_ := by
  unfold State.open_ J.open_
  rw [r.isAnswered, r.job]
theorem R.goal (r : R s m) (k : Nat) : s.goals.contains k = (m.j k).goal := by rw [r.goals, sel_contains rfl]
end
end VM
end
section
namespace VM
open Vastog

noncomputable def used (m : M) : Nat := (m.jobs.map J.taken).sum
theorem sum_range_map {α : Type} (f : α → Nat) (d : α) (hd : f d = 0) : ∀ (l : List α), ((List.range l.length).map fun k => f (l.getD k d)).sum = (l.map f).sum
  | [] => rfl
  | a :: l => by
    rw [List.length_cons, List.range_succ_eq_map, List.map_cons, List.sum_cons, List.map_map, List.map_cons, List.sum_cons]
    have e := sum_range_map f d hd l
    show _ + ((List.range l.length).map fun k => f (l.getD k d)).sum = _
    rw [e]; rfl
theorem sum_filter_pos (f : Nat → Nat) : ∀ (l : List Nat), ((l.filter fun k => decide (0 < f k)).map f).sum = (l.map f).sum
  | [] => rfl
  | a :: l => by
    rw [List.filter_cons]
    by_cases h : 0 < f a
    · rw [if_pos (decide_eq_true h), List.map_cons, List.sum_cons, sum_filter_pos f l, List.map_cons, List.sum_cons]
    · rw [if_neg (by simp; omega), sum_filter_pos f l, List.map_cons, List.sum_cons]; omega
theorem R.used {s : State} {m : M} (r : R s m) : s.used = used m := by
  unfold State.used
  rw [(r.running.map _).sum_nat]
  unfold runL sel
  rw [List.map_map]
  show ((List.filter (fun k => decide (0 < (m.j k).taken)) (List.range m.n)).map fun k => (m.j k).taken).sum = _
  rw [sum_filter_pos (fun k => (m.j k).taken)]
  exact sum_range_map J.taken J0 rfl m.jobs
noncomputable def free (m : M) : Nat := m.workers - used m
noncomputable def takes (m : M) (k : Nat) : Nat := min (m.j k).weight m.workers
noncomputable def blocked (m : M) : Bool := !m.keep && m.jobs.any J.failed
theorem R.free {s : State} {m : M} (r : R s m) : s.free = free m := by
  unfold State.free VM.free; rw [r.used, r.workers]
theorem R.takes {s : State} {m : M} (r : R s m) (k : Nat) : s.takes k = takes m k := by
  unfold State.takes VM.takes; rw [r.job, r.workers]
theorem any_jobs {m : M} {p : J → Bool} : m.jobs.any p = !(sel m p).isEmpty := by
  rw [Bool.eq_iff_iff, List.any_eq_true]
  constructor
  · rintro ⟨x, hx, hp⟩
    obtain ⟨k, hk⟩ := List.getElem?_of_mem hx
    have hk' : k < m.n := (List.getElem?_eq_some_iff.mp hk).1
    have hm : k ∈ sel m p := mem_sel.mpr ⟨hk', by rw [M.j_some hk]; exact hp⟩
    cases e : sel m p with
    | nil => rw [e] at hm; cases hm
    | cons a l => rfl
  · intro h
    cases e : sel m p with
    | nil => rw [e] at h; cases h
    | cons a l =>
      have hm : a ∈ sel m p := by rw [e]; exact List.mem_cons_self
      obtain ⟨h1, h2⟩ := mem_sel.mp hm
      exact ⟨m.j a, List.mem_of_getElem? (M.j_at h1), h2⟩
theorem R.blocked {s : State} {m : M} (r : R s m) : s.blocked = blocked m := by
  unfold State.blocked VM.blocked
  rw [r.keep, any_jobs]
  congr 2
  have h := r.failedN
  cases hs : s.failed with
  | nil => rw [hs] at h; cases e : sel m J.failed with
    | nil => rfl
    | cons a l => rw [e] at h; cases h
  | cons a l => rw [hs] at h; cases e : sel m J.failed with
    | nil => rw [e] at h; cases h
    | cons a l => rfl

noncomputable def Fix (m : M) (w : Nat → Bool) : Prop :=
  ∀ k, k < m.n → w k = (!(m.j k).ended && ((m.j k).goal || (List.range m.n).any fun p => w p && ((m.j p).open_ && (m.j p).needs.contains k)))
theorem any_congr' {α : Type} {l : List α} {f g : α → Bool} (h : ∀ x ∈ l, f x = g x) : l.any f = l.any g := by
  induction l with
  | nil => rfl
  | cons a l ih => rw [List.any_cons, List.any_cons, h a List.mem_cons_self, ih fun x hx => h x (List.mem_cons_of_mem _ hx)]
theorem fix_congr {m m' : M} {w w' : Nat → Bool} (hn : m'.n = m.n) (hs : ∀ k, ∀ d ∈ (m.j k).needs, d < k) (f : Fix m w) (f' : Fix m' w') {k : Nat}
    (he : ∀ i, k ≤ i → i < m.n → (m'.j i).ended = (m.j i).ended ∧ (m'.j i).goal = (m.j i).goal ∧ (m'.j i).open_ = (m.j i).open_)
    (hd : ∀ i, i < m.n → (m'.j i).needs = (m.j i).needs) :
    ∀ (t i : Nat), k ≤ i → i < m.n → m.n - i ≤ t → w' i = w i
  | 0, i, _, h1, h2 => by omega
  | t + 1, i, h0, h1, h2 => by
    rw [f i h1, f' i (by omega), hn, (he i h0 h1).1, (he i h0 h1).2.1]
    congr 2
    refine any_congr' fun p hp => ?_
    have hp' : p < m.n := List.mem_range.mp hp
    rw [hd p hp']
    by_cases hc : (m.j p).needs.contains i = true
    · have hlt : i < p := hs p i (List.contains_iff_mem.mp hc)
      rw [(he p (by omega) hp').2.2, fix_congr hn hs f f' he hd t p (by omega) hp' (by omega)]
    · have hc' : (m.j p).needs.contains i = false := by simpa using hc
      rw [hc']; simp

theorem wantedFrom_fix {s : State} {m : M} (r : R s m) (wf : WF m) : ∀ (k : Nat) (l : List Nat), k ≤ m.n → Srt l → (∀ x ∈ l, k ≤ x ∧ x < m.n) →
    (∀ i, k ≤ i → i < m.n → l.contains i = (!(m.j i).ended && ((m.j i).goal || l.any fun p => (m.j p).open_ && (m.j p).needs.contains i))) →
    Srt (wantedFrom s k l) ∧ (∀ x ∈ wantedFrom s k l, x < m.n) ∧
    ∀ i, i < m.n → (wantedFrom s k l).contains i = (!(m.j i).ended && ((m.j i).goal || (wantedFrom s k l).any fun p => (m.j p).open_ && (m.j p).needs.contains i))
  | 0, l, _, h1, h2, h3 => ⟨h1, fun x hx => (h2 x hx).2, fun i hi => h3 i (Nat.zero_le _) hi⟩
  | k + 1, l, h0, h1, h2, h3 => by
    unfold wantedFrom
    have e : (!s.ended k && (s.goals.contains k || l.any fun p => s.open_ p && (s.job p).needs.contains k)) = (!(m.j k).ended && ((m.j k).goal || l.any fun p => (m.j p).open_ && (m.j p).needs.contains k)) := by
      rw [r.ended wf, r.goal]
      congr 2
      exact any_congr' fun p _ => by rw [r.open_, r.job]
    rw [e]
    have own : ∀ i, k ≤ i → ((m.j k).open_ && (m.j k).needs.contains i) = false := fun i hi => by
      cases hc : (m.j k).needs.contains i with
      | false => simp
      | true => have := wf.needs k i (List.contains_iff_mem.mp hc); omega
    have nk : l.contains k = false := by
      cases hc : l.contains k with
      | false => rfl
      | true => have := h2 k (List.contains_iff_mem.mp hc); omega
    by_cases hc : (!(m.j k).ended && ((m.j k).goal || l.any fun p => (m.j p).open_ && (m.j p).needs.contains k)) = true
    · rw [if_pos hc]
      refine wantedFrom_fix r wf k (k :: l) (by omega) (List.pairwise_cons.mpr ⟨fun z hz => (h2 z hz).1, h1⟩) (fun x hx => ?_) (fun i hi hi' => ?_)
      · rcases List.mem_cons.mp hx with e | hx
        · omega
        · have := h2 x hx; omega
      · rw [List.any_cons, own i hi, Bool.false_or]
        by_cases ei : i = k
        · subst ei; rw [hc]; simp
        · rw [List.contains_cons, beq_eq_false_iff_ne.mpr ei, Bool.false_or]
          exact h3 i (by omega) hi'
    · rw [if_neg hc]
      refine wantedFrom_fix r wf k l (by omega) h1 (fun x hx => ?_) (fun i hi hi' => ?_)
      · have := h2 x hx; omega
      · by_cases ei : i = k
        · subst ei; rw [nk]; simpa using hc
        · exact h3 i (by omega) hi'
theorem any_sub {l : List Nat} {n : Nat} (h : ∀ x ∈ l, x < n) (f : Nat → Bool) : l.any f = (List.range n).any fun p => l.contains p && f p := by
  rw [Bool.eq_iff_iff, List.any_eq_true, List.any_eq_true]
  constructor
  · rintro ⟨x, hx, hf⟩
    exact ⟨x, List.mem_range.mpr (h x hx), by rw [hf, List.contains_iff_mem.mpr hx]; rfl⟩
  · rintro ⟨x, _, hf⟩
    rw [Bool.and_eq_true] at hf
    exact ⟨x, List.contains_iff_mem.mp hf.1, hf.2⟩
theorem R.wantedFix {s : State} {m : M} (r : R s m) (wf : WF m) : Srt s.wanted ∧ (∀ x ∈ s.wanted, x < m.n) ∧ Fix m fun k => s.wanted.contains k := by
  obtain ⟨h1, h2, h3⟩ := wantedFrom_fix r wf s.jobs.length [] (by rw [r.len]; exact Nat.le_refl _) (by simp [Srt]) (by simp) (fun i hi hi' => by rw [r.len] at hi; omega)
  refine ⟨h1, h2, fun k hk => ?_⟩
  have h4 := h3 k hk
  rw [any_sub h2] at h4
  exact h4

noncomputable def setNeeds (a : List Bool) (needs : List Nat) : List Bool := needs.foldl (fun a d => a.set d true) a
noncomputable def stepMark (m : M) (a : List Bool) (k : Nat) : List Bool :=
  let b := if (m.j k).ended then a.set k false else a
  if b.getD k false && ((m.j k).answered && !(m.j k).cached) then setNeeds b (m.j k).needs else b
noncomputable def markFrom (m : M) : Nat → List Bool → List Bool
  | 0, a => a
  | k + 1, a => markFrom m k (stepMark m a k)
noncomputable def marks (m : M) : List Bool := markFrom m m.n (m.jobs.map J.goal)
noncomputable def wants (m : M) (k : Nat) : Bool := (marks m).getD k false

theorem setNeeds_length : ∀ (l : List Nat) (a : List Bool), (setNeeds a l).length = a.length
  | [], _ => rfl
  | d :: l, a => by unfold setNeeds; rw [List.foldl_cons]; exact (setNeeds_length l _).trans List.length_set
theorem getD_set_bool {a : List Bool} {d i : Nat} {b : Bool} (hd : d < a.length) : (a.set d b).getD i false = if i = d then b else a.getD i false := by
  rw [List.getD_eq_getElem?_getD, List.getD_eq_getElem?_getD]
  by_cases e : i = d
  · subst e; rw [List.getElem?_set_self hd, if_pos rfl]; rfl
  · rw [List.getElem?_set_ne (Ne.symm e), if_neg e]
theorem setNeeds_getD : ∀ (l : List Nat) (a : List Bool) (i : Nat), (∀ d ∈ l, d < a.length) → (setNeeds a l).getD i false = (a.getD i false || l.contains i)
  | [], a, i, _ => by unfold setNeeds; simp
  | d :: l, a, i, h => by
    have e : setNeeds a (d :: l) = setNeeds (a.set d true) l := rfl
    rw [e, setNeeds_getD l _ i (fun x hx => by rw [List.length_set]; exact h x (List.mem_cons_of_mem _ hx)), getD_set_bool (h d List.mem_cons_self), List.contains_cons]
    by_cases ei : i = d
    · subst ei; simp
    · rw [if_neg ei, beq_eq_false_iff_ne.mpr ei, Bool.false_or]
theorem stepMark_length (m : M) (a : List Bool) (k : Nat) : (stepMark m a k).length = a.length := by
  unfold stepMark
  dsimp only
  split <;> split <;> simp [setNeeds_length]

theorem stepMark_getD {m : M} (wf : WF m) {a : List Bool} {k : Nat} (ha : a.length = m.n) (hk : k < m.n) (i : Nat) :
    (stepMark m a k).getD i false = if i = k then (!(m.j k).ended && a.getD k false) else (a.getD i false || ((!(m.j k).ended && a.getD k false) && ((m.j k).open_ && (m.j k).needs.contains i))) := by
  have hb : ∀ i, (if (m.j k).ended then a.set k false else a).getD i false = if i = k then (!(m.j k).ended && a.getD k false) else a.getD i false := fun i => by
    cases he : (m.j k).ended with
    | true =>
      rw [if_pos rfl, getD_set_bool (by rw [ha]; exact hk)]
      by_cases ei : i = k
      · rw [if_pos ei, if_pos ei]; rfl
      · rw [if_neg ei, if_neg ei]
    | false =>
      rw [if_neg (by simp)]
      by_cases ei : i = k
      · rw [if_pos ei, ei]; simp
      · rw [if_neg ei]
  have hlen : (if (m.j k).ended then a.set k false else a).length = m.n := by split <;> simp [ha]
  unfold stepMark
  dsimp only
  rw [hb k, if_pos rfl]
  have nk : (m.j k).needs.contains k = false := by
    cases hc : (m.j k).needs.contains k with
    | false => rfl
    | true => have := wf.needs k k (List.contains_iff_mem.mp hc); omega
  unfold J.open_
  by_cases hc : (!(m.j k).ended && a.getD k false && ((m.j k).answered && !(m.j k).cached)) = true
  · rw [if_pos hc, setNeeds_getD _ _ _ (fun d hd => by rw [hlen]; have := wf.needs k d hd; omega), hb i]
    rw [Bool.and_eq_true] at hc
    by_cases ei : i = k
    · rw [if_pos ei, if_pos ei, ei, nk, Bool.or_false]
    · rw [if_neg ei, if_neg ei, hc.1, hc.2]; simp
  · rw [if_neg hc, hb i]
    by_cases ei : i = k
    · rw [if_pos ei, if_pos ei]
    · rw [if_neg ei, if_neg ei, ← Bool.and_assoc]
      have hc' : (!(m.j k).ended && a.getD k false && ((m.j k).answered && !(m.j k).cached)) = false := by simpa using hc
      rw [hc']; simp
theorem markFrom_length (m : M) : ∀ (k : Nat) (a : List Bool), (markFrom m k a).length = a.length
  | 0, _ => rfl
  | k + 1, a => by unfold markFrom; rw [markFrom_length m k, stepMark_length]
theorem marks_length (m : M) : (marks m).length = m.n := by
  unfold marks; rw [markFrom_length, List.length_map]; rfl
theorem range_any_succ {n k : Nat} (hk : k < n) (f g : Nat → Bool) (h : ∀ p, p ≠ k → f p = g p) : (List.range n).any f = ((List.range n).any (fun p => decide (p ≠ k) && g p) || f k) := by
  rw [Bool.eq_iff_iff, Bool.or_eq_true, List.any_eq_true, List.any_eq_true]
  constructor
  · rintro ⟨p, hp, e⟩
    by_cases hpk : p = k
    · subst hpk; exact .inr e
    · exact .inl ⟨p, hp, by rw [← h p hpk, e]; simp [hpk]⟩
  · rintro (⟨p, hp, e⟩ | e)
    · rw [Bool.and_eq_true] at e
      have hpk : p ≠ k := of_decide_eq_true e.1
      exact ⟨p, hp, by rw [h p hpk]; exact e.2⟩
    · exact ⟨k, List.mem_range.mpr hk, e⟩
theorem markFrom_fix {m : M} (wf : WF m) : ∀ (k : Nat) (a : List Bool), k ≤ m.n → a.length = m.n →
    (∀ i, k ≤ i → i < m.n → a.getD i false = (!(m.j i).ended && ((m.j i).goal || (List.range m.n).any fun p => decide (k ≤ p) && (a.getD p false && ((m.j p).open_ && (m.j p).needs.contains i))))) →
    (∀ i, i < k → a.getD i false = ((m.j i).goal || (List.range m.n).any fun p => decide (k ≤ p) && (a.getD p false && ((m.j p).open_ && (m.j p).needs.contains i)))) →
    Fix m fun i => (markFrom m k a).getD i false
  | 0, a, _, _, h1, _ => fun i hi => by
    have h3 := h1 i (Nat.zero_le _) hi
    simp only [Nat.zero_le, decide_true, Bool.true_and] at h3
    exact h3
  | k + 1, a, h0, hl, h1, h2 => by
    unfold markFrom
    have hk : k < m.n := by omega
    have hsame : ∀ (i p : Nat), p ≠ k → (k + 1 ≤ p → (stepMark m a k).getD p false = a.getD p false) := fun i p hp hkp => by
      rw [stepMark_getD wf hl hk p, if_neg hp]
      cases hc : (m.j k).needs.contains p with
      | false => simp
      | true => have := wf.needs k p (List.contains_iff_mem.mp hc); omega
    have hany : ∀ i, ((List.range m.n).any fun p => decide (k ≤ p) && ((stepMark m a k).getD p false && ((m.j p).open_ && (m.j p).needs.contains i))) =
        (((List.range m.n).any fun p => decide (k + 1 ≤ p) && (a.getD p false && ((m.j p).open_ && (m.j p).needs.contains i))) || ((!(m.j k).ended && a.getD k false) && ((m.j k).open_ && (m.j k).needs.contains i))) := fun i => by
      have hkk : (stepMark m a k).getD k false = (!(m.j k).ended && a.getD k false) := by rw [stepMark_getD wf hl hk k, if_pos rfl]
      rw [range_any_succ hk _ (fun p => decide (k + 1 ≤ p) && (a.getD p false && ((m.j p).open_ && (m.j p).needs.contains i))) (fun p hp => ?_)]
      · congr 1
        · refine any_congr' fun p _ => ?_
          by_cases hp : k + 1 ≤ p
          · rw [decide_eq_true (show p ≠ k by omega), Bool.true_and]
          · rw [decide_eq_false hp]; simp
        · rw [decide_eq_true (Nat.le_refl k), Bool.true_and, hkk]
      · by_cases hkp : k + 1 ≤ p
        · rw [hsame i p hp hkp, decide_eq_true hkp, decide_eq_true (show k ≤ p by omega)]
        · rw [decide_eq_false hkp, decide_eq_false (show ¬ k ≤ p by omega)]; simp
    refine markFrom_fix wf k _ (by omega) (by rw [stepMark_length, hl]) (fun i hi hi' => ?_) (fun i hi => ?_)
    · rw [hany i]
      have nk : (m.j k).needs.contains i = false := by
        cases hc : (m.j k).needs.contains i with
        | false => rfl
        | true => have := wf.needs k i (List.contains_iff_mem.mp hc); omega
      rw [nk, Bool.and_false, Bool.and_false, Bool.or_false, stepMark_getD wf hl hk i]
      by_cases ei : i = k
      · rw [if_pos ei, ei, ← h2 k (by omega)]
      · rw [if_neg ei, nk, Bool.and_false, Bool.and_false, Bool.or_false]
        exact h1 i (by omega) hi'
    · rw [hany i, stepMark_getD wf hl hk i, if_neg (by omega), h2 i (by omega), Bool.or_assoc]
theorem marks_fix {m : M} (wf : WF m) : Fix m (wants m) := by
  refine markFrom_fix wf m.n _ (Nat.le_refl _) (by rw [List.length_map]; rfl) (fun i hi hi' => by omega) (fun i hi => ?_)
  have e : ((List.range m.n).any fun p => decide (m.n ≤ p) && ((m.jobs.map J.goal).getD p false && ((m.j p).open_ && (m.j p).needs.contains i))) = false := by
    rw [List.any_eq_false]
    intro p hp
    have := List.mem_range.mp hp
    rw [decide_eq_false (by omega)]; simp
  rw [e, Bool.or_false, List.getD_eq_getElem?_getD, List.getElem?_map, M.j_at hi]; rfl
theorem fix_one {m : M} (wf : WF m) {w w' : Nat → Bool} (f : Fix m w) (f' : Fix m w') {i : Nat} (hi : i < m.n) : w' i = w i :=
  fix_congr (k := 0) rfl wf.needs f f' (fun _ _ _ => ⟨rfl, rfl, rfl⟩) (fun _ _ => rfl) (m.n - i) i (Nat.zero_le _) hi (Nat.le_refl _)
theorem wants_ge {m : M} {i : Nat} (h : m.n ≤ i) : wants m i = false := by
  unfold wants
  rw [List.getD_eq_getElem?_getD, List.getElem?_eq_none (by rw [marks_length]; exact h)]; rfl
theorem R.wants {s : State} {m : M} (r : R s m) (wf : WF m) (k : Nat) : s.wanted.contains k = wants m k := by
  obtain ⟨_, h2, h3⟩ := r.wantedFix wf
  by_cases h : k < m.n
  · exact fix_one wf (marks_fix wf) h3 h
  · rw [wants_ge (by omega)]
    cases hc : s.wanted.contains k with
    | false => rfl
    | true => exact absurd (h2 k (List.contains_iff_mem.mp hc)) h
theorem R.wanted {s : State} {m : M} (r : R s m) (wf : WF m) : s.wanted = (List.range m.n).filter (VM.wants m) := by
  obtain ⟨h1, h2, _⟩ := r.wantedFix wf
  refine srt_ext h1 (srt_filter _ (srt_range _)) fun x => ?_
  rw [List.mem_filter, List.mem_range, ← List.contains_iff_mem, r.wants wf]
  constructor
  · intro h
    refine ⟨h2 x (List.contains_iff_mem.mp (by rw [r.wants wf]; exact h)), h⟩
  · exact fun h => h.2
theorem wants_not_ended {m : M} (wf : WF m) {k : Nat} (h : wants m k = true) : k < m.n ∧ (m.j k).outcome = 0 := by
  by_cases hk : k < m.n
  · have := marks_fix wf k hk
    rw [h] at this
    have h1 := this.symm
    rw [Bool.and_eq_true] at h1
    refine ⟨hk, ?_⟩
    have h2 := h1.1
    unfold J.ended at h2
    simpa using h2
  · rw [wants_ge (by omega)] at h; cases h
end VM
end
section
namespace VM
open Vastog

noncomputable def ready (m : M) (k : Nat) : Bool := (m.j k).open_ && !(m.j k).running && (m.j k).needs.all (fun d => (m.j d).there) && decide (takes m k ≤ free m)
noncomputable def evs (m : M) : List (Nat × Nat) :=
  (sel m J.running).map (fun k => (0, k)) ++
    (if blocked m then [] else ((List.range m.n).filter fun k => wants m k && ready m k).map (fun k => (1, k)) ++ ((List.range m.n).filter fun k => wants m k && !(m.j k).answered).map fun k => (2, k))
noncomputable def evOf : Event → Nat × Nat
  | .end_ j => (0, j)
  | .start j => (1, j)
  | .answer j => (2, j)
theorem R.ready {s : State} {m : M} (r : R s m) (k : Nat) : s.ready k = VM.ready m k := by
  unfold State.ready VM.ready
  rw [r.open_, r.isRunning, r.takes, r.free, r.job]
  congr 2
  exact List.all_congr rfl fun d => r.there d
theorem R.runJobs {s : State} {m : M} (r : R s m) : inOrder (s.running.map fun r => r.job) = sel m J.running := by
  refine srt_ext srt_inOrder (srt_sel _ _) fun x => ?_
  rw [mem_inOrder, (r.running.map _).mem_iff]
  unfold runL
  rw [List.map_map]
  show x ∈ (sel m J.running).map (fun k => k) ↔ _
  simp
theorem R.events {s : State} {m : M} (r : R s m) (wf : WF m) : s.events.map evOf = evs m := by
  unfold State.events evs
  rw [r.runJobs, r.blocked, r.wanted wf, List.map_append, List.map_map]
  congr 1
  cases VM.blocked m with
  | true => rfl
  | false =>
    rw [if_neg (by simp), if_neg (by simp), List.map_append, List.map_map, List.map_map, List.filter_filter, List.filter_filter]
    congr 1
    · show List.map (fun k => (1, k)) _ = _
      congr 1
      refine List.filter_congr fun k _ => ?_
      rw [r.ready, Bool.and_comm]
    · show List.map (fun k => (2, k)) _ = _
      congr 1
      refine List.filter_congr fun k _ => ?_
      rw [r.isAnswered, Bool.and_comm]
theorem evOf_numbers (l : List Event) : (l.flatMap Event.numbers) = (l.map evOf).flatMap fun e => [e.1, e.2] := by
  rw [List.flatMap_map]
  congr 1
  funext e
  cases e <;> rfl

noncomputable def J.fails (x : J) (c : Nat) : J := { x with outcome := 3, cause := some c }
noncomputable def failAt (m : M) (k c : Nat) : M := m.upd k ((m.j k).fails c)
theorem jobs_upd {m : M} {k : Nat} {x : J} (h : k < m.n → (x.cached = (m.j k).cached ∧ x.failing = (m.j k).failing ∧ x.weight = (m.j k).weight ∧ x.needs = (m.j k).needs)) :
    ((m.upd k x).jobs.map fun x => (⟨x.cached, x.failing, x.weight, x.needs⟩ : Job)) = m.jobs.map fun x => ⟨x.cached, x.failing, x.weight, x.needs⟩ := by
  unfold M.upd
  rw [List.map_set]
  refine List.ext_getElem? fun i => ?_
  by_cases e : i = k
  · subst e
    by_cases hk : i < m.n
    · obtain ⟨a, b, c, d⟩ := h hk
      rw [List.getElem?_set_self (by rw [List.length_map]; exact hk), List.getElem?_map, M.j_at hk, a, b, c, d]; rfl
    · rw [List.getElem?_eq_none (by rw [List.length_set, List.length_map]; show m.n ≤ i; omega), List.getElem?_eq_none (by rw [List.length_map]; show m.n ≤ i; omega)]
  · rw [List.getElem?_set_ne (Ne.symm e)]
theorem runL_upd {m : M} {k : Nat} {x : J} (h : k < m.n → x.taken = (m.j k).taken) : runL (m.upd k x) = runL m := by
  unfold runL
  rw [sel_stay (p := J.running) fun hk => by unfold J.running; rw [h hk]]
  refine List.map_congr_left fun i hi => ?_
  by_cases e : i = k
  · subst e
    have hk := (mem_sel.mp hi).1
    rw [M.upd_same hk, h hk]
  · rw [M.upd_ne e]
theorem losses_upd {m : M} {k : Nat} {x : J} (h : k < m.n → x.losses = (m.j k).losses) (i : Nat) : ((m.upd k x).j i).losses = (m.j i).losses := by
  by_cases e : i = k
  · subst e
    by_cases hk : i < m.n
    · rw [M.upd_same hk, h hk]
    · rw [M.j_ge (by rw [M.upd_n]; omega), M.j_ge (by omega)]
  · rw [M.upd_ne e]
theorem failed_upd {m : M} {k : Nat} {x : J} (h : k < m.n → (x.outcome ≠ 3 ∧ (m.j k).outcome ≠ 3)) (i : Nat) :
    (if ((m.upd k x).j i).outcome = 3 then ((m.upd k x).j i).cause else none) = if (m.j i).outcome = 3 then (m.j i).cause else none := by
  by_cases e : i = k
  · subst e
    by_cases hk : i < m.n
    · rw [M.upd_same hk, if_neg (h hk).1, if_neg (h hk).2]
    · rw [M.j_ge (by rw [M.upd_n]; omega), M.j_ge (by omega)]
  · rw [M.upd_ne e]
theorem told_append {l : List (Nat × Nat)} {j c k : Nat} : told (l ++ [(j, c)]) k = match told l k with | some x => some x | none => if j = k then some c else none := by
  unfold told
  rw [List.find?_append]
  cases h : l.find? (fun p => p.1 == k) with
  | some x => rfl
  | none =>
    by_cases e : j = k
    · subst e; simp
    · simp [e]
theorem R.fail {s : State} {m : M} (r : R s m) {k c : Nat} (hk : k < m.n) (hc : (m.j k).outcome = 0) : R (s.fail k c) (failAt m k c) where
  jobs := by show s.jobs = _; rw [r.jobs]; exact (jobs_upd (x := (m.j k).fails c) fun _ => ⟨rfl, rfl, rfl, rfl⟩).symm
  goals := by show s.goals = _; rw [r.goals]; exact (sel_stay (x := (m.j k).fails c) fun _ => rfl).symm
  workers := r.workers
  keep := r.keep
  answered := by show s.answered = _; rw [r.answered]; exact (sel_stay (x := (m.j k).fails c) fun _ => rfl).symm
  built := by show s.built = _; rw [r.built]; exact (sel_stay (x := (m.j k).fails c) fun _ => by rw [hc]; rfl).symm
  fetched := by show s.fetched = _; rw [r.fetched]; exact (sel_stay (x := (m.j k).fails c) fun _ => by rw [hc]; rfl).symm
  failed := fun i => by
    show told (s.failed ++ [(k, c)]) i = _
    rw [told_append, r.failed]
    by_cases e : i = k
    · subst e
      unfold failAt
      rw [M.upd_same hk, if_neg (by omega)]; simp [J.fails]
    · unfold failAt
      rw [M.upd_ne e, if_neg (Ne.symm e)]
      split <;> simp_all
  failedN := by
    show (s.failed ++ [(k, c)]).length = _
    unfold failAt
    rw [sel_put hk rfl, length_putIn, List.length_append, r.failedN]; rfl
    intro h
    have := (mem_sel.mp h).2
    unfold J.failed at this
    rw [hc] at this; cases this
  running := by
    show s.running.Perm _
    have e : runL (failAt m k c) = runL m := runL_upd fun _ => rfl
    rw [e]; exact r.running
  losses := fun i => by
    show (told s.losses i).getD 0 = _
    rw [r.losses]; exact (losses_upd (x := (m.j k).fails c) (fun _ => rfl) i).symm
  starts := r.starts
theorem WF.upd {m : M} (wf : WF m) {k : Nat} {x : J} (hk : k < m.n) (hn : x.needs = (m.j k).needs) (hw : x.weight = (m.j k).weight) (h0 : 0 < x.taken → x.outcome = 0 ∧ x.answered = true) (h3 : x.outcome ≤ 3)
    (hc : x.outcome = 3 → ∃ c, x.cause = some c ∧ c < m.n) (h8 : x.taken ≤ 8) (hl : x.losses ≤ 3 ∧ (x.losses = 3 → x.outcome = 3)) : WF (m.upd k x) := by
  have all : ∀ (P : Nat → J → Prop), (∀ i, P i (m.j i)) → P k x → ∀ i, P i ((m.upd k x).j i) := fun P h hx i => by
    by_cases e : i = k
    · subst e; rw [M.upd_same hk]; exact hx
    · rw [M.upd_ne e]; exact h i
  refine ⟨by rw [M.upd_n]; exact wf.len, wf.wk1, wf.wk8, ?_, ?_, ?_, ?_, ?_, ?_, ?_, ?_, ?_, ?_⟩
  · exact all (fun i y => ∀ d ∈ y.needs, d < i) wf.needs (by rw [hn]; exact wf.needs k)
  · exact all (fun i y => Srt y.needs) wf.needsS (by rw [hn]; exact wf.needsS k)
  · exact all (fun i y => 1 ≤ y.weight) wf.w1 (by rw [hw]; exact wf.w1 k)
  · exact all (fun i y => y.weight ≤ 8) wf.w8 (by rw [hw]; exact wf.w8 k)
  · exact all (fun i y => 0 < y.taken → y.outcome = 0) wf.run0 fun h => (h0 h).1
  · exact all (fun i y => 0 < y.taken → y.answered = true) wf.runA fun h => (h0 h).2
  · exact all (fun i y => y.outcome ≤ 3) wf.out3 h3
  · rw [M.upd_n]; exact all (fun i y => y.outcome = 3 → ∃ c, y.cause = some c ∧ c < m.n) wf.cause hc
  · exact all (fun i y => y.taken ≤ 8) wf.tk8 h8
  · exact all (fun i y => y.losses ≤ 3 ∧ (y.losses = 3 → y.outcome = 3)) wf.loss hl
theorem failAt_n {m : M} {k c : Nat} : (failAt m k c).n = m.n := M.upd_n
theorem WF.fail {m : M} (wf : WF m) {k c : Nat} (hk : k < m.n) (hr : (m.j k).taken = 0) (hc : c < m.n) : WF (failAt m k c) := by
  refine wf.upd hk rfl rfl (fun h => ?_) (Nat.le_refl 3) (fun _ => ⟨c, rfl, hc⟩) (wf.tk8 k) ⟨(wf.loss k).1, fun _ => rfl⟩
  have : 0 < (m.j k).taken := h
  omega

noncomputable def causesOf (m : M) (l : List Nat) : List Nat := l.filterMap fun d => if (m.j d).failed then (m.j d).cause else none
noncomputable def hands (m : M) (w : Bool) (k : Nat) : Bool :=
  w && (m.j k).open_ && !(m.j k).running && (m.j k).needs.all (fun d => (m.j d).ended) && (m.j k).needs.any (fun d => (m.j d).failed)
noncomputable def settleOne (w : List Bool) (m : M) (k : Nat) : M := if hands m (w.getD k false) k then failAt m k (least (causesOf m (m.j k).needs)) else m
noncomputable def settleM (m : M) : M := (List.range m.n).foldl (settleOne (marks m)) m
theorem least_mem : ∀ {l : List Nat}, l ≠ [] → least l ∈ l
  | [], h => absurd rfl h
  | [x], _ => by simp [least]
  | x :: y :: r, _ => by
    have ih := least_mem (l := y :: r) (by simp)
    show min x (least (y :: r)) ∈ x :: y :: r
    by_cases h : x ≤ least (y :: r)
    · rw [Nat.min_eq_left h]; exact List.mem_cons_self
    · rw [Nat.min_eq_right (by omega)]; exact List.mem_cons_of_mem _ ih
theorem least_le : ∀ {l : List Nat} {a : Nat}, a ∈ l → least l ≤ a
  | [x], a, h => by simp at h; subst h; exact Nat.le_refl _
  | x :: y :: r, a, h => by
    show min x (least (y :: r)) ≤ a
    rcases List.mem_cons.mp h with e | h
    · subst e; exact Nat.min_le_left _ _
    · exact Nat.le_trans (Nat.min_le_right _ _) (least_le h)
theorem causes_eq {s : State} {m : M} (r : R s m) (l : List Nat) : l.filterMap (told s.failed) = causesOf m l := by
  unfold causesOf
  congr 1
  funext d
  rw [r.failed]
  unfold J.failed
  by_cases e : (m.j d).outcome = 3
  · rw [if_pos e, e]; rfl
  · rw [if_neg e, if_neg (by simp [e])]
theorem causes_ne {m : M} (wf : WF m) {l : List Nat} (h : l.any (fun d => (m.j d).failed) = true) : causesOf m l ≠ [] := by
  obtain ⟨d, hd, e⟩ := List.any_eq_true.mp h
  obtain ⟨c, hc, _⟩ := wf.cause d (eq_of_beq e)
  intro q
  have : c ∈ causesOf m l := List.mem_filterMap.mpr ⟨d, hd, by rw [if_pos e, hc]⟩
  rw [q] at this; cases this
theorem causes_lt {m : M} (wf : WF m) {l : List Nat} {c : Nat} (h : c ∈ causesOf m l) : c < m.n := by
  obtain ⟨d, _, e⟩ := List.mem_filterMap.mp h
  by_cases hf : (m.j d).failed = true
  · rw [if_pos hf] at e
    obtain ⟨c', hc', hlt⟩ := wf.cause d (eq_of_beq hf)
    rw [hc'] at e
    cases e; exact hlt
  · rw [if_neg hf] at e; cases e
theorem R.handed {s : State} {m : M} (r : R s m) (wf : WF m) (k : Nat) : s.handed k = hands m (VM.wants m k) k := by
  unfold State.handed hands
  rw [r.wants wf, r.open_, r.isRunning, r.job]
  congr 1
  · congr 1
    exact List.all_congr rfl fun d => r.ended wf d
  · exact List.any_congr rfl fun d => r.isFailed wf d
theorem hands_facts {m : M} (wf : WF m) {w : Bool} {k : Nat} (hw : w = wants m k) (h : hands m w k = true) : k < m.n ∧ (m.j k).outcome = 0 ∧ (m.j k).taken = 0 ∧ causesOf m (m.j k).needs ≠ [] := by
  unfold hands at h
  rw [Bool.and_eq_true, Bool.and_eq_true, Bool.and_eq_true, Bool.and_eq_true] at h
  obtain ⟨⟨⟨⟨h1, h2⟩, h3⟩, h4⟩, h5⟩ := h
  obtain ⟨a, b⟩ := wants_not_ended wf (hw ▸ h1)
  refine ⟨a, b, ?_, causes_ne wf h5⟩
  unfold J.running at h3
  simpa using h3
theorem settleOne_n {w : List Bool} {m : M} {k : Nat} : (settleOne w m k).n = m.n := by
  unfold settleOne; split
  · exact failAt_n
  · rfl
theorem settleOne_ne {w : List Bool} {m : M} {k i : Nat} (h : i ≠ k) : (settleOne w m k).j i = m.j i := by
  unfold settleOne; split
  · exact M.upd_ne h
  · rfl
theorem settleOne_needs {w : List Bool} {m : M} {k i : Nat} : ((settleOne w m k).j i).needs = (m.j i).needs := by
  by_cases h : i = k
  · subst h
    unfold settleOne; split
    · by_cases hi : i < m.n
      · unfold failAt; rw [M.upd_same hi]; rfl
      · rw [M.j_ge (m := failAt m i _) (by rw [failAt_n]; omega), M.j_ge (m := m) (by omega)]
    · rfl
  · rw [settleOne_ne h]
theorem settle_from {m0 : M} : ∀ (t k : Nat) (s : State) (m : M), k + t = m0.n → R s m → WF m → m.n = m0.n → (∀ i, k ≤ i → i < m0.n → wants m i = wants m0 i) →
    R (settleAll (List.range' k t) s) ((List.range' k t).foldl (settleOne (marks m0)) m) ∧ WF ((List.range' k t).foldl (settleOne (marks m0)) m) ∧ ((List.range' k t).foldl (settleOne (marks m0)) m).n = m0.n
  | 0, k, s, m, _, r, wf, hn, _ => ⟨r, wf, hn⟩
  | t + 1, k, s, m, hk, r, wf, hn, hw => by
    rw [List.range'_succ, List.foldl_cons]
    unfold settleAll
    have hkn : k < m0.n := by omega
    have ew : (marks m0).getD k false = wants m k := (hw k (Nat.le_refl _) hkn).symm
    have step : R (if s.handed k then s.fail k (least ((s.job k).needs.filterMap (told s.failed))) else s) (settleOne (marks m0) m k) ∧ WF (settleOne (marks m0) m k) := by
      rw [r.handed wf k]
      unfold settleOne
      rw [ew]
      by_cases h : hands m (wants m k) k = true
      · obtain ⟨h1, h2, h3, h4⟩ := hands_facts wf rfl h
        rw [if_pos h, if_pos h, r.job, causes_eq r]
        exact ⟨r.fail h1 h2, wf.fail h1 h3 (causes_lt wf (least_mem h4))⟩
      · rw [if_neg h, if_neg h]; exact ⟨r, wf⟩
    refine settle_from t (k + 1) _ _ (by omega) step.1 step.2 (by rw [settleOne_n]; exact hn) fun i hi hi' => ?_
    rw [← hw i (by omega) hi']
    exact fix_congr (m := m) (k := k + 1) settleOne_n wf.needs (marks_fix wf) (marks_fix step.2) (fun p hp _ => by rw [settleOne_ne (by omega)]; exact ⟨rfl, rfl, rfl⟩) (fun p _ => settleOne_needs) (m.n - i) i hi (by omega) (Nat.le_refl _)
theorem R.settle {s : State} {m : M} (r : R s m) (wf : WF m) : R s.settle (settleM m) ∧ WF (settleM m) ∧ (settleM m).n = m.n := by
  unfold State.settle settleM
  rw [r.len, List.range_eq_range']
  exact settle_from m.n 0 s m (by omega) r wf rfl fun _ _ _ => rfl
end VM
end
section
namespace VM
open Vastog

noncomputable def J.stop (x : J) : J := { x with taken := 0 }
noncomputable def J.builds (x : J) : J := { x with outcome := 1 }
noncomputable def J.starts (x : J) (t : Nat) : J := { x with taken := t }
noncomputable def J.asks (x : J) : J := if x.cached then { x with answered := true, outcome := 2 } else { x with answered := true }
noncomputable def J.ends (x : J) (k : Nat) : J := if x.failing then x.stop.fails k else x.stop.builds
theorem M.upd_upd {m : M} {k : Nat} {x y : J} : (m.upd k x).upd k y = m.upd k y := by
  unfold M.upd; simp
theorem perm_putIn {k : Nat} : ∀ {l : List Nat}, k ∉ l → (putIn k l).Perm (l ++ [k])
  | [], _ => List.Perm.refl _
  | a :: r, h => by
    unfold putIn
    rw [if_neg (fun e => h (by simp [e]))]
    by_cases h2 : k < a
    · rw [if_pos h2]; exact (List.perm_append_singleton k (a :: r)).symm
    · rw [if_neg h2]; exact List.Perm.cons a (perm_putIn fun e => h (List.mem_cons_of_mem _ e))
theorem runL_stop {m : M} {k : Nat} {x : J} (hk : k < m.n) (hx : x.taken = 0) : runL (m.upd k x) = (runL m).filter fun r => r.job != k := by
  unfold runL
  rw [sel_drop (p := J.running) hk (by unfold J.running; rw [hx]; rfl), List.filter_map]
  refine List.map_congr_left fun i hi => ?_
  have hne : i ≠ k := by
    have := (List.mem_filter.mp hi).2
    simpa using this
  rw [M.upd_ne hne]
theorem runL_start {m : M} {k : Nat} {x : J} (hk : k < m.n) (h0 : (m.j k).taken = 0) (hx : 0 < x.taken) : (runL (m.upd k x)).Perm (runL m ++ [⟨k, x.taken⟩]) := by
  have hni : k ∉ sel m J.running := fun h => by
    have := (mem_sel.mp h).2
    unfold J.running at this
    rw [h0] at this; cases this
  unfold runL
  rw [sel_put (p := J.running) hk (decide_eq_true hx)]
  refine ((perm_putIn hni).map _).trans ?_
  rw [List.map_append, List.map_singleton, M.upd_same hk]
  have e : (sel m J.running).map (fun i => (⟨i, ((m.upd k x).j i).taken⟩ : Running)) = (sel m J.running).map fun i => ⟨i, (m.j i).taken⟩ :=
    List.map_congr_left fun i hi => by rw [M.upd_ne (show i ≠ k from fun e => hni (e ▸ hi))]
  rw [e]
theorem R.stop {s : State} {m : M} (r : R s m) {k : Nat} (hk : k < m.n) : R (s.stopped k) (m.upd k (m.j k).stop) where
  jobs := by show s.jobs = _; rw [r.jobs]; exact (jobs_upd (x := (m.j k).stop) fun _ => ⟨rfl, rfl, rfl, rfl⟩).symm
  goals := by show s.goals = _; rw [r.goals]; exact (sel_stay (x := (m.j k).stop) fun _ => rfl).symm
  workers := r.workers
  keep := r.keep
  answered := by show s.answered = _; rw [r.answered]; exact (sel_stay (x := (m.j k).stop) fun _ => rfl).symm
  built := by show s.built = _; rw [r.built]; exact (sel_stay (x := (m.j k).stop) fun _ => rfl).symm
  fetched := by show s.fetched = _; rw [r.fetched]; exact (sel_stay (x := (m.j k).stop) fun _ => rfl).symm
  failed := fun i => by
    show told s.failed i = _
    rw [r.failed]
    by_cases e : i = k
    · subst e; rw [M.upd_same hk]; rfl
    · rw [M.upd_ne e]
  failedN := by show s.failed.length = _; rw [r.failedN, sel_stay (x := (m.j k).stop) fun _ => rfl]
  running := by
    show (s.running.filter fun r => r.job != k).Perm _
    rw [runL_stop hk rfl]
    exact r.running.filter _
  losses := fun i => by
    show (told s.losses i).getD 0 = _
    rw [r.losses]; exact (losses_upd (x := (m.j k).stop) (fun _ => rfl) i).symm
  starts := r.starts
theorem R.build {s : State} {m : M} (r : R s m) {k : Nat} (hk : k < m.n) (h0 : (m.j k).outcome = 0) : R { s with built := putIn k s.built } (m.upd k (m.j k).builds) where
  jobs := by show s.jobs = _; rw [r.jobs]; exact (jobs_upd (x := (m.j k).builds) fun _ => ⟨rfl, rfl, rfl, rfl⟩).symm
  goals := by show s.goals = _; rw [r.goals]; exact (sel_stay (x := (m.j k).builds) fun _ => rfl).symm
  workers := r.workers
  keep := r.keep
  answered := by show s.answered = _; rw [r.answered]; exact (sel_stay (x := (m.j k).builds) fun _ => rfl).symm
  built := by show putIn k s.built = _; rw [r.built]; exact (sel_put (x := (m.j k).builds) hk rfl).symm
  fetched := by show s.fetched = _; rw [r.fetched]; exact (sel_stay (x := (m.j k).builds) fun _ => by rw [h0]; rfl).symm
  failed := fun i => by
    show told s.failed i = _
    rw [r.failed]; exact (failed_upd (x := (m.j k).builds) (fun _ => ⟨by show ¬ 1 = 3; decide, by omega⟩) i).symm
  failedN := by show s.failed.length = _; rw [r.failedN, sel_stay (p := J.failed) (x := (m.j k).builds) fun _ => by unfold J.failed; rw [h0]; rfl]
  running := by
    show s.running.Perm _
    rw [runL_upd (x := (m.j k).builds) fun _ => rfl]; exact r.running
  losses := fun i => by
    show (told s.losses i).getD 0 = _
    rw [r.losses]; exact (losses_upd (x := (m.j k).builds) (fun _ => rfl) i).symm
  starts := r.starts
theorem R.begin {s : State} {m : M} (r : R s m) {k t : Nat} (hk : k < m.n) (h0 : (m.j k).taken = 0) (ht : 0 < t) :
    R { s with running := s.running ++ [{ job := k, takes := t }], starts := s.starts + 1 } { m.upd k ((m.j k).starts t) with starts := m.starts + 1 } where
  jobs := by show s.jobs = _; rw [r.jobs]; exact (jobs_upd (x := (m.j k).starts t) fun _ => ⟨rfl, rfl, rfl, rfl⟩).symm
  goals := by show s.goals = _; rw [r.goals]; exact (sel_stay (x := (m.j k).starts t) fun _ => rfl).symm
  workers := r.workers
  keep := r.keep
  answered := by show s.answered = _; rw [r.answered]; exact (sel_stay (x := (m.j k).starts t) fun _ => rfl).symm
  built := by show s.built = _; rw [r.built]; exact (sel_stay (x := (m.j k).starts t) fun _ => rfl).symm
  fetched := by show s.fetched = _; rw [r.fetched]; exact (sel_stay (x := (m.j k).starts t) fun _ => rfl).symm
  failed := fun i => by
    show told s.failed i = if ((m.upd k ((m.j k).starts t)).j i).outcome = 3 then ((m.upd k ((m.j k).starts t)).j i).cause else none
    rw [r.failed]
    by_cases e : i = k
    · subst e; rw [M.upd_same hk]; rfl
    · rw [M.upd_ne e]
  failedN := by show s.failed.length = (sel (m.upd k ((m.j k).starts t)) J.failed).length; rw [r.failedN, sel_stay (x := (m.j k).starts t) fun _ => rfl]
  running := by
    show (s.running ++ [_]).Perm (runL (m.upd k ((m.j k).starts t)))
    exact (r.running.append_right _).trans (runL_start (x := (m.j k).starts t) hk h0 ht).symm
  losses := fun i => by
    show (told s.losses i).getD 0 = ((m.upd k ((m.j k).starts t)).j i).losses
    rw [r.losses]; exact (losses_upd (x := (m.j k).starts t) (fun _ => rfl) i).symm
  starts := by show s.starts + 1 = m.starts + 1; rw [r.starts]
theorem J.asks_c {x : J} : x.asks.cached = x.cached ∧ x.asks.failing = x.failing ∧ x.asks.weight = x.weight ∧ x.asks.needs = x.needs := by
  unfold J.asks; split <;> exact ⟨rfl, rfl, rfl, rfl⟩
theorem J.asks_r {x : J} : x.asks.goal = x.goal ∧ x.asks.taken = x.taken ∧ x.asks.losses = x.losses ∧ x.asks.answered = true ∧ x.asks.cause = x.cause := by
  unfold J.asks; split <;> exact ⟨rfl, rfl, rfl, rfl, rfl⟩
theorem J.asks_o {x : J} : x.asks.outcome = if x.cached then 2 else x.outcome := by
  unfold J.asks; split <;> rfl
theorem R.ask {s : State} {m : M} (r : R s m) {k : Nat} (hk : k < m.n) (h0 : (m.j k).outcome = 0) : R (s.happen (.answer k)) (m.upd k (m.j k).asks) := by
  have base : ∀ (s' : State), s'.jobs = s.jobs → s'.goals = s.goals → s'.workers = s.workers → s'.keep = s.keep → s'.answered = putIn k s.answered → s'.built = s.built →
      s'.fetched = (if (m.j k).cached then putIn k s.fetched else s.fetched) → s'.failed = s.failed → s'.running = s.running → s'.losses = s.losses → s'.starts = s.starts → R s' (m.upd k (m.j k).asks) := by
    intro s' e1 e2 e3 e4 e5 e6 e7 e8 e9 e10 e11
    refine ⟨?_, ?_, ?_, ?_, ?_, ?_, ?_, ?_, ?_, ?_, ?_, ?_⟩
    · rw [e1, r.jobs]; exact (jobs_upd fun _ => J.asks_c).symm
    · rw [e2, r.goals]; exact (sel_stay fun _ => J.asks_r.1).symm
    · rw [e3]; exact r.workers
    · rw [e4]; exact r.keep
    · rw [e5, r.answered]; exact (sel_put hk J.asks_r.2.2.2.1).symm
    · rw [e6, r.built]
      refine (sel_stay fun _ => ?_).symm
      rw [J.asks_o, h0]; split <;> rfl
    · rw [e7, r.fetched]
      cases hc : (m.j k).cached with
      | true =>
        rw [if_pos rfl]
        exact (sel_put hk (by rw [J.asks_o, hc]; rfl)).symm
      | false =>
        rw [if_neg (by simp)]
        exact (sel_stay fun _ => by rw [J.asks_o, hc]; rfl).symm
    · intro i
      rw [e8, r.failed]
      exact (failed_upd (fun _ => ⟨by rw [J.asks_o, h0]; split <;> decide, by omega⟩) i).symm
    · rw [e8, r.failedN, sel_stay fun _ => ?_]
      unfold J.failed
      rw [J.asks_o, h0]; split <;> rfl
    · rw [e9, runL_upd fun _ => J.asks_r.2.1]; exact r.running
    · intro i
      rw [e10, r.losses]; exact (losses_upd (fun _ => J.asks_r.2.2.1) i).symm
    · rw [e11]; exact r.starts
  unfold State.happen
  dsimp only
  rw [r.job]
  dsimp only
  cases hc : (m.j k).cached with
  | true => rw [if_pos rfl]; exact base _ rfl rfl rfl rfl rfl rfl (by rw [hc]; rfl) rfl rfl rfl rfl
  | false => rw [if_neg (by simp)]; exact base _ rfl rfl rfl rfl rfl rfl (by rw [hc]; rfl) rfl rfl rfl rfl

noncomputable def happenM (m : M) (e : Nat × Nat) : M :=
  if e.1 = 0 then m.upd e.2 ((m.j e.2).ends e.2)
  else if e.1 = 1 then { m.upd e.2 ((m.j e.2).starts (takes m e.2)) with starts := m.starts + 1 }
  else m.upd e.2 (m.j e.2).asks
theorem mem_evs {m : M} (wf : WF m) {e : Nat × Nat} (h : e ∈ evs m) : e.2 < m.n ∧ (m.j e.2).outcome = 0 ∧ ((e.1 = 0 ∧ 0 < (m.j e.2).taken) ∨ (e.1 = 1 ∧ (m.j e.2).taken = 0 ∧ (m.j e.2).answered = true) ∨ (e.1 = 2 ∧ (m.j e.2).answered = false)) := by
  unfold evs at h
  rcases List.mem_append.mp h with h | h
  · obtain ⟨k, hk, rfl⟩ := List.mem_map.mp h
    obtain ⟨h1, h2⟩ := mem_sel.mp hk
    have h3 := of_decide_eq_true h2
    exact ⟨h1, wf.run0 k h3, .inl ⟨rfl, h3⟩⟩
  · cases hb : blocked m with
    | true => rw [hb, if_pos rfl] at h; cases h
    | false =>
      rw [hb, if_neg (by simp)] at h
      rcases List.mem_append.mp h with h | h
      · obtain ⟨k, hk, rfl⟩ := List.mem_map.mp h
        have h2 := (List.mem_filter.mp hk).2
        rw [Bool.and_eq_true] at h2
        obtain ⟨a, b⟩ := wants_not_ended wf h2.1
        refine ⟨a, b, .inr (.inl ⟨rfl, ?_, ?_⟩)⟩
        · have h3 := h2.2
          unfold ready at h3
          rw [Bool.and_eq_true, Bool.and_eq_true, Bool.and_eq_true] at h3
          have h4 := h3.1.1.2
          unfold J.running at h4
          simpa using h4
        · have h3 := h2.2
          unfold ready at h3
          rw [Bool.and_eq_true, Bool.and_eq_true, Bool.and_eq_true] at h3
          have h4 := h3.1.1.1
          unfold J.open_ at h4
          rw [Bool.and_eq_true] at h4
          exact h4.1
      · obtain ⟨k, hk, rfl⟩ := List.mem_map.mp h
        have h2 := (List.mem_filter.mp hk).2
        rw [Bool.and_eq_true] at h2
        obtain ⟨a, b⟩ := wants_not_ended wf h2.1
        exact ⟨a, b, .inr (.inr ⟨rfl, by simpa using h2.2⟩)⟩
theorem takes_pos {m : M} (wf : WF m) (k : Nat) : 0 < takes m k ∧ takes m k ≤ 8 := by
  have := wf.w1 k; have := wf.w8 k; have := wf.wk1
  unfold takes; omega
theorem WF.starts_up {m : M} (wf : WF m) (t : Nat) : WF { m with starts := t } := ⟨wf.len, wf.wk1, wf.wk8, wf.needs, wf.needsS, wf.w1, wf.w8, wf.run0, wf.runA, wf.out3, wf.cause, wf.tk8, wf.loss⟩
theorem R.happen {s : State} {m : M} (r : R s m) (wf : WF m) {ev : Event} (h : evOf ev ∈ evs m) : R (s.happen ev) (happenM m (evOf ev)) ∧ WF (happenM m (evOf ev)) ∧ (happenM m (evOf ev)).n = m.n := by
  have hm := mem_evs wf h
  cases ev with
  | end_ k =>
    obtain ⟨h1, h2, h3⟩ := hm
    have h1 : k < m.n := h1
    have h2 : (m.j k).outcome = 0 := h2
    have e : happenM m (evOf (.end_ k)) = m.upd k ((m.j k).ends k) := rfl
    rw [e]
    unfold State.happen
    dsimp only
    rw [r.job]
    dsimp only
    have rs := r.stop h1
    have hj : (m.upd k (m.j k).stop).j k = (m.j k).stop := M.upd_same h1
    have hlo := wf.loss k
    unfold J.ends
    cases hf : (m.j k).failing with
    | true =>
      rw [if_pos rfl, if_pos rfl]
      refine ⟨?_, ?_, M.upd_n⟩
      · have := rs.fail (k := k) (c := k) (by rw [M.upd_n]; exact h1) (by rw [hj]; exact h2)
        unfold failAt at this
        rw [hj, M.upd_upd] at this
        exact this
      · exact wf.upd h1 rfl rfl (fun h => absurd h (Nat.lt_irrefl 0)) (Nat.le_refl 3) (fun _ => ⟨k, rfl, h1⟩) (Nat.zero_le _) ⟨hlo.1, fun _ => rfl⟩
    | false =>
      rw [if_neg (by simp), if_neg (by simp)]
      refine ⟨?_, ?_, M.upd_n⟩
      · have := rs.build (k := k) (by rw [M.upd_n]; exact h1) (by rw [hj]; exact h2)
        rw [hj, M.upd_upd] at this
        exact this
      · refine wf.upd h1 rfl rfl (fun h => absurd h (Nat.lt_irrefl 0)) (show 1 ≤ 3 by omega) (fun h => absurd h (by show ¬ 1 = 3; decide)) (Nat.zero_le _) ⟨hlo.1, fun h => ?_⟩
        have := hlo.2 h
        omega
  | start k =>
    obtain ⟨h1, h2, h3⟩ := hm
    have h1 : k < m.n := h1
    have h2 : (m.j k).outcome = 0 := h2
    have h4 : (m.j k).taken = 0 ∧ (m.j k).answered = true := by
      rcases h3 with ⟨a, _⟩ | ⟨_, b⟩ | ⟨a, _⟩
      · cases a
      · exact b
      · cases a
    have hp := takes_pos wf k
    have e : happenM m (evOf (.start k)) = { m.upd k ((m.j k).starts (VM.takes m k)) with starts := m.starts + 1 } := rfl
    rw [e]
    have hlo := wf.loss k
    refine ⟨?_, ?_, M.upd_n⟩
    · have := r.begin h1 h4.1 hp.1
      unfold State.happen
      dsimp only
      rw [r.takes]
      exact this
    · exact (wf.upd (x := (m.j k).starts (VM.takes m k)) h1 rfl rfl (fun _ => ⟨h2, h4.2⟩) (wf.out3 k) (wf.cause k) hp.2 hlo).starts_up _
  | answer k =>
    obtain ⟨h1, h2, h3⟩ := hm
    have h1 : k < m.n := h1
    have h2 : (m.j k).outcome = 0 := h2
    have e : happenM m (evOf (.answer k)) = m.upd k (m.j k).asks := rfl
    rw [e]
    have hlo := wf.loss k
    have ha : (m.j k).answered = false := by
      rcases h3 with ⟨a, _⟩ | ⟨a, _⟩ | ⟨_, a⟩
      · cases a
      · cases a
      · exact a
    have ht : (m.j k).taken = 0 := by
      have := wf.runA k
      rw [ha] at this
      have := mt this (by simp)
      omega
    have ho : (m.j k).asks.outcome = 0 ∨ (m.j k).asks.outcome = 2 := by rw [J.asks_o]; split <;> omega
    refine ⟨r.ask h1 h2, wf.upd h1 J.asks_c.2.2.2 J.asks_c.2.2.1 (fun h => ?_) (by omega) (fun h => by omega) (by rw [J.asks_r.2.1]; exact wf.tk8 k) ⟨by rw [J.asks_r.2.2.1]; exact hlo.1, fun h => ?_⟩, M.upd_n⟩
    · rw [J.asks_r.2.1] at h; omega
    · rw [J.asks_r.2.2.1] at h
      have := hlo.2 h
      omega

noncomputable def runM : List Nat → M → M × List (Nat × Nat)
  | [], m => (m, [])
  | n :: r, m => match (evs m)[n % (evs m).length]? with
    | none => (m, [])
    | some e => ((runM r (settleM (happenM m e))).1, e :: (runM r (settleM (happenM m e))).2)
theorem R.run : ∀ (l : List Nat) {s : State} {m : M}, R s m → WF m → R (run l s).1 (runM l m).1 ∧ WF (runM l m).1 ∧ (runM l m).1.n = m.n ∧ (run l s).2.map evOf = (runM l m).2
  | [], s, m, r, wf => ⟨r, wf, rfl, rfl⟩
  | n :: l, s, m, r, wf => by
    have he := r.events wf
    have hl : s.events.length = (evs m).length := by rw [← he, List.length_map]
    have hc : (s.chosen n).map evOf = (evs m)[n % (evs m).length]? := by
      unfold State.chosen
      rw [← List.getElem?_map, he, hl]
    unfold Vastog.run runM
    cases hq : s.chosen n with
    | none =>
      rw [hq] at hc
      rw [← hc]
      exact ⟨r, wf, rfl, rfl⟩
    | some ev =>
      rw [hq] at hc
      rw [← hc]
      have hmem : evOf ev ∈ evs m := List.mem_of_getElem? hc.symm
      obtain ⟨r1, w1, n1⟩ := r.happen wf hmem
      obtain ⟨r2, w2, n2⟩ := r1.settle w1
      obtain ⟨r3, w3, n3, e3⟩ := R.run l r2 w2
      refine ⟨r3, w3, by rw [← n1, ← n2]; exact n3, ?_⟩
      show evOf ev :: (Vastog.run l (s.happen ev).settle).2.map evOf = _
      rw [e3]; rfl
end VM
end
section
namespace VM
open Vastog

noncomputable def M.add (m : M) (x : J) : M := { m with jobs := m.jobs ++ [x] }
theorem add_n {m : M} {x : J} : (m.add x).n = m.n + 1 := by unfold M.add M.n; simp
theorem add_at {m : M} {x : J} {k : Nat} : (m.add x).j k = if k = m.n then x else m.j k := by
  by_cases h : k = m.n
  · rw [if_pos h, h]
    apply M.j_some
    unfold M.add M.n
    simp
  · rw [if_neg h]
    unfold M.add M.j
    rw [List.getD_eq_getElem?_getD, List.getD_eq_getElem?_getD]
    by_cases h2 : k < m.n
    · rw [List.getElem?_append_left h2]
    · have h3 : m.n < k := by omega
      rw [List.getElem?_eq_none (l := m.jobs) (by show m.n ≤ k; omega), List.getElem?_eq_none (by rw [List.length_append]; show m.n + 1 ≤ k; omega)]
theorem sel_add {m : M} {x : J} {p : J → Bool} (h : p x = false) : sel (m.add x) p = sel m p := by
  refine srt_ext (srt_sel _ _) (srt_sel _ _) fun i => ?_
  rw [mem_sel, mem_sel, add_n, add_at]
  by_cases e : i = m.n
  · rw [if_pos e, h]; simp; omega
  · rw [if_neg e]
    constructor
    · rintro ⟨a, b⟩; exact ⟨by omega, b⟩
    · rintro ⟨a, b⟩; exact ⟨by omega, b⟩
noncomputable def newJ (c f : Bool) (w : Nat) (l : List Nat) : J := ⟨c, f, w, l, false, false, 0, 0, none, 0⟩
theorem R.add {s : State} {m : M} (r : R s m) (c f : Bool) (w : Nat) (l : List Nat) :
    R { s with jobs := s.jobs ++ [{ cached := c, failing := f, weight := w, needs := l }] } (m.add (newJ c f w l)) where
  jobs := by show s.jobs ++ _ = (m.jobs ++ _).map _; rw [List.map_append, r.jobs]; rfl
  goals := by show s.goals = _; rw [r.goals, sel_add rfl]
  workers := r.workers
  keep := r.keep
  answered := by show s.answered = _; rw [r.answered, sel_add rfl]
  built := by show s.built = _; rw [r.built, sel_add rfl]
  fetched := by show s.fetched = _; rw [r.fetched, sel_add rfl]
  failed := fun i => by
    show told s.failed i = _
    rw [r.failed, add_at]
    by_cases e : i = m.n
    · rw [if_pos e, M.j_ge (by omega)]; rfl
    · rw [if_neg e]
  failedN := by show s.failed.length = _; rw [r.failedN, sel_add rfl]
  running := by
    show s.running.Perm _
    have e : runL (m.add (newJ c f w l)) = runL m := by
      unfold runL
      rw [sel_add (p := J.running) rfl]
      refine List.map_congr_left fun i hi => ?_
      rw [add_at, if_neg (by have := (mem_sel.mp hi).1; omega)]
    rw [e]; exact r.running
  losses := fun i => by
    show (told s.losses i).getD 0 = _
    rw [r.losses, add_at]
    by_cases e : i = m.n
    · rw [if_pos e, M.j_ge (by omega)]; rfl
    · rw [if_neg e]
  starts := r.starts
theorem WF.add {m : M} (wf : WF m) {c f : Bool} {w : Nat} {l : List Nat} (h64 : m.n < 64) (h1 : 1 ≤ w) (h8 : w ≤ 8) (hl : ∀ d ∈ l, d < m.n) (hs : Srt l) : WF (m.add (newJ c f w l)) := by
  have all : ∀ (P : Nat → J → Prop), (∀ i, P i (m.j i)) → P m.n (newJ c f w l) → ∀ i, P i ((m.add (newJ c f w l)).j i) := fun P h hx i => by
    rw [add_at]
    by_cases e : i = m.n
    · rw [if_pos e, e]; exact hx
    · rw [if_neg e]; exact h i
  refine ⟨by rw [add_n]; omega, wf.wk1, wf.wk8, ?_, ?_, ?_, ?_, ?_, ?_, ?_, ?_, ?_, ?_⟩
  · exact all (fun i y => ∀ d ∈ y.needs, d < i) wf.needs hl
  · exact all (fun i y => Srt y.needs) wf.needsS hs
  · exact all (fun i y => 1 ≤ y.weight) wf.w1 h1
  · exact all (fun i y => y.weight ≤ 8) wf.w8 h8
  · exact all (fun i y => 0 < y.taken → y.outcome = 0) wf.run0 fun _ => rfl
  · exact all (fun i y => 0 < y.taken → y.answered = true) wf.runA fun h => absurd h (Nat.lt_irrefl 0)
  · exact all (fun i y => y.outcome ≤ 3) wf.out3 (Nat.zero_le 3)
  · rw [add_n]
    exact all (fun i y => y.outcome = 3 → ∃ c, y.cause = some c ∧ c < m.n + 1) (fun i h => by obtain ⟨c, a, b⟩ := wf.cause i h; exact ⟨c, a, by omega⟩) fun h => absurd h (by show ¬ 0 = 3; decide)
  · exact all (fun i y => y.taken ≤ 8) wf.tk8 (Nat.zero_le 8)
  · exact all (fun i y => y.losses ≤ 3 ∧ (y.losses = 3 → y.outcome = 3)) wf.loss ⟨Nat.zero_le 3, fun h => absurd h (by show ¬ 0 = 3; decide)⟩

noncomputable def setGoal (b : Bool) (m : M) (k : Nat) : M := m.upd k { m.j k with goal := b }
noncomputable def setGoals (m : M) (l : List Nat) (b : Bool) : M := l.foldl (setGoal b) m
theorem setGoal_at {b : Bool} {m : M} {k i : Nat} (hk : k < m.n) : (setGoal b m k).j i = if i = k then { m.j i with goal := b } else m.j i := by
  unfold setGoal
  by_cases e : i = k
  · rw [if_pos e, e, M.upd_same hk]
  · rw [if_neg e, M.upd_ne e]
theorem setGoals_n : ∀ {l : List Nat} {m : M} {b : Bool}, (setGoals m l b).n = m.n
  | [], _, _ => rfl
  | k :: l, m, b => by
    show (setGoals (setGoal b m k) l b).n = _
    rw [setGoals_n]; exact M.upd_n
theorem setGoals_at : ∀ {l : List Nat} {m : M} {b : Bool} {i : Nat}, (∀ k ∈ l, k < m.n) → (setGoals m l b).j i = if i ∈ l then { m.j i with goal := b } else m.j i
  | [], m, b, i, _ => by rw [if_neg (by simp)]; rfl
  | k :: l, m, b, i, h => by
    have hk := h k List.mem_cons_self
    show (setGoals (setGoal b m k) l b).j i = _
    rw [setGoals_at (fun x hx => by show x < (m.upd k _).n; rw [M.upd_n]; exact h x (List.mem_cons_of_mem _ hx)), setGoal_at hk]
    by_cases e1 : i = k <;> by_cases e2 : i ∈ l <;> simp [e1, e2]
theorem setGoals_rest : ∀ {l : List Nat} {m : M} {b : Bool}, (setGoals m l b).workers = m.workers ∧ (setGoals m l b).keep = m.keep ∧ (setGoals m l b).starts = m.starts
  | [], _, _ => ⟨rfl, rfl, rfl⟩
  | k :: l, m, b => by
    have := setGoals_rest (l := l) (m := setGoal b m k) (b := b)
    exact this
theorem jobs_of_at {m m' : M} (hn : m'.n = m.n) (h : ∀ k, ((m'.j k).cached = (m.j k).cached ∧ (m'.j k).failing = (m.j k).failing ∧ (m'.j k).weight = (m.j k).weight ∧ (m'.j k).needs = (m.j k).needs)) :
    (m'.jobs.map fun x => (⟨x.cached, x.failing, x.weight, x.needs⟩ : Job)) = m.jobs.map fun x => ⟨x.cached, x.failing, x.weight, x.needs⟩ := by
  refine List.ext_getElem? fun i => ?_
  rw [List.getElem?_map, List.getElem?_map]
  by_cases hi : i < m.n
  · rw [M.j_at hi, M.j_at (by omega)]
    obtain ⟨a, b, c, d⟩ := h i
    show some (⟨_, _, _, _⟩ : Job) = some ⟨_, _, _, _⟩
    rw [a, b, c, d]
  · rw [List.getElem?_eq_none (l := m.jobs) (by show m.n ≤ i; omega), List.getElem?_eq_none (by show m'.n ≤ i; omega)]
theorem R.goalsAs {s : State} {m m' : M} (r : R s m) (hn : m'.n = m.n) (g : Nat → Bool) (h : ∀ k, m'.j k = { m.j k with goal := g k }) (hw : m'.workers = m.workers ∧ m'.keep = m.keep ∧ m'.starts = m.starts)
    {gs : List Nat} (hg : Srt gs) (hm : ∀ k, k ∈ gs ↔ k < m.n ∧ g k = true) : R { s with goals := gs } m' where
  jobs := by show s.jobs = _; rw [r.jobs]; exact (jobs_of_at hn fun k => by rw [h k]; exact ⟨rfl, rfl, rfl, rfl⟩).symm
  goals := by
    show gs = _
    refine srt_ext hg (srt_sel _ _) fun k => ?_
    rw [hm, mem_sel, hn, h k]
  workers := by rw [hw.1]; exact r.workers
  keep := by rw [hw.2.1]; exact r.keep
  answered := by show s.answered = _; rw [r.answered]; exact (sel_same hn fun i _ => by rw [h i]).symm
  built := by show s.built = _; rw [r.built]; exact (sel_same hn fun i _ => by rw [h i]).symm
  fetched := by show s.fetched = _; rw [r.fetched]; exact (sel_same hn fun i _ => by rw [h i]).symm
  failed := fun i => by show told s.failed i = _; rw [r.failed, h i]
  failedN := by show s.failed.length = _; rw [r.failedN, sel_same hn fun i _ => by rw [h i]; rfl]
  running := by
    show s.running.Perm _
    have e : runL m' = runL m := by
      unfold runL
      rw [sel_same (p := J.running) hn fun i _ => by rw [h i]; rfl]
      exact List.map_congr_left fun i _ => by rw [h i]
    rw [e]; exact r.running
  losses := fun i => by show (told s.losses i).getD 0 = _; rw [r.losses, h i]
  starts := by rw [hw.2.2]; exact r.starts
theorem WF.goalsAs {m m' : M} (wf : WF m) (hn : m'.n = m.n) (g : Nat → Bool) (h : ∀ k, m'.j k = { m.j k with goal := g k }) (hw : m'.workers = m.workers) : WF m' := by
  refine ⟨by rw [hn]; exact wf.len, by rw [hw]; exact wf.wk1, by rw [hw]; exact wf.wk8, ?_, ?_, ?_, ?_, ?_, ?_, ?_, ?_, ?_, ?_⟩ <;> intro k <;> rw [h k]
  · exact wf.needs k
  · exact wf.needsS k
  · exact wf.w1 k
  · exact wf.w8 k
  · exact wf.run0 k
  · exact wf.runA k
  · exact wf.out3 k
  · rw [hn]; exact wf.cause k
  · exact wf.tk8 k
  · exact wf.loss k
theorem setGoals_as {l : List Nat} {m : M} {b : Bool} (h : ∀ k ∈ l, k < m.n) (k : Nat) : (setGoals m l b).j k = { m.j k with goal := if k ∈ l then b else (m.j k).goal } := by
  rw [setGoals_at h]
  by_cases e : k ∈ l
  · rw [if_pos e, if_pos e]
  · rw [if_neg e, if_neg e]

noncomputable def J.unfail (x : J) : J := if x.failed then { x with outcome := 0, cause := none, losses := 0 } else { x with losses := 0 }
noncomputable def forgetM (m : M) : M := { m with jobs := m.jobs.map J.unfail }
theorem forget_n {m : M} : (forgetM m).n = m.n := by unfold forgetM M.n; simp
theorem forget_at {m : M} {k : Nat} : (forgetM m).j k = (m.j k).unfail := by
  unfold forgetM M.j
  rw [List.getD_eq_getElem?_getD, List.getD_eq_getElem?_getD, List.getElem?_map]
  cases m.jobs[k]? <;> rfl
theorem J.unfail_c {x : J} : x.unfail.cached = x.cached ∧ x.unfail.failing = x.failing ∧ x.unfail.weight = x.weight ∧ x.unfail.needs = x.needs := by
  unfold J.unfail; split <;> exact ⟨rfl, rfl, rfl, rfl⟩
theorem J.unfail_r {x : J} : x.unfail.goal = x.goal ∧ x.unfail.taken = x.taken ∧ x.unfail.losses = 0 ∧ x.unfail.answered = x.answered := by
  unfold J.unfail; split <;> exact ⟨rfl, rfl, rfl, rfl⟩
theorem J.unfail_o {x : J} : x.unfail.outcome = if x.outcome = 3 then 0 else x.outcome := by
  unfold J.unfail J.failed
  by_cases h : x.outcome = 3
  · rw [if_pos h, if_pos (by rw [h]; rfl)]
  · rw [if_neg h, if_neg (by simp [h])]
theorem R.forget {s : State} {m : M} (r : R s m) : R (forget s) (forgetM m) where
  jobs := by show s.jobs = _; rw [r.jobs]; exact (jobs_of_at forget_n fun k => by rw [forget_at]; exact J.unfail_c).symm
  goals := by show s.goals = _; rw [r.goals]; exact (sel_same forget_n fun i _ => by rw [forget_at]; exact J.unfail_r.1).symm
  workers := r.workers
  keep := r.keep
  answered := by show s.answered = _; rw [r.answered]; exact (sel_same forget_n fun i _ => by rw [forget_at]; exact J.unfail_r.2.2.2).symm
  built := by
    show s.built = _; rw [r.built]
    exact (sel_same forget_n fun i _ => by
      rw [forget_at, J.unfail_o]
      by_cases h : (m.j i).outcome = 3
      · rw [if_pos h, h]; rfl
      · rw [if_neg h]).symm
  fetched := by
    show s.fetched = _; rw [r.fetched]
    exact (sel_same forget_n fun i _ => by
      rw [forget_at, J.unfail_o]
      by_cases h : (m.j i).outcome = 3
      · rw [if_pos h, h]; rfl
      · rw [if_neg h]).symm
  failed := fun i => by
    show none = _
    rw [forget_at, J.unfail_o]
    by_cases h : (m.j i).outcome = 3
    · rw [if_pos h]; rfl
    · rw [if_neg h, if_neg h]
  failedN := by
    show 0 = _
    have e : sel (forgetM m) J.failed = [] := by
      refine List.filter_eq_nil_iff.mpr fun k _ => ?_
      rw [forget_at]
      unfold J.failed
      rw [J.unfail_o]
      by_cases h : (m.j k).outcome = 3
      · rw [if_pos h]; decide
      · rw [if_neg h]; simp [h]
    rw [e]; rfl
  running := by
    show s.running.Perm _
    have e : runL (forgetM m) = runL m := by
      unfold runL
      rw [sel_same (p := J.running) forget_n fun i _ => by rw [forget_at]; unfold J.running; rw [J.unfail_r.2.1]]
      exact List.map_congr_left fun i _ => by rw [forget_at, J.unfail_r.2.1]
    rw [e]; exact r.running
  losses := fun i => by rw [forget_at, J.unfail_r.2.2.1]; rfl
  starts := r.starts
theorem WF.forget {m : M} (wf : WF m) : WF (forgetM m) := by
  have ho : ∀ k, ((m.j k).unfail).outcome ≠ 3 ∧ ((m.j k).unfail).outcome ≤ 3 ∧ ((m.j k).outcome = 0 → ((m.j k).unfail).outcome = 0) := fun k => by
    rw [J.unfail_o]
    have := wf.out3 k
    by_cases h : (m.j k).outcome = 3
    · rw [if_pos h]; omega
    · rw [if_neg h]; omega
  refine ⟨by rw [forget_n]; exact wf.len, wf.wk1, wf.wk8, ?_, ?_, ?_, ?_, ?_, ?_, ?_, ?_, ?_, ?_⟩ <;> intro k <;> rw [forget_at]
  · rw [J.unfail_c.2.2.2]; exact wf.needs k
  · rw [J.unfail_c.2.2.2]; exact wf.needsS k
  · rw [J.unfail_c.2.2.1]; exact wf.w1 k
  · rw [J.unfail_c.2.2.1]; exact wf.w8 k
  · rw [J.unfail_r.2.1]; exact fun h => (ho k).2.2 (wf.run0 k h)
  · rw [J.unfail_r.2.1, J.unfail_r.2.2.2]; exact wf.runA k
  · exact (ho k).2.1
  · exact fun h => absurd h (ho k).1
  · rw [J.unfail_r.2.1]; exact wf.tk8 k
  · rw [J.unfail_r.2.2.1]; exact ⟨Nat.zero_le 3, fun h => absurd h (by decide)⟩
noncomputable def unfailing (m : M) (k : Nat) : M := m.upd k { m.j k with failing := false }
theorem R.unfailing {s : State} {m : M} (r : R s m) {k : Nat} (hk : k < m.n) : R { s with jobs := s.jobs.modify k fun x => { x with failing := false } } (unfailing m k) where
  jobs := by
    show s.jobs.modify k _ = (m.jobs.set k _).map _
    rw [r.jobs]
    refine List.ext_getElem? fun i => ?_
    rw [List.getElem?_modify, List.getElem?_map, List.getElem?_map]
    by_cases e : i = k
    · subst e
      rw [List.getElem?_set_self hk, M.j_at hk]; simp
    · rw [List.getElem?_set_ne (Ne.symm e)]
      cases m.jobs[i]? <;> simp [Ne.symm e]
  goals := by show s.goals = _; rw [r.goals]; exact (sel_stay (x := { m.j k with failing := false }) fun _ => rfl).symm
  workers := r.workers
  keep := r.keep
  answered := by show s.answered = _; rw [r.answered]; exact (sel_stay (x := { m.j k with failing := false }) fun _ => rfl).symm
  built := by show s.built = _; rw [r.built]; exact (sel_stay (x := { m.j k with failing := false }) fun _ => rfl).symm
  fetched := by show s.fetched = _; rw [r.fetched]; exact (sel_stay (x := { m.j k with failing := false }) fun _ => rfl).symm
  failed := fun i => by
    show told s.failed i = _
    rw [r.failed]
    unfold VM.unfailing
    by_cases e : i = k
    · subst e; rw [M.upd_same hk]
    · rw [M.upd_ne e]
  failedN := by show s.failed.length = _; rw [r.failedN]; exact congrArg List.length (sel_stay (x := { m.j k with failing := false }) fun _ => rfl).symm
  running := by
    show s.running.Perm _
    have e : runL (VM.unfailing m k) = runL m := runL_upd fun _ => rfl
    rw [e]; exact r.running
  losses := fun i => by
    show (told s.losses i).getD 0 = _
    rw [r.losses]; exact (losses_upd (x := { m.j k with failing := false }) (fun _ => rfl) i).symm
  starts := r.starts
theorem WF.unfailing {m : M} (wf : WF m) {k : Nat} (hk : k < m.n) : WF (unfailing m k) :=
  wf.upd hk rfl rfl (fun h => ⟨wf.run0 k h, wf.runA k h⟩) (wf.out3 k) (wf.cause k) (wf.tk8 k) (wf.loss k)

noncomputable def J.loses (x : J) (k : Nat) : J := if x.losses + 1 = 3 then { x with taken := 0, losses := x.losses + 1, outcome := 3, cause := some k } else { x with taken := 0, losses := x.losses + 1 }
noncomputable def loseM (m : M) (k : Nat) : M := settleM (m.upd k ((m.j k).loses k))
theorem told_loss {l : List (Nat × Nat)} {k n i : Nat} : told ((k, n) :: l.filter fun p => p.1 != k) i = if i = k then some n else told l i := by
  unfold told
  rw [List.find?_cons]
  by_cases e : i = k
  · subst e; simp
  · have e' : (k == i) = false := beq_eq_false_iff_ne.mpr (Ne.symm e)
    rw [if_neg e]
    dsimp only
    rw [e']
    dsimp only
    congr 1
    induction l with
    | nil => rfl
    | cons a l ih =>
      rw [List.filter_cons]
      by_cases ha : a.1 = k
      · rw [if_neg (by simp [ha]), List.find?_cons, ih]
        rw [beq_eq_false_iff_ne.mpr (show a.1 ≠ i by omega)]
      · rw [if_pos (by simp [ha]), List.find?_cons, List.find?_cons, ih]
theorem R.lossesAs {s : State} {m : M} (r : R s m) {k n : Nat} (hk : k < m.n) : R { s with losses := (k, n) :: s.losses.filter fun p => p.1 != k } (m.upd k { m.j k with losses := n }) where
  jobs := by show s.jobs = _; rw [r.jobs]; exact (jobs_upd (x := { m.j k with losses := n }) fun _ => ⟨rfl, rfl, rfl, rfl⟩).symm
  goals := by show s.goals = _; rw [r.goals]; exact (sel_stay (x := { m.j k with losses := n }) fun _ => rfl).symm
  workers := r.workers
  keep := r.keep
  answered := by show s.answered = _; rw [r.answered]; exact (sel_stay (x := { m.j k with losses := n }) fun _ => rfl).symm
  built := by show s.built = _; rw [r.built]; exact (sel_stay (x := { m.j k with losses := n }) fun _ => rfl).symm
  fetched := by show s.fetched = _; rw [r.fetched]; exact (sel_stay (x := { m.j k with losses := n }) fun _ => rfl).symm
  failed := fun i => by
    show told s.failed i = _
    rw [r.failed]
    by_cases e : i = k
    · subst e; rw [M.upd_same hk]
    · rw [M.upd_ne e]
  failedN := by show s.failed.length = _; rw [r.failedN, sel_stay (p := J.failed) (x := { m.j k with losses := n }) fun _ => rfl]
  running := by
    show s.running.Perm _
    rw [runL_upd (x := { m.j k with losses := n }) fun _ => rfl]; exact r.running
  losses := fun i => by
    show (told _ i).getD 0 = _
    rw [told_loss]
    by_cases e : i = k
    · subst e; rw [if_pos rfl, M.upd_same hk]; rfl
    · rw [if_neg e, M.upd_ne e]; exact r.losses i
  starts := r.starts
theorem R.lose {s : State} {m : M} (r : R s m) (wf : WF m) {k : Nat} (h : (m.j k).running = true) :
    R (Vastog.lose s k).1 (loseM m k) ∧ WF (loseM m k) ∧ (loseM m k).n = m.n ∧ (Vastog.lose s k).2 = { value := ((m.j k).losses + 1 : Nat) } := by
  have hk : k < m.n := J0_of (p := J.running) rfl h
  have ht : 0 < (m.j k).taken := of_decide_eq_true h
  have h0 := wf.run0 k ht
  have hl := wf.loss k
  have hl3 : (m.j k).losses ≤ 2 := by
    have : (m.j k).losses ≠ 3 := fun e => by have := hl.2 e; omega
    omega
  have r1 := r.stop hk
  have r2 := r1.lossesAs (k := k) (n := (m.j k).losses + 1) (by rw [M.upd_n]; exact hk)
  rw [M.upd_same hk, M.upd_upd] at r2
  have base : R (if (m.j k).losses + 1 = 3 then (State.fail { s.stopped k with losses := (k, (m.j k).losses + 1) :: s.losses.filter fun p => p.1 != k } k k) else { s.stopped k with losses := (k, (m.j k).losses + 1) :: s.losses.filter fun p => p.1 != k }) (m.upd k ((m.j k).loses k)) ∧ WF (m.upd k ((m.j k).loses k)) := by
    unfold J.loses
    by_cases e : (m.j k).losses + 1 = 3
    · rw [if_pos e, if_pos e]
      refine ⟨?_, wf.upd hk rfl rfl (fun h => absurd h (Nat.lt_irrefl 0)) (Nat.le_refl 3) (fun _ => ⟨k, rfl, hk⟩) (Nat.zero_le 8) ⟨by show (m.j k).losses + 1 ≤ 3; omega, fun _ => rfl⟩⟩
      have r3 := r2.fail (k := k) (c := k) (by rw [M.upd_n]; exact hk) (by rw [M.upd_same hk]; exact h0)
      unfold failAt at r3
      rw [M.upd_same hk, M.upd_upd] at r3
      exact r3
    · rw [if_neg e, if_neg e]
      exact ⟨r2, wf.upd hk rfl rfl (fun h => absurd h (Nat.lt_irrefl 0)) (wf.out3 k) (wf.cause k) (Nat.zero_le 8) ⟨by show (m.j k).losses + 1 ≤ 3; omega, fun h => absurd h e⟩⟩
  obtain ⟨r4, w4, n4⟩ := base.1.settle base.2
  unfold Vastog.lose
  rw [r.isRunning, h]
  rw [if_neg (by simp)]
  dsimp only
  rw [r.losses]
  exact ⟨r4, w4, n4.trans M.upd_n, rfl⟩
end VM
end
section
namespace VM
open Vastog

noncomputable def isJob (m : M) (j : Int) : Bool := decide (0 ≤ j) && decide (j < m.n)
theorem R.isJob {s : State} {m : M} (r : R s m) (j : Int) : s.isJob j = VM.isJob m j := by
  unfold State.isJob VM.isJob; rw [r.len]
theorem R.allJobs {s : State} {m : M} (r : R s m) (l : List Int) : l.all s.isJob = l.all (VM.isJob m) := List.all_congr rfl fun j => r.isJob j
theorem allJobs_lt {m : M} {l : List Int} (h : l.all (isJob m) = true) : ∀ d ∈ l.map Int.toNat, d < m.n := fun d hd => by
  obtain ⟨z, hz, rfl⟩ := List.mem_map.mp hd
  have := List.all_eq_true.mp h z hz
  unfold isJob at this
  rw [Bool.and_eq_true] at this
  have h1 := of_decide_eq_true this.1
  have h2 := of_decide_eq_true this.2
  omega

noncomputable def evNums (l : List (Nat × Nat)) : List Int := (l.flatMap fun e => [e.1, e.2]).map Int.ofNat
noncomputable def newJobM (m : M) (c f w : Int) (l : List Int) : M × List Int :=
  if !bit c || !bit f || decide (w < 1) || decide (8 < w) then (m, [-2])
  else if !l.all (isJob m) then (m, [-1])
  else if 64 ≤ m.n then (m, [-3])
  else (m.add (newJ (c == 1) (f == 1) w.toNat (inOrder (l.map Int.toNat))), [(m.n : Int)])
noncomputable def goalsM (m : M) (l : List Int) (b : Bool) : M × List Int :=
  if 64 < l.length then (m, [-3])
  else if !l.all (isJob m) then (m, [-1])
  else (if b then settleM (setGoals m (l.map Int.toNat) b) else setGoals m (l.map Int.toNat) b, [0])
noncomputable def runCallM (m : M) (l : List Int) : M × List Int :=
  if 512 < l.length then (m, [-3])
  else if l.any fun n => decide (n < 0) then (m, [-2])
  else ((runM (l.map Int.toNat) m).1, 0 :: evNums (runM (l.map Int.toNat) m).2)
noncomputable def statusM (m : M) (k : Nat) : List Int :=
  if (m.j k).outcome = 3 then [7, (((m.j k).cause.getD 0 : Nat) : Int)]
  else [if (m.j k).outcome = 2 then 6 else if (m.j k).outcome = 1 then 5 else if (m.j k).running then 4 else if !wants m k then 0
    else if !(m.j k).answered then 1 else if !(m.j k).needs.all (fun d => (m.j d).there) then 2 else 3]
noncomputable def countsM (m : M) : List Int :=
  0 :: ([m.n, (sel m fun x => x.outcome == 1).length, (sel m fun x => x.outcome == 2).length, (sel m J.failed).length, (sel m J.running).length, ((List.range m.n).filter (wants m)).length, free m, m.starts, (evs m).isEmpty.toNat] : List Nat).map Int.ofNat
noncomputable def stepM (m : M) : Call → M × List Int
  | .job c f w l => newJobM m c f w l
  | .workers n => if n < 1 ∨ 8 < n then (m, [-2]) else ({ m with workers := n.toNat }, [0])
  | .keep n => if !bit n then (m, [-2]) else ({ m with keep := n == 1 }, [0])
  | .goal l => goalsM m l true
  | .drop l => goalsM m l false
  | .events => (m, 0 :: evNums (evs m))
  | .run l => runCallM m l
  | .lose j => if !isJob m j then (m, [-1]) else if !(m.j j.toNat).running then (m, [-4]) else (loseM m j.toNat, [(((m.j j.toNat).losses + 1 : Nat) : Int)])
  | .status j => (m, if !isJob m j then [-1] else statusM m j.toNat)
  | .counts => (m, countsM m)
  | .fix j => if !isJob m j then (m, [-1]) else (forgetM (unfailing m j.toNat), [0])
  | .forget => (forgetM m, [0])

theorem isJob_lt {m : M} {j : Int} (h : isJob m j = true) : j.toNat < m.n := by
  unfold isJob at h
  rw [Bool.and_eq_true] at h
  have h1 := of_decide_eq_true h.1
  have h2 := of_decide_eq_true h.2
  omega
theorem evNums_eq {s : State} {m : M} (r : R s m) (wf : WF m) : (s.events.flatMap Event.numbers).map Int.ofNat = evNums (evs m) := by
  rw [evOf_numbers, r.events wf]; rfl
theorem sim {s : State} {m : M} (r : R s m) (wf : WF m) (c : Call) : R (step s c).1 (stepM m c).1 ∧ WF (stepM m c).1 ∧ VastogNeutral.encode (step s c).2 = (stepM m c).2 := by
  cases c with
  | job c f w l =>
    show R (newJob s c f w l).1 (newJobM m c f w l).1 ∧ WF (newJobM m c f w l).1 ∧ VastogNeutral.encode (newJob s c f w l).2 = (newJobM m c f w l).2
    unfold newJob newJobM
    by_cases h1 : (!bit c || !bit f || decide (w < 1) || decide (8 < w)) = true
    · rw [if_pos h1, if_pos h1]; exact ⟨r, wf, rfl⟩
    · rw [if_neg h1, if_neg h1, r.allJobs]
      by_cases h2 : (!l.all (VM.isJob m)) = true
      · rw [if_pos h2, if_pos h2]; exact ⟨r, wf, rfl⟩
      · rw [if_neg h2, if_neg h2, r.len]
        by_cases h3 : 64 ≤ m.n
        · rw [if_pos h3, if_pos h3]; exact ⟨r, wf, rfl⟩
        · rw [if_neg h3, if_neg h3]
          have hw : 1 ≤ w ∧ w ≤ 8 := by
            have : decide (w < 1) = false ∧ decide (8 < w) = false := by
              revert h1
              cases decide (w < 1) <;> cases decide (8 < w) <;> simp
            have a := of_decide_eq_false this.1
            have b := of_decide_eq_false this.2
            omega
          refine ⟨r.add _ _ _ _, wf.add (by omega) (by omega) (by omega) (fun d hd => allJobs_lt (by simpa using h2) d (mem_inOrder.mp hd)) srt_inOrder, rfl⟩
  | workers n =>
    show R (if n < 1 ∨ 8 < n then (s, refused RANGE) else ({ s with workers := n.toNat }, done)).1 (if n < 1 ∨ 8 < n then (m, [-2]) else ({ m with workers := n.toNat }, [0])).1 ∧ WF (if n < 1 ∨ 8 < n then (m, [-2]) else ({ m with workers := n.toNat }, [0])).1 ∧ VastogNeutral.encode (if n < 1 ∨ 8 < n then (s, refused RANGE) else ({ s with workers := n.toNat }, done)).2 = (if n < 1 ∨ 8 < n then (m, [-2]) else ({ m with workers := n.toNat }, [0])).2
    by_cases h : n < 1 ∨ 8 < n
    · rw [if_pos h, if_pos h]; exact ⟨r, wf, rfl⟩
    · rw [if_neg h, if_neg h]
      exact ⟨⟨r.jobs, r.goals, rfl, r.keep, r.answered, r.built, r.fetched, r.failed, r.failedN, r.running, r.losses, r.starts⟩,
        ⟨wf.len, by show 1 ≤ n.toNat; omega, by show n.toNat ≤ 8; omega, wf.needs, wf.needsS, wf.w1, wf.w8, wf.run0, wf.runA, wf.out3, wf.cause, wf.tk8, wf.loss⟩, rfl⟩
  | keep n =>
    unfold step stepM
    dsimp only
    by_cases h : (!bit n) = true
    · rw [if_pos h, if_pos h]; exact ⟨r, wf, rfl⟩
    · rw [if_neg h, if_neg h]
      exact ⟨⟨r.jobs, r.goals, r.workers, rfl, r.answered, r.built, r.fetched, r.failed, r.failedN, r.running, r.losses, r.starts⟩,
        ⟨wf.len, wf.wk1, wf.wk8, wf.needs, wf.needsS, wf.w1, wf.w8, wf.run0, wf.runA, wf.out3, wf.cause, wf.tk8, wf.loss⟩, rfl⟩
  | goal l =>
    unfold step stepM goalsM jobsOf
    dsimp only
    by_cases h1 : 64 < l.length
    · rw [if_pos h1, if_pos h1]; exact ⟨r, wf, rfl⟩
    · rw [if_neg h1, if_neg h1, r.allJobs]
      by_cases h2 : (!l.all (VM.isJob m)) = true
      · rw [if_pos h2, if_pos h2]; exact ⟨r, wf, rfl⟩
      · rw [if_neg h2, if_neg h2, if_pos rfl]
        have hl := allJobs_lt (m := m) (l := l) (by simpa using h2)
        have as := setGoals_as (b := true) hl
        have r1 := r.goalsAs (m' := setGoals m (l.map Int.toNat) true) setGoals_n _ as setGoals_rest (gs := (inOrder (l.map Int.toNat)).foldr putIn s.goals) (srt_foldr_putIn (by rw [r.goals]; exact srt_sel _ _)) fun k => by
          rw [mem_foldr_putIn, mem_inOrder, r.goals, mem_sel]
          by_cases e : k ∈ l.map Int.toNat
          · rw [if_pos e]; simp only [e, true_or, and_true, true_iff]; exact hl k e
          · rw [if_neg e]; simp only [e, false_or]
        have w1 := wf.goalsAs (m' := setGoals m (l.map Int.toNat) true) setGoals_n _ as setGoals_rest.1
        obtain ⟨r2, w2, _⟩ := r1.settle w1
        exact ⟨r2, w2, rfl⟩
  | drop l =>
    unfold step stepM goalsM jobsOf
    dsimp only
    by_cases h1 : 64 < l.length
    · rw [if_pos h1, if_pos h1]; exact ⟨r, wf, rfl⟩
    · rw [if_neg h1, if_neg h1, r.allJobs]
      by_cases h2 : (!l.all (VM.isJob m)) = true
      · rw [if_pos h2, if_pos h2]; exact ⟨r, wf, rfl⟩
      · rw [if_neg h2, if_neg h2, if_neg (by simp)]
        have hl := allJobs_lt (m := m) (l := l) (by simpa using h2)
        have as := setGoals_as (b := false) hl
        have r1 := r.goalsAs (m' := setGoals m (l.map Int.toNat) false) setGoals_n _ as setGoals_rest (gs := s.goals.filter fun j => !(inOrder (l.map Int.toNat)).contains j) (srt_filter _ (by rw [r.goals]; exact srt_sel _ _)) fun k => by
          rw [List.mem_filter, r.goals, mem_sel]
          by_cases e : k ∈ l.map Int.toNat
          · have : (inOrder (l.map Int.toNat)).contains k = true := List.contains_iff_mem.mpr (mem_inOrder.mpr e)
            rw [if_pos e, this]; simp
          · have : (inOrder (l.map Int.toNat)).contains k = false := by
              cases q : (inOrder (l.map Int.toNat)).contains k with
              | false => rfl
              | true => exact absurd (mem_inOrder.mp (List.contains_iff_mem.mp q)) e
            rw [if_neg e, this]; simp
        exact ⟨r1, wf.goalsAs (m' := setGoals m (l.map Int.toNat) false) setGoals_n _ as setGoals_rest.1, rfl⟩
  | events => exact ⟨r, wf, congrArg ((0 : Int) :: ·) (evNums_eq r wf)⟩
  | run l =>
    show R (runCall s l).1 (runCallM m l).1 ∧ WF (runCallM m l).1 ∧ VastogNeutral.encode (runCall s l).2 = (runCallM m l).2
    unfold runCall runCallM
    by_cases h1 : 512 < l.length
    · rw [if_pos h1, if_pos h1]; exact ⟨r, wf, rfl⟩
    · rw [if_neg h1, if_neg h1]
      by_cases h2 : (l.any fun n => decide (n < 0)) = true
      · rw [if_pos h2, if_pos h2]; exact ⟨r, wf, rfl⟩
      · rw [if_neg h2, if_neg h2]
        obtain ⟨r1, w1, _, e1⟩ := R.run (l.map Int.toNat) r wf
        refine ⟨r1, w1, ?_⟩
        show (0 : Int) :: (((Vastog.run (l.map Int.toNat) s).2.flatMap Event.numbers).map Int.ofNat) = _
        rw [evOf_numbers, e1]; rfl
  | lose j =>
    unfold step stepM
    dsimp only
    rw [r.isJob]
    by_cases h1 : (!VM.isJob m j) = true
    · rw [if_pos h1, if_pos h1]; exact ⟨r, wf, rfl⟩
    · rw [if_neg h1, if_neg h1]
      by_cases h2 : (m.j j.toNat).running = true
      · obtain ⟨r1, w1, _, e1⟩ := r.lose wf h2
        rw [if_neg (by rw [h2]; simp)]
        exact ⟨r1, w1, by rw [e1]; rfl⟩
      · have h3 : (m.j j.toNat).running = false := by simpa using h2
        rw [if_pos (by rw [h3]; rfl)]
        have e : Vastog.lose s j.toNat = (s, refused IDLE) := by
          unfold Vastog.lose
          rw [r.isRunning, h3]; rfl
        rw [e]
        exact ⟨r, wf, rfl⟩
  | status j =>
    refine ⟨r, wf, ?_⟩
    show VastogNeutral.encode (if !s.isJob j then refused JOB else status s j.toNat) = if !VM.isJob m j then [-1] else statusM m j.toNat
    rw [r.isJob]
    by_cases h1 : (!VM.isJob m j) = true
    · rw [if_pos h1, if_pos h1]; rfl
    · rw [if_neg h1, if_neg h1]
      unfold status statusM
      rw [r.failed]
      by_cases h3 : (m.j j.toNat).outcome = 3
      · obtain ⟨c, hc, _⟩ := wf.cause _ h3
        rw [if_pos h3, if_pos h3, hc]; rfl
      · rw [if_neg h3, if_neg h3]
        show [_] = [_]
        congr 1
        dsimp only
        rw [r.fetched, r.built, sel_contains rfl, sel_contains rfl, r.isRunning, r.wants wf, r.isAnswered, r.job]
        have ea : (m.j j.toNat).needs.all s.there = (m.j j.toNat).needs.all fun d => (m.j d).there := List.all_congr rfl fun d => r.there d
        dsimp only
        rw [ea]
        by_cases h4 : (m.j j.toNat).outcome = 2
        · rw [if_pos h4, if_pos (by rw [h4]; rfl)]
        · rw [if_neg h4, if_neg (by simp [h4])]
          by_cases h5 : (m.j j.toNat).outcome = 1
          · rw [if_pos h5, if_pos (by rw [h5]; rfl)]
          · rw [if_neg h5, if_neg (by simp [h5])]
  | counts =>
    refine ⟨r, wf, ?_⟩
    show (0 : Int) :: (counts s).map Int.ofNat = countsM m
    unfold counts countsM
    have er : s.running.length = (sel m J.running).length := by rw [r.running.length_eq]; unfold runL; rw [List.length_map]
    have ee : s.atRest = (evs m).isEmpty := by
      unfold State.atRest
      rw [← r.events wf]
      cases s.events <;> rfl
    rw [r.len, r.built, r.fetched, r.failedN, er, r.wanted wf, r.free, r.starts, ee]
  | fix j =>
    unfold step stepM
    dsimp only
    rw [r.isJob]
    by_cases h1 : (!VM.isJob m j) = true
    · rw [if_pos h1, if_pos h1]; exact ⟨r, wf, rfl⟩
    · rw [if_neg h1, if_neg h1]
      have hj := isJob_lt (m := m) (j := j) (by simpa using h1)
      exact ⟨(r.unfailing hj).forget, (wf.unfailing hj).forget, rfl⟩
  | forget => exact ⟨r.forget, wf.forget, rfl⟩
end VM
end
section
namespace VM
open Vastog

noncomputable def wholeN : List Nat := [3, 1, 1, 0, 0, 0, 0, 1, 1, 0, 1, 0]
noncomputable def hasRow : List Bool := [true, false, false, true, true, false, true, false, false, false, false, false]
theorem shape_cases {p : Int} {w n : Nat} (h : PyVastog.shape p = some (w, n)) : ∃ k : Nat, p = (k : Int) ∧ wholeN[k]? = some w ∧ hasRow[k]? = some (decide (n = 1)) ∧ n ≤ 1 := by
  unfold PyVastog.shape at h
  have go : ∀ (j : Nat) (a b : Nat), (some (a, b) : Option (Nat × Nat)) = some (w, n) → p = (j : Int) → wholeN[j]? = some a → hasRow[j]? = some (decide (b = 1)) → b ≤ 1 → ∃ k : Nat, p = (k : Int) ∧ wholeN[k]? = some w ∧ hasRow[k]? = some (decide (n = 1)) ∧ n ≤ 1 := by
    intro j a b e1 e2 e3 e4 e5
    cases e1
    exact ⟨j, e2, e3, e4, e5⟩
  by_cases h0 : p = 0
  · rw [if_pos h0] at h; exact go 0 _ _ h h0 rfl rfl (by decide)
  rw [if_neg h0] at h
  by_cases h1 : p = 1
  · rw [if_pos h1] at h; exact go 1 _ _ h h1 rfl rfl (by decide)
  rw [if_neg h1] at h
  by_cases h2 : p = 2
  · rw [if_pos h2] at h; exact go 2 _ _ h h2 rfl rfl (by decide)
  rw [if_neg h2] at h
  by_cases h3 : p = 3
  · rw [if_pos h3] at h; exact go 3 _ _ h h3 rfl rfl (by decide)
  rw [if_neg h3] at h
  by_cases h4 : p = 4
  · rw [if_pos h4] at h; exact go 4 _ _ h h4 rfl rfl (by decide)
  rw [if_neg h4] at h
  by_cases h5 : p = 5
  · rw [if_pos h5] at h; exact go 5 _ _ h h5 rfl rfl (by decide)
  rw [if_neg h5] at h
  by_cases h6 : p = 6
  · rw [if_pos h6] at h; exact go 6 _ _ h h6 rfl rfl (by decide)
  rw [if_neg h6] at h
  by_cases h7 : p = 7
  · rw [if_pos h7] at h; exact go 7 _ _ h h7 rfl rfl (by decide)
  rw [if_neg h7] at h
  by_cases h8 : p = 8
  · rw [if_pos h8] at h; exact go 8 _ _ h h8 rfl rfl (by decide)
  rw [if_neg h8] at h
  by_cases h9 : p = 9
  · rw [if_pos h9] at h; exact go 9 _ _ h h9 rfl rfl (by decide)
  rw [if_neg h9] at h
  by_cases h10 : p = 10
  · rw [if_pos h10] at h; exact go 10 _ _ h h10 rfl rfl (by decide)
  rw [if_neg h10] at h
  by_cases h11 : p = 11
  · rw [if_pos h11] at h; exact go 11 _ _ h h11 rfl rfl (by decide)
  rw [if_neg h11] at h
  cases h

structure CallAt (l : List Int) (p : Nat) (k w : Nat) (nums : List Int) (row : List Int) (p' : Nat) (c : List (List Int)) : Prop where
  lt : p < l.length
  kind : l[p]? = some (k : Int)
  wn : wholeN[k]? = some w
  numsE : nums = (l.drop (p + 1)).take w
  numsL : nums.length = w
  behind : p' ≤ l.length
  go : p < p'
  rest : (hasRow[k]? = some false ∧ row = [] ∧ p' = p + 1 + w ∧ c = [(k : Int) :: nums]) ∨
    (hasRow[k]? = some true ∧ l[p + 1 + w]? = some (row.length : Int) ∧ row = (l.drop (p + 2 + w)).take row.length ∧ p' = p + 2 + w + row.length ∧ c = [(k : Int) :: nums, row])
theorem call_at {l : List Int} {p : Nat} {c : List (List Int)} {t : List Int} (h : PyFlat.call PyVastog.shape (l.drop p) = some (c, t)) : ∃ k w nums row p', CallAt l p k w nums row p' c ∧ t = l.drop p' := by
  cases hd : l.drop p with
  | nil => rw [hd] at h; cases h
  | cons z r =>
    rw [hd] at h
    have hp : p < l.length := by
      by_cases q : p < l.length
      · exact q
      · rw [List.drop_eq_nil_of_le (by omega)] at hd; cases hd
    have hz : l[p]? = some z := by
      have : (l.drop p)[0]? = some z := by rw [hd]; rfl
      rw [List.getElem?_drop] at this; exact this
    have hr : r = l.drop (p + 1) := by
      have : (l.drop p).drop 1 = r := by rw [hd]; rfl
      rw [List.drop_drop] at this; exact this.symm
    unfold PyFlat.call at h
    dsimp only at h
    cases hs : PyVastog.shape z with
    | none => rw [hs] at h; cases h
    | some q =>
      obtain ⟨w, n⟩ := q
      rw [hs] at h
      dsimp only at h
      obtain ⟨k, rfl, hw, hh, hn1⟩ := shape_cases hs
      by_cases hl : r.length < w
      · rw [if_pos hl] at h; cases h
      · rw [if_neg hl] at h
        have hlen : p + 1 + w ≤ l.length := by
          rw [hr, List.length_drop] at hl; omega
        have hnl : (r.take w).length = w := by rw [List.length_take]; omega
        have hn : n = 0 ∨ n = 1 := by omega
        rcases hn with rfl | rfl
        · have e : PyFlat.rows 0 (r.drop w) = some ([], r.drop w) := rfl
          rw [e] at h
          cases h
          refine ⟨k, w, r.take w, [], p + 1 + w, ⟨hp, hz, hw, by rw [hr], hnl, hlen, by omega, .inl ⟨hh, rfl, rfl, rfl⟩⟩, ?_⟩
          rw [hr, List.drop_drop]
        · have e : PyFlat.rows 1 (r.drop w) = match PyFlat.row (r.drop w) with | none => none | some (x, s) => some ([x], s) := by
            show (match PyFlat.row (r.drop w) with | none => none | some (x, s) => match PyFlat.rows 0 s with | none => none | some (xs, t) => some (x :: xs, t)) = _
            cases PyFlat.row (r.drop w) <;> rfl
          rw [e] at h
          cases hq : r.drop w with
          | nil => rw [hq] at h; cases h
          | cons n0 s0 =>
            rw [hq] at h
            unfold PyFlat.row at h
            dsimp only at h
            have hn0 : l[p + 1 + w]? = some n0 := by
              have : (r.drop w)[0]? = some n0 := by rw [hq]; rfl
              rw [hr, List.drop_drop, List.getElem?_drop] at this; exact this
            have hs0 : s0 = l.drop (p + 2 + w) := by
              have : (r.drop w).drop 1 = s0 := by rw [hq]; rfl
              rw [hr, List.drop_drop, List.drop_drop] at this
              rw [← this]; congr 1; omega
            have hlt : p + 1 + w < l.length := (List.getElem?_eq_some_iff.mp hn0).1
            by_cases hc : 0 ≤ n0 ∧ n0.toNat ≤ s0.length
            · rw [if_pos hc] at h
              cases h
              have hrl : (s0.take n0.toNat).length = n0.toNat := by rw [List.length_take]; omega
              refine ⟨k, w, r.take w, s0.take n0.toNat, p + 2 + w + n0.toNat, ⟨hp, hz, hw, by rw [hr], hnl, ?_, by omega, .inr ⟨hh, ?_, ?_, by rw [hrl], rfl⟩⟩, ?_⟩
              · have := hc.2
                rw [hs0, List.length_drop] at this; omega
              · rw [hrl, hn0]; congr 1; omega
              · rw [hrl, hs0]
              · rw [hs0, List.drop_drop]
            · rw [if_neg hc] at h; cases h
noncomputable def CallsAt (l : List Int) (p : Nat) (cs : List (List (List Int))) : Prop := ∃ f, PyFlat.calls PyVastog.shape f (l.drop p) = some cs
theorem callsAt_end {l : List Int} {p : Nat} {cs : List (List (List Int))} (h : CallsAt l p cs) (hp : l.length ≤ p) : cs = [] := by
  obtain ⟨f, e⟩ := h
  rw [List.drop_eq_nil_of_le hp] at e
  cases f <;> (unfold PyFlat.calls at e; cases e; rfl)
theorem callsAt_more {l : List Int} {p : Nat} {cs : List (List (List Int))} (h : CallsAt l p cs) (hp : p < l.length) : ∃ c rest k w nums row p', cs = c :: rest ∧ CallAt l p k w nums row p' c ∧ CallsAt l p' rest := by
  obtain ⟨f, e⟩ := h
  cases hd : l.drop p with
  | nil =>
    have : (l.drop p).length = 0 := by rw [hd]; rfl
    rw [List.length_drop] at this; omega
  | cons z r =>
    rw [hd] at e
    cases f with
    | zero => unfold PyFlat.calls at e; cases e
    | succ f =>
      unfold PyFlat.calls at e
      rw [← hd] at e
      cases hc : PyFlat.call PyVastog.shape (l.drop p) with
      | none => rw [hc] at e; cases e
      | some q =>
        obtain ⟨c, t⟩ := q
        rw [hc] at e
        dsimp only at e
        obtain ⟨k, w, nums, row, p', hca, rfl⟩ := call_at hc
        cases hr : PyFlat.calls PyVastog.shape f (l.drop p') with
        | none => rw [hr] at e; cases e
        | some rest =>
          rw [hr] at e
          cases e
          exact ⟨c, rest, k, w, nums, row, p', rfl, hca, ⟨f, hr⟩⟩
end VM
end
section
namespace VM
open Vastog

noncomputable def callK (k : Nat) (nums row : List Int) : Call := match k with
  | 0 => .job (nums.getD 0 0) (nums.getD 1 0) (nums.getD 2 0) row
  | 1 => .workers (nums.getD 0 0)
  | 2 => .keep (nums.getD 0 0)
  | 3 => .goal row
  | 4 => .drop row
  | 5 => .events
  | 6 => .run row
  | 7 => .lose (nums.getD 0 0)
  | 8 => .status (nums.getD 0 0)
  | 9 => .counts
  | 10 => .fix (nums.getD 0 0)
  | _ => .forget
theorem len0 {l : List Int} (h : l.length = 0) : l = [] := List.length_eq_zero_iff.mp h
theorem len1 {l : List Int} (h : l.length = 1) : ∃ x, l = [x] := List.length_eq_one_iff.mp h
theorem len3 {l : List Int} (h : l.length = 3) : ∃ x y z, l = [x, y, z] := by
  match l, h with
  | [x, y, z], _ => exact ⟨x, y, z, rfl⟩
theorem kind_lt {l : List Int} {p k w p' : Nat} {nums row : List Int} {c : List (List Int)} (h : CallAt l p k w nums row p' c) : k < 12 := (List.getElem?_eq_some_iff.mp h.wn).1
theorem step_callK {l : List Int} {p k w p' : Nat} {nums row : List Int} {c : List (List Int)} (h : CallAt l p k w nums row p' c) (s : State) :
    VastogNeutral.step s (PyVastog.whole c) = ((step s (callK k nums row)).1, VastogNeutral.encode (step s (callK k nums row)).2) ∧ (k = 0 → VastogNeutral.asked1 (PyVastog.whole c) = true → row.length ≤ 100) := by
  have hw := h.wn
  have hn := h.numsL
  have hk := kind_lt h
  have ask : ∀ x y z, VastogNeutral.asked1 (PyVastog.whole [[0, x, y, z], row]) = true → row.length ≤ 100 := fun x y z q => by
    have q' : (VastogNeutral.whole60 x && (VastogNeutral.whole60 y && (VastogNeutral.whole60 z && ((row.all (fun (z : Int) => VastogNeutral.whole60 z)) && decide (row.length ≤ 100))))) = true := q
    rw [Bool.and_eq_true, Bool.and_eq_true, Bool.and_eq_true, Bool.and_eq_true] at q'
    exact of_decide_eq_true q'.2.2.2.2
  rcases h.rest with ⟨hr, hrow, _, hc⟩ | ⟨hr, _, _, _, hc⟩
  · match k, hk, hw, hr, hc with
    | 0, _, _, hr, _ => cases hr
    | 1, _, hw, _, hc => cases hw; obtain ⟨x, rfl⟩ := len1 hn; subst hc; exact ⟨rfl, fun q => by cases q⟩
    | 2, _, hw, _, hc => cases hw; obtain ⟨x, rfl⟩ := len1 hn; subst hc; exact ⟨rfl, fun q => by cases q⟩
    | 3, _, _, hr, _ => cases hr
    | 4, _, _, hr, _ => cases hr
    | 5, _, hw, _, hc => cases hw; rw [len0 hn] at hc; subst hc; exact ⟨rfl, fun q => by cases q⟩
    | 6, _, _, hr, _ => cases hr
    | 7, _, hw, _, hc => cases hw; obtain ⟨x, rfl⟩ := len1 hn; subst hc; exact ⟨rfl, fun q => by cases q⟩
    | 8, _, hw, _, hc => cases hw; obtain ⟨x, rfl⟩ := len1 hn; subst hc; exact ⟨rfl, fun q => by cases q⟩
    | 9, _, hw, _, hc => cases hw; rw [len0 hn] at hc; subst hc; exact ⟨rfl, fun q => by cases q⟩
    | 10, _, hw, _, hc => cases hw; obtain ⟨x, rfl⟩ := len1 hn; subst hc; exact ⟨rfl, fun q => by cases q⟩
    | 11, _, hw, _, hc => cases hw; rw [len0 hn] at hc; subst hc; exact ⟨rfl, fun q => by cases q⟩
    | n + 12, hk, _, _, _ => omega
  · match k, hk, hw, hr, hc with
    | 0, _, hw, _, hc => cases hw; obtain ⟨x, y, z, rfl⟩ := len3 hn; subst hc; exact ⟨rfl, fun _ => ask x y z⟩
    | 1, _, _, hr, _ => cases hr
    | 2, _, _, hr, _ => cases hr
    | 3, _, hw, _, hc => cases hw; rw [len0 hn] at hc; subst hc; exact ⟨rfl, fun q => by cases q⟩
    | 4, _, hw, _, hc => cases hw; rw [len0 hn] at hc; subst hc; exact ⟨rfl, fun q => by cases q⟩
    | 5, _, _, hr, _ => cases hr
    | 6, _, hw, _, hc => cases hw; rw [len0 hn] at hc; subst hc; exact ⟨rfl, fun q => by cases q⟩
    | 7, _, _, hr, _ => cases hr
    | 8, _, _, hr, _ => cases hr
    | 9, _, _, hr, _ => cases hr
    | 10, _, _, hr, _ => cases hr
    | 11, _, _, hr, _ => cases hr
    | n + 12, hk, _, _, _ => omega
structure Rest (l : List Int) (p : Nat) (m : M) (G : List Int) (left : Nat) : Prop where
  ex : ∃ (s : State) (cs : List (List (List Int))), R s m ∧ CallsAt l p cs ∧ cs.length = left ∧ (∀ c ∈ cs, VastogNeutral.asked1 (PyVastog.whole c) = true) ∧
    PyVastog.answers l = G ++ PyFlat.told (PyFlat.played VastogNeutral.step s (cs.map PyVastog.whole))
  wf : WF m
theorem Rest.start {l : List Int} (h : PyVastog.answers_asked l = true) : ∃ n, n ≤ 400 ∧ Rest l 0 M.start [] n := by
  unfold PyVastog.answers_asked at h
  cases hc : PyVastog.calls l with
  | none => rw [hc] at h; cases h
  | some cs =>
    rw [hc] at h
    dsimp only at h
    unfold PyVastog.calls at hc
    cases hq : PyFlat.calls PyVastog.shape l.length l with
    | none => rw [hq] at hc; cases hc
    | some ds =>
      rw [hq] at hc
      cases hc
      rw [Bool.and_eq_true] at h
      have h1 : ds.length ≤ 400 := by
        have := of_decide_eq_true h.1
        rw [List.length_map] at this; exact this
      have h2 := h.2
      unfold VastogNeutral.asked at h2
      rw [Bool.and_eq_true] at h2
      refine ⟨ds.length, h1, ⟨Vastog.start, ds, R.start, ⟨l.length, hq⟩, rfl, fun c hc => List.all_eq_true.mp h2.1 _ (List.mem_map.mpr ⟨c, hc, rfl⟩), ?_⟩, WF.start⟩
      unfold PyVastog.answers PyVastog.calls
      rw [hq]; rfl
theorem Rest.done {l : List Int} {p : Nat} {m : M} {G : List Int} {n : Nat} (r : Rest l p m G n) (hp : l.length ≤ p) : PyVastog.answers l = G := by
  obtain ⟨s, cs, _, h2, _, _, h4⟩ := r.ex
  rw [callsAt_end h2 hp] at h4
  rw [h4]
  show G ++ [] = G
  rw [List.append_nil]
theorem Rest.next {l : List Int} {p : Nat} {m : M} {G : List Int} {n : Nat} (r : Rest l p m G n) (hp : p < l.length) :
    ∃ k w nums row p' c, CallAt l p k w nums row p' c ∧ (k = 0 → row.length ≤ 100) ∧ 0 < n ∧ Rest l p' (stepM m (callK k nums row)).1 (G ++ (((stepM m (callK k nums row)).2.length : Int) :: (stepM m (callK k nums row)).2)) (n - 1) := by
  obtain ⟨s, cs, hr, hcs, hlen, hask, heq⟩ := r.ex
  obtain ⟨c, rest, k, w, nums, row, p', rfl, hca, hrest⟩ := callsAt_more hcs hp
  obtain ⟨e1, e2⟩ := step_callK hca s
  obtain ⟨r1, w1, a1⟩ := sim hr r.wf (callK k nums row)
  refine ⟨k, w, nums, row, p', c, hca, fun q => e2 q (hask c List.mem_cons_self), by rw [← hlen]; simp, ⟨(step s (callK k nums row)).1, rest, r1, hrest, by rw [← hlen]; simp, fun d hd => hask d (List.mem_cons_of_mem _ hd), ?_⟩, w1⟩
  rw [heq, List.map_cons]
  show G ++ PyFlat.told ((VastogNeutral.step s (PyVastog.whole c)).2 :: PyFlat.played VastogNeutral.step (VastogNeutral.step s (PyVastog.whole c)).1 (rest.map PyVastog.whole)) = _
  rw [e1]
  dsimp only
  rw [a1, List.append_assoc]
  rfl
end VM
end
section
namespace VM
open Vastog
theorem filter_len_le {l : List Nat} (p : Nat → Bool) : (l.filter p).length ≤ l.length := List.length_filter_le _ _
theorem evs_len (m : M) : (evs m).length ≤ 3 * m.n := by
  unfold evs
  rw [List.length_append, List.length_map]
  have h1 : (sel m J.running).length ≤ m.n := by
    have := List.length_filter_le (fun k => J.running (m.j k)) (List.range m.n)
    rw [List.length_range] at this; exact this
  cases blocked m with
  | true => rw [if_pos rfl]; simp only [List.length_nil]; omega
  | false =>
    rw [if_neg (by simp), List.length_append, List.length_map, List.length_map]
    have h2 := List.length_filter_le (fun k => wants m k && ready m k) (List.range m.n)
    have h3 := List.length_filter_le (fun k => wants m k && !(m.j k).answered) (List.range m.n)
    rw [List.length_range] at h2 h3
    omega
theorem evNums_len (l : List (Nat × Nat)) : (evNums l).length = 2 * l.length := by
  unfold evNums
  rw [List.length_map]
  induction l with
  | nil => rfl
  | cons a l ih => rw [List.flatMap_cons, List.length_append, ih, List.length_cons]; simp; omega
theorem runM_len : ∀ (l : List Nat) (m : M), (runM l m).2.length ≤ l.length
  | [], _ => Nat.le_refl _
  | n :: r, m => by
    unfold runM
    cases (evs m)[n % (evs m).length]? with
    | none => exact Nat.zero_le _
    | some e => exact Nat.succ_le_succ (runM_len r _)
theorem small1 : 1 ≤ 1025 := by decide
theorem stepM_len {m : M} (wf : WF m) (c : Call) : (stepM m c).2.length ≤ 1025 := by
  cases c with
  | job c f w l => show (newJobM m c f w l).2.length ≤ _; unfold newJobM; repeat (first | split | decide | (show 1 ≤ 1025; decide))
  | workers n => unfold stepM; dsimp only; split <;> exact small1
  | keep n => unfold stepM; dsimp only; split <;> exact small1
  | goal l => unfold stepM goalsM; dsimp only; repeat (first | split | decide | (show 1 ≤ 1025; decide))
  | drop l => unfold stepM goalsM; dsimp only; repeat (first | split | decide | (show 1 ≤ 1025; decide))
  | events =>
    show (0 :: evNums (evs m)).length ≤ 1025
    rw [List.length_cons, evNums_len]
    have := evs_len m; have := wf.len
    omega
  | run l =>
    show (runCallM m l).2.length ≤ 1025
    unfold runCallM
    by_cases h : 512 < l.length
    · rw [if_pos h]; exact small1
    · rw [if_neg h]
      split
      · exact small1
      · show (0 :: evNums _).length ≤ 1025
        rw [List.length_cons, evNums_len]
        have := runM_len (l.map Int.toNat) m
        rw [List.length_map] at this
        omega
  | lose j => unfold stepM; dsimp only; repeat (first | split | decide | (show 1 ≤ 1025; decide))
  | status j => unfold stepM statusM; dsimp only; repeat (first | split | decide | (show 1 ≤ 1025; decide) | (show 2 ≤ 1025; decide))
  | counts => show 10 ≤ 1025; decide
  | fix j => unfold stepM; dsimp only; repeat (first | split | decide | (show 1 ≤ 1025; decide))
  | forget => exact small1
end VM
end
section
namespace VM
open Vastog
noncomputable def settleTo (m : M) (i : Nat) : M := (List.range i).foldl (settleOne (marks m)) m
theorem settleTo_succ (m : M) (i : Nat) : settleTo m (i + 1) = settleOne (marks m) (settleTo m i) i := by
  unfold settleTo; rw [List.range_succ, List.foldl_append]; rfl
theorem settleTo_end (m : M) : settleTo m m.n = settleM m := rfl
structure Till (m0 : M) (i : Nat) (m : M) : Prop where
  wf : WF m
  n : m.n = m0.n
  same : ∀ j, i ≤ j → m.j j = m0.j j
  want : ∀ j, i ≤ j → j < m0.n → wants m j = wants m0 j
theorem settleTo_till {m0 : M} (wf0 : WF m0) : ∀ i, i ≤ m0.n → Till m0 i (settleTo m0 i)
  | 0, _ => ⟨wf0, rfl, fun _ _ => rfl, fun _ _ _ => rfl⟩
  | i + 1, h => by
    have ih := settleTo_till wf0 i (by omega)
    rw [settleTo_succ]
    have ew : (marks m0).getD i false = wants (settleTo m0 i) i := (ih.want i (Nat.le_refl _) (by omega)).symm
    have hw : WF (settleOne (marks m0) (settleTo m0 i) i) := by
      unfold settleOne
      rw [ew]
      by_cases hh : hands (settleTo m0 i) (wants (settleTo m0 i) i) i = true
      · obtain ⟨h1, h2, h3, h4⟩ := hands_facts ih.wf rfl hh
        rw [if_pos hh]
        exact ih.wf.fail h1 h3 (causes_lt ih.wf (least_mem h4))
      · rw [if_neg hh]; exact ih.wf
    refine ⟨hw, by rw [settleOne_n]; exact ih.n, fun j hj => by rw [settleOne_ne (by omega)]; exact ih.same j (by omega), fun j hj hj' => ?_⟩
    rw [← ih.want j (by omega) hj']
    have hn := ih.n
    exact fix_congr (m := settleTo m0 i) (k := i + 1) settleOne_n ih.wf.needs (marks_fix ih.wf) (marks_fix hw) (fun p hp _ => by rw [settleOne_ne (by omega)]; exact ⟨rfl, rfl, rfl⟩) (fun p _ => settleOne_needs) ((settleTo m0 i).n - j) j hj (by omega) (Nat.le_refl _)
theorem pick_filter {α : Type} (d : α) (p : α → Bool) : ∀ l : List α, ((List.range l.length).filter fun j => p (l.getD j d)).map (fun j => l.getD j d) = l.filter p
  | [] => rfl
  | a :: l => by
    have ih := pick_filter d p l
    rw [List.length_cons, List.range_succ_eq_map, List.filter_cons, List.filter_map, List.filter_cons]
    have e1 : ((fun j => p ((a :: l).getD j d)) ∘ Nat.succ) = fun j => p (l.getD j d) := rfl
    have e2 : (a :: l).getD 0 d = a := rfl
    rw [e1, e2]
    have e3 : ∀ q : List Nat, (q.map Nat.succ).map (fun j => (a :: l).getD j d) = q.map fun j => l.getD j d := fun q => by rw [List.map_map]; rfl
    by_cases h : p a = true
    · rw [if_pos h, if_pos h, List.map_cons, e3, ih]; rfl
    · rw [if_neg h, if_neg h, e3, ih]
theorem pick_map {α β : Type} (d : α) (p : α → Bool) (f : α → β) (l : List α) : ((List.range l.length).filter fun j => p (l.getD j d)).map (fun j => f (l.getD j d)) = (l.filter p).map f := by
  rw [← pick_filter d p l, List.map_map]; rfl
theorem causes_any {m : M} (wf : WF m) (l : List Nat) : (l.any fun d => (m.j d).failed) = decide (0 < (causesOf m l).length) := by
  cases h : (l.any fun d => (m.j d).failed) with
  | true =>
    have := causes_ne wf h
    rw [eq_comm, decide_eq_true_eq]
    exact List.length_pos_iff.mpr this
  | false =>
    rw [eq_comm, decide_eq_false_iff_not]
    have e : causesOf m l = [] := by
      unfold causesOf
      rw [List.filterMap_eq_nil_iff]
      intro d hd
      have := List.any_eq_false.mp h d hd
      rw [if_neg this]
    rw [e]; simp
end VM
end
section
namespace VM
open Vastog
theorem WF.happen {m : M} (wf : WF m) {e : Nat × Nat} (h : e ∈ evs m) : WF (happenM m e) ∧ (happenM m e).n = m.n := by
  obtain ⟨h1, h2, h3⟩ := mem_evs wf h
  have hlo := wf.loss e.2
  unfold happenM
  rcases h3 with ⟨e0, _⟩ | ⟨e0, ht, ha⟩ | ⟨e0, ha⟩
  · rw [if_pos e0]
    refine ⟨?_, M.upd_n⟩
    unfold J.ends
    cases hf : (m.j e.2).failing with
    | true =>
      rw [if_pos rfl]
      exact wf.upd h1 rfl rfl (fun h => absurd h (Nat.lt_irrefl 0)) (Nat.le_refl 3) (fun _ => ⟨e.2, rfl, h1⟩) (Nat.zero_le _) ⟨hlo.1, fun _ => rfl⟩
    | false =>
      rw [if_neg (by simp)]
      refine wf.upd h1 rfl rfl (fun h => absurd h (Nat.lt_irrefl 0)) (show 1 ≤ 3 by omega) (fun h => absurd h (by show ¬ 1 = 3; decide)) (Nat.zero_le _) ⟨hlo.1, fun h => ?_⟩
      have := hlo.2 h
      omega
  · rw [if_neg (by omega), if_pos e0]
    have hp := takes_pos wf e.2
    exact ⟨(wf.upd (x := (m.j e.2).starts (VM.takes m e.2)) h1 rfl rfl (fun _ => ⟨h2, ha⟩) (wf.out3 _) (wf.cause _) hp.2 hlo).starts_up _, M.upd_n⟩
  · rw [if_neg (by omega), if_neg (by omega)]
    have ht : (m.j e.2).taken = 0 := by
      have := wf.runA e.2
      rw [ha] at this
      have := mt this (by simp)
      omega
    have ho : (m.j e.2).asks.outcome = 0 ∨ (m.j e.2).asks.outcome = 2 := by rw [J.asks_o]; split <;> omega
    refine ⟨wf.upd h1 J.asks_c.2.2.2 J.asks_c.2.2.1 (fun h => ?_) (by omega) (fun h => by omega) (by rw [J.asks_r.2.1]; exact wf.tk8 _) ⟨by rw [J.asks_r.2.2.1]; exact hlo.1, fun h => ?_⟩, M.upd_n⟩
    · rw [J.asks_r.2.1] at h; omega
    · rw [J.asks_r.2.2.1] at h
      have := hlo.2 h
      omega
theorem WF.settle {m : M} (wf : WF m) : WF (settleM m) ∧ (settleM m).n = m.n := by
  have t := settleTo_till wf m.n (Nat.le_refl _)
  rw [settleTo_end] at t
  exact ⟨t.wf, t.n⟩
theorem WF.lost {m : M} (wf : WF m) {k : Nat} (h : (m.j k).running = true) : WF (m.upd k ((m.j k).loses k)) := by
  have hk : k < m.n := J0_of (p := J.running) rfl h
  have ht : 0 < (m.j k).taken := of_decide_eq_true h
  have h0 := wf.run0 k ht
  have hl := wf.loss k
  have hl3 : (m.j k).losses ≤ 2 := by
    have : (m.j k).losses ≠ 3 := fun e => by have := hl.2 e; omega
    omega
  unfold J.loses
  by_cases e : (m.j k).losses + 1 = 3
  · rw [if_pos e]
    exact wf.upd hk rfl rfl (fun h => absurd h (Nat.lt_irrefl 0)) (Nat.le_refl 3) (fun _ => ⟨k, rfl, hk⟩) (Nat.zero_le 8) ⟨by show (m.j k).losses + 1 ≤ 3; omega, fun _ => rfl⟩
  · rw [if_neg e]
    exact wf.upd hk rfl rfl (fun h => absurd h (Nat.lt_irrefl 0)) (wf.out3 k) (wf.cause k) (Nat.zero_le 8) ⟨by show (m.j k).losses + 1 ≤ 3; omega, fun h => absurd h e⟩
theorem settleOne_losses {w : List Bool} {m : M} {k i : Nat} : ((settleOne w m k).j i).losses = (m.j i).losses := by
  unfold settleOne
  split
  · exact losses_upd (x := (m.j k).fails _) (fun _ => rfl) i
  · rfl
theorem settle_losses (m : M) (i : Nat) : ((settleM m).j i).losses = (m.j i).losses := by
  rw [← settleTo_end]
  generalize m.n = t
  induction t with
  | zero => rfl
  | succ t ih => rw [settleTo_succ, settleOne_losses, ih]
theorem loses_losses (x : J) (k : Nat) : (x.loses k).losses = x.losses + 1 := by unfold J.loses; split <;> rfl
end VM
end
section
set_option Elab.async false
set_option linter.all false
set_option maxRecDepth 100000
namespace L2
open PySem PySem.Spec PyProof.Rows
section
variable {X : Cx}
noncomputable def SetO (w : World) (a : Addr) (ms : List Int) : HO := .ext fun h => SS.SetS w h a ms
theorem cr_set (hc : X.calm = true) : CallR X (.type "set") (fun vs H Q => ∃ (a : Addr) (ns : List Int), vs = [V.ref a] ∧ SqL X.K H a (ns.map V.int) ∧ ns.length + 1 < scanBound ∧ ∀ p, H p = none → Q (.ref p) (upd H p (SetO X.w p (SS.dd ns)))) := by
  intro pins s σ H vs us Q I r h
  obtain ⟨a, ns, rfl, hs, hb, q⟩ := h
  obtain ⟨its, rv, hl, _⟩ := I.list hs
  rw [Vals.ref1 r]
  refine SS.call_s (I.ok.hd hc) hl.isList rv.ints hb fun h' tk qs hk => ?_
  refine ⟨.ref _, upd H s.heap.objs.size (SetO X.w s.heap.objs.size (SS.dd ns)), I.laid hk (Nat.le_refl _) ⟨qs, ?_, fun h1 h2 z k => z.at_ k⟩, rfl, q _ (I.hok.fresh (Nat.le_refl _))⟩
  obtain ⟨o, _, _, _, ho, _⟩ := qs
  exact ⟨o, ho⟩
theorem Inv.drawnAs {pins : List (Addr × Obj)} {σ : St} {H : Hp} {s : Shared} (I : Inv X pins σ H s) (d : Drawn) : Inv X pins σ H { s with drawn := d } :=
  ⟨I.ok, I.os, I.bare, I.base, I.loc, I.cell, I.free, I.freeC, I.pin, I.hok, I.len⟩
theorem cr_sortedSet (hc : X.calm = true) : CallR X (.builtin "sorted") (fun vs H Q => ∃ (a : Addr) (ms : List Int), vs = [V.ref a] ∧ H a = some (SetO X.w a ms) ∧ ms.length ≤ sizeLine ∧
    ∀ (ns : List Int) (p : Addr) (ob : Obj), ns.Perm ms → ns.Pairwise (· ≤ ·) → H p = none → Q (.ref p) (upd H p (.frz ob (.lst (ns.map V.int))))) := by
  intro pins s σ H vs us Q I r h
  obtain ⟨a, ms, rfl, ha, hz, q⟩ := h
  rw [Vals.ref1 r]
  obtain ⟨qs, _, _⟩ := I.hok a _ ha
  refine SS.sorted_s qs (I.ok.hd hc) fun h' tk d' p out c ns hk hp hg hi hpm hpw => ?_
  have hlen : (ns.map V.int).length ≤ sizeLine := by rw [List.length_map, hpm.length_eq]; exact hz
  exact ⟨.ref p, upd H p (.frz _ (.lst (ns.map V.int))), (I.laid (o := .frz { cls := .type "list", data := .seq out.toArray c } (.lst (ns.map V.int))) (t' := tk) hk hp ⟨hg, hlen, out, c, vals_of_ints hi, hg⟩).drawnAs d', rfl, q ns p _ hpm hpw (I.hok.fresh hp)⟩
inductive UExtT (x : V) (vs : List V) (H : Hp) (Q : VK) : Prop
  | mk (l b : Addr) (xs zs : List V) (h1 : x = .ref l) (h2 : vs = [.ref b]) (h3 : H l = some (.lst xs)) (h4 : H b = some (.tup zs)) (h5 : xs.length + zs.length ≤ sizeLine) (q : Q .non (upd H l (.lst (xs ++ zs)))) : UExtT x vs H Q
noncomputable def rExtendT : V → List V → Hp → VK → Prop := fun x vs H Q => UExtT x vs H Q
theorem mt_extendT : MtM X "list.extend" rExtendT := by
  intro pins s σ H x vs v us Q I rx rv h
  obtain ⟨l, b, xs, zs, rfl, rfl, hH, hB, hz, q⟩ := h
  cases rx
  obtain ⟨u, rfl, ru⟩ := rv.one
  cases ru
  obtain ⟨z, its, n, r, hl, e⟩ := I.lstM hH
  obtain ⟨its2, r2, ⟨o2, e2, c2, n2, d2⟩, z2⟩ := I.tuple (a := b) (xs := zs) (.inl (.inl hB))
  have l2 := r2.length
  have hsz : its.toArray.size + its2.toArray.size ≤ sizeLine := by rw [List.size_toArray, List.size_toArray]; omega
  have hlong : ¬ (!its.toArray.isEmpty && Builtin.List.listTooLong (its.toArray.size + its2.toArray.size)) = true := by
    rw [notLongL hsz, Bool.and_false]
    exact Bool.false_ne_true
  refine wpAny_call_entry F.slot_list_extend ⟨_, e, rfl⟩ F.entry_list_extend ?_ (F.args_list_extend_2 _ _)
  refine wpAny_bind (wpAny_pure ?_)
  show wpAny _ _ (Builtin.List.listExtendWith (.ref l) (.ref b) .none) _ _ s
  unfold Builtin.List.listExtendWith
  refine wpAny_bind (wpAny_typeOf (T := "tuple") ⟨o2, e2, c2⟩ ?_)
  rw [if_pos (by
    have t1 : (Value.type "tuple" == Value.type "tuple") = true := by rfl
    rw [t1]; simp)]
  refine wpAny_bind (listItems_at e2 d2 (wpAny_bind (listItems_at e rfl ?_)))
  rw [if_neg hlong]
  refine wpAny_bind (listUpdate_at e rfl ?_ (by rw [List.size_toArray]; omega) (by rw [Array.size_append]; omega))
  refine wpAny_pure ⟨_, rfl, .non, _, I.lset (t' := s.toks) (its' := its ++ its2) hH e (by simp) (r.append r2) ?_, rfl, q⟩
  rw [List.length_append]
  omega
end
end L2
end
section
set_option Elab.async false
set_option linter.all false
set_option maxRecDepth 100000
namespace SH
open PySem PySem.Spec PyProof.Rows L2

noncomputable def cz : Option Nat → V
  | none => .non
  | some c => .int c
noncomputable def nz (l : List Nat) : List V := l.map fun (d : Nat) => V.int d
noncomputable def jf (k : Nat) (x : VM.J) (nl : Addr) : List (Str × V) :=
  [("number", .int k), ("cached", .bl x.cached), ("failing", .bl x.failing), ("weight", .int x.weight), ("needs", .ref nl), ("goal", .bl x.goal), ("answered", .bl x.answered), ("taken", .int x.taken), ("outcome", .int x.outcome), ("cause", cz x.cause), ("losses", .int x.losses)]
noncomputable def hf (jl : Addr) (m : VM.M) : List (Str × V) := [("jobs", .ref jl), ("workers", .int m.workers), ("keeps_going", .bl m.keep), ("starts", .int m.starts)]
theorem SqL.fz {K : PySem.W.Frag} {H : Hp} {a : Addr} {ob : Obj} {xs : List V} (h : H a = some (.frz ob (.lst xs))) : SqL K H a xs := .inl (.inr ⟨ob, h⟩)
inductive JobAt (CJ : Addr) (H : Hp) (a : Addr) (k : Nat) (x : VM.J) : Prop
  | mk (dx nl : Addr) (h1 : H a = some (.ins CJ dx (jf k x nl))) (ob : Obj) (h2 : H nl = some (.frz ob (.lst (nz x.needs)))) : JobAt CJ H a k x
structure HouseAt (CH CJ : Addr) (H : Hp) (hs jl : Addr) (ad : List Addr) (m : VM.M) : Prop where
  house : ∃ dh, H hs = some (.ins CH dh (hf jl m))
  lst : H jl = some (.lst (ad.map V.ref))
  nd : ad.Nodup
  len : ad.length = m.n
  job : ∀ k a, ad[k]? = some a → JobAt CJ H a k (m.j k)
theorem jf_hf {CJ CH dx dh nl jl : Addr} {k : Nat} {x : VM.J} {m : VM.M} : HO.ins CJ dx (jf k x nl) ≠ HO.ins CH dh (hf jl m) := by
  intro e
  injection e with _ _ e
  unfold jf hf at e
  injection e with e _
  injection e with e _
  exact absurd e (by decide +kernel)
structure Kp (CJ : Addr) (H H' : Hp) : Prop where
  keep : ∀ b o, H b = some o → (∀ dx fs, o ≠ .ins CJ dx fs) → H' b = some o
  live : ∀ b, H b ≠ none → H' b ≠ none
theorem same_some {H H' : Hp} (s : Same H H') : ∀ b, H b ≠ none → H' b ≠ none := fun b h => by
  cases e : H b with
  | none => exact absurd e h
  | some o => rw [s b o e]; simp
theorem Kp.refl {CJ : Addr} {H : Hp} : Kp CJ H H := ⟨fun _ _ e _ => e, fun _ h => h⟩
theorem Kp.trans {CJ : Addr} {H H1 H2 : Hp} (a : Kp CJ H H1) (b : Kp CJ H1 H2) : Kp CJ H H2 := ⟨fun c o e n => b.keep c o (a.keep c o e n) n, fun c h => b.live c (a.live c h)⟩
theorem Kp.of {CJ : Addr} {H H' : Hp} (s : Same H H') : Kp CJ H H' := ⟨fun b o e _ => s b o e, same_some s⟩
theorem Kp.lst {CJ : Addr} {H H' : Hp} {a : Addr} {xs : List V} (k : Kp CJ H H') (e : H a = some (.lst xs)) : H' a = some (.lst xs) := k.keep a _ e fun _ _ q => by cases q
theorem Kp.tup {CJ : Addr} {H H' : Hp} {a : Addr} {xs : List V} (k : Kp CJ H H') (e : H a = some (.tup xs)) : H' a = some (.tup xs) := k.keep a _ e fun _ _ q => by cases q
theorem Kp.sqL {CJ : Addr} {K : PySem.W.Frag} {H H' : Hp} {a : Addr} {xs : List V} (k : Kp CJ H H') (h : SqL K H a xs) : SqL K H' a xs := by
  rcases h with (h | ⟨o, h⟩) | h
  · exact .inl (.inl (k.lst h))
  · exact .inl (.inr ⟨o, k.keep _ _ h fun _ _ q => by cases q⟩)
  · exact .inr h
noncomputable def But (a : Addr) (H H' : Hp) : Prop := ∀ b o, H b = some o → b ≠ a → H' b = some o
theorem But.upd {a : Addr} {H : Hp} {o : HO} : But a H (upd H a o) := fun b u e n => by rw [upd_ne n]; exact e
theorem But.kp {CJ a dx : Addr} {H H' : Hp} {fs : List (Str × V)} (h : But a H H') (e : H a = some (.ins CJ dx fs)) (e' : H' a ≠ none) : Kp CJ H H' := ⟨fun b o q n => h b o q fun z => by
  subst z
  rw [e] at q
  exact n dx fs (Option.some.inj q).symm, fun b q => by
  by_cases z : b = a
  · rw [z]; exact e'
  · cases c : H b with
    | none => exact absurd c q
    | some o => rw [h b o c z]; simp⟩
theorem JobAt.same {CJ : Addr} {H H' : Hp} {a : Addr} {k : Nat} {x : VM.J} (h : JobAt CJ H a k x) (s : Same H H') : JobAt CJ H' a k x :=
  let ⟨dx, nl, h1, ob, h2⟩ := h; ⟨dx, nl, s _ _ h1, ob, s _ _ h2⟩
theorem HouseAt.same {CH CJ : Addr} {H H' : Hp} {hs jl : Addr} {ad : List Addr} {m : VM.M} (h : HouseAt CH CJ H hs jl ad m) (s : Same H H') : HouseAt CH CJ H' hs jl ad m :=
  ⟨let ⟨dh, e⟩ := h.house; ⟨dh, s _ _ e⟩, s _ _ h.lst, h.nd, h.len, fun k a e => (h.job k a e).same s⟩
theorem HouseAt.addr {CH CJ : Addr} {H : Hp} {hs jl : Addr} {ad : List Addr} {m : VM.M} (h : HouseAt CH CJ H hs jl ad m) {k : Nat} (hk : k < m.n) : ∃ a, ad[k]? = some a ∧ JobAt CJ H a k (m.j k) :=
  ⟨ad[k]'(by rw [h.len]; exact hk), List.getElem?_eq_getElem _, h.job k _ (List.getElem?_eq_getElem _)⟩
theorem HouseAt.lt {CH CJ : Addr} {H : Hp} {hs jl : Addr} {ad : List Addr} {m : VM.M} (h : HouseAt CH CJ H hs jl ad m) {k : Nat} {a : Addr} (e : ad[k]? = some a) : k < m.n := by
  rw [← h.len]; exact (List.getElem?_eq_some_iff.mp e).1
theorem HouseAt.step {CH CJ : Addr} {H H' : Hp} {hs jl : Addr} {ad : List Addr} {m : VM.M} (h : HouseAt CH CJ H hs jl ad m) {k : Nat} {a : Addr} {x : VM.J} (e : ad[k]? = some a) (hx : JobAt CJ H' a k x) (hb : But a H H') : HouseAt CH CJ H' hs jl ad (m.upd k x) := by
  obtain ⟨dx, nl, h1, ob, h2⟩ := h.job k a e
  obtain ⟨dh, h3⟩ := h.house
  have hk := h.lt e
  refine ⟨⟨dh, hb _ _ h3 (Ne.symm (ne_of h1 h3 jf_hf))⟩, hb _ _ h.lst (ne_of h.lst h1 (by intro q; cases q)), h.nd, by rw [VM.M.upd_n]; exact h.len, fun i b eb => ?_⟩
  by_cases q : i = k
  · subst q
    rw [e] at eb
    cases eb
    rw [VM.M.upd_same hk]
    exact hx
  · rw [VM.M.upd_ne q]
    obtain ⟨dy, ny, g1, ob2, g2⟩ := h.job i b eb
    exact ⟨dy, ny, hb _ _ g1 (fun z => q (nd_ix h.nd eb (by rw [z]; exact e))), ob2, hb _ _ g2 (ne_of g2 h1 (by intro q; cases q))⟩
theorem HouseAt.kp {CH CJ : Addr} {H H' : Hp} {hs jl : Addr} {ad : List Addr} {m : VM.M} (h : HouseAt CH CJ H hs jl ad m) {k : Nat} {a : Addr} (e : ad[k]? = some a) (hb : But a H H') {i : Nat} {x : VM.J} (hx : JobAt CJ H' a i x) : Kp CJ H H' :=
  let ⟨_, _, h1, _, _⟩ := h.job k a e
  hb.kp h1 (let ⟨_, _, h2, _, _⟩ := hx; by rw [h2]; simp)
theorem Same.upd {H : Hp} {a : Addr} {o : HO} (h : H a = none) : Same H (L2.upd H a o) := fun b u e => by rw [upd_ne (ne_of_none e h)]; exact e

theorem JobAt.use {CJ : Addr} {H : Hp} {a : Addr} {k : Nat} {x : VM.J} {P : Prop} (h : JobAt CJ H a k x) (f : ∀ dx nl ob, H a = some (.ins CJ dx (jf k x nl)) → H nl = some (.frz ob (.lst (nz x.needs))) → P) : P :=
  let ⟨dx, nl, h1, ob, h2⟩ := h; f dx nl ob h1 h2
theorem HouseAt.useH {CH CJ : Addr} {H : Hp} {hs jl : Addr} {ad : List Addr} {m : VM.M} {P : Prop} (h : HouseAt CH CJ H hs jl ad m) (f : ∀ dh, H hs = some (.ins CH dh (hf jl m)) → P) : P :=
  let ⟨dh, h1⟩ := h.house; f dh h1
theorem HouseAt.useA {CH CJ : Addr} {H : Hp} {hs jl : Addr} {ad : List Addr} {m : VM.M} {P : Prop} (h : HouseAt CH CJ H hs jl ad m) {k : Nat} (hk : k < m.n) (f : ∀ a, ad[k]? = some a → JobAt CJ H a k (m.j k) → P) : P :=
  let ⟨a, h1, h2⟩ := h.addr hk; f a h1 h2
theorem iteB {b : Bool} {P Q : Prop} (h1 : b = true → P) (h2 : b = false → Q) : if b = true then P else Q := by
  cases b with
  | true => exact h1 rfl
  | false => exact h2 rfl
theorem iteY {b : Bool} {P Q : Prop} (e : b = true) (h : P) : if b = true then P else Q := by subst e; exact h
theorem iteN {b : Bool} {P Q : Prop} (e : b = false) (h : Q) : if b = true then P else Q := by subst e; exact h
theorem jf_number (k : Nat) (x : VM.J) (nl : Addr) : (jf k x nl).lookup ("number" : Str) = some (.int k) := rfl
theorem jf_cached (k : Nat) (x : VM.J) (nl : Addr) : (jf k x nl).lookup ("cached" : Str) = some (.bl x.cached) := rfl
theorem jf_failing (k : Nat) (x : VM.J) (nl : Addr) : (jf k x nl).lookup ("failing" : Str) = some (.bl x.failing) := rfl
theorem jf_weight (k : Nat) (x : VM.J) (nl : Addr) : (jf k x nl).lookup ("weight" : Str) = some (.int x.weight) := rfl
theorem jf_needs (k : Nat) (x : VM.J) (nl : Addr) : (jf k x nl).lookup ("needs" : Str) = some (.ref nl) := rfl
theorem jf_goal (k : Nat) (x : VM.J) (nl : Addr) : (jf k x nl).lookup ("goal" : Str) = some (.bl x.goal) := rfl
theorem jf_answered (k : Nat) (x : VM.J) (nl : Addr) : (jf k x nl).lookup ("answered" : Str) = some (.bl x.answered) := rfl
theorem jf_taken (k : Nat) (x : VM.J) (nl : Addr) : (jf k x nl).lookup ("taken" : Str) = some (.int x.taken) := rfl
theorem jf_outcome (k : Nat) (x : VM.J) (nl : Addr) : (jf k x nl).lookup ("outcome" : Str) = some (.int x.outcome) := rfl
theorem jf_cause (k : Nat) (x : VM.J) (nl : Addr) : (jf k x nl).lookup ("cause" : Str) = some (cz x.cause) := rfl
theorem jf_losses (k : Nat) (x : VM.J) (nl : Addr) : (jf k x nl).lookup ("losses" : Str) = some (.int x.losses) := rfl
theorem hf_jobs (jl : Addr) (m : VM.M) : (hf jl m).lookup ("jobs" : Str) = some (.ref jl) := rfl
theorem hf_workers (jl : Addr) (m : VM.M) : (hf jl m).lookup ("workers" : Str) = some (.int m.workers) := rfl
theorem hf_keep (jl : Addr) (m : VM.M) : (hf jl m).lookup ("keeps_going" : Str) = some (.bl m.keep) := rfl
theorem jf_len (k : Nat) (x : VM.J) (nl : Addr) : (jf k x nl).length < 1000 := by show 11 < 1000; decide
theorem hf_starts (jl : Addr) (m : VM.M) : (hf jl m).lookup ("starts" : Str) = some (.int m.starts) := rfl
theorem hf_len (jl : Addr) (m : VM.M) : (hf jl m).length < 1000 := by show 4 < 1000; decide

noncomputable def top (i : Nat) : Stmt := PySem.Challenge.pw_scheduledhouse_s01_answers.main.body.getD i (.Pass ⟨0, 0, 0, 0⟩)
end SH
end
section
set_option Elab.async false
set_option linter.all false
set_option maxRecDepth 100000
set_option maxHeartbeats 2000000
namespace SH
open PySem PySem.Spec PyProof.Rows L2

noncomputable def Bod (P : Program) (w : World) (K : PySem.W.Frag) (mg : Str → Option Value) (base : Heap) (x : Str) (st : Stmt) (N : List Str) (f : Addr) (cdv : Value) (A : Around) (outer : List Env) (s : Shared) (H : Hp) (vs : List V) (Q : VK) (E : XK) : Prop :=
  ∃ t, PSs (cxOf CX0 P w K mg base N x (defScope st) f cdv A outer s H E).nox (defBody st) t ∧ t { nx := fun _ H' => Q .non H', rt := Q } (start N vs) H
theorem len_s {n : Nat} : ∀ {us : List Value}, us.length = n + 1 → ∃ a r, us = a :: r ∧ r.length = n
  | a :: r, h => ⟨a, r, rfl, Nat.succ.inj h⟩
theorem bind1 {F : List Value → Prop} (h : ∀ a, F [a]) (us : List Value) (e : us.length = 1) : F us := by
  obtain ⟨a, r, rfl, e1⟩ := len_s e
  rw [List.length_eq_zero_iff.mp e1]; exact h a
theorem bind2 {F : List Value → Prop} (h : ∀ a b, F [a, b]) (us : List Value) (e : us.length = 2) : F us := by
  obtain ⟨a, r, rfl, e1⟩ := len_s e
  exact bind1 (F := fun r => F (a :: r)) (h a) r e1
theorem bind3 {F : List Value → Prop} (h : ∀ a b c, F [a, b, c]) (us : List Value) (e : us.length = 3) : F us := by
  obtain ⟨a, r, rfl, e1⟩ := len_s e
  exact bind2 (F := fun r => F (a :: r)) (h a) r e1
theorem bind4 {F : List Value → Prop} (h : ∀ a b c d, F [a, b, c, d]) (us : List Value) (e : us.length = 4) : F us := by
  obtain ⟨a, r, rfl, e1⟩ := len_s e
  exact bind3 (F := fun r => F (a :: r)) (h a) r e1
theorem bind5 {F : List Value → Prop} (h : ∀ a b c d e, F [a, b, c, d, e]) (us : List Value) (e : us.length = 5) : F us := by
  obtain ⟨a, r, rfl, e1⟩ := len_s e
  exact bind4 (F := fun r => F (a :: r)) (h a) r e1
theorem bind6 {F : List Value → Prop} (h : ∀ a b c d e f, F [a, b, c, d, e, f]) (us : List Value) (e : us.length = 6) : F us := by
  obtain ⟨a, r, rfl, e1⟩ := len_s e
  exact bind5 (F := fun r => F (a :: r)) (h a) r e1
theorem sc_mk {N P : List Str} {sc : Scope} (h1 : sc.kind = .function) (h2 : sc.isCoroutine = false) (h3 : sc.isGenerator = false) (h4 : N.take P.length = P)
    (h : (decide N.Nodup && (decide (∀ x ∈ P, sc.names.lookup x = some .local ∨ sc.names.lookup x = some .cell) && decide (∀ y ∈ sc.names, y.2 ≠ .free))) = true) : FnScope N P sc := by
  rw [Bool.and_eq_true, Bool.and_eq_true] at h
  exact ⟨h1, h2, h3, of_decide_eq_true h.1, h4, of_decide_eq_true h.2.1, of_decide_eq_true h.2.2⟩
section
variable {X : Cx} {e : Expr} {f : Str} {pos pos' : Pos} {ta tb tv : TE} {a b o value : Expr}
theorem pe_fldK (K : PySem.W.Frag) (hK : X.K = K) (he : PE X e ta) (hb : attributeBase e f X.env (eval e X.env) = eval e X.env) : PE X (.Attribute e f pos) (tFld K ta f) := by
  subst hK; exact pe_fld he hb
theorem pe_ixK (K : PySem.W.Frag) (hK : X.K = K) (ha : PE X a ta) (hb : PE X b tb) (hs : PlainIx b) : PE X (.Subscript a b pos) (tOp (rIxL K) ta tb) := by
  subst hK; exact pe_ix ix_list ha hb hs
theorem pe_ixTK (K : PySem.W.Frag) (hK : X.K = K) (ha : PE X a ta) (hb : PE X b tb) (hs : PlainIx b) : PE X (.Subscript a b pos) (tOp (rIxT K) ta tb) := by
  subst hK; exact pe_ix ix_tup ha hb hs
theorem pi_listK (K : PySem.W.Frag) (hK : X.K = K) {tg l : Expr} {tl : TE} (hl : PE X l tl) : PI X tg l (iList K tl) := by
  subst hK; exact pi_list hl
theorem ps_fldK (K : PySem.W.Frag) (hK : X.K = K) (ha : PE X o ta) (hv : PE X value tv) (hs : swapsWith value (some (.Attribute o f pos')) pos.line X.env = pure false) : PS X (.Assign [.Attribute o f pos'] value pos) (sFld K ta tv f) := by
  subst hK; exact ps_fld ha hv hs
theorem call_lenK (K : PySem.W.Frag) (hK : X.K = K) : CallR X (.builtin "len") (fun xs H Q => ULen K xs H Q) := by
  subst hK; exact call_len_seq
theorem cr_allK (K : PySem.W.Frag) (hK : X.K = K) (hc : X.calm = true) : CallR X (.builtin "all") (rAll K) := by
  subst hK; exact cr_all hc
theorem cr_anyK (K : PySem.W.Frag) (hK : X.K = K) (hc : X.calm = true) : CallR X (.builtin "any") (rAny K) := by
  subst hK; exact cr_any hc
theorem cr_sumK (K : PySem.W.Frag) (hK : X.K = K) (hc : X.calm = true) : CallR X (.builtin "sum") (rSum K) := by
  subst hK; exact cr_sum hc
theorem cr_minK (K : PySem.W.Frag) (hK : X.K = K) (hc : X.calm = true) : CallR X (.builtin "min") (rMin K) := by
  subst hK; exact cr_min hc
theorem sl_listK (K : PySem.W.Frag) (hK : X.K = K) : SlR X (rSlL K) := by
  subst hK; exact sl_list
theorem pe_bmK (K : PySem.W.Frag) (hK : X.K = K) {es : List Expr} {to : TE} {t : TA} {name : Str} {apos cpos : Pos} {T id : String} {r : V → List V → Hp → VK → Prop} (pa : PlainAttrs T) (slot : Slot T name id) (hty : typeOf (.builtin id) = pure (.type "method_descriptor")) (hm : MtR X id r) (ho : PE X o to) (ha : PA X (e :: es) t)
    (hbase : attributeBase o name X.env (eval o X.env) = eval o X.env := by rfl)
    (hfew : ((backTo cpos (starEach (e :: es) X.env)).all (fun x => !x.1) && (backToKw cpos (keywordEach [] X.env)).all (fun x => x.1.isSome)
      && decide ((e :: es).length + ([] : List Keyword).length + (if ([] : List Keyword).isEmpty then 0 else 1) < 30)) = true := by rfl)
    (hline : (apos.endLine == cpos.line) = true := by rfl) (hs : starEach (e :: es) X.env = (false, eval e X.env) :: starEach es X.env := by rfl) (hplain : (backTo cpos (starEach es X.env)).any (·.1) = false := by rfl) :
    PE X (.Call (.Attribute o name apos) (e :: es) [] cpos) (tBM K T r to t) := by
  subst hK; exact pe_bm pa slot hty hm ho ha hbase hfew hline hs hplain
end
noncomputable def DefIn (K : PySem.W.Frag) (mg : Str → Option Value) (x : Str) (st : Stmt) : Prop := ∃ f fd, Fun K x x st f fd ∧ mg x = some (.ref f)
noncomputable def Cal (P : Program) (w : World) (K : PySem.W.Frag) (mg : Str → Option Value) (base : Heap) (k : Nat) (x : Str) (ps : List Str) (sp : Sp) : Prop :=
  ∃ f fd, FnOk P w K mg base CX0 k f fd ps sp ∧ mg x = some (.ref f) ∧ PySem.W.keepIn K (.ref f) = true ∧ Binds K fd ps []
noncomputable def BindsOf (x : Str) (st : Stmt) (ps : List Str) : Prop := ∀ (kV doc pm : Value) (an : Option Addr) (cdv ct : Value) (us : List Value), us.length = ps.length → bindArgs (PySem.W.fnOf x x (defArgs st) (defBody st) (defScope st) .none kV doc pm an cdv ct) ⟨us, []⟩ = pure (ps.zip us)
section
variable {P : Program} {w : World} {K : PySem.W.Frag} {mg : Str → Option Value} {base : Heap}
theorem Cal.mono {j k : Nat} {x : Str} {ps : List Str} {sp : Sp} (c : Cal P w K mg base j x ps sp) (h : j ≤ k) : Cal P w K mg base k x ps sp := let ⟨f, fd, a, b⟩ := c; ⟨f, fd, a.mono h, b⟩
theorem Bod.mk {x : Str} {st : Stmt} {N : List Str} {f : Addr} {cdv : Value} {A : Around} {outer : List Env} {s : Shared} {H : Hp} {vs : List V} {Q : VK} {E : XK} {t : TS} (h : PSs (cxOf CX0 P w K mg base N x (defScope st) f cdv A outer s H E).nox (defBody st) t)
    (q : t { nx := fun _ H' => Q .non H', rt := Q } (start N vs) H) : Bod P w K mg base x st N f cdv A outer s H vs Q E := ⟨t, h, q⟩
theorem def_cal {x : Str} {st : Stmt} {N ps : List Str} {k : Nat} {sp : Sp} (D : DefIn K mg x st) (S : FnScope N ps (defScope st)) (hb : BindsOf x st ps) (len : ∀ vs H Q E, sp vs H Q E → vs.length = ps.length)
    (hbody : ∀ (f : Addr) (cdv : Value) (A : Around) (outer : List Env) (s : Shared) (H : Hp) (vs : List V) (Q : VK) (E : XK), Room k (A.deeper (envOfC x (defScope st) s.heap.objs.size f cdv)) → sp vs H Q E → Bod P w K mg base x st N f cdv A outer s H vs Q E) : Cal P w K mg base (k + 1) x ps sp :=
  let ⟨f, fd, F, hm⟩ := D
  ⟨f, fd, F.ok S len (hbody f), hm, F.kp, F.binds hb⟩
end
section
variable {X : Cx} {k : Nat} {x : Str} {ps : List Str} {sp : Sp} {e : Expr} {es : List Expr} {t : TA} {p pos : Pos}
theorem pe_cal (C : Cal X.prog X.w X.K X.mg X.base k x ps sp) (hr : Room k X.A) (hg : Gl X x) (ha : PA X (e :: es) t) (hdb : (x == ("__debug__" : Str)) = false := by decide) (he : starEach (e :: es) X.env = (false, eval e X.env) :: starEach es X.env := by rfl) (hpl : (backTo pos (starEach es X.env)).any (·.1) = false := by rfl) :
    PE X (.Call (.Name x p) (e :: es) [] pos) (tCall sp [] E0 t) :=
  let ⟨_, _, F, hm, hk, hb⟩ := C
  pe_call F hr hg hm hk hb .nil pass0 ha hdb he hpl
noncomputable def GI (mg : Str → Option Value) (x : Str) (i : Int) : Prop := ∃ u, mg x = some (Value.int i u)
theorem pe_gi {i : Int} (h : GI X.mg x i) (hg : Gl X x) (hd : (x == ("__debug__" : Str)) = false := by decide) : PE X (.Name x pos) (tC (.int i)) :=
  let ⟨u, e⟩ := h
  pe_glob hg e ⟨u, rfl⟩ hd
end
structure Txt (K : PySem.W.Frag) (mg : Str → Option Value) (CH CJ : Addr) : Prop where
  clJ : Cls K CJ
  clH : Cls K CH
  aJ : ∀ f ∈ (["number", "cached", "failing", "weight", "needs", "goal", "answered", "taken", "outcome", "cause", "losses"] : List Str), NoAttr K CJ f
  aH : ∀ f ∈ (["jobs", "workers", "keeps_going", "starts"] : List Str), NoAttr K CH f
  gUNENDED : GI mg "UNENDED" 0
  gBUILT : GI mg "BUILT" 1
  gFETCHED : GI mg "FETCHED" 2
  gFAILED : GI mg "FAILED" 3
  gEND : GI mg "END" 0
  gSTART : GI mg "START" 1
  gANSWER : GI mg "ANSWER" 2
  gML : GI mg "MOST_LOSSES" 3
  no : ∀ f ∈ (["len", "all", "any", "sum", "min", "max", "sorted", "set", "reversed"] : List Str), mg f = none

section
variable {P : Program} {w : World} {K : PySem.W.Frag} {mg : Str → Option Value} {base : Heap} {CH CJ : Addr}
inductive LookIs (CJ : Addr) (f : VM.J → Bool) (vs : List V) (H : Hp) (b : Bool) : Prop
  | mk (a : Addr) (k : Nat) (x : VM.J) (h1 : vs = [.ref a]) (h2 : JobAt CJ H a k x) (h3 : b = f x) : LookIs CJ f vs H b
inductive ULook (CJ : Addr) (f : VM.J → Bool) (vs : List V) (H : Hp) (Q : VK) : Prop
  | mk (b : Bool) (h0 : LookIs CJ f vs H b) (h1 : Q (.bl b) H) : ULook CJ f vs H Q
noncomputable def spLook (CJ : Addr) (f : VM.J → Bool) : Sp := fun vs H Q _ => ULook CJ f vs H Q
noncomputable abbrev sThere : Stmt := top 7
noncomputable abbrev sFailed : Stmt := top 8
noncomputable abbrev sEnded : Stmt := top 9
noncomputable abbrev sRunning : Stmt := top 10
theorem scThere : FnScope ["job"] ["job"] (defScope sThere) := sc_mk rfl rfl rfl rfl (by decide +kernel)
theorem scFailed : FnScope ["job"] ["job"] (defScope sFailed) := sc_mk rfl rfl rfl rfl (by decide +kernel)
theorem scEnded : FnScope ["job"] ["job"] (defScope sEnded) := sc_mk rfl rfl rfl rfl (by decide +kernel)
theorem scRunning : FnScope ["job"] ["job"] (defScope sRunning) := sc_mk rfl rfl rfl rfl (by decide +kernel)
theorem dec_nat {a b : Nat} : decide (V.int (a : Int) = V.int (b : Int)) = (a == b) := by
  rw [Bool.eq_iff_iff, decide_eq_true_eq, beq_iff_eq]
  constructor
  · intro h; injection h with h; omega
  · intro h; rw [h]
theorem c_failed (T : Txt K mg CH CJ) (D : DefIn K mg "is_failed" sFailed) : Cal P w K mg base 1 "is_failed" ["job"] (spLook CJ VM.J.failed) := by
  refine def_cal D scFailed (fun _ _ _ _ _ _ => bind1 fun _ => rfl) (fun vs H Q E h => ?_) (fun f cdv A outer s H vs Q E hr h => ?_)
  · obtain ⟨_, ⟨a, k, x, rfl, _⟩, _⟩ := h; rfl
  · obtain ⟨_, ⟨a, k, x, rfl, ⟨dx, nl, h1, ob, h2⟩, rfl⟩, q⟩ := h
    refine Bod.mk (pss_one (ps_ret (pe_cmpR op_eq (pe_fldK K rfl (pv 0) rfl) (pe_gi T.gFAILED rfl) (nomark _)))) ?_
    refine ⟨_, rfl, _, ⟨a, CJ, dx, _, rfl, h1, T.clJ, T.aJ _ (by decide +kernel), jf_outcome k x nl⟩, rfl, ?_⟩
    exact (congrArg (fun b => Q (.bl b) H) (dec_nat (a := x.outcome) (b := 3))).mpr q
theorem c_ended (T : Txt K mg CH CJ) (D : DefIn K mg "is_ended" sEnded) : Cal P w K mg base 1 "is_ended" ["job"] (spLook CJ VM.J.ended) := by
  refine def_cal D scEnded (fun _ _ _ _ _ _ => bind1 fun _ => rfl) (fun vs H Q E h => ?_) (fun f cdv A outer s H vs Q E hr h => ?_)
  · obtain ⟨_, ⟨a, k, x, rfl, _⟩, _⟩ := h; rfl
  · obtain ⟨_, ⟨a, k, x, rfl, ⟨dx, nl, h1, ob, h2⟩, rfl⟩, q⟩ := h
    refine Bod.mk (pss_one (ps_ret (pe_cmpR op_ne (pe_fldK K rfl (pv 0) rfl) (pe_gi T.gUNENDED rfl) (nomark _)))) ?_
    refine ⟨_, rfl, _, ⟨a, CJ, dx, _, rfl, h1, T.clJ, T.aJ _ (by decide +kernel), jf_outcome k x nl⟩, rfl, ?_⟩
    exact (congrArg (fun b => Q (.bl (!b)) H) (dec_nat (a := x.outcome) (b := 0))).mpr q
theorem c_running (T : Txt K mg CH CJ) (D : DefIn K mg "is_running" sRunning) : Cal P w K mg base 1 "is_running" ["job"] (spLook CJ VM.J.running) := by
  refine def_cal D scRunning (fun _ _ _ _ _ _ => bind1 fun _ => rfl) (fun vs H Q E h => ?_) (fun f cdv A outer s H vs Q E hr h => ?_)
  · obtain ⟨_, ⟨a, k, x, rfl, _⟩, _⟩ := h; rfl
  · obtain ⟨_, ⟨a, k, x, rfl, ⟨dx, nl, h1, ob, h2⟩, rfl⟩, q⟩ := h
    refine Bod.mk (pss_one (ps_ret (pe_cmpR op_gt (pe_fldK K rfl (pv 0) rfl) pe_int (nomark _)))) ?_
    refine ⟨_, rfl, _, ⟨a, CJ, dx, _, rfl, h1, T.clJ, T.aJ _ (by decide +kernel), jf_taken k x nl⟩, _, _, rfl, rfl, ?_⟩
    have e : decide ((0 : Int) < (x.taken : Int)) = x.running := by unfold VM.J.running; rw [Bool.eq_iff_iff]; simp
    exact (congrArg (fun b => Q (.bl b) H) e).mpr q
theorem c_there (T : Txt K mg CH CJ) (D : DefIn K mg "is_there" sThere) : Cal P w K mg base 1 "is_there" ["job"] (spLook CJ VM.J.there) := by
  refine def_cal D scThere (fun _ _ _ _ _ _ => bind1 fun _ => rfl) (fun vs H Q E h => ?_) (fun f cdv A outer s H vs Q E hr h => ?_)
  · obtain ⟨_, ⟨a, k, x, rfl, _⟩, _⟩ := h; rfl
  · obtain ⟨_, ⟨a, k, x, rfl, ⟨dx, nl, h1, ob, h2⟩, rfl⟩, q⟩ := h
    refine Bod.mk (pss_one (ps_ret (pe_or (pe_cmpR op_eq (pe_fldK K rfl (pv 0) rfl) (pe_gi T.gBUILT rfl) (nomark _)) (pe_one (pe_cmpR op_eq (pe_fldK K rfl (pv 0) rfl) (pe_gi T.gFETCHED rfl) (nomark _)))))) ?_
    refine ⟨_, rfl, _, ⟨a, CJ, dx, _, rfl, h1, T.clJ, T.aJ _ (by decide +kernel), jf_outcome k x nl⟩, rfl, _, rfl, ?_⟩
    have e1 : decide (V.int (x.outcome : Int) = V.int 1) = (x.outcome == 1) := dec_nat (b := 1)
    have e2 : decide (V.int (x.outcome : Int) = V.int 2) = (x.outcome == 2) := dec_nat (b := 2)
    rw [e1]
    unfold VM.J.there at q
    cases hc : (x.outcome == 1) with
    | true => rw [hc] at q; exact iteT q
    | false =>
      rw [hc] at q
      refine iteF ⟨_, rfl, _, ⟨a, CJ, dx, _, rfl, h1, T.clJ, T.aJ _ (by decide +kernel), jf_outcome k x nl⟩, rfl, ?_⟩
      exact (congrArg (fun b => Q (.bl b) H) e2).mpr q
end
end SH
end
section
set_option Elab.async false
set_option linter.all false
set_option maxRecDepth 100000
set_option maxHeartbeats 2000000
namespace SH
open PySem PySem.Spec PyProof.Rows L2
section
variable {P : Program} {w : World} {K : PySem.W.Frag} {mg : Str → Option Value} {base : Heap} {CH CJ : Addr}
inductive UTurn (CJ : Addr) (more : List V) (f : Nat → VM.J → VM.J) (vs : List V) (H : Hp) (Q : VK) : Prop
  | mk (a : Addr) (k : Nat) (x : VM.J) (h0 : vs = .ref a :: more) (h1 : JobAt CJ H a k x) (h2 : ∀ H', JobAt CJ H' a k (f k x) → But a H H' → Q .non H') : UTurn CJ more f vs H Q
noncomputable def spTurn (CJ : Addr) (more : List V) (f : Nat → VM.J → VM.J) : List V → Hp → VK → Prop := fun vs H Q => UTurn CJ more f vs H Q
noncomputable def spFail (CJ : Addr) : Sp := fun vs H Q _ => ∃ c : Nat, spTurn CJ [.int c] (fun _ x => x.fails c) vs H Q
noncomputable def spUnfail (CJ : Addr) : Sp := fun vs H Q _ => spTurn CJ [] (fun _ x => x.unfail) vs H Q
noncomputable abbrev sFail : Stmt := top 11
noncomputable abbrev sUnfail : Stmt := top 12
theorem scFail : FnScope ["job", "cause"] ["job", "cause"] (defScope sFail) := sc_mk rfl rfl rfl rfl (by decide +kernel)
theorem scUnfail : FnScope ["job"] ["job"] (defScope sUnfail) := sc_mk rfl rfl rfl rfl (by decide +kernel)
theorem put_outcome (k : Nat) (x : VM.J) (nl : Addr) (t : Nat) : putF "outcome" (.int (t : Int)) (jf k x nl) = jf k { x with outcome := t } nl := rfl
theorem put_cause (k : Nat) (x : VM.J) (nl : Addr) (c : Option Nat) : putF "cause" (cz c) (jf k x nl) = jf k { x with cause := c } nl := rfl
theorem put_losses (k : Nat) (x : VM.J) (nl : Addr) (t : Nat) : putF "losses" (.int (t : Int)) (jf k x nl) = jf k { x with losses := t } nl := rfl
theorem put_taken (k : Nat) (x : VM.J) (nl : Addr) (t : Nat) : putF "taken" (.int (t : Int)) (jf k x nl) = jf k { x with taken := t } nl := rfl
theorem put_goal (k : Nat) (x : VM.J) (nl : Addr) (b : Bool) : putF "goal" (.bl b) (jf k x nl) = jf k { x with goal := b } nl := rfl
theorem put_answered (k : Nat) (x : VM.J) (nl : Addr) (b : Bool) : putF "answered" (.bl b) (jf k x nl) = jf k { x with answered := b } nl := rfl
theorem put_failing (k : Nat) (x : VM.J) (nl : Addr) (b : Bool) : putF "failing" (.bl b) (jf k x nl) = jf k { x with failing := b } nl := rfl
theorem But.trans {a : Addr} {H H1 H2 : Hp} (p : But a H H1) (q : But a H1 H2) : But a H H2 := fun b o e n => q b o (p b o e n) n
theorem jobAt_upd {H : Hp} {a dx nl : Addr} {ob : Obj} {k : Nat} {x y : VM.J} (h1 : H a = some (.ins CJ dx (jf k x nl))) (h2 : H nl = some (.frz ob (.lst (nz x.needs)))) (e : y.needs = x.needs) : JobAt CJ (upd H a (.ins CJ dx (jf k y nl))) a k y :=
  ⟨dx, nl, upd_same, ob, by rw [upd_ne (ne_of h2 h1 (by intro q; cases q)), e]; exact h2⟩
theorem c_fail (T : Txt K mg CH CJ) (D : DefIn K mg "fail" sFail) : Cal P w K mg base 1 "fail" ["job", "cause"] (spFail CJ) := by
  refine def_cal D scFail (fun _ _ _ _ _ _ => bind2 fun _ _ => rfl) (fun vs H Q E h => ?_) (fun f cdv A outer s H vs Q E hr h => ?_)
  · obtain ⟨c, a, k, x, rfl, _⟩ := h; rfl
  · obtain ⟨c, a, k, x, rfl, ⟨dx, nl, h1, ob, h2⟩, q⟩ := h
    refine Bod.mk (pss_cons (ps_fldK K rfl (pv 0) (pe_gi T.gFAILED rfl) rfl) (pss_one (ps_fldK K rfl (pv 0) (pv 1) rfl))) ?_
    refine ⟨_, rfl, _, ⟨a, CJ, dx, _, rfl, h1, T.clJ, T.aJ _ (by decide +kernel), jf_len _ _ _, rfl⟩, ?_⟩
    refine ⟨_, rfl, _, rfl, _, ⟨a, CJ, dx, _, rfl, upd_same, T.clJ, T.aJ _ (by decide +kernel), jf_len k { x with outcome := 3 } nl, rfl⟩, ?_⟩
    exact q _ (jobAt_upd (y := x.fails c) (k := k) (x := { x with outcome := 3 }) (nl := nl) upd_same (by rw [upd_ne (ne_of h2 h1 (by intro q; cases q))]; exact h2) rfl) (But.upd.trans But.upd)
theorem c_unfail (T : Txt K mg CH CJ) (D : DefIn K mg "unfail" sUnfail) (cF : Cal P w K mg base 1 "is_failed" ["job"] (spLook CJ VM.J.failed)) : Cal P w K mg base 2 "unfail" ["job"] (spUnfail CJ) := by
  refine def_cal D scUnfail (fun _ _ _ _ _ _ => bind1 fun _ => rfl) (fun vs H Q E h => ?_) (fun f cdv A outer s H vs Q E hr h => ?_)
  · obtain ⟨a, k, x, rfl, _⟩ := h; rfl
  · obtain ⟨a, k, x, rfl, ⟨dx, nl, h1, ob, h2⟩, q⟩ := h
    refine Bod.mk (pss_cons (ps_if (pt_val (pe_cal cF hr rfl (pa_cons (pv 0) pa_nil))) (pss_cons (ps_fldK K rfl (pv 0) (pe_gi T.gUNENDED rfl) rfl) (pss_one (ps_fldK K rfl (pv 0) pe_non rfl))) pss_nil) (pss_one (ps_fldK K rfl (pv 0) pe_int rfl))) ?_
    refine ⟨_, rfl, _, ⟨a, k, x, rfl, ⟨dx, nl, h1, ob, h2⟩, rfl⟩, _, rfl, ?_⟩
    have q : ∀ H', JobAt CJ H' a k x.unfail → But a H H' → Q .non H' := q
    cases hf : x.failed with
    | true =>
      have e : x.unfail = { x with outcome := 0, cause := none, losses := 0 } := by unfold VM.J.unfail; rw [hf]; rfl
      rw [e] at q
      refine iteT ⟨_, rfl, _, ⟨a, CJ, dx, _, rfl, h1, T.clJ, T.aJ _ (by decide +kernel), jf_len _ _ _, rfl⟩, ?_⟩
      refine ⟨_, rfl, _, ⟨a, CJ, dx, _, rfl, upd_same, T.clJ, T.aJ _ (by decide +kernel), jf_len k { x with outcome := 0 } nl, rfl⟩, ?_⟩
      refine ⟨_, rfl, _, ⟨a, CJ, dx, _, rfl, upd_same, T.clJ, T.aJ _ (by decide +kernel), jf_len k { x with outcome := 0, cause := none } nl, rfl⟩, ?_⟩
      have hn : nl ≠ a := ne_of h2 h1 (by intro q; cases q)
      refine q _ ⟨dx, nl, upd_same, ob, ?_⟩ ((But.upd.trans But.upd).trans But.upd)
      rw [upd_ne hn, upd_ne hn, upd_ne hn]
      exact h2
    | false =>
      have e : x.unfail = { x with losses := 0 } := by unfold VM.J.unfail; rw [hf]; rfl
      rw [e] at q
      refine iteF ⟨_, rfl, _, ⟨a, CJ, dx, _, rfl, h1, T.clJ, T.aJ _ (by decide +kernel), jf_len _ _ _, rfl⟩, ?_⟩
      exact q _ (jobAt_upd (y := { x with losses := 0 }) h1 h2 rfl) But.upd
noncomputable abbrev sInitJ : Stmt := inClass (top 5) 0
noncomputable abbrev sInitH : Stmt := inClass (top 6) 0
inductive UInitJ (CJ : Addr) (vs : List V) (H : Hp) (Q : VK) : Prop
  | mk (p dx nl : Addr) (k wt : Nat) (c f : Bool) (h0 : vs = [.ref p, .int k, .bl c, .bl f, .int wt, .ref nl]) (h1 : H p = some (.ins CJ dx [])) (h2 : ∀ (l : List Nat) H', H' p = some (.ins CJ dx (jf k (VM.newJ c f wt l) nl)) → But p H H' → Q .non H') : UInitJ CJ vs H Q
noncomputable def spInitJ (CJ : Addr) : Sp := fun vs H Q _ => UInitJ CJ vs H Q
inductive UInitH (CH : Addr) (vs : List V) (H : Hp) (Q : VK) : Prop
  | mk (p dx : Addr) (h0 : vs = [.ref p]) (h1 : H p = some (.ins CH dx [])) (h2 : ∀ H' jl, H jl = none → H' p = some (.ins CH dx (hf jl VM.M.start)) → H' jl = some (.lst []) → But p H H' → Q .non H') : UInitH CH vs H Q
noncomputable def spInitH (CH : Addr) : Sp := fun vs H Q _ => UInitH CH vs H Q
theorem scInitJ : FnScope ["self", "number", "cached", "failing", "weight", "needs"] ["self", "number", "cached", "failing", "weight", "needs"] (defScope sInitJ) := sc_mk rfl rfl rfl rfl (by decide +kernel)
theorem scInitH : FnScope ["self"] ["self"] (defScope sInitH) := sc_mk rfl rfl rfl rfl (by decide +kernel)
theorem ok_initJ {f : Addr} {fd : FuncData} (F : Fun K "__init__" "Job.__init__" sInitJ f fd) (T : Txt K mg CH CJ) : FnOk P w K mg base CX0 1 f fd ["self", "number", "cached", "failing", "weight", "needs"] (spInitJ CJ) := by
  refine F.ok scInitJ (fun vs H Q E h => ?_) (fun cdv A outer s H vs Q E hr h => ?_)
  · obtain ⟨p, dx, nl, k, wt, c, f, rfl, _⟩ := h; rfl
  · obtain ⟨p, dx, nl, k, wt, c, f, rfl, hp, q⟩ := h
    have nn : ∀ f, f ∈ (["number", "cached", "failing", "weight", "needs", "goal", "answered", "taken", "outcome", "cause", "losses"] : List Str) → NoAttr K CJ f := T.aJ
    refine Bod.mk (pss_cons (ps_fldK K rfl (pv 0) (pv 1) rfl) (pss_cons (ps_fldK K rfl (pv 0) (pv 2) rfl) (pss_cons (ps_fldK K rfl (pv 0) (pv 3) rfl) (pss_cons (ps_fldK K rfl (pv 0) (pv 4) rfl) (pss_cons (ps_fldK K rfl (pv 0) (pv 5) rfl)
      (pss_cons (ps_fldK K rfl (pv 0) pe_bl rfl) (pss_cons (ps_fldK K rfl (pv 0) pe_bl rfl) (pss_cons (ps_fldK K rfl (pv 0) pe_int rfl) (pss_cons (ps_fldK K rfl (pv 0) (pe_gi T.gUNENDED rfl) rfl) (pss_cons (ps_fldK K rfl (pv 0) pe_non rfl) (pss_one (ps_fldK K rfl (pv 0) pe_int rfl)))))))))))) ?_
    refine ⟨_, rfl, _, rfl, _, ⟨p, CJ, dx, _, rfl, hp, T.clJ, nn _ (by decide +kernel), (by show 0 < 1000; decide), rfl⟩, ?_⟩
    refine ⟨_, rfl, _, rfl, _, ⟨p, CJ, dx, _, rfl, upd_same, T.clJ, nn _ (by decide +kernel), (by show 1 < 1000; decide), rfl⟩, ?_⟩
    refine ⟨_, rfl, _, rfl, _, ⟨p, CJ, dx, _, rfl, upd_same, T.clJ, nn _ (by decide +kernel), (by show 2 < 1000; decide), rfl⟩, ?_⟩
    refine ⟨_, rfl, _, rfl, _, ⟨p, CJ, dx, _, rfl, upd_same, T.clJ, nn _ (by decide +kernel), (by show 3 < 1000; decide), rfl⟩, ?_⟩
    refine ⟨_, rfl, _, rfl, _, ⟨p, CJ, dx, _, rfl, upd_same, T.clJ, nn _ (by decide +kernel), (by show 4 < 1000; decide), rfl⟩, ?_⟩
    refine ⟨_, rfl, _, ⟨p, CJ, dx, _, rfl, upd_same, T.clJ, nn _ (by decide +kernel), (by show 5 < 1000; decide), rfl⟩, ?_⟩
    refine ⟨_, rfl, _, ⟨p, CJ, dx, _, rfl, upd_same, T.clJ, nn _ (by decide +kernel), (by show 6 < 1000; decide), rfl⟩, ?_⟩
    refine ⟨_, rfl, _, ⟨p, CJ, dx, _, rfl, upd_same, T.clJ, nn _ (by decide +kernel), (by show 7 < 1000; decide), rfl⟩, ?_⟩
    refine ⟨_, rfl, _, ⟨p, CJ, dx, _, rfl, upd_same, T.clJ, nn _ (by decide +kernel), (by show 8 < 1000; decide), rfl⟩, ?_⟩
    refine ⟨_, rfl, _, ⟨p, CJ, dx, _, rfl, upd_same, T.clJ, nn _ (by decide +kernel), (by show 9 < 1000; decide), rfl⟩, ?_⟩
    refine ⟨_, rfl, _, ⟨p, CJ, dx, _, rfl, upd_same, T.clJ, nn _ (by decide +kernel), (by show 10 < 1000; decide), rfl⟩, ?_⟩
    exact q [] _ upd_same fun b o e n => by
      rw [upd_ne n, upd_ne n, upd_ne n, upd_ne n, upd_ne n, upd_ne n, upd_ne n, upd_ne n, upd_ne n, upd_ne n, upd_ne n]; exact e
theorem ok_initH {f : Addr} {fd : FuncData} (F : Fun K "__init__" "House.__init__" sInitH f fd) (T : Txt K mg CH CJ) : FnOk P w K mg base CX0 1 f fd ["self"] (spInitH CH) := by
  refine F.ok scInitH (fun vs H Q E h => ?_) (fun cdv A outer s H vs Q E hr h => ?_)
  · obtain ⟨p, dx, rfl, _⟩ := h; rfl
  · obtain ⟨p, dx, rfl, hp, q⟩ := h
    refine Bod.mk (pss_cons (ps_fldK K rfl (pv 0) (pe_lst pa_nil) rfl) (pss_cons (ps_fldK K rfl (pv 0) pe_int rfl) (pss_cons (ps_fldK K rfl (pv 0) pe_bl rfl) (pss_one (ps_fldK K rfl (pv 0) pe_int rfl))))) ?_
    refine ⟨Nat.zero_le _, fun jl hj => ?_⟩
    have npj : p ≠ jl := ne_of_none hp hj
    refine ⟨_, rfl, _, ⟨p, CH, dx, _, rfl, (by rw [upd_ne npj]; exact hp), T.clH, T.aH _ (by decide +kernel), (by show 0 < 1000; decide), rfl⟩, ?_⟩
    refine ⟨_, rfl, _, ⟨p, CH, dx, _, rfl, upd_same, T.clH, T.aH _ (by decide +kernel), (by show 1 < 1000; decide), rfl⟩, ?_⟩
    refine ⟨_, rfl, _, ⟨p, CH, dx, _, rfl, upd_same, T.clH, T.aH _ (by decide +kernel), (by show 2 < 1000; decide), rfl⟩, ?_⟩
    refine ⟨_, rfl, _, ⟨p, CH, dx, _, rfl, upd_same, T.clH, T.aH _ (by decide +kernel), (by show 3 < 1000; decide), rfl⟩, ?_⟩
    refine q _ jl hj upd_same (by rw [upd_ne (Ne.symm npj), upd_ne (Ne.symm npj), upd_ne (Ne.symm npj), upd_ne (Ne.symm npj)]; exact upd_same) fun b o e n => ?_
    rw [upd_ne n, upd_ne n, upd_ne n, upd_ne n, upd_ne (ne_of_none e hj)]; exact e
end
end SH
end
section
set_option Elab.async false
set_option linter.all false
set_option maxRecDepth 100000
set_option maxHeartbeats 2000000
namespace SH
open PySem PySem.Spec PyProof.Rows L2
inductive All2 {α β : Type} (R : α → β → Prop) : List α → List β → Prop
  | nil : All2 R [] []
  | snoc {xs : List α} {ys : List β} {x : α} {y : β} : All2 R xs ys → R x y → All2 R (xs ++ [x]) (ys ++ [y])
theorem All2.imp {α β : Type} {R S : α → β → Prop} {xs : List α} {ys : List β} (h : All2 R xs ys) (f : ∀ x y, R x y → S x y) : All2 S xs ys := by
  induction h with
  | nil => exact .nil
  | snoc _ r ih => exact .snoc ih (f _ _ r)
theorem All2.length {α β : Type} {R : α → β → Prop} {xs : List α} {ys : List β} (h : All2 R xs ys) : xs.length = ys.length := by
  induction h with
  | nil => rfl
  | snoc _ _ ih => rw [List.length_append, List.length_append, ih]; rfl
theorem All2.eq_map {α β : Type} {f : α → β} {xs : List α} {ys : List β} (h : All2 (fun x y => y = f x) xs ys) : ys = xs.map f := by
  induction h with
  | nil => rfl
  | snoc _ r ih => rw [List.map_append, ih, r]; rfl
theorem range_filter_succ (keep : Nat → Bool) (i : Nat) : (List.range (i + 1)).filter keep = (List.range i).filter keep ++ (if keep i then [i] else []) := by
  rw [List.range_succ, List.filter_append]
  congr 1
  cases h : keep i <;> simp [h]
theorem lc_gen {K : PySem.W.Frag} {a : Addr} {xs : List V} {g : TG} {tt : TT} {te : TE} {vs : List Nat} {σ : L2.St} {H1 : Hp} {D : Addr} {Qd : Hp → Prop} (keep : Nat → Bool) (Rel : Nat → V → Hp → Prop)
    (hxs : SqL K H1 a xs) (hD : H1 D = none) (hlen : xs.length ≤ 100000)
    (mono : ∀ i y H H', Rel i y H → Same H H' → Rel i y H') (stay : ∀ i y H acc acc', Rel i y H → H D = some (.lst acc) → Rel i y (upd H D (.lst acc')))
    (hs : ∀ i x H, xs[i]? = some x → Same H1 H → ∀ (A : V → Hp → Prop) (B : Hp → Prop), (keep i = true → ∀ y H', Rel i y H' → Same H H' → A y H') → (keep i = false → ∀ H', Same H H' → B H') →
      g x (wipe σ vs) H fun σ2 H2 => wipe σ2 vs = wipe σ vs ∧ tt σ2 H2 fun b H3 => if b = true then te σ2 H3 A else B H3)
    (hd : ∀ H ys, Same H1 H → H D = some (.lst ys) → All2 (fun i y => Rel i y H) ((List.range xs.length).filter keep) ys → Qd H) :
    ∃ W : Nat → Nat → Hp → Prop, (∃ m, W 0 m (upd H1 D (.lst []))) ∧ ∀ i m H, W i m H →
      ((Itl K a).stop i H ∧ Qd H) ∨ ((Itl K a).go i H ∧ ∃ Nx : Hp → Prop, (∀ H', Nx H' → ∃ m', m' < m ∧ W (i + 1) m' H') ∧ ∀ x H', (Itl K a).yld i H x H' → g x (wipe σ vs) H' fun σ2 H2 => wipe σ2 vs = wipe σ vs ∧ tt σ2 H2 fun b H3 =>
        if b = true then te σ2 H3 fun y H4 => ∃ acc, H4 D = some (.lst acc) ∧ acc.length < sizeLine ∧ Nx (upd H4 D (.lst (acc ++ [y]))) else Nx H3) := by
  refine lc_list (K := K) (a := a) (xs := xs) (fun i H => i ≤ xs.length ∧ Same H1 H ∧ ∃ ys, H D = some (.lst ys) ∧ All2 (fun i y => Rel i y H) ((List.range i).filter keep) ys)
    ⟨Nat.zero_le _, Same.upd hD, [], upd_same, .nil⟩ (fun i H _ p => p.2.1.seq hxs) (fun i x H hi p => ?_) (fun H p => hd H _ p.2.1 p.2.2.choose_spec.1 p.2.2.choose_spec.2)
  obtain ⟨hle, hS, ys, hy, hall⟩ := p
  have hi' : i < xs.length := (List.getElem?_eq_some_iff.mp hi).1
  refine hs i x H hi hS _ _ (fun hk y H' hr hs' => ?_) (fun hk H' hs' => ?_)
  · refine ⟨ys, hs' _ _ hy, ?_, hi', fun b o e => ?_, ys ++ [y], upd_same, ?_⟩
    · rw [← hall.length]
      have := List.length_filter_le keep (List.range i)
      rw [List.length_range] at this
      exact Nat.lt_of_le_of_lt (Nat.le_trans this (Nat.le_trans (Nat.le_of_lt hi') hlen)) (by decide)
    · rw [upd_ne (ne_of_none e hD)]; exact hs' _ _ (hS _ _ e)
    · rw [range_filter_succ, if_pos hk]
      exact .snoc (hall.imp fun j z q => stay j z H' ys _ (mono j z H H' q hs') (hs' _ _ hy)) (stay i y H' ys _ hr (hs' _ _ hy))
  · refine ⟨hi', hS.trans hs', ys, hs' _ _ hy, ?_⟩
    rw [range_filter_succ, if_neg (by rw [hk]; simp), List.append_nil]
    exact hall.imp fun j z q => mono j z H H' q hs'
theorem lc_plain {K : PySem.W.Frag} {a : Addr} {xs : List V} {g : TG} {tt : TT} {te : TE} {vs : List Nat} {σ : L2.St} {H1 : Hp} {D : Addr} {Qd : Hp → Prop} (keep : Nat → Bool) (out : Nat → V)
    (hxs : SqL K H1 a xs) (hD : H1 D = none) (hlen : xs.length ≤ 100000)
    (hs : ∀ i x H, xs[i]? = some x → Same H1 H → ∀ (A : V → Hp → Prop) (B : Hp → Prop), (keep i = true → ∀ H', Same H H' → A (out i) H') → (keep i = false → ∀ H', Same H H' → B H') →
      g x (wipe σ vs) H fun σ2 H2 => wipe σ2 vs = wipe σ vs ∧ tt σ2 H2 fun b H3 => if b = true then te σ2 H3 A else B H3)
    (hd : ∀ H, Same H1 H → H D = some (.lst (((List.range xs.length).filter keep).map out)) → Qd H) :
    ∃ W : Nat → Nat → Hp → Prop, (∃ m, W 0 m (upd H1 D (.lst []))) ∧ ∀ i m H, W i m H →
      ((Itl K a).stop i H ∧ Qd H) ∨ ((Itl K a).go i H ∧ ∃ Nx : Hp → Prop, (∀ H', Nx H' → ∃ m', m' < m ∧ W (i + 1) m' H') ∧ ∀ x H', (Itl K a).yld i H x H' → g x (wipe σ vs) H' fun σ2 H2 => wipe σ2 vs = wipe σ vs ∧ tt σ2 H2 fun b H3 =>
        if b = true then te σ2 H3 fun y H4 => ∃ acc, H4 D = some (.lst acc) ∧ acc.length < sizeLine ∧ Nx (upd H4 D (.lst (acc ++ [y]))) else Nx H3) :=
  lc_gen keep (fun i y _ => y = out i) hxs hD hlen (fun _ _ _ _ e _ => e) (fun _ _ _ _ _ e _ => e)
    (fun i x H hi hS A B hA hB => hs i x H hi hS A B (fun hk H' s => hA hk _ H' rfl s) hB)
    fun H ys hS hy hall => hd H hS (by rw [hy, hall.eq_map])
theorem lc_all {K : PySem.W.Frag} {a : Addr} {xs : List V} {g : TG} {te : TE} {vs : List Nat} {σ : L2.St} {H1 : Hp} {D : Addr} {Qd : Hp → Prop} (out : Nat → V)
    (hxs : SqL K H1 a xs) (hD : H1 D = none) (hlen : xs.length ≤ 100000)
    (hs : ∀ i x H, xs[i]? = some x → Same H1 H → ∀ (A : V → Hp → Prop), (∀ H', Same H H' → A (out i) H') → g x (wipe σ vs) H fun σ2 H2 => wipe σ2 vs = wipe σ vs ∧ te σ2 H2 A)
    (hd : ∀ H, Same H1 H → H D = some (.lst ((List.range xs.length).map out)) → Qd H)
    (gm : ∀ x σ H (Q Q' : L2.St → Hp → Prop), (∀ σ H, Q σ H → Q' σ H) → g x σ H Q → g x σ H Q' := by intro x σ H Q Q' h q; exact h _ _ q) :
    ∃ W : Nat → Nat → Hp → Prop, (∃ m, W 0 m (upd H1 D (.lst []))) ∧ ∀ i m H, W i m H →
      ((Itl K a).stop i H ∧ Qd H) ∨ ((Itl K a).go i H ∧ ∃ Nx : Hp → Prop, (∀ H', Nx H' → ∃ m', m' < m ∧ W (i + 1) m' H') ∧ ∀ x H', (Itl K a).yld i H x H' → g x (wipe σ vs) H' fun σ2 H2 => wipe σ2 vs = wipe σ vs ∧ tYes σ2 H2 fun b H3 =>
        if b = true then te σ2 H3 fun y H4 => ∃ acc, H4 D = some (.lst acc) ∧ acc.length < sizeLine ∧ Nx (upd H4 D (.lst (acc ++ [y]))) else Nx H3) := by
  refine lc_plain (fun _ => true) out hxs hD hlen (fun i x H hi hS A B hA hB => ?_) (fun H hS hy => hd H hS (by rw [hy, List.filter_eq_self.mpr fun _ _ => rfl]))
  refine gm x _ H _ _ (fun σ2 H2 q => ⟨q.1, ?_⟩) (hs i x H hi hS A fun H' s => hA rfl H' s)
  show if true = true then te σ2 H2 A else B H2
  rw [if_pos rfl]
  exact q.2
noncomputable def TupAt (H : Hp) (y : V) (zs : List V) : Prop := ∃ p, y = .ref p ∧ H p = some (.tup zs)
theorem lc_tups {K : PySem.W.Frag} {a : Addr} {xs : List V} {g : TG} {tt : TT} {te : TE} {vs : List Nat} {σ : L2.St} {H1 : Hp} {D : Addr} {Qd : Hp → Prop} (keep : Nat → Bool) (zs : Nat → List V)
    (hxs : SqL K H1 a xs) (hD : H1 D = none) (hlen : xs.length ≤ 100000)
    (hs : ∀ i x H, xs[i]? = some x → Same H1 H → ∀ (A : V → Hp → Prop) (B : Hp → Prop), (keep i = true → ∀ y H', TupAt H' y (zs i) → Same H H' → A y H') → (keep i = false → ∀ H', Same H H' → B H') →
      g x (wipe σ vs) H fun σ2 H2 => wipe σ2 vs = wipe σ vs ∧ tt σ2 H2 fun b H3 => if b = true then te σ2 H3 A else B H3)
    (hd : ∀ H ys, Same H1 H → H D = some (.lst ys) → All2 (fun i y => TupAt H y (zs i)) ((List.range xs.length).filter keep) ys → Qd H) :
    ∃ W : Nat → Nat → Hp → Prop, (∃ m, W 0 m (upd H1 D (.lst []))) ∧ ∀ i m H, W i m H →
      ((Itl K a).stop i H ∧ Qd H) ∨ ((Itl K a).go i H ∧ ∃ Nx : Hp → Prop, (∀ H', Nx H' → ∃ m', m' < m ∧ W (i + 1) m' H') ∧ ∀ x H', (Itl K a).yld i H x H' → g x (wipe σ vs) H' fun σ2 H2 => wipe σ2 vs = wipe σ vs ∧ tt σ2 H2 fun b H3 =>
        if b = true then te σ2 H3 fun y H4 => ∃ acc, H4 D = some (.lst acc) ∧ acc.length < sizeLine ∧ Nx (upd H4 D (.lst (acc ++ [y]))) else Nx H3) :=
  lc_gen keep (fun i y H => TupAt H y (zs i)) hxs hD hlen (fun i y H H' ⟨p, e, q⟩ s => ⟨p, e, s _ _ q⟩) (fun i y H acc acc' ⟨p, e, q⟩ h => ⟨p, e, by rw [upd_ne (ne_of q h (by intro z; cases z))]; exact q⟩) hs hd
end SH
end
section
set_option Elab.async false
set_option linter.all false
set_option maxRecDepth 100000
set_option maxHeartbeats 4000000
namespace SH
open PySem PySem.Spec PyProof.Rows L2
section
variable {P : Program} {w : World} {K : PySem.W.Frag} {mg : Str → Option Value} {base : Heap} {CH CJ : Addr}
inductive UHouse (CH CJ : Addr) (f : VM.M → V) (vs : List V) (H : Hp) (Q : VK) : Prop
  | mk (hs jl : Addr) (ad : List Addr) (m : VM.M) (h0 : vs = [.ref hs]) (h1 : HouseAt CH CJ H hs jl ad m) (h2 : VM.WF m) (h3 : ∀ H', Same H H' → Q (f m) H') : UHouse CH CJ f vs H Q
noncomputable def spHouse (CH CJ : Addr) (f : VM.M → V) : Sp := fun vs H Q _ => UHouse CH CJ f vs H Q
theorem HouseAt.small {H : Hp} {hs jl : Addr} {ad : List Addr} {m : VM.M} (h : HouseAt CH CJ H hs jl ad m) (wf : VM.WF m) : (ad.map V.ref).length ≤ 100000 := by
  rw [List.length_map, h.len]; exact Nat.le_trans wf.len (by decide)
theorem ref_at {ad : List Addr} {i : Nat} {y : V} (h : (ad.map V.ref)[i]? = some y) : ∃ a, ad[i]? = some a ∧ y = .ref a := by
  rw [List.getElem?_map] at h
  cases e : ad[i]? with
  | none => rw [e] at h; cases h
  | some a => rw [e] at h; exact ⟨a, rfl, (Option.some.inj h).symm⟩
@[elab_as_elim] theorem ref_use {ad : List Addr} {i : Nat} {motive : V → Prop} {y : V} (h : (ad.map V.ref)[i]? = some y) (f : ∀ a, ad[i]? = some a → motive (.ref a)) : motive y :=
  let ⟨a, h1, h2⟩ := ref_at h; h2 ▸ f a h1
theorem filter_true {n : Nat} : (List.range n).filter (fun _ => true) = List.range n := by simp
theorem range_map_j {m : VM.M} {α : Type} (f : VM.J → α) : (List.range m.n).map (fun i => f (m.j i)) = m.jobs.map f := by
  refine List.ext_getElem? fun i => ?_
  rw [List.getElem?_map, List.getElem?_map]
  by_cases h : i < m.n
  · rw [List.getElem?_range h, VM.M.j_at h]; rfl
  · rw [List.getElem?_eq_none (by simpa using h), List.getElem?_eq_none (l := m.jobs) (by show m.n ≤ i; omega)]; rfl
theorem sum_cast : ∀ l : List Nat, (l.map fun (d : Nat) => (d : Int)).sum = ((l.sum : Nat) : Int)
  | [] => rfl
  | a :: l => by rw [List.map_cons, List.sum_cons, List.sum_cons, sum_cast l]; omega
noncomputable abbrev sFree : Stmt := top 19
noncomputable abbrev sWorkersFor : Stmt := top 20
noncomputable abbrev sBlocked : Stmt := top 21
theorem scFree : FnScope ["house", "job"] ["house"] (defScope sFree) := sc_mk rfl rfl rfl rfl (by decide +kernel)
theorem scWorkersFor : FnScope ["house", "job"] ["house", "job"] (defScope sWorkersFor) := sc_mk rfl rfl rfl rfl (by decide +kernel)
theorem scBlocked : FnScope ["house", "job"] ["house"] (defScope sBlocked) := sc_mk rfl rfl rfl rfl (by decide +kernel)
theorem c_free (T : Txt K mg CH CJ) (D : DefIn K mg "free_workers" sFree) : Cal P w K mg base 1 "free_workers" ["house"] (spHouse CH CJ fun m => .int (VM.free m : Nat)) := by
  refine def_cal D scFree (fun _ _ _ _ _ _ => bind1 fun _ => rfl) (fun vs H Q E h => ?_) (fun f cdv A outer s H vs Q E hr h => ?_)
  · obtain ⟨hs, jl, ad, m, rfl, _⟩ := h; rfl
  · obtain ⟨hs, jl, ad, m, rfl, hh, wf, q⟩ := h
    refine HouseAt.useH hh fun dh h1 => ?_
    refine Bod.mk (pss_one (ps_ret (pe_callB (call_max2 rfl) rfl (T.no _ (by decide +kernel)) boot_max (pa_cons pe_int (pa_cons (pe_op op_sub (pe_fldK K rfl (pv 0) rfl)
      (pe_callB (cr_sumK K rfl rfl) rfl (T.no _ (by decide +kernel)) boot_sum (pa_cons (pe_lc (own := [("job", 1)]) rfl scFree.nd (pi_listK K rfl (pe_fldK K rfl (pv 0) rfl)) (blkOk_by (N := ["house", "job"]) (sc := defScope sFree) (by decide +kernel)) (fun _ _ _ _ _ => pg_name (i := 1) scFree.nd rfl (Or.inl rfl)) (fun _ _ _ _ _ => pts_nil) (fun _ _ _ _ _ => pe_fldK K rfl (pv 1) rfl)) pa_nil))) pa_nil))))) ?_
    refine ⟨_, rfl, _, ⟨hs, CH, dh, _, rfl, h1, T.clH, T.aH _ (by decide +kernel), hf_workers jl m⟩, ?_⟩
    refine ⟨_, rfl, _, ⟨hs, CH, dh, _, rfl, h1, T.clH, T.aH _ (by decide +kernel), hf_jobs jl m⟩, jl, rfl, ⟨_, SqL.of hh.lst⟩, fun L hL => ?_⟩
    refine lc_all (K := K) (fun i => .int ((m.j i).taken : Nat)) (SqL.of hh.lst) hL (hh.small wf) (fun i x H2 hi hS A hA => ?_) (fun H2 hS hy => ?_)
    · refine ref_use hi fun a ha => ?_
      refine JobAt.use ((hh.job i a ha).same hS) fun dx nl ob g1 g2 => ?_
      exact ⟨rfl, _, rfl, _, ⟨a, CJ, dx, _, rfl, g1, T.clJ, T.aJ _ (by decide +kernel), jf_taken _ _ _⟩, hA _ (Same.refl _)⟩
    · have e : ((List.range (ad.map V.ref).length).map fun i => V.int ((m.j i).taken : Nat)) = ((m.jobs.map VM.J.taken).map fun (d : Nat) => (d : Int)).map V.int := by
        rw [List.length_map, hh.len, range_map_j (fun x => V.int (x.taken : Nat)), List.map_map, List.map_map]; rfl
      rw [e] at hy
      refine ⟨L, _, rfl, SqL.of hy, _, _, rfl, rfl, _, _, rfl, ?_⟩
      have e2 : (if (m.workers : Int) - ((m.jobs.map VM.J.taken).map fun (d : Nat) => (d : Int)).sum > 0 then (m.workers : Int) - ((m.jobs.map VM.J.taken).map fun (d : Nat) => (d : Int)).sum else 0) = ((VM.free m : Nat) : Int) := by
        rw [sum_cast]
        unfold VM.free VM.used
        split <;> omega
      exact (congrArg (fun i => Q (.int i) H2) e2).mpr (q H2 hS)
inductive UWorkersFor (CH CJ : Addr) (vs : List V) (H : Hp) (Q : VK) : Prop
  | mk (hs jl a : Addr) (ad : List Addr) (m : VM.M) (k : Nat) (h0 : vs = [.ref hs, .ref a]) (h1 : HouseAt CH CJ H hs jl ad m) (h2 : ad[k]? = some a) (h3 : Q (.int (VM.takes m k : Nat)) H) : UWorkersFor CH CJ vs H Q
noncomputable def spWorkersFor (CH CJ : Addr) : Sp := fun vs H Q _ => UWorkersFor CH CJ vs H Q
theorem c_workersFor (T : Txt K mg CH CJ) (D : DefIn K mg "workers_for" sWorkersFor) : Cal P w K mg base 1 "workers_for" ["house", "job"] (spWorkersFor CH CJ) := by
  refine def_cal D scWorkersFor (fun _ _ _ _ _ _ => bind2 fun _ _ => rfl) (fun vs H Q E h => ?_) (fun f cdv A outer s H vs Q E hr h => ?_)
  · obtain ⟨hs, jl, a, ad, m, k, rfl, _⟩ := h; rfl
  · obtain ⟨hs, jl, a, ad, m, k, rfl, hh, ha, q⟩ := h
    refine HouseAt.useH hh fun dh h1 => ?_
    refine JobAt.use (hh.job k a ha) fun dx nl ob g1 g2 => ?_
    refine Bod.mk (pss_one (ps_ret (pe_callB (call_min2 rfl) rfl (T.no _ (by decide +kernel)) boot_min (pa_cons (pe_fldK K rfl (pv 1) rfl) (pa_cons (pe_fldK K rfl (pv 0) rfl) pa_nil))))) ?_
    refine ⟨_, rfl, _, ⟨a, CJ, dx, _, rfl, g1, T.clJ, T.aJ _ (by decide +kernel), jf_weight _ _ _⟩, _, rfl, _, ⟨hs, CH, dh, _, rfl, h1, T.clH, T.aH _ (by decide +kernel), hf_workers jl m⟩, _, _, rfl, ?_⟩
    have e : (if (m.workers : Int) < ((m.j k).weight : Int) then (m.workers : Int) else ((m.j k).weight : Int)) = ((VM.takes m k : Nat) : Int) := by
      unfold VM.takes
      split <;> omega
    exact (congrArg (fun i => Q (.int i) H) e).mpr q
theorem c_blocked (T : Txt K mg CH CJ) (D : DefIn K mg "is_blocked" sBlocked) (cF : Cal P w K mg base 1 "is_failed" ["job"] (spLook CJ VM.J.failed)) : Cal P w K mg base 2 "is_blocked" ["house"] (spHouse CH CJ fun m => .bl (VM.blocked m)) := by
  refine def_cal D scBlocked (fun _ _ _ _ _ _ => bind1 fun _ => rfl) (fun vs H Q E h => ?_) (fun f cdv A outer s H vs Q E hr h => ?_)
  · obtain ⟨hs, jl, ad, m, rfl, _⟩ := h; rfl
  · obtain ⟨hs, jl, ad, m, rfl, hh, wf, q⟩ := h
    refine HouseAt.useH hh fun dh h1 => ?_
    refine Bod.mk (pss_one (ps_ret (pe_and (pe_not (pe_fldK K rfl (pv 0) rfl)) (pe_one (pe_callB (cr_anyK K rfl rfl) rfl (T.no _ (by decide +kernel)) boot_any (pa_cons (pe_lc (own := [("job", 1)]) rfl scBlocked.nd (pi_listK K rfl (pe_fldK K rfl (pv 0) rfl)) (blkOk_by (N := ["house", "job"]) (sc := defScope sBlocked) (by decide +kernel)) (fun _ _ _ _ _ => pg_name (i := 1) scBlocked.nd rfl (Or.inl rfl)) (fun _ _ _ _ _ => pts_nil)
      (fun _ _ _ _ _ => pe_cal cF hr rfl (pa_cons (pv 1) pa_nil))) pa_nil)))))) ?_
    refine ⟨_, rfl, _, ⟨hs, CH, dh, _, rfl, h1, T.clH, T.aH _ (by decide +kernel), hf_keep jl m⟩, _, rfl, _, rfl, ?_⟩
    have eb : VM.blocked m = (!m.keep && m.jobs.any VM.J.failed) := rfl
    cases hk : m.keep with
    | true =>
      refine iteF ?_
      have e3 : false = VM.blocked m := by rw [eb, hk]; rfl
      exact (congrArg (fun b => Q (.bl b) H) e3).mpr (q H (Same.refl _))
    | false =>
      refine iteT ⟨_, rfl, _, ⟨hs, CH, dh, _, rfl, h1, T.clH, T.aH _ (by decide +kernel), hf_jobs jl m⟩, jl, rfl, ⟨_, SqL.of hh.lst⟩, fun L hL => ?_⟩
      refine lc_all (K := K) (fun i => .bl (m.j i).failed) (SqL.of hh.lst) hL (hh.small wf) (fun i x H2 hi hS A hA => ?_) (fun H2 hS hy => ?_)
      · refine ref_use hi fun a ha => ?_
        exact ⟨rfl, _, rfl, _, ⟨a, i, m.j i, rfl, (hh.job i a ha).same hS, rfl⟩, hA _ (Same.refl _)⟩
      · have e : ((List.range (ad.map V.ref).length).map fun i => V.bl (m.j i).failed) = (m.jobs.map VM.J.failed).map V.bl := by
          rw [List.length_map, hh.len, range_map_j (fun x => V.bl x.failed), List.map_map]; rfl
        rw [e] at hy
        refine ⟨L, _, rfl, SqL.of hy, ?_⟩
        have e2 : (m.jobs.map VM.J.failed).any id = VM.blocked m := by rw [eb, hk, List.any_map]; rfl
        exact (congrArg (fun b => Q (.bl b) H2) e2).mpr (q H2 hS)
end
end SH
end
section
set_option Elab.async false
set_option linter.all false
set_option maxRecDepth 100000
set_option maxHeartbeats 4000000
namespace SH
open PySem PySem.Spec PyProof.Rows L2
theorem for_rev {K : PySem.W.Frag} {a : Addr} {xs : List V} {g : TG} {tb : TS} {D : Ends} {σ : L2.St} {H : Hp} (Pv : Nat → L2.St → Hp → Prop) (h0 : Pv xs.length σ H) (hl : ∀ k σ H, Pv k σ H → SqL K H a xs)
    (hs : ∀ k x σ H, xs[k]? = some x → Pv (k + 1) σ H → g x σ H fun σ2 H2 => tb { D with nx := Pv k, ct := Pv k, bk := D.nx } σ2 H2) (hd : ∀ σ H, Pv 0 σ H → D.nx σ H) :
    ∃ W : Nat → Nat → L2.St → Hp → Prop, (∃ m, W 0 m σ H) ∧ ∀ i m σ H, W i m σ H →
      ((Itv K a xs.length).stop i H ∧ D.nx σ H) ∨ ((Itv K a xs.length).go i H ∧ ∃ N : L2.St → Hp → Prop, (∀ σ' H', N σ' H' → ∃ m', m' < m ∧ W (i + 1) m' σ' H') ∧ ∀ x H', (Itv K a xs.length).yld i H x H' → g x σ H' fun σ2 H2 => tb { D with nx := N, ct := N, bk := D.nx } σ2 H2) := by
  refine ⟨fun i m σ H => m = xs.length - i ∧ i ≤ xs.length ∧ Pv (xs.length - i) σ H, ⟨xs.length, by simp, Nat.zero_le _, by simpa using h0⟩, ?_⟩
  rintro i m σ H ⟨rfl, hi, p⟩
  by_cases hlt : i < xs.length
  · obtain ⟨k, hk⟩ : ∃ k, xs.length - i = k + 1 := ⟨xs.length - i - 1, by omega⟩
    have hk2 : xs.length - 1 - i = k := by omega
    have hk3 : k < xs.length := by omega
    rw [hk] at p
    refine .inr ⟨⟨hlt, xs, xs[k], hl _ _ _ p, by rw [hk2]; exact List.getElem?_eq_getElem hk3⟩, Pv k, fun σ' H' p' => ⟨k, by omega, by omega, hlt, by rw [show xs.length - (i + 1) = k by omega]; exact p'⟩, fun x H' y => ?_⟩
    obtain ⟨e, y⟩ := y
    subst e
    refine hs k x σ _ ?_ p
    rw [← hk2]
    exact y xs (hl _ _ _ p)
  · have e : i = xs.length := by omega
    subst e
    rw [Nat.sub_self] at p
    exact .inl ⟨Nat.le_refl _, hd σ H p⟩
theorem bls_at {bs : List Bool} {k : Nat} (h : k < bs.length) : (bs.map V.bl)[k]? = some (.bl (bs.getD k false)) := by
  rw [List.getElem?_map, List.getElem?_eq_getElem h, List.getD_eq_getElem?_getD, List.getElem?_eq_getElem h]; rfl
theorem ixN_nat {n k : Nat} (h : k < n) : ixN n (k : Int) = some k := by
  unfold ixN
  rw [if_pos (by omega), if_pos (by omega)]; simp
section
variable {P : Program} {w : World} {K : PySem.W.Frag} {mg : Str → Option Value} {base : Heap} {CH CJ : Addr}
noncomputable abbrev sMarks : Stmt := top 18
theorem scMarks : FnScope ["house", "marks", "job", "need"] ["house"] (defScope sMarks) := sc_mk rfl rfl rfl rfl (by decide +kernel)
inductive UMarks (CH CJ : Addr) (vs : List V) (H : Hp) (Q : VK) : Prop
  | mk (hs jl : Addr) (ad : List Addr) (m : VM.M) (h0 : vs = [.ref hs]) (h1 : HouseAt CH CJ H hs jl ad m) (h2 : VM.WF m) (h3 : ∀ H' p, Same H H' → H p = none → H' p = some (.lst ((VM.marks m).map V.bl)) → Q (.ref p) H') : UMarks CH CJ vs H Q
noncomputable def spMarks (CH CJ : Addr) : Sp := fun vs H Q _ => UMarks CH CJ vs H Q
noncomputable def tMark (K : PySem.W.Frag) : TS := tIfS (tAnd (tB (tOp (rIxL K) (tVar 1) (tFld K (tVar 2) "number"))) (tAnd (tB (tFld K (tVar 2) "answered")) (tNot (tB (tFld K (tVar 2) "cached")))))
  (tFor (iList K (tFld K (tVar 2) "needs")) (gName 3) (tAsg (tC (.bl true)) (gSub (tVar 1) (tVar 3) rSetL))) tNext
theorem mark_step (T : Txt K mg CH CJ) {H H6 : Hp} {hs jl L a dx nl : Addr} {ad : List Addr} {m : VM.M} {k : Nat} {b : List Bool} {vn : Option V} {D : Ends} (hh : HouseAt CH CJ H hs jl ad m) (wf : VM.WF m) (hL : H L = none) (ha : ad[k]? = some a)
    (j1 : H a = some (.ins CJ dx (jf k (m.j k) nl))) {ob : Obj} (j2 : H nl = some (.frz ob (.lst (nz (m.j k).needs)))) (hb : b.length = m.n) (s6 : Same H H6) (h6 : H6 L = some (.lst (b.map V.bl)))
    (q : ∀ vn' H7, Same H H7 → H7 L = some (.lst ((if b.getD k false && ((m.j k).answered && !(m.j k).cached) then VM.setNeeds b (m.j k).needs else b).map V.bl)) → D.nx [some (.ref hs), some (.ref L), some (.ref a), vn'] H7) :
    tMark K D [some (.ref hs), some (.ref L), some (.ref a), vn] H6 := by
  have hkn := hh.lt ha
  refine ⟨_, rfl, _, rfl, _, ⟨a, CJ, dx, _, rfl, s6 _ _ j1, T.clJ, T.aJ _ (by decide +kernel), jf_number _ _ _⟩, _, ⟨L, _, _, rfl, rfl, SqL.of h6, atI_nat (bls_at (by rw [hb]; exact hkn))⟩, _, rfl, ?_⟩
  cases h1 : b.getD k false with
  | false =>
    rw [h1] at q
    exact iteF (iteF (q vn H6 s6 h6))
  | true =>
    refine iteT ⟨_, rfl, _, ⟨a, CJ, dx, _, rfl, s6 _ _ j1, T.clJ, T.aJ _ (by decide +kernel), jf_answered _ _ _⟩, _, rfl, ?_⟩
    cases h2 : (m.j k).answered with
    | false =>
      rw [h1, h2] at q
      exact iteF (iteF (q vn H6 s6 h6))
    | true =>
      refine iteT ⟨_, rfl, _, ⟨a, CJ, dx, _, rfl, s6 _ _ j1, T.clJ, T.aJ _ (by decide +kernel), jf_cached _ _ _⟩, _, rfl, ?_⟩
      cases h3 : (m.j k).cached with
      | true =>
        rw [h1, h2, h3] at q
        exact iteF (q vn H6 s6 h6)
      | false =>
        rw [h1, h2, h3] at q
        refine iteT ⟨_, rfl, _, ⟨a, CJ, dx, _, rfl, s6 _ _ j1, T.clJ, T.aJ _ (by decide +kernel), jf_needs _ _ _⟩, nl, rfl, ⟨_, SqL.fz (s6 _ _ j2)⟩, ?_⟩
        refine for_list (K := K) (a := nl) (xs := nz (m.j k).needs) (fun i σ H' => ∃ vn', σ = [some (.ref hs), some (.ref L), some (.ref a), vn'] ∧ Same H H' ∧ H' L = some (.lst ((VM.setNeeds b ((m.j k).needs.take i)).map V.bl)))
          ⟨vn, rfl, s6, h6⟩ (fun i σ H' _ ⟨_, _, s7, _⟩ => SqL.fz (s7 _ _ j2)) (fun i x σ H' hi ⟨vn', e, s7, h7⟩ => ?_) (fun σ H' ⟨vn', e, s7, h7⟩ => ?_)
        · subst e
          obtain ⟨d, hd, rfl⟩ : ∃ d : Nat, (m.j k).needs[i]? = some d ∧ x = V.int d := by
            unfold nz at hi
            rw [List.getElem?_map] at hi
            cases e : (m.j k).needs[i]? with
            | none => rw [e] at hi; cases hi
            | some d => rw [e] at hi; exact ⟨d, rfl, (Option.some.inj hi).symm⟩
          have hdk := wf.needs k d (List.mem_of_getElem? hd)
          refine ⟨_, rfl, _, rfl, L, _, _, d, rfl, rfl, h7, ixN_nat (by rw [List.length_map, VM.setNeeds_length, hb]; omega), some (V.int d), rfl, fun c o e => by rw [upd_ne (ne_of_none e hL)]; exact s7 _ _ e, ?_⟩
          rw [upd_same, ← List.map_set]
          have e2 : (VM.setNeeds b ((m.j k).needs.take i)).set d true = VM.setNeeds b ((m.j k).needs.take (i + 1)) := by
            rw [List.take_add_one, hd]
            unfold VM.setNeeds
            rw [List.foldl_append]; rfl
          rw [e2]
        · subst e
          have e3 : (m.j k).needs.take (nz (m.j k).needs).length = (m.j k).needs := by unfold nz; rw [List.length_map, List.take_length]
          rw [e3] at h7
          exact q vn' H' s7 h7
inductive MarkInv (H : Hp) (hs L : Addr) (m : VM.M) (k : Nat) (σ : L2.St) (H' : Hp) : Prop
  | mk (vj vn : Option V) (bs : List Bool) (h1 : σ = [some (.ref hs), some (.ref L), vj, vn]) (h2 : Same H H') (h3 : H' L = some (.lst (bs.map V.bl))) (h4 : bs.length = m.n) (h5 : k ≤ m.n) (h6 : VM.markFrom m k bs = VM.marks m) : MarkInv H hs L m k σ H'
theorem c_marks (T : Txt K mg CH CJ) (D : DefIn K mg "wanted_marks" sMarks) (cE : Cal P w K mg base 1 "is_ended" ["job"] (spLook CJ VM.J.ended)) : Cal P w K mg base 2 "wanted_marks" ["house"] (spMarks CH CJ) := by
  refine def_cal D scMarks (fun _ _ _ _ _ _ => bind1 fun _ => rfl) (fun vs H Q E h => ?_) (fun f cdv A outer s H vs Q E hr h => ?_)
  · obtain ⟨hs, jl, ad, m, rfl, _⟩ := h; rfl
  · obtain ⟨hs, jl, ad, m, rfl, hh, wf, q⟩ := h
    refine HouseAt.useH hh fun dh h1 => ?_
    refine Bod.mk (pss_cons (ps_setLc (i := 1) (own := [("job", 2)]) rfl scMarks.nd rfl rfl (sw_true rfl rfl rfl (by decide +kernel)) (pi_listK K rfl (pe_fldK K rfl (pv 0) rfl)) (blkOk_by (N := ["house", "marks", "job", "need"]) (sc := defScope sMarks) (by decide +kernel)) (fun _ _ _ _ _ => pg_name (i := 2) scMarks.nd rfl (Or.inl rfl)) (fun _ _ _ _ _ => pts_nil) (fun _ _ _ _ _ => pe_fldK K rfl (pv 2) rfl))
      (pss_cons (ps_for PassesOwn.never rfl (pi_reversed rfl (T.no _ (by decide +kernel)) (pa_cons (pe_fldK K rfl (pv 0) rfl) pa_nil)) (pg_name (i := 2) scMarks.nd rfl (Or.inl rfl))
        (pss_cons (ps_if (pt_val (pe_cal cE hr rfl (pa_cons (pv 2) pa_nil))) (pss_one (ps_asg pe_bl (pg_sub (pv 1) (pe_fldK K rfl (pv 2) rfl) set_list))) pss_nil)
        (pss_one (ps_if ((pw_and (pt_val (pe_ixK K rfl (pv 1) (pe_fldK K rfl (pv 2) rfl) (fun _ _ => rfl))) (pw_and (pt_val (pe_fldK K rfl (pv 2) rfl)) (pw_and1 (pt_not (pt_val (pe_fldK K rfl (pv 2) rfl)))))).pt)
          (pss_one (ps_for PassesOwn.never rfl (pi_listK K rfl (pe_fldK K rfl (pv 2) rfl)) (pg_name (i := 3) scMarks.nd rfl (Or.inl rfl)) (pss_one (ps_asg pe_bl (pg_sub (pv 1) (pv 3) set_list))))) pss_nil))))
      (pss_one (ps_ret (pv 1))))) ?_
    refine ⟨_, rfl, _, ⟨hs, CH, dh, _, rfl, h1, T.clH, T.aH _ (by decide +kernel), hf_jobs jl m⟩, jl, rfl, ⟨_, SqL.of hh.lst⟩, fun L hL => ?_⟩
    refine lc_all (K := K) (fun i => .bl (m.j i).goal) (SqL.of hh.lst) hL (hh.small wf) (fun i x H2 hi hS A hA => ?_) (fun H2 hS hy => ?_)
    · refine ref_use hi fun a ha => ?_
      refine JobAt.use ((hh.job i a ha).same hS) fun dx nl ob g1 g2 => ?_
      exact ⟨rfl, _, rfl, _, ⟨a, CJ, dx, _, rfl, g1, T.clJ, T.aJ _ (by decide +kernel), jf_goal _ _ _⟩, hA _ (Same.refl _)⟩
    have e : ((List.range (ad.map V.ref).length).map fun i => V.bl (m.j i).goal) = (m.jobs.map VM.J.goal).map V.bl := by
      rw [List.length_map, hh.len, range_map_j (fun x => V.bl x.goal), List.map_map]; rfl
    rw [e] at hy
    refine ⟨_, rfl, _, ⟨hs, CH, dh, _, rfl, hS _ _ h1, T.clH, T.aH _ (by decide +kernel), hf_jobs jl m⟩, jl, _, rfl, SqL.of (hS _ _ hh.lst), ?_⟩
    refine for_rev (K := K) (MarkInv H hs L m)
      ⟨none, none, m.jobs.map VM.J.goal, rfl, hS, hy, by rw [List.length_map]; rfl, by rw [List.length_map, hh.len]; exact Nat.le_refl _, by rw [List.length_map, hh.len]; rfl⟩
      (fun k σ H' p => by obtain ⟨_, _, _, _, s5, _⟩ := p; exact SqL.of (s5 _ _ hh.lst)) (fun k x σ H' hk p => ?_) (fun σ H' p => ?_)
    · refine ref_use hk fun a ha => ?_
      obtain ⟨vj, vn, bs, rfl, s5, hL5, hbl, hkn, hmk⟩ := p
      have hkn : k < m.n := hh.lt ha
      refine JobAt.use (hh.job k a ha) fun dx nl ob j1 j2 => ?_
      have g1 := s5 _ _ j1
      have g2 := s5 _ _ j2
      have naL : a ≠ L := ne_of_none j1 hL
      have nnL : nl ≠ L := ne_of_none j2 hL
      have hkb : k < bs.length := by rw [hbl]; exact hkn
      have endE : ∀ (b : List Bool), b = (if (m.j k).ended then bs.set k false else bs) → b.length = m.n ∧
          (if b.getD k false && ((m.j k).answered && !(m.j k).cached) then VM.setNeeds b (m.j k).needs else b).length = m.n ∧ VM.markFrom m k (if b.getD k false && ((m.j k).answered && !(m.j k).cached) then VM.setNeeds b (m.j k).needs else b) = VM.marks m := fun b hb => by
        have e1 : (if b.getD k false && ((m.j k).answered && !(m.j k).cached) then VM.setNeeds b (m.j k).needs else b) = VM.stepMark m bs k := by rw [hb]; rfl
        refine ⟨by rw [hb]; split <;> simp [hbl], ?_, ?_⟩
        · rw [e1, VM.stepMark_length, hbl]
        · rw [e1, ← hmk]; rfl
      refine ⟨_, rfl, _, ⟨a, k, m.j k, rfl, ⟨dx, nl, g1, ob, g2⟩, rfl⟩, _, rfl, ?_⟩
      cases he : (m.j k).ended with
      | true =>
        obtain ⟨l1, l2, l3⟩ := endE (bs.set k false) (by rw [he]; rfl)
        refine iteT ⟨_, rfl, _, rfl, _, ⟨a, CJ, dx, _, rfl, g1, T.clJ, T.aJ _ (by decide +kernel), jf_number _ _ _⟩, L, _, _, k, rfl, rfl, hL5, ixN_nat (by rw [List.length_map]; exact hkb), ?_⟩
        refine mark_step (b := bs.set k false) T hh wf hL ha j1 j2 l1 (fun b o e => by rw [upd_ne (ne_of_none e hL)]; exact s5 _ _ e) (by rw [upd_same, List.map_set]) (fun vn' H7 s7 h7 => ⟨some (.ref a), vn', _, rfl, s7, h7, l2, Nat.le_of_lt hkn, l3⟩)
      | false =>
        obtain ⟨l1, l2, l3⟩ := endE bs (by rw [he]; rfl)
        exact iteF (mark_step (b := bs) T hh wf hL ha j1 j2 l1 s5 hL5 (fun vn' H7 s7 h7 => ⟨some (.ref a), vn', _, rfl, s7, h7, l2, Nat.le_of_lt hkn, l3⟩))
    · obtain ⟨vj, vn, bs, rfl, s5, hL5, hbl, _, hmk⟩ := p
      have hmk : bs = VM.marks m := hmk
      subst hmk
      exact ⟨_, rfl, q _ _ s5 hL hL5⟩
end
end SH
end
section
set_option Elab.async false
set_option linter.all false
set_option maxRecDepth 100000
set_option maxHeartbeats 4000000
namespace SH
open PySem PySem.Spec PyProof.Rows L2
theorem nz_at {l : List Nat} {i : Nat} {x : V} (h : (nz l)[i]? = some x) : ∃ d : Nat, l[i]? = some d ∧ x = V.int d := by
  unfold nz at h
  rw [List.getElem?_map] at h
  cases e : l[i]? with
  | none => rw [e] at h; cases h
  | some d => rw [e] at h; exact ⟨d, rfl, (Option.some.inj h).symm⟩
@[elab_as_elim] theorem nz_use {l : List Nat} {i : Nat} {motive : V → Prop} {x : V} (h : (nz l)[i]? = some x) (f : ∀ d : Nat, l[i]? = some d → motive (V.int d)) : motive x :=
  let ⟨d, h1, h2⟩ := nz_at h; h2 ▸ f d h1
theorem nz_len (l : List Nat) : (nz l).length = l.length := by unfold nz; rw [List.length_map]
theorem srt_len : ∀ {n : Nat} {l : List Nat}, VM.Srt l → (∀ x ∈ l, x < n) → l.length ≤ n := fun {n l} hs hb => by
  have : l = (List.range n).filter fun k => decide (k ∈ l) := VM.srt_ext hs (VM.srt_filter _ (VM.srt_range _)) fun x => by
    rw [List.mem_filter, List.mem_range, decide_eq_true_eq]
    exact ⟨fun h => ⟨hb x h, h⟩, fun h => h.2⟩
  rw [this]
  have q := List.length_filter_le (fun k => decide (k ∈ l)) (List.range n)
  rw [List.length_range] at q
  exact q
theorem needs_small {m : VM.M} (wf : VM.WF m) (k : Nat) : (nz (m.j k).needs).length ≤ 100000 := by
  rw [nz_len]
  by_cases h : k < m.n
  · have := srt_len (n := k) (wf.needsS k) (wf.needs k)
    have := wf.len
    omega
  · rw [VM.M.j_ge (by omega)]; exact Nat.zero_le _
theorem getD_at {l : List Nat} {i d : Nat} (h : l[i]? = some d) : l.getD i 0 = d := by rw [List.getD_eq_getElem?_getD, h]; rfl
theorem range_getD_map {α : Type} (f : Nat → α) (l : List Nat) : (List.range l.length).map (fun i => f (l.getD i 0)) = l.map f := by
  have := VM.pick_map 0 (fun _ => true) f l
  rw [List.filter_eq_self.mpr (fun _ _ => rfl), List.filter_eq_self.mpr (fun _ _ => rfl)] at this
  exact this
section
variable {P : Program} {w : World} {K : PySem.W.Frag} {mg : Str → Option Value} {base : Heap} {CH CJ : Addr}
noncomputable abbrev sNeeds : Stmt := top 22
theorem scNeeds : FnScope ["house", "job", "need"] ["house", "job"] (defScope sNeeds) := sc_mk rfl rfl rfl rfl (by decide +kernel)
noncomputable def needsThere (m : VM.M) (k : Nat) : Bool := (m.j k).needs.all (fun d => (m.j d).there)
inductive UNeeds (CH CJ : Addr) (vs : List V) (H : Hp) (Q : VK) : Prop
  | mk (hs jl a : Addr) (ad : List Addr) (m : VM.M) (k : Nat) (h0 : vs = [.ref hs, .ref a]) (h1 : HouseAt CH CJ H hs jl ad m) (h2 : VM.WF m) (h3 : ad[k]? = some a) (h4 : Q (.bl (needsThere m k)) H) : UNeeds CH CJ vs H Q
noncomputable def spNeeds (CH CJ : Addr) : Sp := fun vs H Q _ => UNeeds CH CJ vs H Q
theorem all_false_at {l : List Nat} {f : Nat → Bool} {i d : Nat} (h : l[i]? = some d) (e : f d = false) : l.all f = false := by
  cases c : l.all f with
  | false => rfl
  | true => rw [List.all_eq_true.mp c d (List.mem_of_getElem? h)] at e; cases e
theorem c_needs (T : Txt K mg CH CJ) (D : DefIn K mg "needs_are_there" sNeeds) (cT : Cal P w K mg base 1 "is_there" ["job"] (spLook CJ VM.J.there)) : Cal P w K mg base 2 "needs_are_there" ["house", "job"] (spNeeds CH CJ) := by
  refine def_cal D scNeeds (fun _ _ _ _ _ _ => bind2 fun _ _ => rfl) (fun vs H Q E h => ?_) (fun f cdv A outer s H vs Q E hr h => ?_)
  · obtain ⟨hs, jl, a, ad, m, k, rfl, _⟩ := h; rfl
  · obtain ⟨hs, jl, a, ad, m, k, rfl, hh, wf, ha, q⟩ := h
    refine HouseAt.useH hh fun dh h1 => ?_
    refine JobAt.use (hh.job k a ha) fun dx nl ob j1 j2 => ?_
    have hkn := hh.lt ha
    refine Bod.mk (pss_cons (ps_for PassesOwn.never rfl (pi_listK K rfl (pe_fldK K rfl (pv 1) rfl)) (pg_name (i := 2) scNeeds.nd rfl (Or.inl rfl))
      (pss_one (ps_if (pt_not (pt_val (pe_cal cT hr rfl (pa_cons (pe_ixK K rfl (pe_fldK K rfl (pv 0) rfl) (pv 2) (fun _ _ => rfl)) pa_nil)))) (pss_one (ps_ret pe_bl)) pss_nil))) (pss_one (ps_ret pe_bl))) ?_
    refine ⟨_, rfl, _, ⟨a, CJ, dx, _, rfl, j1, T.clJ, T.aJ _ (by decide +kernel), jf_needs _ _ _⟩, nl, rfl, ⟨_, SqL.fz j2⟩, ?_⟩
    refine for_list (K := K) (a := nl) (xs := nz (m.j k).needs) (fun i σ H' => ∃ v, σ = [some (.ref hs), some (.ref a), v] ∧ H' = H ∧ ((m.j k).needs.take i).all (fun d => (m.j d).there) = true)
      ⟨none, rfl, rfl, rfl⟩ (fun i σ H' _ ⟨_, _, e, _⟩ => by rw [e]; exact SqL.fz j2) (fun i x σ H' hi ⟨v, e, eH, hall⟩ => ?_) (fun σ H' ⟨v, e, eH, hall⟩ => ?_)
    · subst e eH
      refine nz_use hi fun d hd => ?_
      have hdk := wf.needs k d (List.mem_of_getElem? hd)
      refine HouseAt.useA hh (show d < m.n by omega) fun b hb jb => ?_
      refine ⟨_, rfl, _, ⟨hs, CH, dh, _, rfl, h1, T.clH, T.aH _ (by decide +kernel), hf_jobs jl m⟩, _, rfl, V.ref b, ⟨jl, _, _, rfl, rfl, SqL.of hh.lst, atI_nat (by rw [List.getElem?_map, hb]; rfl)⟩, _, ⟨b, d, m.j d, rfl, jb, rfl⟩, _, rfl, ?_⟩
      cases hc : (m.j d).there with
      | false =>
        refine iteT ?_
        have e2 : needsThere m k = false := all_false_at hd hc
        exact (congrArg (fun b => Q (.bl b) H') e2).mp q
      | true =>
        refine iteF ⟨_, rfl, rfl, ?_⟩
        rw [List.take_add_one, hd, List.all_append, hall]
        simp [hc]
    · subst e eH
      rw [nz_len, List.take_length] at hall
      have e2 : needsThere m k = true := hall
      exact (congrArg (fun b => Q (.bl b) H') e2).mp q
noncomputable abbrev sMayStart : Stmt := top 23
theorem scMayStart : FnScope ["house", "job", "free"] ["house", "job", "free"] (defScope sMayStart) := sc_mk rfl rfl rfl rfl (by decide +kernel)
noncomputable def mayStart (m : VM.M) (k fr : Nat) : Bool := (m.j k).open_ && !(m.j k).running && (m.j k).needs.all (fun d => (m.j d).there) && decide (VM.takes m k ≤ fr)
inductive UMayStart (CH CJ : Addr) (vs : List V) (H : Hp) (Q : VK) : Prop
  | mk (hs jl a : Addr) (ad : List Addr) (m : VM.M) (k fr : Nat) (h0 : vs = [.ref hs, .ref a, .int fr]) (h1 : HouseAt CH CJ H hs jl ad m) (h2 : VM.WF m) (h3 : ad[k]? = some a) (h4 : ∀ H', Same H H' → Q (.bl (mayStart m k fr)) H') : UMayStart CH CJ vs H Q
noncomputable def spMayStart (CH CJ : Addr) : Sp := fun vs H Q _ => UMayStart CH CJ vs H Q
theorem c_mayStart (T : Txt K mg CH CJ) (D : DefIn K mg "may_start" sMayStart) (cR : Cal P w K mg base 1 "is_running" ["job"] (spLook CJ VM.J.running)) (cN : Cal P w K mg base 2 "needs_are_there" ["house", "job"] (spNeeds CH CJ))
    (cW : Cal P w K mg base 1 "workers_for" ["house", "job"] (spWorkersFor CH CJ)) : Cal P w K mg base 3 "may_start" ["house", "job", "free"] (spMayStart CH CJ) := by
  refine def_cal D scMayStart (fun _ _ _ _ _ _ => bind3 fun _ _ _ => rfl) (fun vs H Q E h => ?_) (fun f cdv A outer s H vs Q E hr h => ?_)
  · obtain ⟨hs, jl, a, ad, m, k, fr, rfl, _⟩ := h; rfl
  · obtain ⟨hs, jl, a, ad, m, k, fr, rfl, hh, wf, ha, q⟩ := h
    have hr1 : Room 1 _ := hr.mono (by decide)
    refine HouseAt.useH hh fun dh h1 => ?_
    refine JobAt.use (hh.job k a ha) fun dx nl ob j1 j2 => ?_
    have nay : mayStart m k fr = false → Q (.bl false) H := fun e => (congrArg (fun b => Q (.bl b) H) e).mp (q H (Same.refl _))
    refine Bod.mk (pss_cons (ps_if (PW.pt (pw_or (pt_not (pt_val (pe_fldK K rfl (pv 1) rfl))) (pw_or (pt_val (pe_fldK K rfl (pv 1) rfl)) (pw_or1 (pt_val (pe_cal cR hr1 rfl (pa_cons (pv 1) pa_nil))))))) (pss_one (ps_ret pe_bl)) pss_nil)
      (pss_cons (ps_if (pt_cmpR op_lt (pv 2) (pe_cal cW hr1 rfl (pa_cons (pv 0) (pa_cons (pv 1) pa_nil))) (nomark _)) (pss_one (ps_ret pe_bl)) pss_nil)
      (pss_one (ps_ret (pe_cal cN hr rfl (pa_cons (pv 0) (pa_cons (pv 1) pa_nil))))))) ?_
    refine ⟨_, rfl, _, ⟨a, CJ, dx, _, rfl, j1, T.clJ, T.aJ _ (by decide +kernel), jf_answered _ _ _⟩, _, rfl, ?_⟩
    cases e1 : (m.j k).answered with
    | false => exact iteT (nay (by unfold mayStart VM.J.open_; rw [e1]; rfl))
    | true =>
      refine iteF ⟨_, rfl, _, ⟨a, CJ, dx, _, rfl, j1, T.clJ, T.aJ _ (by decide +kernel), jf_cached _ _ _⟩, _, rfl, ?_⟩
      cases e2 : (m.j k).cached with
      | true => exact iteT (nay (by unfold mayStart VM.J.open_; rw [e1, e2]; rfl))
      | false =>
        refine iteF ⟨_, rfl, _, ⟨a, k, m.j k, rfl, ⟨dx, nl, j1, ob, j2⟩, rfl⟩, _, rfl, ?_⟩
        cases e3 : (m.j k).running with
        | true => exact iteT (nay (by unfold mayStart VM.J.open_; rw [e1, e2, e3]; rfl))
        | false =>
          refine iteF ⟨_, rfl, _, rfl, _, rfl, hs, jl, a, ad, m, k, rfl, hh, ha, _, _, rfl, rfl, _, rfl, ?_⟩
          refine ite2 (fun hc => ?_) (fun hc => ?_)
          · have hc : (fr : Int) < (VM.takes m k : Nat) := of_decide_eq_true hc
            exact nay (by unfold mayStart; rw [decide_eq_false (show ¬ VM.takes m k ≤ fr by omega), Bool.and_false])
          · have hc : ¬ (fr : Int) < (VM.takes m k : Nat) := of_decide_eq_false (by simpa using hc)
            refine ⟨_, rfl, _, rfl, hs, jl, a, ad, m, k, rfl, hh, wf, ha, ?_⟩
            have e5 : needsThere m k = mayStart m k fr := by
              unfold mayStart VM.J.open_ needsThere
              rw [e1, e2, e3, decide_eq_true (show VM.takes m k ≤ fr by omega)]
              simp
            exact (congrArg (fun b => Q (.bl b) H) e5).mpr (q H (Same.refl _))
end
end SH
end
section
set_option Elab.async false
set_option linter.all false
set_option maxRecDepth 100000
set_option maxHeartbeats 4000000
namespace SH
open PySem PySem.Spec PyProof.Rows L2
theorem All2.app {α β : Type} {R : α → β → Prop} {xs xs' : List α} {ys ys' : List β} (h : All2 R xs ys) (h' : All2 R xs' ys') : All2 R (xs ++ xs') (ys ++ ys') := by
  induction h' with
  | nil => rw [List.append_nil, List.append_nil]; exact h
  | snoc _ r ih => rw [← List.append_assoc, ← List.append_assoc]; exact .snoc ih r
theorem All2.mapL {α β γ : Type} {f : γ → α} {R : α → β → Prop} {xs : List γ} {ys : List β} (h : All2 (fun x y => R (f x) y) xs ys) : All2 R (xs.map f) ys := by
  induction h with
  | nil => exact .nil
  | snoc _ r ih => rw [List.map_append]; exact .snoc ih r
theorem All2.at_ {α β : Type} {R : α → β → Prop} {xs : List α} {ys : List β} (h : All2 R xs ys) : ∀ {i : Nat} {y : β}, ys[i]? = some y → ∃ x, xs[i]? = some x ∧ R x y := by
  induction h with
  | nil => intro i y e; simp at e
  | @snoc xs ys x y0 h r ih =>
    intro i y e
    have hl := h.length
    by_cases q : i < ys.length
    · rw [List.getElem?_append_left q] at e
      obtain ⟨x', e1, e2⟩ := ih e
      exact ⟨x', by rw [List.getElem?_append_left (by omega)]; exact e1, e2⟩
    · rw [List.getElem?_append_right (by omega)] at e
      have : i - ys.length = 0 := by
        cases z : i - ys.length with
        | zero => rfl
        | succ n => rw [z] at e; simp at e
      rw [this] at e
      have e' : y0 = y := Option.some.inj e
      subst e'
      exact ⟨x, by rw [List.getElem?_append_right (by omega), show i - xs.length = 0 by omega]; rfl, r⟩
noncomputable abbrev EvL (H : Hp) (es : List (Nat × Nat)) (ys : List V) : Prop := All2 (fun (e : Nat × Nat) y => TupAt H y [.int e.1, .int e.2]) es ys
theorem TupAt.same {H H' : Hp} {y : V} {zs : List V} (h : TupAt H y zs) (s : Same H H') : TupAt H' y zs := let ⟨p, e, q⟩ := h; ⟨p, e, s _ _ q⟩
theorem EvL.same {H H' : Hp} {es : List (Nat × Nat)} {ys : List V} (h : EvL H es ys) (s : Same H H') : EvL H' es ys := h.imp fun _ _ q => q.same s
theorem TupAt.kp {CJ : Addr} {H H' : Hp} {y : V} {zs : List V} (h : TupAt H y zs) (s : Kp CJ H H') : TupAt H' y zs := let ⟨p, e, q⟩ := h; ⟨p, e, s.tup q⟩
theorem TupAt.lst {H : Hp} {y : V} {zs : List V} {D : Addr} {acc acc' : List V} (h : TupAt H y zs) (hD : H D = some (.lst acc)) : TupAt (upd H D (.lst acc')) y zs := let ⟨p, e, q⟩ := h; ⟨p, e, by rw [upd_ne (ne_of q hD (by intro z; cases z))]; exact q⟩
theorem EvL.lst {H : Hp} {es : List (Nat × Nat)} {ys : List V} {D : Addr} {acc acc' : List V} (h : EvL H es ys) (hD : H D = some (.lst acc)) : EvL (upd H D (.lst acc')) es ys := h.imp fun _ _ q => q.lst hD
section
variable {P : Program} {w : World} {K : PySem.W.Frag} {mg : Str → Option Value} {base : Heap} {CH CJ : Addr}
noncomputable abbrev sEvents : Stmt := top 24
noncomputable abbrev nEvents : List Str := ["house", "found", "marks", "wanted", "free", "job"]
theorem scEvents : FnScope nEvents ["house"] (defScope sEvents) := sc_mk rfl rfl rfl rfl (by decide +kernel)
inductive UEvents (CH CJ : Addr) (vs : List V) (H : Hp) (Q : VK) : Prop
  | mk (hs jl : Addr) (ad : List Addr) (m : VM.M) (h0 : vs = [.ref hs]) (h1 : HouseAt CH CJ H hs jl ad m) (h2 : VM.WF m) (h3 : ∀ H' p ys, Same H H' → H p = none → H' p = some (.lst ys) → EvL H' (VM.evs m) ys → Q (.ref p) H') : UEvents CH CJ vs H Q
noncomputable def spEvents (CH CJ : Addr) : Sp := fun vs H Q _ => UEvents CH CJ vs H Q
theorem c_events (T : Txt K mg CH CJ) (D : DefIn K mg "possible_events" sEvents) (cR : Cal P w K mg base 1 "is_running" ["job"] (spLook CJ VM.J.running)) (cB : Cal P w K mg base 2 "is_blocked" ["house"] (spHouse CH CJ fun m => .bl (VM.blocked m)))
    (cM : Cal P w K mg base 2 "wanted_marks" ["house"] (spMarks CH CJ)) (cF : Cal P w K mg base 1 "free_workers" ["house"] (spHouse CH CJ fun m => .int (VM.free m : Nat))) (cS : Cal P w K mg base 3 "may_start" ["house", "job", "free"] (spMayStart CH CJ)) :
    Cal P w K mg base 4 "possible_events" ["house"] (spEvents CH CJ) := by
  refine def_cal D scEvents (fun _ _ _ _ _ _ => bind1 fun _ => rfl) (fun vs H Q E h => ?_) (fun f cdv A outer s H vs Q E hr h => ?_)
  · obtain ⟨hs, jl, ad, m, rfl, _⟩ := h; rfl
  · obtain ⟨hs, jl, ad, m, rfl, hh, wf, q⟩ := h
    have hr1 : Room 1 _ := hr.mono (by decide)
    have hr2 : Room 2 _ := hr.mono (by decide)
    refine HouseAt.useH hh fun dh h1 => ?_
    have jobAt : ∀ {i : Nat} {a : Addr}, ad[i]? = some a → ∃ dx nl, H a = some (.ins CJ dx (jf i (m.j i) nl)) := fun {i a} e => let ⟨dx, nl, z, _, _⟩ := hh.job i a e; ⟨dx, nl, z⟩
    refine Bod.mk (pss_cons (ps_setLc (i := 1) (own := [("job", 5)]) rfl scEvents.nd rfl rfl (sw_true rfl rfl rfl (by decide +kernel)) (pi_listK K rfl (pe_fldK K rfl (pv 0) rfl)) (blkOk_by (N := nEvents) (sc := defScope sEvents) (by decide +kernel)) (fun _ _ _ _ _ => pg_name (i := 5) scEvents.nd rfl (Or.inl rfl)) (fun _ _ _ _ _ => pts_one (pt_val (pe_cal cR hr1 rfl (pa_cons (pv 5) pa_nil)))) (fun _ _ _ _ _ => pe_tup (pa_cons (pe_gi T.gEND rfl) (pa_cons (pe_fldK K rfl (pv 5) rfl) pa_nil))))
      (pss_cons (ps_if (pt_val (pe_cal cB hr2 rfl (pa_cons (pv 0) pa_nil))) (pss_one (ps_ret (pv 1))) pss_nil)
      (pss_cons (ps_set (i := 2) scEvents.nd rfl (Or.inr rfl) (pe_cal cM hr2 rfl (pa_cons (pv 0) pa_nil)))
      (pss_cons (ps_setLc (i := 3) (own := [("job", 5)]) rfl scEvents.nd rfl rfl (sw_true rfl rfl rfl (by decide +kernel)) (pi_listK K rfl (pe_fldK K rfl (pv 0) rfl)) (blkOk_by (N := nEvents) (sc := defScope sEvents) (by decide +kernel)) (fun _ _ _ _ _ => pg_name (i := 5) scEvents.nd rfl (Or.inl rfl)) (fun _ _ _ _ _ => pts_one (pt_val (pe_ixK K rfl (pv 2) (pe_fldK K rfl (pv 5) rfl) (fun _ _ => rfl)))) (fun _ _ _ _ _ => pv 5))
      (pss_cons (ps_set (i := 4) scEvents.nd rfl (Or.inr rfl) (pe_cal cF hr1 rfl (pa_cons (pv 0) pa_nil)))
      (pss_cons (ps_expr (pe_bmK K rfl PySem.F.plainAttrs_list PySem.F.slot_list_extend PySem.F.type_list_extend mt_extend (pv 1) (pa_cons (pe_lc (own := [("job", 5)]) rfl scEvents.nd (pi_listK K rfl (pv 3)) (blkOk_by (N := nEvents) (sc := defScope sEvents) (by decide +kernel)) (fun _ _ _ _ _ => pg_name (i := 5) scEvents.nd rfl (Or.inl rfl)) (fun _ _ _ _ _ => pts_one (pt_val (pe_cal cS hr rfl (pa_cons (pv 0) (pa_cons (pv 5) (pa_cons (pv 4) pa_nil)))))) (fun _ _ _ _ _ => pe_tup (pa_cons (pe_gi T.gSTART rfl) (pa_cons (pe_fldK K rfl (pv 5) rfl) pa_nil)))) pa_nil)))
      (pss_cons (ps_expr (pe_bmK K rfl PySem.F.plainAttrs_list PySem.F.slot_list_extend PySem.F.type_list_extend mt_extend (pv 1) (pa_cons (pe_lc (own := [("job", 5)]) rfl scEvents.nd (pi_listK K rfl (pv 3)) (blkOk_by (N := nEvents) (sc := defScope sEvents) (by decide +kernel)) (fun _ _ _ _ _ => pg_name (i := 5) scEvents.nd rfl (Or.inl rfl)) (fun _ _ _ _ _ => pts_one (pt_not (pt_val (pe_fldK K rfl (pv 5) rfl)))) (fun _ _ _ _ _ => pe_tup (pa_cons (pe_gi T.gANSWER rfl) (pa_cons (pe_fldK K rfl (pv 5) rfl) pa_nil)))) pa_nil)))
      (pss_one (ps_ret (pv 1)))))))))) ?_
    refine ⟨_, rfl, _, ⟨hs, CH, dh, _, rfl, h1, T.clH, T.aH _ (by decide +kernel), hf_jobs jl m⟩, jl, rfl, ⟨_, SqL.of hh.lst⟩, fun F hF => ?_⟩
    refine lc_tups (K := K) (fun i => (m.j i).running) (fun i => [.int (0 : Nat), .int (i : Nat)]) (SqL.of hh.lst) hF (hh.small wf) (fun i x H2 hi hS A B hA hB => ?_) (fun H2 ys0 s2 hy0 ha0 => ?_)
    · refine ref_use hi fun a ha => ?_
      obtain ⟨dx, nl, j1⟩ := jobAt ha
      refine ⟨rfl, _, rfl, _, ⟨a, i, m.j i, rfl, (hh.job i a ha).same hS, rfl⟩, _, rfl, ?_⟩
      cases hc : (m.j i).running with
      | true => exact iteT ⟨_, rfl, _, ⟨a, CJ, dx, _, rfl, hS _ _ j1, T.clJ, T.aJ _ (by decide +kernel), jf_number _ _ _⟩, (by show 2 ≤ sizeLine; decide), fun p hp => hA hc _ _ ⟨p, rfl, upd_same⟩ (Same.upd hp)⟩
      | false => exact iteF (hB hc _ (Same.refl _))
    have ev0 : EvL H2 ((VM.sel m VM.J.running).map fun k => (0, k)) ys0 := by
      rw [List.length_map, hh.len] at ha0
      exact All2.mapL (f := fun (k : Nat) => ((0 : Nat), k)) ha0
    refine ⟨_, rfl, hs, jl, ad, m, rfl, hh.same s2, wf, fun H3 s3 => ⟨_, rfl, ?_⟩⟩
    have eevs : VM.evs m = (VM.sel m VM.J.running).map (fun k => (0, k)) ++ (if VM.blocked m then [] else ((List.range m.n).filter fun k => VM.wants m k && VM.ready m k).map (fun k => (1, k)) ++ ((List.range m.n).filter fun k => VM.wants m k && !(m.j k).answered).map fun k => (2, k)) := rfl
    have s13 : Same H H3 := s2.trans s3
    cases hb : VM.blocked m with
    | true =>
      refine iteT ⟨_, rfl, q H3 F ys0 s13 hF (s3 _ _ hy0) ?_⟩
      rw [eevs, hb, if_pos rfl, List.append_nil]
      exact ev0.same s3
    | false =>
      rw [hb, if_neg (by simp)] at eevs
      refine iteF ⟨_, rfl, hs, jl, ad, m, rfl, hh.same s13, wf, fun H4 M s4 hM hM4 => ?_⟩
      have s14 : Same H H4 := s13.trans s4
      refine ⟨_, rfl, _, ⟨hs, CH, dh, _, rfl, s14 _ _ h1, T.clH, T.aH _ (by decide +kernel), hf_jobs jl m⟩, jl, rfl, ⟨_, SqL.of (s14 _ _ hh.lst)⟩, fun W hW => ?_⟩
      refine lc_plain (K := K) (fun i => VM.wants m i) (fun i => .ref (ad.getD i 0)) (SqL.of (s14 _ _ hh.lst)) hW (hh.small wf) (fun i x H5 hi hS A B hA hB => ?_) (fun H5 s5 hW5 => ?_)
      · refine ref_use hi fun a ha => ?_
        obtain ⟨dx, nl, j1⟩ := jobAt ha
        have hin := hh.lt ha
        refine ⟨rfl, _, rfl, _, rfl, _, ⟨a, CJ, dx, _, rfl, hS _ _ (s14 _ _ j1), T.clJ, T.aJ _ (by decide +kernel), jf_number _ _ _⟩, _, ⟨M, _, _, rfl, rfl, SqL.of (hS _ _ hM4), atI_nat (bls_at (by rw [VM.marks_length]; exact hin))⟩, _, rfl, ?_⟩
        cases hc : VM.wants m i with
        | true =>
          have hc' : (VM.marks m).getD i false = true := hc
          rw [hc']
          refine iteT ⟨_, rfl, ?_⟩
          have := hA hc _ (Same.refl H5)
          rw [List.getD_eq_getElem?_getD, ha] at this
          exact this
        | false =>
          have hc' : (VM.marks m).getD i false = false := hc
          rw [hc']
          exact iteF (hB hc _ (Same.refl H5))
      have s15 : Same H H5 := s14.trans s5
      rw [List.length_map, hh.len] at hW5
      refine ⟨_, rfl, hs, jl, ad, m, rfl, hh.same s15, wf, fun H6 s6 => ?_⟩
      have s16 : Same H H6 := s15.trans s6
      have hW6 := s6 _ _ hW5
      have hF6 : H6 F = some (.lst ys0) := s6 _ _ (s5 _ _ (s4 _ _ (s3 _ _ hy0)))
      generalize hidx : (List.range m.n).filter (fun i => VM.wants m i) = idx at hW6
      have hilt : ∀ k ∈ idx, k < m.n := fun k hk => by rw [← hidx] at hk; exact List.mem_range.mp (List.mem_filter.mp hk).1
      have hsm : (idx.map fun i => V.ref (ad.getD i 0)).length ≤ 100000 := by
        rw [List.length_map, ← hidx]
        have := List.length_filter_le (fun i => VM.wants m i) (List.range m.n)
        rw [List.length_range] at this
        exact Nat.le_trans this (Nat.le_trans wf.len (by decide))
      have atW : ∀ {i : Nat} {x : V}, (idx.map fun i => V.ref (ad.getD i 0))[i]? = some x → ∃ a, ad[idx.getD i 0]? = some a ∧ x = .ref a := fun {i x} hi => by
        rw [List.getElem?_map] at hi
        cases e : idx[i]? with
        | none => rw [e] at hi; cases hi
        | some k =>
          rw [e] at hi
          have hk := hilt k (List.mem_of_getElem? e)
          refine HouseAt.useA hh hk fun a ha _ => ?_
          refine ⟨a, by rw [getD_at e]; exact ha, ?_⟩
          rw [← Option.some.inj hi]
          show V.ref (ad.getD k 0) = _
          rw [List.getD_eq_getElem?_getD, ha]; rfl
      refine ⟨_, rfl, .inl ⟨rfl, _, SqL.of hF6⟩, _, rfl, W, rfl, ⟨_, SqL.of hW6⟩, fun L1 hL1 => ?_⟩
      refine lc_tups (K := K) (fun i => mayStart m (idx.getD i 0) (VM.free m)) (fun i => [.int (1 : Nat), .int (idx.getD i 0 : Nat)]) (SqL.of hW6) hL1 hsm (fun i x H7 hi hS A B hA hB => ?_) (fun H7 ys1 s7 hy1 ha1 => ?_)
      · obtain ⟨a, ha, rfl⟩ := atW hi
        obtain ⟨dx, nl, j1⟩ := jobAt ha
        refine ⟨rfl, _, rfl, _, rfl, _, rfl, hs, jl, a, ad, m, idx.getD i 0, VM.free m, rfl, (hh.same s16).same hS, wf, ha, fun H8 s8 => ⟨_, rfl, ?_⟩⟩
        cases hc : mayStart m (idx.getD i 0) (VM.free m) with
        | true => exact iteT ⟨_, rfl, _, ⟨a, CJ, dx, _, rfl, s8 _ _ (hS _ _ (s16 _ _ j1)), T.clJ, T.aJ _ (by decide +kernel), jf_number _ _ _⟩, (by show 2 ≤ sizeLine; decide), fun p hp => hA hc _ _ ⟨p, rfl, upd_same⟩ (s8.trans (Same.upd hp))⟩
        | false => exact iteF (hB hc _ s8)
      have s17 : Same H H7 := s16.trans s7
      have hF7 := s7 _ _ hF6
      rw [List.length_map] at ha1
      have len0 : ys0.length ≤ 64 := by
        rw [← ev0.length, List.length_map]
        have := List.length_filter_le (fun k => VM.J.running (m.j k)) (List.range m.n)
        rw [List.length_range] at this
        exact Nat.le_trans this wf.len
      have lenI : idx.length ≤ 64 := by
        rw [← hidx]
        have := List.length_filter_le (fun i => VM.wants m i) (List.range m.n)
        rw [List.length_range] at this
        exact Nat.le_trans this wf.len
      have len1 : ys1.length ≤ 64 := by
        rw [← ha1.length]
        have := List.length_filter_le (fun i => mayStart m (idx.getD i 0) (VM.free m)) (List.range idx.length)
        rw [List.length_range] at this
        exact Nat.le_trans this lenI
      refine ⟨F, L1, ys0, ys1, rfl, rfl, hF7, hy1, Nat.le_trans (Nat.add_le_add len0 len1) (by decide), ?_⟩
      have s18 : Same H (upd H7 F (.lst (ys0 ++ ys1))) := fun b o e => by rw [upd_ne (ne_of_none e hF)]; exact s17 _ _ e
      have nWF : W ≠ F := fun z => by
        have := s4 _ _ (s3 _ _ hy0)
        rw [← z, hW] at this; cases this
      generalize hH8 : upd H7 F (.lst (ys0 ++ ys1)) = H8 at s18
      have hF8 : H8 F = some (.lst (ys0 ++ ys1)) := by rw [← hH8]; exact upd_same
      have hW8 : H8 W = some (.lst (idx.map fun i => V.ref (ad.getD i 0))) := by rw [← hH8, upd_ne nWF]; exact s7 _ _ hW6
      have ev1 : EvL H8 ((VM.sel m VM.J.running).map (fun k => (0, k)) ++ ((List.range m.n).filter fun k => VM.wants m k && VM.ready m k).map (fun k => (1, k))) (ys0 ++ ys1) := by
        rw [← hH8]
        refine EvL.lst (acc := ys0) (All2.app ((((((ev0.same s3).same s4).same s5).same s6).same s7)) ?_) hF7
        have := All2.mapL (f := fun (i : Nat) => ((1 : Nat), idx.getD i 0)) (R := fun (e : Nat × Nat) y => TupAt H7 y [.int e.1, .int e.2]) ha1
        rw [VM.pick_map 0 (fun k => mayStart m k (VM.free m)) (fun k => ((1 : Nat), k)) idx, ← hidx, List.filter_filter] at this
        have e : (List.range m.n).filter (fun a => mayStart m a (VM.free m) && VM.wants m a) = (List.range m.n).filter fun k => VM.wants m k && VM.ready m k := List.filter_congr fun k _ => by rw [Bool.and_comm]; rfl
        rw [e] at this
        exact this
      refine ⟨_, rfl, .inl ⟨rfl, _, SqL.of hF8⟩, _, rfl, W, rfl, ⟨_, SqL.of hW8⟩, fun L2 hL2 => ?_⟩
      refine lc_tups (K := K) (fun i => !(m.j (idx.getD i 0)).answered) (fun i => [.int (2 : Nat), .int (idx.getD i 0 : Nat)]) (SqL.of hW8) hL2 hsm (fun i x H9 hi hS A B hA hB => ?_) (fun H9 ys2 s9 hy2 ha2 => ?_)
      · obtain ⟨a, ha, rfl⟩ := atW hi
        obtain ⟨dx, nl, j1⟩ := jobAt ha
        have j9 := hS _ _ (s18 _ _ j1)
        refine ⟨rfl, _, rfl, _, ⟨a, CJ, dx, _, rfl, j9, T.clJ, T.aJ _ (by decide +kernel), jf_answered _ _ _⟩, _, rfl, ?_⟩
        cases hc : (m.j (idx.getD i 0)).answered with
        | true => exact iteF (hB (by rw [hc]; rfl) _ (Same.refl _))
        | false => exact iteT ⟨_, rfl, _, ⟨a, CJ, dx, _, rfl, j9, T.clJ, T.aJ _ (by decide +kernel), jf_number _ _ _⟩, (by show 2 ≤ sizeLine; decide), fun p hp => hA (by rw [hc]; rfl) _ _ ⟨p, rfl, upd_same⟩ (Same.upd hp)⟩
      rw [List.length_map] at ha2
      have len2 : ys2.length ≤ 64 := by
        rw [← ha2.length]
        have := List.length_filter_le (fun i => !(m.j (idx.getD i 0)).answered) (List.range idx.length)
        rw [List.length_range] at this
        exact Nat.le_trans this lenI
      have hF9 := s9 _ _ hF8
      refine ⟨F, L2, ys0 ++ ys1, ys2, rfl, rfl, hF9, hy2, ?_, ?_⟩
      · rw [List.length_append]
        exact Nat.le_trans (Nat.add_le_add (Nat.add_le_add len0 len1) len2) (by decide)
      refine ⟨_, rfl, q _ F _ (fun b o e => by rw [upd_ne (ne_of_none e hF)]; exact s9 _ _ (s18 _ _ e)) hF upd_same ?_⟩
      rw [eevs, ← List.append_assoc]
      refine EvL.lst (acc := ys0 ++ ys1) (All2.app (ev1.same s9) ?_) hF9
      have := All2.mapL (f := fun (i : Nat) => ((2 : Nat), idx.getD i 0)) (R := fun (e : Nat × Nat) y => TupAt H9 y [.int e.1, .int e.2]) ha2
      rw [VM.pick_map 0 (fun k => !(m.j k).answered) (fun k => ((2 : Nat), k)) idx, ← hidx, List.filter_filter] at this
      have e : (List.range m.n).filter (fun a => !(m.j a).answered && VM.wants m a) = (List.range m.n).filter fun k => VM.wants m k && !(m.j k).answered := List.filter_congr fun k _ => by rw [Bool.and_comm]
      rw [e] at this
      exact this
end
end SH
end
section
set_option Elab.async false
set_option linter.all false
set_option maxRecDepth 100000
set_option maxHeartbeats 4000000
namespace SH
open PySem PySem.Spec PyProof.Rows L2
section
variable {P : Program} {w : World} {K : PySem.W.Frag} {mg : Str → Option Value} {base : Heap} {CH CJ : Addr}
noncomputable abbrev sSettle : Stmt := top 31
noncomputable abbrev sSettleJob : Stmt := top 32
noncomputable abbrev nSettleJob : List Str := ["house", "job", "causes", "need", "needed"]
theorem scSettleJob : FnScope nSettleJob ["house", "job"] (defScope sSettleJob) := sc_mk rfl rfl rfl rfl (by decide +kernel)
theorem scSettle : FnScope ["house", "marks", "job"] ["house"] (defScope sSettle) := sc_mk rfl rfl rfl rfl (by decide +kernel)
noncomputable def settled (m : VM.M) (k : Nat) : VM.J :=
  if (m.j k).needs.all (fun d => (m.j d).ended) && (m.j k).needs.any (fun d => (m.j d).failed) then (m.j k).fails (Vastog.least (VM.causesOf m (m.j k).needs)) else m.j k
inductive USettleJob (CH CJ : Addr) (vs : List V) (H : Hp) (Q : VK) : Prop
  | mk (hs jl a : Addr) (ad : List Addr) (m : VM.M) (k : Nat) (h0 : vs = [.ref hs, .ref a]) (h1 : HouseAt CH CJ H hs jl ad m) (h2 : VM.WF m) (h3 : ad[k]? = some a) (h4 : ∀ H', JobAt CJ H' a k (settled m k) → But a H H' → Q .non H') : USettleJob CH CJ vs H Q
noncomputable def spSettleJob (CH CJ : Addr) : Sp := fun vs H Q _ => USettleJob CH CJ vs H Q
theorem causes_map {m : VM.M} (wf : VM.WF m) (l : List Nat) : (l.filter fun d => (m.j d).failed).map (fun d => cz (m.j d).cause) = (VM.causesOf m l).map fun (c : Nat) => V.int c := by
  unfold VM.causesOf
  induction l with
  | nil => rfl
  | cons d l ih =>
    rw [List.filter_cons, List.filterMap_cons]
    by_cases h : (m.j d).failed = true
    · obtain ⟨c, hc, _⟩ := wf.cause d (eq_of_beq h)
      rw [if_pos h, if_pos h, hc, List.map_cons, List.map_cons, ih, hc]; rfl
    · rw [if_neg h, if_neg h, ih]
theorem causes_snoc {m : VM.M} (wf : VM.WF m) (l : List Nat) (d : Nat) : (VM.causesOf m (l ++ [d])).map (fun (c : Nat) => V.int c) = (VM.causesOf m l).map (fun (c : Nat) => V.int c) ++ (if (m.j d).failed then [cz (m.j d).cause] else []) := by
  unfold VM.causesOf
  rw [List.filterMap_append, List.map_append]
  congr 1
  rw [List.filterMap_cons, List.filterMap_nil]
  by_cases h : (m.j d).failed = true
  · obtain ⟨c, hc, _⟩ := wf.cause d (eq_of_beq h)
    rw [if_pos h, if_pos h, hc]; rfl
  · rw [if_neg h, if_neg h]; rfl
theorem causes_le (m : VM.M) (l : List Nat) : (VM.causesOf m l).length ≤ l.length := List.length_filterMap_le _ _
theorem c_settleJob (T : Txt K mg CH CJ) (D : DefIn K mg "settle_job" sSettleJob) (cF : Cal P w K mg base 1 "is_failed" ["job"] (spLook CJ VM.J.failed)) (cE : Cal P w K mg base 1 "is_ended" ["job"] (spLook CJ VM.J.ended))
    (cX : Cal P w K mg base 1 "fail" ["job", "cause"] (spFail CJ)) : Cal P w K mg base 2 "settle_job" ["house", "job"] (spSettleJob CH CJ) := by
  refine def_cal D scSettleJob (fun _ _ _ _ _ _ => bind2 fun _ _ => rfl) (fun vs H Q E h => ?_) (fun f cdv A outer s H vs Q E hr h => ?_)
  · obtain ⟨hs, jl, a, ad, m, k, rfl, _⟩ := h; rfl
  · obtain ⟨hs, jl, a, ad, m, k, rfl, hh, wf, ha, q⟩ := h
    refine HouseAt.useH hh fun dh h1 => ?_
    refine JobAt.use (hh.job k a ha) fun dx nl ob j1 j2 => ?_
    have hkn := hh.lt ha
    have eany := VM.causes_any wf (m.j k).needs
    have nay : ((m.j k).needs.all (fun d => (m.j d).ended) && (m.j k).needs.any (fun d => (m.j d).failed)) = false → ∀ H', Same H H' → Q .non H' := fun e H' s' => by
      refine q H' ?_ fun b o z _ => s' _ _ z
      unfold settled
      rw [e]
      exact ⟨dx, nl, s' _ _ j1, ob, s' _ _ j2⟩
    refine Bod.mk (pss_cons (ps_set (i := 2) scSettleJob.nd rfl (Or.inl rfl) (pe_lst pa_nil))
      (pss_cons (ps_for PassesOwn.never rfl (pi_listK K rfl (pe_fldK K rfl (pv 1) rfl)) (pg_name (i := 3) scSettleJob.nd rfl (Or.inl rfl))
        (pss_cons (ps_set (i := 4) scSettleJob.nd rfl (Or.inl rfl) (pe_ixK K rfl (pe_fldK K rfl (pv 0) rfl) (pv 3) (fun _ _ => rfl)))
        (pss_cons (ps_if (pt_not (pt_val (pe_cal cE hr rfl (pa_cons (pv 4) pa_nil)))) (pss_one ps_retN) pss_nil)
        (pss_one (ps_if (pt_val (pe_cal cF hr rfl (pa_cons (pv 4) pa_nil))) (pss_one (ps_expr (pe_bmK K rfl PySem.F.plainAttrs_list PySem.F.slot_list_append PySem.F.type_list_append mt_append (pv 2) (pa_cons (pe_fldK K rfl (pv 4) rfl) pa_nil)))) pss_nil)))))
      (pss_one (ps_if (pt_cmpR op_gt (pe_callB (call_lenK K rfl) rfl (T.no _ (by decide +kernel)) PySem.boot_len (pa_cons (pv 2) pa_nil)) pe_int (nomark _))
        (pss_one (ps_expr (pe_cal cX hr rfl (pa_cons (pv 1) (pa_cons (pe_callB (cr_minK K rfl rfl) rfl (T.no _ (by decide +kernel)) boot_min (pa_cons (pv 2) pa_nil)) pa_nil))))) pss_nil)))) ?_
    refine ⟨Nat.zero_le _, fun C hC => ?_⟩
    have sC : Same H (upd H C (.lst [])) := Same.upd hC
    refine ⟨_, rfl, _, ⟨a, CJ, dx, _, rfl, sC _ _ j1, T.clJ, T.aJ _ (by decide +kernel), jf_needs _ _ _⟩, nl, rfl, ⟨_, SqL.fz (sC _ _ j2)⟩, ?_⟩
    refine for_list (K := K) (a := nl) (xs := nz (m.j k).needs) (fun i σ H' => ∃ v v', σ = [some (.ref hs), some (.ref a), some (.ref C), v, v'] ∧ Same H H' ∧ H' C = some (.lst ((VM.causesOf m ((m.j k).needs.take i)).map fun (c : Nat) => V.int c)) ∧ ((m.j k).needs.take i).all (fun d => (m.j d).ended) = true)
      ⟨none, none, rfl, sC, upd_same, rfl⟩ (fun i σ H' _ ⟨_, _, _, s5, _⟩ => SqL.fz (s5 _ _ j2)) (fun i x σ H' hi ⟨v, v', e, s5, hC5, hall⟩ => ?_) (fun σ H' ⟨v, v', e, s5, hC5, hall⟩ => ?_)
    · subst e
      refine nz_use hi fun d hd => ?_
      have hdk := wf.needs k d (List.mem_of_getElem? hd)
      refine HouseAt.useA hh (show d < m.n by omega) fun b hb jb => ?_
      have jb5 := jb.same s5
      refine ⟨_, rfl, _, ⟨hs, CH, dh, _, rfl, s5 _ _ h1, T.clH, T.aH _ (by decide +kernel), hf_jobs jl m⟩, _, rfl, V.ref b, ⟨jl, _, _, rfl, rfl, SqL.of (s5 _ _ hh.lst), atI_nat (by rw [List.getElem?_map, hb]; rfl)⟩, ?_⟩
      refine ⟨_, rfl, _, ⟨b, d, m.j d, rfl, jb5, rfl⟩, _, rfl, ?_⟩
      cases hc : (m.j d).ended with
      | false => exact iteT (nay (by rw [all_false_at hd hc]; rfl) _ s5)
      | true =>
        have hall' : ((m.j k).needs.take (i + 1)).all (fun d => (m.j d).ended) = true := by
          rw [List.take_add_one, hd, List.all_append, hall]
          simp [hc]
        have etk : (m.j k).needs.take (i + 1) = (m.j k).needs.take i ++ [d] := by rw [List.take_add_one, hd]; rfl
        refine iteF ⟨_, rfl, _, ⟨b, d, m.j d, rfl, jb5, rfl⟩, _, rfl, ?_⟩
        refine JobAt.use (jb5) fun dy ny ob2 g1 g2 => ?_
        cases hf : (m.j d).failed with
        | false =>
          refine iteF ⟨_, _, rfl, s5, ?_, hall'⟩
          rw [hC5, etk, causes_snoc wf, hf]; simp
        | true =>
          have hlen : ((VM.causesOf m ((m.j k).needs.take i)).map fun (c : Nat) => V.int c).length < sizeLine := by
            rw [List.length_map]
            have z1 := causes_le m ((m.j k).needs.take i)
            have z2 := needs_small wf k
            rw [nz_len] at z2
            rw [List.length_take] at z1
            exact Nat.lt_of_le_of_lt (show _ ≤ 100000 by omega) (by decide)
          refine iteT ⟨_, rfl, .inl ⟨rfl, _, SqL.of hC5⟩, _, rfl, _, ⟨b, CJ, dy, _, rfl, g1, T.clJ, T.aJ _ (by decide +kernel), jf_cause _ _ _⟩, C, _, _, rfl, rfl, hC5, hlen, ?_⟩
          refine ⟨_, _, rfl, fun c o z => by rw [upd_ne (ne_of_none z hC)]; exact s5 _ _ z, ?_, hall'⟩
          rw [upd_same, etk, causes_snoc wf, hf]; rfl
    · subst e
      rw [nz_len, List.take_length] at hC5 hall
      refine ⟨_, rfl, C, _, rfl, .inl (SqL.of hC5), _, _, rfl, rfl, _, rfl, ?_⟩
      by_cases hc : 0 < (VM.causesOf m (m.j k).needs).length
      · rw [decide_eq_true (show (0 : Int) < (((VM.causesOf m (m.j k).needs).map fun (c : Nat) => V.int c).length : Nat) by rw [List.length_map]; omega)]
        have hCi : H' C = some (.lst (((VM.causesOf m (m.j k).needs).map fun (c : Nat) => (c : Int)).map V.int)) := by rw [hC5, List.map_map]; rfl
        refine iteT ⟨_, rfl, _, rfl, C, _, rfl, SqL.of hCi, by rw [List.length_map]; exact hc, fun c hc1 hc2 => ?_⟩
        have ec : c = ((Vastog.least (VM.causesOf m (m.j k).needs) : Nat) : Int) := by
          obtain ⟨c0, hc0, rfl⟩ := List.mem_map.mp hc1
          have l1 := VM.least_le hc0
          have l2 := hc2 _ (List.mem_map.mpr ⟨_, VM.least_mem (List.length_pos_iff.mp hc), rfl⟩)
          omega
        subst ec
        refine ⟨_, a, k, m.j k, rfl, ⟨dx, nl, s5 _ _ j1, ob, s5 _ _ j2⟩, fun H6 hj hb => q H6 ?_ fun b o z n => hb _ _ (s5 _ _ z) n⟩
        unfold settled
        rw [hall, eany, decide_eq_true hc]
        exact hj
      · exact iteN (decide_eq_false (show ¬ (0 : Int) < (((VM.causesOf m (m.j k).needs).map fun (c : Nat) => V.int c).length : Nat) by rw [List.length_map]; omega)) (nay (by rw [eany, decide_eq_false hc, Bool.and_false]) _ s5)
end
end SH
end
section
set_option Elab.async false
set_option linter.all false
set_option maxRecDepth 100000
set_option maxHeartbeats 4000000
namespace SH
open PySem PySem.Spec PyProof.Rows L2
theorem upd_self {m : VM.M} {k : Nat} (h : k < m.n) : m.upd k (m.j k) = m := by
  unfold VM.M.upd
  have e : m.jobs.set k (m.j k) = m.jobs := by
    refine List.ext_getElem? fun i => ?_
    by_cases q : i = k
    · subst q; rw [List.getElem?_set_self h, VM.M.j_at h]
    · rw [List.getElem?_set_ne (Ne.symm q)]
  rw [e]
theorem settleOne_yes {wl : List Bool} {m : VM.M} {k : Nat} (h : k < m.n) (hw : wl.getD k false = true) (ho : (m.j k).open_ = true) (hr : (m.j k).running = false) : VM.settleOne wl m k = m.upd k (settled m k) := by
  unfold VM.settleOne VM.hands settled
  rw [hw, ho, hr]
  cases hc : ((m.j k).needs.all fun d => (m.j d).ended) <;> cases hd : ((m.j k).needs.any fun d => (m.j d).failed)
  · rw [if_neg (by simp), if_neg (by simp), upd_self h]
  · rw [if_neg (by simp), if_neg (by simp), upd_self h]
  · rw [if_neg (by simp), if_neg (by simp), upd_self h]
  · rw [if_pos (by simp), if_pos (by simp)]; rfl
theorem settleOne_no {wl : List Bool} {m : VM.M} {k : Nat} (h : (wl.getD k false && (m.j k).open_ && !(m.j k).running) = false) : VM.settleOne wl m k = m := by
  unfold VM.settleOne VM.hands
  rw [h]
  simp
section
variable {P : Program} {w : World} {K : PySem.W.Frag} {mg : Str → Option Value} {base : Heap} {CH CJ : Addr}
inductive UChange (CH CJ : Addr) (f : VM.M → VM.M) (vs : List V) (H : Hp) (Q : VK) : Prop
  | mk (hs jl : Addr) (ad : List Addr) (m : VM.M) (h0 : vs = [.ref hs]) (h1 : HouseAt CH CJ H hs jl ad m) (h2 : VM.WF m) (h3 : ∀ H', HouseAt CH CJ H' hs jl ad (f m) → Kp CJ H H' → Q .non H') : UChange CH CJ f vs H Q
noncomputable def spChange (CH CJ : Addr) (f : VM.M → VM.M) : Sp := fun vs H Q _ => UChange CH CJ f vs H Q
theorem c_settle (T : Txt K mg CH CJ) (D : DefIn K mg "settle" sSettle) (cM : Cal P w K mg base 2 "wanted_marks" ["house"] (spMarks CH CJ)) (cR : Cal P w K mg base 1 "is_running" ["job"] (spLook CJ VM.J.running))
    (cS : Cal P w K mg base 2 "settle_job" ["house", "job"] (spSettleJob CH CJ)) : Cal P w K mg base 3 "settle" ["house"] (spChange CH CJ VM.settleM) := by
  refine def_cal D scSettle (fun _ _ _ _ _ _ => bind1 fun _ => rfl) (fun vs H Q E h => ?_) (fun f cdv A outer s H vs Q E hr h => ?_)
  · obtain ⟨hs, jl, ad, m, rfl, _⟩ := h; rfl
  · obtain ⟨hs, jl, ad, m, rfl, hh, wf, q⟩ := h
    have hr1 : Room 1 _ := hr.mono (by decide)
    refine Bod.mk (pss_cons (ps_set (i := 1) scSettle.nd rfl (Or.inl rfl) (pe_cal cM hr rfl (pa_cons (pv 0) pa_nil))) (pss_one (ps_for PassesOwn.never rfl (pi_listK K rfl (pe_fldK K rfl (pv 0) rfl)) (pg_name (i := 2) scSettle.nd rfl (Or.inl rfl))
      (pss_one (ps_if (PW.pt (pw_and (pt_val (pe_ixK K rfl (pv 1) (pe_fldK K rfl (pv 2) rfl) (fun _ _ => rfl))) (pw_and (pt_val (pe_fldK K rfl (pv 2) rfl)) (pw_and (pt_not (pt_val (pe_fldK K rfl (pv 2) rfl))) (pw_and1 (pt_not (pt_val (pe_cal cR hr1 rfl (pa_cons (pv 2) pa_nil)))))))))
        (pss_one (ps_expr (pe_cal cS hr rfl (pa_cons (pv 0) (pa_cons (pv 2) pa_nil))))) pss_nil))))) ?_
    refine ⟨_, rfl, hs, jl, ad, m, rfl, hh, wf, fun H2 M s2 hM hM2 => ?_⟩
    have hh2 := hh.same s2
    refine HouseAt.useH hh2 fun dh h1 => ?_
    refine ⟨_, rfl, _, ⟨hs, CH, dh, _, rfl, h1, T.clH, T.aH _ (by decide +kernel), hf_jobs jl m⟩, jl, rfl, ⟨_, SqL.of hh2.lst⟩, ?_⟩
    refine for_list (K := K) (a := jl) (xs := ad.map V.ref) (fun i σ H' => ∃ vj, σ = [some (.ref hs), some (.ref M), vj] ∧ HouseAt CH CJ H' hs jl ad (VM.settleTo m i) ∧ Kp CJ H H' ∧ H' M = some (.lst ((VM.marks m).map V.bl)))
      ⟨none, rfl, hh2, Kp.of s2, hM2⟩ (fun i σ H' _ ⟨_, _, h5, _⟩ => SqL.of h5.lst) (fun i x σ H' hi ⟨vj, e, h5, k5, m5⟩ => ?_) (fun σ H' ⟨vj, e, h5, k5, m5⟩ => ?_)
    · subst e
      refine ref_use hi fun a ha => ?_
      have hin : i < m.n := hh.lt ha
      have tl := VM.settleTo_till wf i (Nat.le_of_lt hin)
      have esucc := VM.settleTo_succ m i
      generalize hmi : VM.settleTo m i = mi at h5 tl esucc
      have hin' : i < mi.n := by rw [tl.n]; exact hin
      refine JobAt.use (h5.job i a ha) fun dx nl ob j1 j2 => ?_
      have stay : ((VM.marks m).getD i false && (mi.j i).open_ && !(mi.j i).running) = false → ∃ vj, [some (V.ref hs), some (.ref M), some (.ref a)] = [some (V.ref hs), some (.ref M), vj] ∧ HouseAt CH CJ H' hs jl ad (VM.settleTo m (i + 1)) ∧ Kp CJ H H' ∧ H' M = some (.lst ((VM.marks m).map V.bl)) := fun e => by
        rw [esucc, settleOne_no e]
        exact ⟨_, rfl, h5, k5, m5⟩
      refine ⟨_, rfl, _, rfl, _, ⟨a, CJ, dx, _, rfl, j1, T.clJ, T.aJ _ (by decide +kernel), jf_number _ _ _⟩, _, ⟨M, _, _, rfl, rfl, SqL.of m5, atI_nat (bls_at (by rw [VM.marks_length]; exact hin))⟩, _, rfl, ?_⟩
      cases e1 : (VM.marks m).getD i false with
      | false => exact iteF (iteF (stay (by rw [e1]; rfl)))
      | true =>
        refine iteT ⟨_, rfl, _, ⟨a, CJ, dx, _, rfl, j1, T.clJ, T.aJ _ (by decide +kernel), jf_answered _ _ _⟩, _, rfl, ?_⟩
        cases e2 : (mi.j i).answered with
        | false => exact iteF (iteF (stay (by unfold VM.J.open_; rw [e1, e2]; rfl)))
        | true =>
          refine iteT ⟨_, rfl, _, ⟨a, CJ, dx, _, rfl, j1, T.clJ, T.aJ _ (by decide +kernel), jf_cached _ _ _⟩, _, rfl, ?_⟩
          cases e3 : (mi.j i).cached with
          | true => exact iteF (iteF (stay (by unfold VM.J.open_; rw [e1, e2, e3]; rfl)))
          | false =>
            refine iteT ⟨_, rfl, _, ⟨a, i, mi.j i, rfl, ⟨dx, nl, j1, ob, j2⟩, rfl⟩, _, rfl, ?_⟩
            cases e4 : (mi.j i).running with
            | true => exact iteF (stay (by rw [e4]; simp))
            | false =>
              refine iteT ⟨_, rfl, _, rfl, hs, jl, a, ad, mi, i, rfl, h5, tl.wf, ha, fun H6 hj hb => ?_⟩
              refine ⟨_, rfl, ?_, k5.trans (h5.kp ha hb hj), (h5.kp ha hb hj).lst m5⟩
              rw [esucc, settleOne_yes hin' e1 (by unfold VM.J.open_; rw [e2, e3]; rfl) e4]
              exact h5.step ha hj hb
    · subst e
      rw [List.length_map, hh.len, VM.settleTo_end] at h5
      exact q H' h5 k5
end
end SH
end
section
set_option Elab.async false
set_option linter.all false
set_option maxRecDepth 100000
set_option maxHeartbeats 4000000
namespace SH
open PySem PySem.Spec PyProof.Rows L2
structure TxC (mg : Str → Option Value) : Prop where
  gJOB : GI mg "JOB" (-1)
  gRANGE : GI mg "RANGE" (-2)
  gLIMIT : GI mg "LIMIT" (-3)
  gIDLE : GI mg "IDLE" (-4)
  gMJ : GI mg "MOST_JOBS" 64
  gMG : GI mg "MOST_GOALS" 64
  gMW : GI mg "MOST_WEIGHT" 8
  gMK : GI mg "MOST_WORKERS" 8
  gMS : GI mg "MOST_SCHEDULED" 512
  gS0 : GI mg "STATUS_NOT_WANTED" 0
  gS1 : GI mg "STATUS_NOT_ANSWERED" 1
  gS2 : GI mg "STATUS_NEEDS_MISSING" 2
  gS3 : GI mg "STATUS_READY" 3
  gS4 : GI mg "STATUS_RUNNING" 4
  gS5 : GI mg "STATUS_BUILT" 5
  gS6 : GI mg "STATUS_FETCHED" 6
  gS7 : GI mg "STATUS_FAILED" 7
structure Fr0 (CJ hs jl : Addr) (H H' : Hp) : Prop where
  keep : ∀ b o, H b = some o → b ≠ hs → b ≠ jl → (∀ dx fs, o ≠ .ins CJ dx fs) → H' b = some o
  live : ∀ b, H b ≠ none → H' b ≠ none
theorem Kp.fr {CJ hs jl : Addr} {H H' : Hp} (k : Kp CJ H H') : Fr0 CJ hs jl H H' := ⟨fun b o e _ _ n => k.keep b o e n, k.live⟩
theorem same_fr {CJ hs jl : Addr} {H H' : Hp} (k : Same H H') : Fr0 CJ hs jl H H' := ⟨fun b o e _ _ _ => k b o e, same_some k⟩
theorem Fr0.trans {CJ hs jl : Addr} {H H1 H2 : Hp} (a : Fr0 CJ hs jl H H1) (b : Fr0 CJ hs jl H1 H2) : Fr0 CJ hs jl H H2 := ⟨fun c o e n1 n2 n3 => b.keep c o (a.keep c o e n1 n2 n3) n1 n2 n3, fun c h => b.live c (a.live c h)⟩
theorem fresh_of {H H' : Hp} (h : ∀ b, H b ≠ none → H' b ≠ none) {p : Addr} (hp : H' p = none) : H p = none := by
  cases e : H p with
  | none => rfl
  | some o => exact absurd hp (h p (by rw [e]; simp))
noncomputable def PostC (CH CJ hs jl : Addr) (H : Hp) (mo : VM.M × List Int) (Q : VK) : Prop := ∀ H' p ad', HouseAt CH CJ H' hs jl ad' mo.1 → H p = none → H' p = some (.lst (mo.2.map V.int)) → Fr0 CJ hs jl H H' → Q (.ref p) H'
section
variable {P : Program} {w : World} {K : PySem.W.Frag} {mg : Str → Option Value} {base : Heap} {CH CJ : Addr}
theorem PostC.one {hs jl : Addr} {H H1 : Hp} {ad : List Addr} {m : VM.M} {z : Int} {mo : VM.M × List Int} {Q : VK} (q : PostC CH CJ hs jl H mo Q) (e : mo = (m, [z])) (hh : HouseAt CH CJ H1 hs jl ad m) (s : Fr0 CJ hs jl H H1) :
    tLst (tCons (tC (.int z)) tNil) [] H1 Q := by
  subst e
  exact ⟨(by show 1 ≤ sizeLine; decide), fun p hpn => q _ p ad (hh.same (Same.upd hpn)) (fresh_of s.live hpn) upd_same (s.trans (same_fr (Same.upd hpn)))⟩
noncomputable abbrev sAreJobs : Stmt := top 51
noncomputable abbrev sIsMark : Stmt := top 52
theorem scAreJobs : FnScope ["house", "numbers", "number"] ["house", "numbers"] (defScope sAreJobs) := sc_mk rfl rfl rfl rfl (by decide +kernel)
theorem scIsMark : FnScope ["number"] ["number"] (defScope sIsMark) := sc_mk rfl rfl rfl rfl (by decide +kernel)
inductive UIsMark  (vs : List V) (H : Hp) (Q : VK) : Prop
  | mk (n : Int) (h0 : vs = [.int n]) (h1 : Q (.bl (Vastog.bit n)) H) : UIsMark  vs H Q
noncomputable def spIsMark : Sp := fun vs H Q _ => UIsMark vs H Q
theorem dec_int1 {a b : Int} : decide (V.int a = V.int b) = (a == b) := dec_int
theorem c_isMark (D : DefIn K mg "is_mark" sIsMark) : Cal P w K mg base 1 "is_mark" ["number"] spIsMark := by
  refine def_cal D scIsMark (fun _ _ _ _ _ _ => bind1 fun _ => rfl) (fun vs H Q E h => ?_) (fun f cdv A outer s H vs Q E hr h => ?_)
  · obtain ⟨n, rfl, _⟩ := h; rfl
  · obtain ⟨n, rfl, q⟩ := h
    refine Bod.mk (pss_one (ps_ret (pe_or (pe_cmpR op_eq (pv 0) pe_int (nomark _)) (pe_one (pe_cmpR op_eq (pv 0) pe_int (nomark _)))))) ?_
    refine ⟨_, rfl, rfl, _, rfl, ?_⟩
    have e1 : decide (V.int n = V.int 0) = (n == 0) := dec_int
    have e2 : decide (V.int n = V.int 1) = (n == 1) := dec_int
    rw [e1]
    unfold Vastog.bit at q
    cases hc : (n == 0) with
    | true => rw [hc] at q; exact iteT q
    | false =>
      rw [hc] at q
      refine iteF ⟨_, rfl, rfl, ?_⟩
      exact (congrArg (fun b => Q (.bl b) H) e2).mpr q
inductive UAreJobs (K : PySem.W.Frag) (CH CJ : Addr) (vs : List V) (H : Hp) (Q : VK) : Prop
  | mk (hs jl nb : Addr) (ad : List Addr) (m : VM.M) (ns : List Int) (h0 : vs = [.ref hs, .ref nb]) (h1 : HouseAt CH CJ H hs jl ad m) (h2 : SqL K H nb (ns.map V.int)) (h3 : ns.length ≤ 100000) (h4 : ∀ H', Same H H' → Q (.bl (ns.all (VM.isJob m))) H') : UAreJobs K CH CJ vs H Q
noncomputable def spAreJobs (K : PySem.W.Frag) (CH CJ : Addr) : Sp := fun vs H Q _ => UAreJobs K CH CJ vs H Q
theorem int_at {ns : List Int} {i : Nat} {x : V} (h : (ns.map V.int)[i]? = some x) : ∃ z, ns[i]? = some z ∧ x = V.int z := by
  rw [List.getElem?_map] at h
  cases e : ns[i]? with
  | none => rw [e] at h; cases h
  | some z => rw [e] at h; exact ⟨z, rfl, (Option.some.inj h).symm⟩
@[elab_as_elim] theorem int_use {ns : List Int} {i : Nat} {motive : V → Prop} {x : V} (h : (ns.map V.int)[i]? = some x) (f : ∀ z, ns[i]? = some z → motive (V.int z)) : motive x :=
  let ⟨z, h1, h2⟩ := int_at h; h2 ▸ f z h1
theorem range_int_map {α : Type} (f : Int → α) (l : List Int) : (List.range l.length).map (fun i => f (l.getD i 0)) = l.map f := by
  have := VM.pick_map 0 (fun _ => true) f l
  rw [List.filter_eq_self.mpr (fun _ _ => rfl), List.filter_eq_self.mpr (fun _ _ => rfl)] at this
  exact this
theorem c_areJobs (T : Txt K mg CH CJ) (D : DefIn K mg "are_jobs" sAreJobs) : Cal P w K mg base 1 "are_jobs" ["house", "numbers"] (spAreJobs K CH CJ) := by
  refine def_cal D scAreJobs (fun _ _ _ _ _ _ => bind2 fun _ _ => rfl) (fun vs H Q E h => ?_) (fun f cdv A outer s H vs Q E hr h => ?_)
  · obtain ⟨hs, jl, nb, ad, m, ns, rfl, _⟩ := h; rfl
  · obtain ⟨hs, jl, nb, ad, m, ns, rfl, hh, hn, hl, q⟩ := h
    refine HouseAt.useH hh fun dh h1 => ?_
    refine Bod.mk (pss_one (ps_ret (pe_callB (cr_allK K rfl rfl) rfl (T.no _ (by decide +kernel)) boot_all (pa_cons (pe_lc (own := [("number", 2)]) rfl scAreJobs.nd (pi_listK K rfl (pv 1)) (blkOk_by (N := ["house", "numbers", "number"]) (sc := defScope sAreJobs) (by decide +kernel)) (fun _ _ _ _ _ => pg_name (i := 2) scAreJobs.nd rfl (Or.inl rfl)) (fun _ _ _ _ _ => pts_nil)
      (fun _ _ _ _ _ => pe_chain op_le op_lt pe_int (pv 2) (pe_callB (call_lenK K rfl) rfl (T.no _ (by decide +kernel)) PySem.boot_len (pa_cons (pe_fldK K rfl (pv 0) rfl) pa_nil)))) pa_nil)))) ?_
    refine ⟨_, rfl, nb, rfl, ⟨_, hn⟩, fun L hL => ?_⟩
    refine lc_all (K := K) (fun i => .bl (VM.isJob m (ns.getD i 0))) hn hL (by rw [List.length_map]; exact hl) (fun i x H2 hi hS A hA => ?_) (fun H2 hS hy => ?_)
    · refine int_use hi fun z hz => ?_
      have ez : ns.getD i 0 = z := by rw [List.getD_eq_getElem?_getD, hz]; rfl
      rw [ez] at hA
      refine ⟨rfl, _, rfl, _, _, rfl, rfl, _, rfl, ?_⟩
      refine ite2 (fun hc => ?_) (fun hc => ?_)
      · have hc : (0 : Int) ≤ z := of_decide_eq_true hc
        refine ⟨_, rfl, _, ⟨hs, CH, dh, _, rfl, hS _ _ h1, T.clH, T.aH _ (by decide +kernel), hf_jobs jl m⟩, jl, _, rfl, .inl (SqL.of (hS _ _ hh.lst)), _, _, rfl, rfl, ?_⟩
        have e : decide (z < ((ad.map V.ref).length : Nat)) = VM.isJob m z := by
          unfold VM.isJob
          rw [List.length_map, hh.len, decide_eq_true hc, Bool.true_and]
        exact (congrArg (fun b => A (.bl b) H2) e).mpr (hA _ (Same.refl _))
      · have hc : ¬ (0 : Int) ≤ z := of_decide_eq_false (by simpa using hc)
        have e : false = VM.isJob m z := by
          unfold VM.isJob
          rw [decide_eq_false hc, Bool.false_and]
        exact (congrArg (fun b => A (.bl b) H2) e).mpr (hA _ (Same.refl _))
    · have e : ((List.range (ns.map V.int).length).map fun i => V.bl (VM.isJob m (ns.getD i 0))) = (ns.map (VM.isJob m)).map V.bl := by
        rw [List.length_map, range_int_map (fun z => V.bl (VM.isJob m z)), List.map_map]; rfl
      rw [e] at hy
      refine ⟨L, _, rfl, SqL.of hy, ?_⟩
      have e2 : (ns.map (VM.isJob m)).all id = ns.all (VM.isJob m) := by rw [List.all_map]; rfl
      exact (congrArg (fun b => Q (.bl b) H2) e2).mpr (q H2 hS)
end
end SH
end
section
set_option Elab.async false
set_option linter.all false
set_option maxRecDepth 100000
set_option maxHeartbeats 4000000
namespace SH
open PySem PySem.Spec PyProof.Rows L2
section
variable {P : Program} {w : World} {K : PySem.W.Frag} {mg : Str → Option Value} {base : Heap} {CH CJ : Addr}
theorem HouseAt.setH {H : Hp} {hs jl dh : Addr} {ad : List Addr} {m m' : VM.M} (h : HouseAt CH CJ H hs jl ad m) (e : H hs = some (.ins CH dh (hf jl m))) (hj : m'.jobs = m.jobs) : HouseAt CH CJ (upd H hs (.ins CH dh (hf jl m'))) hs jl ad m' := by
  have hn : m'.n = m.n := by unfold VM.M.n; rw [hj]
  refine ⟨⟨dh, upd_same⟩, by rw [upd_ne (ne_of h.lst e (by intro q; cases q))]; exact h.lst, h.nd, by rw [hn]; exact h.len, fun k a ea => ?_⟩
  refine JobAt.use (h.job k a ea) fun dx nl ob g1 g2 => ?_
  have ej : m'.j k = m.j k := by unfold VM.M.j; rw [hj]
  refine ⟨dx, nl, ?_, ob, ?_⟩
  · rw [upd_ne (ne_of g1 e jf_hf), ej]; exact g1
  · rw [upd_ne (ne_of g2 e (by intro q; cases q)), ej]; exact g2
theorem some_upd {H : Hp} {a : Addr} {o : HO} : ∀ b, H b ≠ none → upd H a o b ≠ none := fun b h => by
  by_cases e : b = a
  · subst e; rw [upd_same]; simp
  · rw [upd_ne e]; exact h
theorem Fr0.setH {H : Hp} {hs jl : Addr} {o : HO} : Fr0 CJ hs jl H (upd H hs o) := ⟨fun b u e n _ _ => by rw [upd_ne n]; exact e, some_upd⟩
theorem t_between {i : Nat} {lo hi n : Int} {σ : L2.St} {H : Hp} {Q : Bool → Hp → Prop} (hv : σ[i]? = some (some (.int n))) (h : Q (decide (lo ≤ n) && decide (n ≤ hi)) H) :
    tTest (tChain (rI0 fun a b => .bl (decide (a ≤ b))) (rI0 fun a b => .bl (decide (a ≤ b))) (tC (.int lo)) (tVar i) (tC (.int hi))) σ H Q := by
  refine ⟨_, hv, _, _, rfl, rfl, _, rfl, ?_⟩
  by_cases hc : lo ≤ n
  · rw [decide_eq_true hc] at h ⊢
    exact iteT ⟨_, _, rfl, rfl, _, rfl, h⟩
  · rw [decide_eq_false hc] at h ⊢
    exact iteF ⟨_, rfl, h⟩
noncomputable abbrev sSetWorkers : Stmt := top 54
noncomputable abbrev sSetKeep : Stmt := top 55
theorem scSetWorkers : FnScope ["house", "count"] ["house", "count"] (defScope sSetWorkers) := sc_mk rfl rfl rfl rfl (by decide +kernel)
theorem scSetKeep : FnScope ["house", "mark"] ["house", "mark"] (defScope sSetKeep) := sc_mk rfl rfl rfl rfl (by decide +kernel)
inductive UNum (CH CJ : Addr) (c : Int → Vastog.Call) (vs : List V) (H : Hp) (Q : VK) : Prop
  | mk (hs jl : Addr) (ad : List Addr) (m : VM.M) (n : Int) (h0 : vs = [.ref hs, .int n]) (h1 : HouseAt CH CJ H hs jl ad m) (h2 : VM.WF m) (h3 : PostC CH CJ hs jl H (VM.stepM m (c n)) Q) : UNum CH CJ c vs H Q
noncomputable def spNum (CH CJ : Addr) (c : Int → Vastog.Call) : Sp := fun vs H Q _ => UNum CH CJ c vs H Q
inductive UNil (CH CJ : Addr) (c : Vastog.Call) (vs : List V) (H : Hp) (Q : VK) : Prop
  | mk (hs jl : Addr) (ad : List Addr) (m : VM.M) (h0 : vs = [.ref hs]) (h1 : HouseAt CH CJ H hs jl ad m) (h2 : VM.WF m) (h3 : PostC CH CJ hs jl H (VM.stepM m c) Q) : UNil CH CJ c vs H Q
noncomputable def spNil (CH CJ : Addr) (c : Vastog.Call) : Sp := fun vs H Q _ => UNil CH CJ c vs H Q
inductive URow (K : PySem.W.Frag) (CH CJ : Addr) (c : List Int → Vastog.Call) (vs : List V) (H : Hp) (Q : VK) : Prop
  | mk (hs jl nb : Addr) (ad : List Addr) (m : VM.M) (l : List Int) (h0 : vs = [.ref hs, .ref nb]) (h1 : HouseAt CH CJ H hs jl ad m) (h2 : VM.WF m) (h3 : SqL K H nb (l.map V.int)) (h4 : nb ≠ jl) (h5 : l.length ≤ 100000) (h6 : PostC CH CJ hs jl H (VM.stepM m (c l)) Q) : URow K CH CJ c vs H Q
noncomputable def spRow (K : PySem.W.Frag) (CH CJ : Addr) (c : List Int → Vastog.Call) : Sp := fun vs H Q _ => URow K CH CJ c vs H Q
theorem c_setWorkers (T : Txt K mg CH CJ) (TC : TxC mg) (D : DefIn K mg "set_workers" sSetWorkers) : Cal P w K mg base 1 "set_workers" ["house", "count"] (spNum CH CJ .workers) := by
  refine def_cal D scSetWorkers (fun _ _ _ _ _ _ => bind2 fun _ _ => rfl) (fun vs H Q E h => ?_) (fun f cdv A outer s H vs Q E hr h => ?_)
  · obtain ⟨hs, jl, ad, m, n, rfl, _⟩ := h; rfl
  · obtain ⟨hs, jl, ad, m, n, rfl, hh, wf, q⟩ := h
    refine HouseAt.useH hh fun dh h1 => ?_
    have bad : (n < 1 ∨ 8 < n) → tLst (tCons (tC (.int (-2))) tNil) [] H Q := fun hb => q.one (m := m) (by show (if n < 1 ∨ 8 < n then (m, [-2]) else _) = _; rw [if_pos hb]) hh (same_fr (Same.refl _))
    refine Bod.mk (pss_cons (ps_if (pt_not (pt_chain op_le op_le pe_int (pv 1) (pe_gi TC.gMK rfl))) (pss_one (ps_ret (pe_lst (pa_cons (pe_gi TC.gRANGE rfl) pa_nil)))) pss_nil) (pss_cons (ps_fldK K rfl (pv 0) (pv 1) rfl) (pss_one (ps_ret (pe_lst (pa_cons pe_int pa_nil)))))) ?_
    refine t_between (n := n) rfl ?_
    by_cases hb : n < 1 ∨ 8 < n
    · have e : (decide ((1 : Int) ≤ n) && decide (n ≤ 8)) = false := by
        rw [Bool.and_eq_false_iff, decide_eq_false_iff_not, decide_eq_false_iff_not]; omega
      rw [e]
      exact iteT (bad hb)
    · have e : (decide ((1 : Int) ≤ n) && decide (n ≤ 8)) = true := by
        rw [Bool.and_eq_true, decide_eq_true_eq, decide_eq_true_eq]; omega
      rw [e]
      obtain ⟨k, rfl⟩ : ∃ k : Nat, n = (k : Int) := ⟨n.toNat, by omega⟩
      refine iteF ⟨_, rfl, _, rfl, _, ⟨hs, CH, dh, _, rfl, h1, T.clH, T.aH _ (by decide +kernel), hf_len _ _, rfl⟩, ?_⟩
      exact q.one (m := { m with workers := k }) (by show (if (k : Int) < 1 ∨ 8 < (k : Int) then _ else _) = _; rw [if_neg hb, Int.toNat_natCast]) (hh.setH (m' := { m with workers := k }) h1 rfl) Fr0.setH
theorem c_setKeep (T : Txt K mg CH CJ) (TC : TxC mg) (D : DefIn K mg "set_keep" sSetKeep) (cI : Cal P w K mg base 1 "is_mark" ["number"] spIsMark) : Cal P w K mg base 2 "set_keep" ["house", "mark"] (spNum CH CJ .keep) := by
  refine def_cal D scSetKeep (fun _ _ _ _ _ _ => bind2 fun _ _ => rfl) (fun vs H Q E h => ?_) (fun f cdv A outer s H vs Q E hr h => ?_)
  · obtain ⟨hs, jl, ad, m, n, rfl, _⟩ := h; rfl
  · obtain ⟨hs, jl, ad, m, n, rfl, hh, wf, q⟩ := h
    refine HouseAt.useH hh fun dh h1 => ?_
    refine Bod.mk (pss_cons (ps_if (pt_not (pt_val (pe_cal cI hr rfl (pa_cons (pv 1) pa_nil)))) (pss_one (ps_ret (pe_lst (pa_cons (pe_gi TC.gRANGE rfl) pa_nil)))) pss_nil) (pss_cons (ps_fldK K rfl (pv 0) (pe_cmpR op_eq (pv 1) pe_int (nomark _)) rfl) (pss_one (ps_ret (pe_lst (pa_cons pe_int pa_nil)))))) ?_
    refine ⟨_, rfl, n, rfl, _, rfl, ?_⟩
    cases hb : Vastog.bit n with
    | false => exact iteT (q.one (m := m) (by show (if (!Vastog.bit n) = true then (m, [-2]) else _) = _; rw [hb]; rfl) hh (same_fr (Same.refl _)))
    | true =>
      refine iteF ⟨_, rfl, rfl, _, rfl, _, ⟨hs, CH, dh, _, rfl, h1, T.clH, T.aH _ (by decide +kernel), hf_len _ _, rfl⟩, ?_⟩
      have e1 : decide (V.int n = V.int 1) = (n == 1) := dec_int
      rw [e1]
      exact q.one (m := { m with keep := n == 1 }) (by show (if (!Vastog.bit n) = true then (m, [-2]) else _) = _; rw [hb]; rfl) (hh.setH (m' := { m with keep := n == 1 }) h1 rfl) Fr0.setH
end
end SH
end
section
set_option Elab.async false
set_option linter.all false
set_option maxRecDepth 100000
set_option maxHeartbeats 4000000
namespace SH
open PySem PySem.Spec PyProof.Rows L2
section
variable {P : Program} {w : World} {K : PySem.W.Frag} {mg : Str → Option Value} {base : Heap} {CH CJ : Addr}
noncomputable abbrev sMarkGoals : Stmt := top 56
noncomputable abbrev sAddGoals : Stmt := top 57
noncomputable abbrev sDropGoals : Stmt := top 58
noncomputable abbrev sListEvents : Stmt := top 59
noncomputable abbrev sForget : Stmt := top 66
theorem scMarkGoals : FnScope ["house", "numbers", "goal", "number", "job"] ["house", "numbers", "goal"] (defScope sMarkGoals) := sc_mk rfl rfl rfl rfl (by decide +kernel)
theorem scAddGoals : FnScope ["house", "numbers", "answer"] ["house", "numbers"] (defScope sAddGoals) := sc_mk rfl rfl rfl rfl (by decide +kernel)
theorem scDropGoals : FnScope ["house", "numbers"] ["house", "numbers"] (defScope sDropGoals) := sc_mk rfl rfl rfl rfl (by decide +kernel)
theorem scListEvents : FnScope ["house", "answer", "event"] ["house"] (defScope sListEvents) := sc_mk rfl rfl rfl rfl (by decide +kernel)
theorem scForget : FnScope ["house", "job"] ["house"] (defScope sForget) := sc_mk rfl rfl rfl rfl (by decide +kernel)
noncomputable def markG (m : VM.M) (l : List Int) (b : Bool) : VM.M × Int := if 64 < l.length then (m, -3) else if !l.all (VM.isJob m) then (m, -1) else (VM.setGoals m (l.map Int.toNat) b, 0)
inductive UMarkGoals (K : PySem.W.Frag) (CH CJ : Addr) (vs : List V) (H : Hp) (Q : VK) : Prop
  | mk (hs jl nb : Addr) (ad : List Addr) (m : VM.M) (l : List Int) (b : Bool) (h0 : vs = [.ref hs, .ref nb, .bl b]) (h1 : HouseAt CH CJ H hs jl ad m) (h2 : SqL K H nb (l.map V.int)) (h3 : l.length ≤ 100000) (h4 : ∀ H', HouseAt CH CJ H' hs jl ad (markG m l b).1 → Kp CJ H H' → Q (.int (markG m l b).2) H') : UMarkGoals K CH CJ vs H Q
noncomputable def spMarkGoals (K : PySem.W.Frag) (CH CJ : Addr) : Sp := fun vs H Q _ => UMarkGoals K CH CJ vs H Q
theorem c_markGoals (T : Txt K mg CH CJ) (TC : TxC mg) (D : DefIn K mg "mark_goals" sMarkGoals) (cA : Cal P w K mg base 1 "are_jobs" ["house", "numbers"] (spAreJobs K CH CJ)) : Cal P w K mg base 2 "mark_goals" ["house", "numbers", "goal"] (spMarkGoals K CH CJ) := by
  refine def_cal D scMarkGoals (fun _ _ _ _ _ _ => bind3 fun _ _ _ => rfl) (fun vs H Q E h => ?_) (fun f cdv A outer s H vs Q E hr h => ?_)
  · obtain ⟨hs, jl, nb, ad, m, l, b, rfl, _⟩ := h; rfl
  · obtain ⟨hs, jl, nb, ad, m, l, b, rfl, hh, hn, hl, q⟩ := h
    refine Bod.mk (pss_cons (ps_if (pt_cmpR op_gt (pe_callB (call_lenK K rfl) rfl (T.no _ (by decide +kernel)) PySem.boot_len (pa_cons (pv 1) pa_nil)) (pe_gi TC.gMG rfl) (nomark _)) (pss_one (ps_ret (pe_gi TC.gLIMIT rfl))) pss_nil)
      (pss_cons (ps_if (pt_not (pt_val (pe_cal cA hr rfl (pa_cons (pv 0) (pa_cons (pv 1) pa_nil))))) (pss_one (ps_ret (pe_gi TC.gJOB rfl))) pss_nil)
      (pss_cons (ps_for PassesOwn.never rfl (pi_listK K rfl (pv 1)) (pg_name (i := 3) scMarkGoals.nd rfl (Or.inl rfl)) (pss_cons (ps_set (i := 4) scMarkGoals.nd rfl (Or.inl rfl) (pe_ixK K rfl (pe_fldK K rfl (pv 0) rfl) (pv 3) (fun _ _ => rfl))) (pss_one (ps_fldK K rfl (pv 4) (pv 2) rfl))))
      (pss_one (ps_ret pe_int))))) ?_
    refine ⟨_, rfl, nb, _, rfl, .inl hn, _, _, rfl, rfl, _, rfl, ?_⟩
    by_cases h1 : 64 < l.length
    · have e : markG m l b = (m, -3) := by unfold markG; rw [if_pos h1]
      rw [e] at q
      exact iteY (decide_eq_true (show (64 : Int) < ((l.map V.int).length : Nat) by rw [List.length_map]; omega)) (q H hh Kp.refl)
    refine iteN (decide_eq_false (show ¬ (64 : Int) < ((l.map V.int).length : Nat) by rw [List.length_map]; omega)) ⟨_, rfl, _, rfl, hs, jl, nb, ad, m, l, rfl, hh, hn, hl, fun H2 s2 => ⟨_, rfl, ?_⟩⟩
    cases h2 : l.all (VM.isJob m) with
    | false =>
      have e : markG m l b = (m, -1) := by unfold markG; rw [if_neg h1, h2]; rfl
      rw [e] at q
      exact iteT (q H2 (hh.same s2) (Kp.of s2))
    | true =>
      have e : markG m l b = (VM.setGoals m (l.map Int.toNat) b, 0) := by unfold markG; rw [if_neg h1, h2]; rfl
      rw [e] at q
      have hlt := VM.allJobs_lt h2
      refine iteF ⟨_, rfl, nb, rfl, ⟨_, s2.seq hn⟩, ?_⟩
      refine for_list (K := K) (a := nb) (xs := l.map V.int) (fun i σ H' => ∃ v1 v2, σ = [some (.ref hs), some (.ref nb), some (.bl b), v1, v2] ∧ HouseAt CH CJ H' hs jl ad (VM.setGoals m ((l.map Int.toNat).take i) b) ∧ Kp CJ H H')
        ⟨none, none, rfl, hh.same s2, Kp.of s2⟩ (fun i σ H' _ ⟨_, _, _, _, k5⟩ => k5.sqL hn) (fun i x σ H' hi ⟨v1, v2, ee, h5, k5⟩ => ?_) (fun σ H' ⟨v1, v2, ee, h5, k5⟩ => ?_)
      · subst ee
        refine int_use hi fun z hz => ?_
        have hz2 : (l.map Int.toNat)[i]? = some z.toNat := by rw [List.getElem?_map, hz]; rfl
        have hzn := hlt z.toNat (List.mem_of_getElem? hz2)
        have hz0 : z = ((z.toNat : Nat) : Int) := by
          have := List.all_eq_true.mp h2 z (List.mem_of_getElem? hz)
          unfold VM.isJob at this
          rw [Bool.and_eq_true] at this
          have := of_decide_eq_true this.1
          omega
        refine HouseAt.useH h5 fun dh g1 => ?_
        refine HouseAt.useA h5 (k := z.toNat) (by rw [VM.setGoals_n]; exact hzn) fun a ha _ => ?_
        refine JobAt.use (h5.job _ a ha) fun dx nl ob j1 j2 => ?_
        refine ⟨_, rfl, _, ⟨hs, CH, dh, _, rfl, g1, T.clH, T.aH _ (by decide +kernel), hf_jobs jl _⟩, _, rfl, V.ref a, ⟨jl, _, _, rfl, rfl, SqL.of h5.lst, at_of hz0 (by rw [List.getElem?_map, ha]; rfl)⟩, ?_⟩
        refine ⟨_, rfl, _, rfl, _, ⟨a, CJ, dx, _, rfl, j1, T.clJ, T.aJ _ (by decide +kernel), jf_len _ _ _, rfl⟩, ?_⟩
        have hb5 : But a H' (upd H' a (.ins CJ dx (putF "goal" (.bl b) (jf z.toNat ((VM.setGoals m ((l.map Int.toNat).take i) b).j z.toNat) nl)))) := But.upd
        have hj5 : JobAt CJ (upd H' a (.ins CJ dx (putF "goal" (.bl b) (jf z.toNat ((VM.setGoals m ((l.map Int.toNat).take i) b).j z.toNat) nl)))) a z.toNat { (VM.setGoals m ((l.map Int.toNat).take i) b).j z.toNat with goal := b } := jobAt_upd (y := { (VM.setGoals m ((l.map Int.toNat).take i) b).j z.toNat with goal := b }) j1 j2 rfl
        refine ⟨_, _, rfl, ?_, k5.trans (h5.kp ha hb5 hj5)⟩
        rw [List.take_add_one, hz2]
        have e5 : VM.setGoals m ((l.map Int.toNat).take i ++ (some z.toNat).toList) b = VM.setGoal b (VM.setGoals m ((l.map Int.toNat).take i) b) z.toNat := by
          unfold VM.setGoals
          rw [List.foldl_append]; rfl
        rw [e5]
        exact h5.step ha hj5 hb5
      · subst ee
        have e6 : (l.map Int.toNat).take (l.map V.int).length = l.map Int.toNat := by rw [List.length_map]; exact List.take_of_length_le (by rw [List.length_map]; exact Nat.le_refl _)
        rw [e6] at h5
        exact q H' h5 k5
theorem goalsM_eq {m : VM.M} {l : List Int} {b : Bool} : VM.goalsM m l b = (if (markG m l b).2 = 0 then (if b then VM.settleM (markG m l b).1 else (markG m l b).1) else m, [(markG m l b).2]) := by
  unfold VM.goalsM markG
  by_cases h1 : 64 < l.length
  · rw [if_pos h1, if_pos h1]; rfl
  · rw [if_neg h1, if_neg h1]
    cases h2 : l.all (VM.isJob m) with
    | false => rfl
    | true => rfl
theorem WF_mark {m : VM.M} (wf : VM.WF m) {l : List Int} {b : Bool} : VM.WF (markG m l b).1 := by
  unfold markG
  split
  · exact wf
  · split
    · exact wf
    · rename_i h1 h2
      have hlt := VM.allJobs_lt (m := m) (l := l) (by simpa using h2)
      exact wf.goalsAs VM.setGoals_n _ (VM.setGoals_as hlt) VM.setGoals_rest.1
theorem c_addGoals (T : Txt K mg CH CJ) (D : DefIn K mg "add_goals" sAddGoals) (cG : Cal P w K mg base 2 "mark_goals" ["house", "numbers", "goal"] (spMarkGoals K CH CJ)) (cS : Cal P w K mg base 3 "settle" ["house"] (spChange CH CJ VM.settleM)) : Cal P w K mg base 4 "add_goals" ["house", "numbers"] (spRow K CH CJ .goal) := by
  refine def_cal D scAddGoals (fun _ _ _ _ _ _ => bind2 fun _ _ => rfl) (fun vs H Q E h => ?_) (fun f cdv A outer s H vs Q E hr h => ?_)
  · obtain ⟨hs, jl, nb, ad, m, l, rfl, _⟩ := h; rfl
  · obtain ⟨hs, jl, nb, ad, m, l, rfl, hh, wf, hn, hne, hl, q⟩ := h
    have hr2 : Room 2 _ := hr.mono (by decide)
    refine Bod.mk (pss_cons (ps_set (i := 2) scAddGoals.nd rfl (Or.inl rfl) (pe_cal cG hr2 rfl (pa_cons (pv 0) (pa_cons (pv 1) (pa_cons pe_bl pa_nil))))) (pss_cons (ps_if (pt_cmpR op_eq (pv 2) pe_int (nomark _)) (pss_one (ps_expr (pe_cal cS hr rfl (pa_cons (pv 0) pa_nil)))) pss_nil) (pss_one (ps_ret (pe_lst (pa_cons (pv 2) pa_nil)))))) ?_
    refine ⟨_, rfl, _, rfl, hs, jl, nb, ad, m, l, true, rfl, hh, hn, hl, fun H2 h2 k2 => ?_⟩
    have q : PostC CH CJ hs jl H (VM.goalsM m l true) Q := q
    rw [goalsM_eq] at q
    have wf2 := WF_mark wf (l := l) (b := true)
    generalize hg : markG m l true = g at h2 q wf2
    refine ⟨_, rfl, rfl, _, rfl, ?_⟩
    have e1 : decide (V.int g.2 = V.int 0) = (g.2 == 0) := dec_int
    rw [e1]
    by_cases h0 : g.2 = 0
    · rw [h0, if_pos rfl, if_pos rfl] at q
      rw [h0]
      refine iteT ⟨_, rfl, hs, jl, ad, g.1, rfl, h2, wf2, fun H3 h3 k3 => ?_⟩
      exact ⟨_, rfl, q.one rfl h3 (k2.trans k3).fr⟩
    · rw [if_neg h0] at q
      have e2 : (g.2 == 0) = false := beq_eq_false_iff_ne.mpr h0
      rw [e2]
      have e3 : g.1 = m := by
        rw [← hg] at h0 ⊢
        unfold markG at h0 ⊢
        split
        · rfl
        · split
          · rfl
          · rename_i h1 h2
            rw [if_neg h1, if_neg h2] at h0
            exact absurd rfl h0
      rw [e3] at h2
      exact iteF ⟨_, rfl, q.one rfl h2 k2.fr⟩
theorem c_dropGoals (D : DefIn K mg "drop_goals" sDropGoals) (cG : Cal P w K mg base 2 "mark_goals" ["house", "numbers", "goal"] (spMarkGoals K CH CJ)) : Cal P w K mg base 3 "drop_goals" ["house", "numbers"] (spRow K CH CJ .drop) := by
  refine def_cal D scDropGoals (fun _ _ _ _ _ _ => bind2 fun _ _ => rfl) (fun vs H Q E h => ?_) (fun f cdv A outer s H vs Q E hr h => ?_)
  · obtain ⟨hs, jl, nb, ad, m, l, rfl, _⟩ := h; rfl
  · obtain ⟨hs, jl, nb, ad, m, l, rfl, hh, wf, hn, hne, hl, q⟩ := h
    refine Bod.mk (pss_one (ps_ret (pe_lst (pa_cons (pe_cal cG hr rfl (pa_cons (pv 0) (pa_cons (pv 1) (pa_cons pe_bl pa_nil)))) pa_nil)))) ?_
    refine ⟨_, rfl, _, rfl, hs, jl, nb, ad, m, l, false, rfl, hh, hn, hl, fun H2 h2 k2 => ?_⟩
    have q : PostC CH CJ hs jl H (VM.goalsM m l false) Q := q
    rw [goalsM_eq] at q
    have e3 : (if (markG m l false).2 = 0 then (if false = true then VM.settleM (markG m l false).1 else (markG m l false).1) else m) = (markG m l false).1 := by
      show (if (markG m l false).2 = 0 then (markG m l false).1 else m) = _
      split
      · rfl
      · rename_i h0
        unfold markG at h0 ⊢
        split
        · rfl
        · split
          · rfl
          · rename_i h1 h2
            rw [if_neg h1, if_neg h2] at h0
            exact absurd rfl h0
    rw [e3] at q
    exact q.one rfl h2 k2.fr
end
end SH
end
section
set_option Elab.async false
set_option linter.all false
set_option maxRecDepth 100000
set_option maxHeartbeats 4000000
namespace SH
open PySem PySem.Spec PyProof.Rows L2
theorem evNums_take {es : List (Nat × Nat)} {i : Nat} {e : Nat × Nat} (h : es[i]? = some e) : VM.evNums (es.take (i + 1)) = VM.evNums (es.take i) ++ [((e.1 : Nat) : Int), ((e.2 : Nat) : Int)] := by
  unfold VM.evNums
  rw [List.take_add_one, h, List.flatMap_append, List.map_append]; rfl
section
variable {P : Program} {w : World} {K : PySem.W.Frag} {mg : Str → Option Value} {base : Heap} {CH CJ : Addr}
theorem c_listEvents (T : Txt K mg CH CJ) (D : DefIn K mg "list_events" sListEvents) (cE : Cal P w K mg base 4 "possible_events" ["house"] (spEvents CH CJ)) : Cal P w K mg base 5 "list_events" ["house"] (spNil CH CJ .events) := by
  refine def_cal D scListEvents (fun _ _ _ _ _ _ => bind1 fun _ => rfl) (fun vs H Q E h => ?_) (fun f cdv A outer s H vs Q E hr h => ?_)
  · obtain ⟨hs, jl, ad, m, rfl, _⟩ := h; rfl
  · obtain ⟨hs, jl, ad, m, rfl, hh, wf, q⟩ := h
    refine Bod.mk (pss_cons (ps_set (i := 1) scListEvents.nd rfl (Or.inl rfl) (pe_lst (pa_cons pe_int pa_nil)))
      (pss_cons (ps_for PassesOwn.never rfl (pi_listK K rfl (pe_cal cE hr rfl (pa_cons (pv 0) pa_nil))) (pg_name (i := 2) scListEvents.nd rfl (Or.inl rfl)) (pss_one (ps_expr (pe_bmK K rfl PySem.F.plainAttrs_list PySem.F.slot_list_extend PySem.F.type_list_extend mt_extendT (pv 1) (pa_cons (pv 2) pa_nil)))))
      (pss_one (ps_ret (pv 1))))) ?_
    refine ⟨(by show 1 ≤ sizeLine; decide), fun R hR => ?_⟩
    have s1 : Same H (upd H R (.lst [.int 0])) := Same.upd hR
    refine ⟨_, rfl, hs, jl, ad, m, rfl, hh.same s1, wf, fun H2 p ys s2 hp hy ev => ?_⟩
    have hR2 := s2 _ _ (upd_same (H := H) (a := R) (o := .lst [.int 0]))
    have npR : p ≠ R := fun z => by rw [z, upd_same] at hp; cases hp
    have s12 : Same H H2 := s1.trans s2
    refine ⟨p, rfl, ⟨_, SqL.of hy⟩, ?_⟩
    have hlen := VM.evs_len m
    have hn := wf.len
    refine for_list (K := K) (a := p) (xs := ys) (fun i σ H' => ∃ v, σ = [some (.ref hs), some (.ref R), v] ∧ Same H H' ∧ H' p = some (.lst ys) ∧ EvL H' (VM.evs m) ys ∧ H' R = some (.lst (V.int 0 :: (VM.evNums ((VM.evs m).take i)).map V.int)))
      ⟨none, rfl, s12, hy, ev, hR2⟩ (fun i σ H' _ ⟨_, _, _, h5, _⟩ => SqL.of h5) (fun i x σ H' hi ⟨v, ee, s5, h5, ev5, r5⟩ => ?_) (fun σ H' ⟨v, ee, s5, h5, ev5, r5⟩ => ?_)
    · subst ee
      obtain ⟨e, he, t, rfl, ht⟩ := ev5.at_ hi
      have hl5 : (V.int 0 :: (VM.evNums ((VM.evs m).take i)).map V.int).length + 2 ≤ sizeLine := by
        rw [List.length_cons, List.length_map, VM.evNums_len, List.length_take]
        exact Nat.le_trans (show 2 * min i (VM.evs m).length + 1 + 2 ≤ 1000 by omega) (by decide)
      refine ⟨_, rfl, .inl ⟨rfl, _, SqL.of r5⟩, _, rfl, R, t, _, _, rfl, rfl, r5, ht, hl5, ?_⟩
      refine ⟨_, rfl, fun b o z => by rw [upd_ne (ne_of_none z hR)]; exact s5 _ _ z, by rw [upd_ne npR]; exact h5, ev5.lst r5, ?_⟩
      rw [upd_same, evNums_take he, List.map_append]
      rfl
    · subst ee
      have hl : ys.length = (VM.evs m).length := ev5.length.symm
      rw [hl, List.take_length] at r5
      exact ⟨_, rfl, q H' R ad (hh.same s5) hR r5 (same_fr s5)⟩
theorem c_forget (T : Txt K mg CH CJ) (D : DefIn K mg "forget_failures" sForget) (cU : Cal P w K mg base 2 "unfail" ["job"] (spUnfail CJ)) : Cal P w K mg base 3 "forget_failures" ["house"] (spNil CH CJ .forget) := by
  refine def_cal D scForget (fun _ _ _ _ _ _ => bind1 fun _ => rfl) (fun vs H Q E h => ?_) (fun f cdv A outer s H vs Q E hr h => ?_)
  · obtain ⟨hs, jl, ad, m, rfl, _⟩ := h; rfl
  · obtain ⟨hs, jl, ad, m, rfl, hh, wf, q⟩ := h
    refine HouseAt.useH hh fun dh h1 => ?_
    refine Bod.mk (pss_cons (ps_for PassesOwn.never rfl (pi_listK K rfl (pe_fldK K rfl (pv 0) rfl)) (pg_name (i := 1) scForget.nd rfl (Or.inl rfl)) (pss_one (ps_expr (pe_cal cU hr rfl (pa_cons (pv 1) pa_nil))))) (pss_one (ps_ret (pe_lst (pa_cons pe_int pa_nil))))) ?_
    refine ⟨_, rfl, _, ⟨hs, CH, dh, _, rfl, h1, T.clH, T.aH _ (by decide +kernel), hf_jobs jl m⟩, jl, rfl, ⟨_, SqL.of hh.lst⟩, ?_⟩
    let mi : Nat → VM.M := fun i => (List.range i).foldl (fun m k => m.upd k (m.j k).unfail) m
    have mi_n : ∀ i, (mi i).n = m.n := fun i => by
      induction i with
      | zero => rfl
      | succ i ih =>
        show ((List.range (i + 1)).foldl (fun m k => m.upd k (m.j k).unfail) m).n = _
        rw [List.range_succ, List.foldl_append]
        exact VM.M.upd_n.trans ih
    have mi_s : ∀ i, mi (i + 1) = (mi i).upd i ((mi i).j i).unfail := fun i => by
      show (List.range (i + 1)).foldl (fun m k => m.upd k (m.j k).unfail) m = _
      rw [List.range_succ, List.foldl_append]; rfl
    have mi_j : ∀ i k, i ≤ m.n → (mi i).j k = if k < i then (m.j k).unfail else m.j k := fun i => by
      induction i with
      | zero => intro k _; rw [if_neg (Nat.not_lt_zero _)]; rfl
      | succ i ih =>
        intro k hi
        rw [mi_s]
        by_cases e : k = i
        · subst e
          rw [VM.M.upd_same (by rw [mi_n]; omega), ih k (by omega), if_neg (Nat.lt_irrefl _), if_pos (Nat.lt_succ_self _)]
        · rw [VM.M.upd_ne e, ih k (by omega)]
          by_cases e2 : k < i
          · rw [if_pos e2, if_pos (by omega)]
          · rw [if_neg e2, if_neg (by omega)]
    have mi_r : ∀ i, (mi i).workers = m.workers ∧ (mi i).keep = m.keep ∧ (mi i).starts = m.starts := fun i => by
      induction i with
      | zero => exact ⟨rfl, rfl, rfl⟩
      | succ i ih => rw [mi_s]; exact ih
    have mi_e : mi m.n = VM.forgetM m := by
      have ej : (mi m.n).jobs = (VM.forgetM m).jobs := by
        refine List.ext_getElem? fun k => ?_
        by_cases hk : k < m.n
        · rw [VM.M.j_at (m := mi m.n) (by rw [mi_n]; exact hk), VM.M.j_at (m := VM.forgetM m) (by rw [VM.forget_n]; exact hk), mi_j m.n k (Nat.le_refl _), if_pos hk, VM.forget_at]
        · rw [List.getElem?_eq_none (by show (mi m.n).n ≤ k; rw [mi_n]; omega), List.getElem?_eq_none (by show (VM.forgetM m).n ≤ k; rw [VM.forget_n]; omega)]
      obtain ⟨a, b, c⟩ := mi_r m.n
      generalize mi m.n = x at ej a b c
      cases x
      dsimp only at ej a b c
      subst ej a b c
      rfl
    refine for_list (K := K) (a := jl) (xs := ad.map V.ref) (fun i σ H' => ∃ v, σ = [some (.ref hs), v] ∧ HouseAt CH CJ H' hs jl ad (mi i) ∧ Kp CJ H H')
      ⟨none, rfl, hh, Kp.refl⟩ (fun i σ H' _ ⟨_, _, h5, _⟩ => SqL.of h5.lst) (fun i x σ H' hi ⟨v, ee, h5, k5⟩ => ?_) (fun σ H' ⟨v, ee, h5, k5⟩ => ?_)
    · subst ee
      refine ref_use hi fun a ha => ?_
      refine ⟨_, rfl, a, i, (mi i).j i, rfl, h5.job i a ha, fun H6 hj hb => ⟨_, rfl, ?_, k5.trans (h5.kp ha hb hj)⟩⟩
      rw [mi_s]
      exact h5.step ha hj hb
    · subst ee
      rw [List.length_map, hh.len, mi_e] at h5
      exact q.one (m := VM.forgetM m) rfl h5 k5.fr
end
end SH
end
section
set_option Elab.async false
set_option linter.all false
set_option maxRecDepth 100000
set_option maxHeartbeats 4000000
namespace SH
open PySem PySem.Spec PyProof.Rows L2
theorem sorted_is {l ns : List Int} {m : VM.M} (hj : l.all (VM.isJob m) = true) (hp : ns.Perm (SS.dd l)) (hs : ns.Pairwise (· ≤ ·)) : ns.map V.int = nz (Vastog.inOrder (l.map Int.toNat)) := by
  have hnd : ns.Nodup := hp.nodup_iff.mpr (SS.dd_nodup l)
  have hm : ∀ x, x ∈ ns ↔ x ∈ l := fun x => by rw [hp.mem_iff, SS.mem_dd]
  have hpos : ∀ x ∈ ns, 0 ≤ x := fun x hx => by
    have := List.all_eq_true.mp hj x ((hm x).mp hx)
    unfold VM.isJob at this
    rw [Bool.and_eq_true] at this
    exact of_decide_eq_true this.1
  have hlt : (ns.map Int.toNat).Pairwise (· < ·) := by
    rw [List.pairwise_map]
    have h2 : ns.Pairwise (fun a b => a ≤ b ∧ a ≠ b) := List.Pairwise.and hs hnd
    refine List.Pairwise.imp_of_mem (fun {a b} ha hb h => ?_) h2
    have := hpos a ha; have := hpos b hb
    omega
  have e : ns.map Int.toNat = Vastog.inOrder (l.map Int.toNat) := VM.srt_ext hlt VM.srt_inOrder fun x => by
    rw [VM.mem_inOrder, List.mem_map, List.mem_map]
    constructor
    · rintro ⟨z, hz, rfl⟩; exact ⟨z, (hm z).mp hz, rfl⟩
    · rintro ⟨z, hz, rfl⟩; exact ⟨z, (hm z).mpr hz, rfl⟩
  rw [← e]
  unfold nz
  rw [List.map_map]
  refine List.map_congr_left fun z hz => ?_
  show V.int z = V.int ((z.toNat : Nat) : Int)
  rw [Int.toNat_of_nonneg (hpos z hz)]
section
variable {P : Program} {w : World} {K : PySem.W.Frag} {mg : Str → Option Value} {base : Heap} {CH CJ : Addr}
theorem HouseAt.add {H H' : Hp} {hs jl x dx nl : Addr} {ob : Obj} {ad : List Addr} {m : VM.M} {c f : Bool} {wt : Nat} {l : List Nat} (h : HouseAt CH CJ H hs jl ad m) (hx : H x = none) (h1 : H' x = some (.ins CJ dx (jf m.n (VM.newJ c f wt l) nl))) (h2 : H' nl = some (.frz ob (.lst (nz l))))
    (h3 : H' jl = some (.lst ((ad ++ [x]).map V.ref))) (hk : ∀ b o, H b = some o → b ≠ jl → H' b = some o) : HouseAt CH CJ H' hs jl (ad ++ [x]) (m.add (VM.newJ c f wt l)) := by
  refine HouseAt.useH h fun dh g => ?_
  refine ⟨⟨dh, hk _ _ g (ne_of g h.lst (by intro q; cases q))⟩, h3, ?_, by rw [List.length_append, h.len, VM.add_n]; rfl, fun k a ea => ?_⟩
  · refine List.nodup_append.mpr ⟨h.nd, by simp, fun a ha b hb => ?_⟩
    rw [List.mem_singleton] at hb
    subst hb
    obtain ⟨k, hk'⟩ := List.getElem?_of_mem ha
    obtain ⟨_, _, z, _, _⟩ := h.job k a hk'
    exact ne_of_none z hx
  · rw [VM.add_at]
    by_cases e : k = m.n
    · rw [if_pos e]
      subst e
      rw [List.getElem?_append_right (by rw [h.len]; exact Nat.le_refl _), h.len, Nat.sub_self] at ea
      have e2 : x = a := Option.some.inj ea
      subst e2
      exact ⟨dx, nl, h1, ob, h2⟩
    · rw [if_neg e]
      have hlt : k < ad.length := by
        have := (List.getElem?_eq_some_iff.mp ea).1
        rw [List.length_append, List.length_singleton, h.len] at this
        rw [h.len]; omega
      rw [List.getElem?_append_left hlt] at ea
      refine JobAt.use (h.job k a ea) fun dy ny ob2 z1 z2 => ?_
      exact ⟨dy, ny, hk _ _ z1 (ne_of z1 h.lst (by intro q; cases q)), ob2, hk _ _ z2 (ne_of z2 h.lst (by intro q; cases q))⟩
noncomputable abbrev sAddJob : Stmt := top 53
noncomputable abbrev nAddJob : List Str := ["house", "cached", "failing", "weight", "needs", "number"]
theorem scAddJob : FnScope nAddJob ["house", "cached", "failing", "weight", "needs"] (defScope sAddJob) := sc_mk rfl rfl rfl rfl (by decide +kernel)
inductive UAddJob (K : PySem.W.Frag) (CH CJ : Addr) (vs : List V) (H : Hp) (Q : VK) : Prop
  | mk (hs jl nb : Addr) (ad : List Addr) (m : VM.M) (c f wt : Int) (l : List Int) (h0 : vs = [.ref hs, .int c, .int f, .int wt, .ref nb]) (h1 : HouseAt CH CJ H hs jl ad m) (h2 : VM.WF m) (h3 : SqL K H nb (l.map V.int)) (h4 : nb ≠ jl) (h5 : l.length ≤ 100) (h6 : PostC CH CJ hs jl H (VM.newJobM m c f wt l) Q) : UAddJob K CH CJ vs H Q
noncomputable def spAddJob (K : PySem.W.Frag) (CH CJ : Addr) : Sp := fun vs H Q _ => UAddJob K CH CJ vs H Q
theorem c_addJob (T : Txt K mg CH CJ) (TC : TxC mg) (D : DefIn K mg "add_job" sAddJob) (cI : Cal P w K mg base 1 "is_mark" ["number"] spIsMark) (cA : Cal P w K mg base 1 "are_jobs" ["house", "numbers"] (spAreJobs K CH CJ))
    {fI : Addr} {fdI : FuncData} (mgJ : mg "Job" = some (.ref CJ)) (M : Mk K CJ fI) (GI : FnOk P w K mg base CX0 1 fI fdI ["self", "number", "cached", "failing", "weight", "needs"] (spInitJ CJ)) (bI : Binds K fdI ["self", "number", "cached", "failing", "weight", "needs"] []) :
    Cal P w K mg base 3 "add_job" ["house", "cached", "failing", "weight", "needs"] (spAddJob K CH CJ) := by
  refine def_cal D scAddJob (fun _ _ _ _ _ _ => bind5 fun _ _ _ _ _ => rfl) (fun vs H Q E h => ?_) (fun fa cdv A outer s H vs Q E hr h => ?_)
  · obtain ⟨hs, jl, nb, ad, m, c, f, wt, l, rfl, _⟩ := h; rfl
  · obtain ⟨hs, jl, nb, ad, m, c, f, wt, l, rfl, hh, wf, hn, hne, hl, q⟩ := h
    have hr1 : Room 1 _ := hr.mono (by decide)
    have eN : VM.newJobM m c f wt l = if !Vastog.bit c || !Vastog.bit f || decide (wt < 1) || decide (8 < wt) then (m, [-2]) else if !l.all (VM.isJob m) then (m, [-1]) else if 64 ≤ m.n then (m, [-3]) else (m.add (VM.newJ (c == 1) (f == 1) wt.toNat (Vastog.inOrder (l.map Int.toNat))), [(m.n : Int)]) := rfl
    have bad : (!Vastog.bit c || !Vastog.bit f || decide (wt < 1) || decide (8 < wt)) = true → tLst (tCons (tC (.int (-2))) tNil) [] H Q := fun hb => q.one (m := m) (by rw [eN, if_pos hb]) hh (same_fr (Same.refl _))
    refine Bod.mk (pss_cons (ps_if (PW.pt (pw_or (pt_not (pt_val (pe_cal cI hr1 rfl (pa_cons (pv 1) pa_nil)))) (pw_or (pt_not (pt_val (pe_cal cI hr1 rfl (pa_cons (pv 2) pa_nil)))) (pw_or1 (pt_not (pt_chain op_le op_le pe_int (pv 3) (pe_gi TC.gMW rfl))))))) (pss_one (ps_ret (pe_lst (pa_cons (pe_gi TC.gRANGE rfl) pa_nil)))) pss_nil)
      (pss_cons (ps_if (pt_not (pt_val (pe_cal cA hr1 rfl (pa_cons (pv 0) (pa_cons (pv 4) pa_nil))))) (pss_one (ps_ret (pe_lst (pa_cons (pe_gi TC.gJOB rfl) pa_nil)))) pss_nil)
      (pss_cons (ps_set (i := 5) scAddJob.nd rfl (Or.inl rfl) (pe_callB (call_lenK K rfl) rfl (T.no _ (by decide +kernel)) PySem.boot_len (pa_cons (pe_fldK K rfl (pv 0) rfl) pa_nil)))
      (pss_cons (ps_if (pt_cmpR op_ge (pv 5) (pe_gi TC.gMJ rfl) (nomark _)) (pss_one (ps_ret (pe_lst (pa_cons (pe_gi TC.gLIMIT rfl) pa_nil)))) pss_nil)
      (pss_cons (ps_expr (pe_bmK K rfl PySem.F.plainAttrs_list PySem.F.slot_list_append PySem.F.type_list_append mt_append (pe_fldK K rfl (pv 0) rfl) (pa_cons (pe_make M GI hr rfl mgJ bI .nil pass0
        (pa_cons (pv 5) (pa_cons (pe_cmpR op_eq (pv 1) pe_int (nomark _)) (pa_cons (pe_cmpR op_eq (pv 2) pe_int (nomark _)) (pa_cons (pv 3) (pa_cons (pe_callB (cr_sortedSet rfl) rfl (T.no _ (by decide +kernel)) boot_sorted (pa_cons (pe_callTy (cr_set rfl) rfl (T.no _ (by decide +kernel)) PyProof.Rows.boot_set (pa_cons (pv 4) pa_nil)) pa_nil)) pa_nil)))))) pa_nil)))
      (pss_one (ps_ret (pe_lst (pa_cons (pv 5) pa_nil))))))))) ?_
    refine ⟨_, rfl, c, rfl, _, rfl, ?_⟩
    cases b1 : Vastog.bit c with
    | false => exact iteT (iteT (bad (by rw [b1]; rfl)))
    | true =>
      refine iteF ⟨_, rfl, f, rfl, _, rfl, ?_⟩
      cases b2 : Vastog.bit f with
      | false => exact iteT (iteT (bad (by rw [b1, b2]; rfl)))
      | true =>
        refine iteF (t_between (n := wt) rfl ?_)
        by_cases hb : wt < 1 ∨ 8 < wt
        · have e : (decide ((1 : Int) ≤ wt) && decide (wt ≤ 8)) = false := by
            rw [Bool.and_eq_false_iff, decide_eq_false_iff_not, decide_eq_false_iff_not]; omega
          rw [e]
          refine iteT (bad ?_)
          rw [b1, b2]
          rcases hb with h | h
          · rw [decide_eq_true h]; rfl
          · rw [decide_eq_true h]; simp
        · have e : (decide ((1 : Int) ≤ wt) && decide (wt ≤ 8)) = true := by
            rw [Bool.and_eq_true, decide_eq_true_eq, decide_eq_true_eq]; omega
          rw [e]
          have e0 : (!Vastog.bit c || !Vastog.bit f || decide (wt < 1) || decide (8 < wt)) = false := by
            rw [b1, b2, decide_eq_false (show ¬ wt < 1 by omega), decide_eq_false (show ¬ 8 < wt by omega)]; rfl
          rw [e0, if_neg (by simp)] at eN
          refine iteF ⟨_, rfl, _, rfl, hs, jl, nb, ad, m, l, rfl, hh, hn, Nat.le_trans hl (by decide), fun H2 s2 => ⟨_, rfl, ?_⟩⟩
          have hh2 := hh.same s2
          cases h2 : l.all (VM.isJob m) with
          | false =>
            rw [h2] at eN
            exact iteT (q.one (m := m) eN hh2 (same_fr s2))
          | true =>
            rw [h2, if_neg (by simp)] at eN
            refine HouseAt.useH hh2 fun dh g1 => ?_
            refine iteF ⟨_, rfl, _, ⟨hs, CH, dh, _, rfl, g1, T.clH, T.aH _ (by decide +kernel), hf_jobs jl m⟩, jl, _, rfl, .inl (SqL.of hh2.lst), ?_⟩
            have hlen : (ad.map V.ref).length = m.n := by rw [List.length_map, hh.len]
            refine ⟨_, rfl, _, _, rfl, rfl, _, rfl, ?_⟩
            by_cases h3 : 64 ≤ m.n
            · rw [if_pos h3] at eN
              exact iteY (decide_eq_true (show (64 : Int) ≤ ((ad.map V.ref).length : Nat) by rw [hlen]; omega)) (q.one (m := m) eN hh2 (same_fr s2))
            · rw [if_neg h3] at eN
              rw [decide_eq_false (show ¬ (64 : Int) ≤ ((ad.map V.ref).length : Nat) by rw [hlen]; omega)]
              obtain ⟨wn, rfl⟩ : ∃ k : Nat, wt = (k : Int) := ⟨wt.toNat, by omega⟩
              refine iteF ⟨_, rfl, _, ⟨hs, CH, dh, _, rfl, g1, T.clH, T.aH _ (by decide +kernel), hf_jobs jl m⟩, .inl ⟨rfl, _, SqL.of hh2.lst⟩, ?_⟩
              refine ⟨_, rfl, _, rfl, rfl, _, rfl, rfl, _, rfl, _, rfl, nb, l, rfl, s2.seq hn, Nat.lt_of_le_of_lt (Nat.succ_le_succ hl) (by decide), fun S hS => ?_⟩
              refine ⟨S, _, rfl, upd_same, Nat.le_trans (SS.dd_len l) (Nat.le_trans hl (by decide)), fun ns nl ob hp hs' hnl => ?_⟩
              obtain ⟨H3, hH3⟩ : ∃ H3, H3 = upd H2 S (SetO w S (SS.dd l)) := ⟨_, rfl⟩
              have hnl : H3 nl = none := by rw [hH3]; exact hnl
              have s3 : Same H2 H3 := by rw [hH3]; exact Same.upd hS
              have el := sorted_is h2 hp hs'
              rw [el]
              intro x dx hx hdx hdne
              obtain ⟨H4, hH4⟩ : ∃ H4, H4 = upd H3 nl (.frz ob (.lst (nz (Vastog.inOrder (l.map Int.toNat))))) := ⟨_, rfl⟩
              have hx : H4 x = none := by rw [hH4, hH3]; exact hx
              have hdx : H4 dx = none := by rw [hH4, hH3]; exact hdx
              have s4 : Same H3 H4 := by rw [hH4]; exact Same.upd hnl
              have s24 : Same H2 H4 := s3.trans s4
              have s04 : Same H H4 := s2.trans s24
              have hnl4 : H4 nl = some (.frz ob (.lst (nz (Vastog.inOrder (l.map Int.toNat))))) := by rw [hH4]; exact upd_same
              have s45 : Same H4 (upd (upd H4 dx (.own x)) x (.ins CJ dx [])) := fun b o e => by rw [upd_ne (ne_of_none e hx), upd_ne (ne_of_none e hdx)]; exact e
              have d1 : decide (V.int c = V.int 1) = (c == 1) := dec_int
              have d2 : decide (V.int f = V.int 1) = (f == 1) := dec_int
              rw [d1, d2, hlen]
              refine ⟨x, dx, nl, m.n, wn, c == 1, f == 1, rfl, upd_same, fun l0 H6 hx6 hb6 => ⟨rfl, ?_⟩⟩
              have hb6 : But x (upd (upd H4 dx (.own x)) x (.ins CJ dx [])) H6 := by rw [hH4, hH3]; exact hb6
              have k6 : ∀ b o, H b = some o → H6 b = some o := fun b o e => hb6 b o (s45 _ _ (s04 _ _ e)) (ne_of_none (s04 _ _ e) hx)
              have hx0 : H x = none := fresh_of (same_some s04) hx
              refine ⟨jl, _, _, rfl, rfl, k6 _ _ hh.lst, (by rw [hlen]; exact Nat.lt_of_le_of_lt wf.len (by decide)), ?_⟩
              have njx : x ≠ jl := Ne.symm (ne_of_none hh.lst hx0)
              have nnj : nl ≠ jl := Ne.symm (ne_of_none (s3 _ _ (s2 _ _ hh.lst)) hnl)
              have hadd := hh.add (H' := upd H6 jl (.lst (ad.map V.ref ++ [V.ref x]))) (c := c == 1) (f := f == 1) (wt := wn) (l := Vastog.inOrder (l.map Int.toNat)) hx0 (by rw [upd_ne njx]; exact hx6)
                (by rw [upd_ne nnj]; exact hb6 _ _ (s45 _ _ hnl4) (ne_of_none hnl4 hx)) (by rw [upd_same, List.map_append]; rfl) (fun b o e n => by rw [upd_ne n]; exact k6 _ _ e)
              have ewn : ((wn : Nat) : Int).toNat = wn := Int.toNat_natCast wn
              rw [ewn] at eN
              refine ⟨_, rfl, ?_⟩
              have := q.one eN hadd ⟨fun b o e _ n2 _ => by rw [upd_ne n2]; exact k6 _ _ e, fun b e => some_upd b (same_some k6 b e)⟩
              exact this
end
end SH
end
section
set_option Elab.async false
set_option linter.all false
set_option maxRecDepth 100000
set_option maxHeartbeats 4000000
namespace SH
open PySem PySem.Spec PyProof.Rows L2
section
variable {P : Program} {w : World} {K : PySem.W.Frag} {mg : Str → Option Value} {base : Heap} {CH CJ : Addr}
noncomputable abbrev sRest : Stmt := top 25
noncomputable abbrev sHappen : Stmt := top 26
noncomputable abbrev sEndJob : Stmt := top 27
noncomputable abbrev sStartJob : Stmt := top 28
noncomputable abbrev sAnswerJob : Stmt := top 29
noncomputable abbrev sLoseRun : Stmt := top 30
theorem scRest : FnScope ["house"] ["house"] (defScope sRest) := sc_mk rfl rfl rfl rfl (by decide +kernel)
theorem scHappen : FnScope ["house", "event", "job"] ["house", "event"] (defScope sHappen) := sc_mk rfl rfl rfl rfl (by decide +kernel)
theorem scEndJob : FnScope ["job"] ["job"] (defScope sEndJob) := sc_mk rfl rfl rfl rfl (by decide +kernel)
theorem scStartJob : FnScope ["house", "job"] ["house", "job"] (defScope sStartJob) := sc_mk rfl rfl rfl rfl (by decide +kernel)
theorem scAnswerJob : FnScope ["job"] ["job"] (defScope sAnswerJob) := sc_mk rfl rfl rfl rfl (by decide +kernel)
theorem scLoseRun : FnScope ["house", "job"] ["house", "job"] (defScope sLoseRun) := sc_mk rfl rfl rfl rfl (by decide +kernel)
theorem c_rest (T : Txt K mg CH CJ) (D : DefIn K mg "is_at_rest" sRest) (cE : Cal P w K mg base 4 "possible_events" ["house"] (spEvents CH CJ)) : Cal P w K mg base 5 "is_at_rest" ["house"] (spHouse CH CJ fun m => .bl (VM.evs m).isEmpty) := by
  refine def_cal D scRest (fun _ _ _ _ _ _ => bind1 fun _ => rfl) (fun vs H Q E h => ?_) (fun f cdv A outer s H vs Q E hr h => ?_)
  · obtain ⟨hs, jl, ad, m, rfl, _⟩ := h; rfl
  · obtain ⟨hs, jl, ad, m, rfl, hh, wf, q⟩ := h
    refine Bod.mk (pss_one (ps_ret (pe_cmpR op_eq (pe_callB (call_lenK K rfl) rfl (T.no _ (by decide +kernel)) PySem.boot_len (pa_cons (pe_cal cE hr rfl (pa_cons (pv 0) pa_nil)) pa_nil)) pe_int (nomark _)))) ?_
    refine ⟨_, rfl, hs, jl, ad, m, rfl, hh, wf, fun H2 p ys s2 hp hy ev => ?_⟩
    refine ⟨p, _, rfl, .inl (SqL.of hy), rfl, ?_⟩
    have e : decide (V.int ((ys.length : Nat) : Int) = V.int 0) = (VM.evs m).isEmpty := by
      rw [← ev.length]
      have := dec_nat (a := (VM.evs m).length) (b := 0)
      refine this.trans ?_
      cases VM.evs m <;> rfl
    exact (congrArg (fun b => Q (.bl b) H2) e).mpr (q H2 s2)
noncomputable def spEndJob (CJ : Addr) : Sp := fun vs H Q _ => spTurn CJ [] (fun k x => x.ends k) vs H Q
theorem c_endJob (T : Txt K mg CH CJ) (D : DefIn K mg "end_job" sEndJob) (cX : Cal P w K mg base 1 "fail" ["job", "cause"] (spFail CJ)) : Cal P w K mg base 2 "end_job" ["job"] (spEndJob CJ) := by
  refine def_cal D scEndJob (fun _ _ _ _ _ _ => bind1 fun _ => rfl) (fun vs H Q E h => ?_) (fun f cdv A outer s H vs Q E hr h => ?_)
  · obtain ⟨a, k, x, rfl, _⟩ := h; rfl
  · obtain ⟨a, k, x, rfl, ⟨dx, nl, h1, ob, h2⟩, q⟩ := h
    have hn : nl ≠ a := ne_of h2 h1 (by intro q; cases q)
    have q : ∀ H', JobAt CJ H' a k (x.ends k) → But a H H' → Q .non H' := q
    refine Bod.mk (pss_cons (ps_fldK K rfl (pv 0) pe_int rfl) (pss_one (ps_if (pt_val (pe_fldK K rfl (pv 0) rfl)) (pss_one (ps_expr (pe_cal cX hr rfl (pa_cons (pv 0) (pa_cons (pe_fldK K rfl (pv 0) rfl) pa_nil))))) (pss_one (ps_fldK K rfl (pv 0) (pe_gi T.gBUILT rfl) rfl))))) ?_
    refine ⟨_, rfl, _, ⟨a, CJ, dx, _, rfl, h1, T.clJ, T.aJ _ (by decide +kernel), jf_len _ _ _, rfl⟩, ?_⟩
    refine ⟨_, rfl, _, ⟨a, CJ, dx, _, rfl, upd_same, T.clJ, T.aJ _ (by decide +kernel), jf_failing k x.stop nl⟩, _, rfl, ?_⟩
    have ef : x.stop.failing = x.failing := rfl
    rw [ef]
    cases hf : x.failing with
    | true =>
      have e : x.ends k = x.stop.fails k := by unfold VM.J.ends; rw [hf]; rfl
      rw [e] at q
      exact iteT ⟨_, rfl, _, rfl, _, ⟨a, CJ, dx, _, rfl, upd_same, T.clJ, T.aJ _ (by decide +kernel), jf_number k x.stop nl⟩, k, a, k, x.stop, rfl, ⟨dx, nl, upd_same, ob, by rw [upd_ne hn]; exact h2⟩, fun H' hj hb => q H' hj (But.upd.trans hb)⟩
    | false =>
      have e : x.ends k = x.stop.builds := by unfold VM.J.ends; rw [hf]; rfl
      rw [e] at q
      refine iteF ⟨_, rfl, _, ⟨a, CJ, dx, _, rfl, upd_same, T.clJ, T.aJ _ (by decide +kernel), jf_len k x.stop nl, rfl⟩, ?_⟩
      refine q _ ⟨dx, nl, upd_same, ob, ?_⟩ (But.upd.trans But.upd)
      rw [upd_ne hn, upd_ne hn]; exact h2
noncomputable def spAnswerJob (CJ : Addr) : Sp := fun vs H Q _ => spTurn CJ [] (fun _ x => x.asks) vs H Q
theorem c_answerJob (T : Txt K mg CH CJ) (D : DefIn K mg "answer_job" sAnswerJob) : Cal P w K mg base 1 "answer_job" ["job"] (spAnswerJob CJ) := by
  refine def_cal D scAnswerJob (fun _ _ _ _ _ _ => bind1 fun _ => rfl) (fun vs H Q E h => ?_) (fun f cdv A outer s H vs Q E hr h => ?_)
  · obtain ⟨a, k, x, rfl, _⟩ := h; rfl
  · obtain ⟨a, k, x, rfl, ⟨dx, nl, h1, ob, h2⟩, q⟩ := h
    have hn : nl ≠ a := ne_of h2 h1 (by intro q; cases q)
    have q : ∀ H', JobAt CJ H' a k x.asks → But a H H' → Q .non H' := q
    refine Bod.mk (pss_cons (ps_fldK K rfl (pv 0) pe_bl rfl) (pss_one (ps_if (pt_val (pe_fldK K rfl (pv 0) rfl)) (pss_one (ps_fldK K rfl (pv 0) (pe_gi T.gFETCHED rfl) rfl)) pss_nil))) ?_
    refine ⟨_, rfl, _, ⟨a, CJ, dx, _, rfl, h1, T.clJ, T.aJ _ (by decide +kernel), jf_len _ _ _, rfl⟩, ?_⟩
    refine ⟨_, rfl, _, ⟨a, CJ, dx, _, rfl, upd_same, T.clJ, T.aJ _ (by decide +kernel), jf_cached k { x with answered := true } nl⟩, _, rfl, ?_⟩
    have ef : ({ x with answered := true } : VM.J).cached = x.cached := rfl
    rw [ef]
    cases hf : x.cached with
    | true =>
      have e : x.asks = { x with answered := true, outcome := 2 } := by unfold VM.J.asks; rw [hf]; rfl
      rw [e] at q
      refine iteT ⟨_, rfl, _, ⟨a, CJ, dx, _, rfl, upd_same, T.clJ, T.aJ _ (by decide +kernel), jf_len k { x with answered := true } nl, rfl⟩, ?_⟩
      have eq0 : ({ x with answered := true, outcome := 2 } : VM.J) = { ({ x with answered := true } : VM.J) with outcome := 2 } := rfl
      refine q _ ⟨dx, nl, upd_same, ob, ?_⟩ (But.upd.trans But.upd)
      rw [upd_ne hn, upd_ne hn]; exact h2
    | false =>
      have e : x.asks = { x with answered := true } := by unfold VM.J.asks; rw [hf]; rfl
      rw [e] at q
      exact iteF (q _ (jobAt_upd (y := { x with answered := true }) h1 h2 rfl) But.upd)
inductive UStartJob (CH CJ : Addr) (vs : List V) (H : Hp) (Q : VK) : Prop
  | mk (hs jl a : Addr) (ad : List Addr) (m : VM.M) (k : Nat) (h0 : vs = [.ref hs, .ref a]) (h1 : HouseAt CH CJ H hs jl ad m) (h2 : ad[k]? = some a) (h3 : ∀ H', HouseAt CH CJ H' hs jl ad { m.upd k ((m.j k).starts (VM.takes m k)) with starts := m.starts + 1 } → Fr0 CJ hs jl H H' → Q .non H') : UStartJob CH CJ vs H Q
noncomputable def spStartJob (CH CJ : Addr) : Sp := fun vs H Q _ => UStartJob CH CJ vs H Q
theorem c_startJob (T : Txt K mg CH CJ) (D : DefIn K mg "start_job" sStartJob) (cW : Cal P w K mg base 1 "workers_for" ["house", "job"] (spWorkersFor CH CJ)) : Cal P w K mg base 2 "start_job" ["house", "job"] (spStartJob CH CJ) := by
  refine def_cal D scStartJob (fun _ _ _ _ _ _ => bind2 fun _ _ => rfl) (fun vs H Q E h => ?_) (fun f cdv A outer s H vs Q E hr h => ?_)
  · obtain ⟨hs, jl, a, ad, m, k, rfl, _⟩ := h; rfl
  · obtain ⟨hs, jl, a, ad, m, k, rfl, hh, ha, q⟩ := h
    refine JobAt.use (hh.job k a ha) fun dx nl ob j1 j2 => ?_
    refine Bod.mk (pss_cons (ps_fldK K rfl (pv 1) (pe_cal cW hr rfl (pa_cons (pv 0) (pa_cons (pv 1) pa_nil))) rfl) (pss_one (ps_fldaug (pv 0) pe_int in_add))) ?_
    refine ⟨_, rfl, _, rfl, hs, jl, a, ad, m, k, rfl, hh, ha, _, rfl, _, ⟨a, CJ, dx, _, rfl, j1, T.clJ, T.aJ _ (by decide +kernel), jf_len _ _ _, rfl⟩, ?_⟩
    have hj := jobAt_upd (CJ := CJ) (y := (m.j k).starts (VM.takes m k)) j1 j2 rfl
    have hh2 := hh.step ha hj But.upd
    have k2 := hh.kp ha But.upd hj
    refine HouseAt.useH hh2 fun dh g1 => ?_
    refine ⟨_, rfl, hs, CH, dh, _, _, rfl, g1, T.clH, T.aH _ (by decide +kernel), hf_starts jl _, _, _, rfl, rfl, dh, _, g1, hf_len _ _, ?_⟩
    refine q _ (hh2.setH (m' := { m.upd k ((m.j k).starts (VM.takes m k)) with starts := m.starts + 1 }) g1 rfl) (k2.fr.trans Fr0.setH)
inductive UHappen (CH CJ : Addr) (vs : List V) (H : Hp) (Q : VK) : Prop
  | mk (hs jl t : Addr) (ad : List Addr) (m : VM.M) (e : Nat × Nat) (h0 : vs = [.ref hs, .ref t]) (h1 : HouseAt CH CJ H hs jl ad m) (h2 : VM.WF m) (h3 : H t = some (.tup [.int e.1, .int e.2])) (h4 : e ∈ VM.evs m) (h5 : ∀ H', HouseAt CH CJ H' hs jl ad (VM.settleM (VM.happenM m e)) → Fr0 CJ hs jl H H' → Q .non H') : UHappen CH CJ vs H Q
noncomputable def spHappen (CH CJ : Addr) : Sp := fun vs H Q _ => UHappen CH CJ vs H Q
theorem c_happen (T : Txt K mg CH CJ) (D : DefIn K mg "happen" sHappen) (cE : Cal P w K mg base 2 "end_job" ["job"] (spEndJob CJ)) (cB : Cal P w K mg base 2 "start_job" ["house", "job"] (spStartJob CH CJ)) (cA : Cal P w K mg base 1 "answer_job" ["job"] (spAnswerJob CJ))
    (cS : Cal P w K mg base 3 "settle" ["house"] (spChange CH CJ VM.settleM)) : Cal P w K mg base 4 "happen" ["house", "event"] (spHappen CH CJ) := by
  refine def_cal D scHappen (fun _ _ _ _ _ _ => bind2 fun _ _ => rfl) (fun vs H Q E h => ?_) (fun f cdv A outer s H vs Q E hr h => ?_)
  · obtain ⟨hs, jl, t, ad, m, e, rfl, _⟩ := h; rfl
  · obtain ⟨hs, jl, t, ad, m, e, rfl, hh, wf, ht, he, q⟩ := h
    have hr1 : Room 1 _ := hr.mono (by decide)
    have hr2 : Room 2 _ := hr.mono (by decide)
    refine HouseAt.useH hh fun dh h1 => ?_
    obtain ⟨hk, h0, h3⟩ := VM.mem_evs wf he
    obtain ⟨wf2, n2⟩ := wf.happen he
    refine HouseAt.useA hh hk fun a ha ja => ?_
    have st : SqT K H t [.int e.1, .int e.2] := .inl (.inl ht)
    have fin : ∀ H2, HouseAt CH CJ H2 hs jl ad (VM.happenM m e) → Fr0 CJ hs jl H H2 → spChange CH CJ VM.settleM [.ref hs] H2 (fun _ H' => Q .non H') E0 := fun H2 g2 k2 => ⟨hs, jl, ad, _, rfl, g2, wf2, fun H3 g3 k3 => q H3 g3 (k2.trans k3.fr)⟩
    refine Bod.mk (pss_cons (ps_set (i := 2) scHappen.nd rfl (Or.inl rfl) (pe_ixK K rfl (pe_fldK K rfl (pv 0) rfl) (pe_ixTK K rfl (pv 1) pe_int (fun _ _ => rfl)) (fun _ _ => rfl)))
      (pss_cons (ps_if (pt_cmpR op_eq (pe_ixTK K rfl (pv 1) pe_int (fun _ _ => rfl)) (pe_gi T.gEND rfl) (nomark _)) (pss_one (ps_expr (pe_cal cE hr2 rfl (pa_cons (pv 2) pa_nil))))
        (pss_one (ps_if (pt_cmpR op_eq (pe_ixTK K rfl (pv 1) pe_int (fun _ _ => rfl)) (pe_gi T.gSTART rfl) (nomark _)) (pss_one (ps_expr (pe_cal cB hr2 rfl (pa_cons (pv 0) (pa_cons (pv 2) pa_nil))))) (pss_one (ps_expr (pe_cal cA hr1 rfl (pa_cons (pv 2) pa_nil)))))))
      (pss_one (ps_expr (pe_cal cS hr rfl (pa_cons (pv 0) pa_nil)))))) ?_
    refine ⟨_, rfl, _, ⟨hs, CH, dh, _, rfl, h1, T.clH, T.aH _ (by decide +kernel), hf_jobs jl m⟩, _, rfl, _, ⟨t, _, _, rfl, rfl, st, rfl⟩, V.ref a, ⟨jl, _, _, rfl, rfl, SqL.of hh.lst, atI_nat (by rw [List.getElem?_map, ha]; rfl)⟩, ?_⟩
    refine ⟨_, rfl, _, ⟨t, _, _, rfl, rfl, st, rfl⟩, rfl, _, rfl, ?_⟩
    have d0 : decide (V.int ((e.1 : Nat) : Int) = V.int 0) = (e.1 == 0) := dec_nat (b := 0)
    have d1 : decide (V.int ((e.1 : Nat) : Int) = V.int 1) = (e.1 == 1) := dec_nat (b := 1)
    rw [d0]
    rcases h3 with ⟨e0, _⟩ | ⟨e0, _⟩ | ⟨e0, _⟩
    · rw [e0]
      refine iteT ⟨_, rfl, a, e.2, m.j e.2, rfl, ja, fun H2 hj hb => ⟨_, rfl, fin H2 ?_ (hh.kp ha hb hj).fr⟩⟩
      unfold VM.happenM
      rw [if_pos e0]
      exact hh.step ha hj hb
    · rw [e0]
      refine iteF ⟨_, rfl, _, ⟨t, _, _, rfl, rfl, st, rfl⟩, rfl, _, rfl, ?_⟩
      rw [d1, e0]
      refine iteT ⟨_, rfl, _, rfl, hs, jl, a, ad, m, e.2, rfl, hh, ha, fun H2 g2 k2 => ⟨_, rfl, fin H2 ?_ k2⟩⟩
      unfold VM.happenM
      rw [if_neg (by omega), if_pos e0]
      exact g2
    · rw [e0]
      refine iteF ⟨_, rfl, _, ⟨t, _, _, rfl, rfl, st, rfl⟩, rfl, _, rfl, ?_⟩
      rw [d1, e0]
      refine iteF ⟨_, rfl, a, e.2, m.j e.2, rfl, ja, fun H2 hj hb => ⟨_, rfl, fin H2 ?_ (hh.kp ha hb hj).fr⟩⟩
      unfold VM.happenM
      rw [if_neg (by omega), if_neg (by omega)]
      exact hh.step ha hj hb
inductive ULoseRun (CH CJ : Addr) (vs : List V) (H : Hp) (Q : VK) : Prop
  | mk (hs jl a : Addr) (ad : List Addr) (m : VM.M) (k : Nat) (h0 : vs = [.ref hs, .ref a]) (h1 : HouseAt CH CJ H hs jl ad m) (h2 : VM.WF m) (h3 : ad[k]? = some a) (h4 : (m.j k).running = true) (h5 : ∀ H', HouseAt CH CJ H' hs jl ad (VM.loseM m k) → Kp CJ H H' → Q .non H') : ULoseRun CH CJ vs H Q
noncomputable def spLoseRun (CH CJ : Addr) : Sp := fun vs H Q _ => ULoseRun CH CJ vs H Q
theorem c_loseRun (T : Txt K mg CH CJ) (D : DefIn K mg "lose_running" sLoseRun) (cX : Cal P w K mg base 1 "fail" ["job", "cause"] (spFail CJ)) (cS : Cal P w K mg base 3 "settle" ["house"] (spChange CH CJ VM.settleM)) : Cal P w K mg base 4 "lose_running" ["house", "job"] (spLoseRun CH CJ) := by
  refine def_cal D scLoseRun (fun _ _ _ _ _ _ => bind2 fun _ _ => rfl) (fun vs H Q E h => ?_) (fun f cdv A outer s H vs Q E hr h => ?_)
  · obtain ⟨hs, jl, a, ad, m, k, rfl, _⟩ := h; rfl
  · obtain ⟨hs, jl, a, ad, m, k, rfl, hh, wf, ha, hrun, q⟩ := h
    have hr1 : Room 1 _ := hr.mono (by decide)
    refine JobAt.use (hh.job k a ha) fun dx nl ob j1 j2 => ?_
    have hn : nl ≠ a := ne_of j2 j1 (by intro q; cases q)
    have wf2 := wf.lost hrun
    have fin : ∀ H2, JobAt CJ H2 a k ((m.j k).loses k) → But a H H2 → spChange CH CJ VM.settleM [.ref hs] H2 (fun _ H' => Q .non H') E0 := fun H2 hj hb => ⟨hs, jl, ad, _, rfl, hh.step ha hj hb, wf2, fun H3 g3 k3 => q H3 g3 ((hh.kp ha hb hj).trans k3)⟩
    refine Bod.mk (pss_cons (ps_fldK K rfl (pv 1) pe_int rfl) (pss_cons (ps_fldaug (pv 1) pe_int in_add) (pss_cons (ps_if (pt_cmpR op_eq (pe_fldK K rfl (pv 1) rfl) (pe_gi T.gML rfl) (nomark _)) (pss_one (ps_expr (pe_cal cX hr1 rfl (pa_cons (pv 1) (pa_cons (pe_fldK K rfl (pv 1) rfl) pa_nil))))) pss_nil)
      (pss_one (ps_expr (pe_cal cS hr rfl (pa_cons (pv 0) pa_nil))))))) ?_
    refine ⟨_, rfl, _, ⟨a, CJ, dx, _, rfl, j1, T.clJ, T.aJ _ (by decide +kernel), jf_len _ _ _, rfl⟩, ?_⟩
    refine ⟨_, rfl, a, CJ, dx, _, _, rfl, upd_same, T.clJ, T.aJ _ (by decide +kernel), jf_losses k (m.j k).stop nl, _, _, rfl, rfl, dx, _, upd_same, jf_len k (m.j k).stop nl, ?_⟩
    refine ⟨_, rfl, _, ⟨a, CJ, dx, _, rfl, upd_same, T.clJ, T.aJ _ (by decide +kernel), jf_losses k { m.j k with taken := 0, losses := (m.j k).losses + 1 } nl⟩, rfl, _, rfl, ?_⟩
    have d3 : decide (V.int ((((m.j k).losses + 1 : Nat) : Nat) : Int) = V.int 3) = ((m.j k).losses + 1 == 3) := dec_nat (b := 3)
    have d3' := d3
    rw [show ({ m.j k with taken := 0, losses := (m.j k).losses + 1 } : VM.J).losses = (m.j k).losses + 1 from rfl, d3]
    have jj : JobAt CJ (upd (upd H a (.ins CJ dx (jf k (m.j k).stop nl))) a (.ins CJ dx (jf k { m.j k with taken := 0, losses := (m.j k).losses + 1 } nl))) a k { m.j k with taken := 0, losses := (m.j k).losses + 1 } :=
      ⟨dx, nl, upd_same, ob, by rw [upd_ne hn, upd_ne hn]; exact j2⟩
    have bb : But a H (upd (upd H a (.ins CJ dx (jf k (m.j k).stop nl))) a (.ins CJ dx (jf k { m.j k with taken := 0, losses := (m.j k).losses + 1 } nl))) := But.upd.trans But.upd
    cases hc : ((m.j k).losses + 1 == 3) with
    | true =>
      have e : (m.j k).loses k = ({ m.j k with taken := 0, losses := (m.j k).losses + 1 } : VM.J).fails k := by unfold VM.J.loses; rw [if_pos (eq_of_beq hc)]; rfl
      rw [e] at fin
      exact iteT ⟨_, rfl, _, rfl, _, ⟨a, CJ, dx, _, rfl, upd_same, T.clJ, T.aJ _ (by decide +kernel), jf_number k { m.j k with taken := 0, losses := (m.j k).losses + 1 } nl⟩, k, a, k, _, rfl, jj, fun H2 hj hb => ⟨_, rfl, fin H2 hj (bb.trans hb)⟩⟩
    | false =>
      have e : (m.j k).loses k = { m.j k with taken := 0, losses := (m.j k).losses + 1 } := by unfold VM.J.loses; rw [if_neg (by intro z; rw [z] at hc; cases hc)]
      rw [e] at fin
      exact iteF ⟨_, rfl, fin _ jj bb⟩
end
end SH
end
section
set_option Elab.async false
set_option linter.all false
set_option maxRecDepth 100000
set_option maxHeartbeats 4000000
namespace SH
open PySem PySem.Spec PyProof.Rows L2
theorem countP_eqU {x : V} : ∀ {xs : List V} {us : List Value}, Vals xs us → xs.all flatV = true → us.countP (eqU x) = xs.countP fun y => eqV y x
  | _, _, .nil, _ => rfl
  | y :: xs, u :: us, .cons r t, f => by
    rw [List.all_cons, Bool.and_eq_true] at f
    rw [List.countP_cons, List.countP_cons, countP_eqU t f.2, eqU_of r f.1]
section
variable {X : Cx}
noncomputable def rCount (K : PySem.W.Frag) : V → List V → Hp → VK → Prop := fun x xs H Q => ∃ (a : Addr) (ys : List V) (y : V), x = V.ref a ∧ xs = [y] ∧ SqL K H a ys ∧ flatV y = true ∧ ys.all flatV = true ∧ Q (.int (ys.countP (fun z => eqV z y) : Nat)) H
theorem mt_count : MtR X "list.count" (rCount X.K) := by
  intro pins s σ H x xs v us Q I rx rxs h
  obtain ⟨a, ys, y, rfl, rfl, hs, fy, fys, q⟩ := h
  cases rx
  cases rxs with
  | cons ry rt =>
    rename_i uy ut
    cases rt
    obtain ⟨its, rv, ⟨⟨cls, dd, data, sl⟩, n, ho, hc, hdn, hd⟩, hlen⟩ := I.list hs
    simp only at hc hd
    subst hc hd
    refine call_meets PySem.F.slot_list_count ⟨_, ho, rfl⟩ PySem.F.entry_list_count (PySem.F.args_list_count_2 _ _)
      (SeqAt.list_countAt a its.toArray n dd sl uy (eqU y)) ⟨ho, fun u' hu' => mem_eqAt ry fy rv fys u' (by simpa using hu'), ?_⟩
    refine ⟨.int (ys.countP (fun z => eqV z y) : Nat), H, I.tok _, ⟨s.toks, ?_⟩, q⟩
    rw [show its.toArray.toList = its from rfl, countP_eqU rv fys]
end
theorem mt_countK {X : Cx} (K : PySem.W.Frag) (hK : X.K = K) : MtR X "list.count" (rCount K) := by
  subst hK; exact mt_count
section
variable {P : Program} {w : World} {K : PySem.W.Frag} {mg : Str → Option Value} {base : Heap} {CH CJ : Addr}
theorem HouseAt.lstUpd {H : Hp} {hs jl R : Addr} {ad : List Addr} {m : VM.M} {acc acc' : List V} (h : HouseAt CH CJ H hs jl ad m) (hR : H R = some (.lst acc)) (hne : R ≠ jl) : HouseAt CH CJ (upd H R (.lst acc')) hs jl ad m := by
  refine HouseAt.useH h fun dh g => ?_
  refine ⟨⟨dh, by rw [upd_ne (ne_of g hR (by intro q; cases q))]; exact g⟩, by rw [upd_ne (Ne.symm hne)]; exact h.lst, h.nd, h.len, fun k a ea => ?_⟩
  refine JobAt.use (h.job k a ea) fun dx nl ob j1 j2 => ?_
  exact ⟨dx, nl, by rw [upd_ne (ne_of j1 hR (by intro q; cases q))]; exact j1, ob, by rw [upd_ne (ne_of j2 hR (by intro q; cases q))]; exact j2⟩
theorem Fr0.sqL {H H' : Hp} {hs jl nb : Addr} {xs : List V} {dh : Addr} {fs : List (Str × V)} (f : Fr0 CJ hs jl H H') (hh : H hs = some (.ins CH dh fs)) (hn : nb ≠ jl) (h : SqL K H nb xs) : SqL K H' nb xs := by
  rcases h with (h | ⟨o, h⟩) | h
  · exact .inl (.inl (f.keep _ _ h (ne_of h hh (by intro q; cases q)) hn (by intro _ _ q; cases q)))
  · exact .inl (.inr ⟨o, f.keep _ _ h (ne_of h hh (by intro q; cases q)) hn (by intro _ _ q; cases q)⟩)
  · exact .inr h
theorem Fr0.lst {H H' : Hp} {hs jl a : Addr} {xs : List V} {dh : Addr} {fs : List (Str × V)} (f : Fr0 CJ hs jl H H') (hh : H hs = some (.ins CH dh fs)) (hn : a ≠ jl) (h : H a = some (.lst xs)) : H' a = some (.lst xs) :=
  f.keep _ _ h (ne_of h hh (by intro q; cases q)) hn (by intro _ _ q; cases q)
theorem Fr0.tup {H H' : Hp} {hs jl a : Addr} {xs : List V} {dh : Addr} {fs ys} (f : Fr0 CJ hs jl H H') (hh : H hs = some (.ins CH dh fs)) (hl : H jl = some (.lst ys)) (h : H a = some (.tup xs)) : H' a = some (.tup xs) :=
  f.keep _ _ h (ne_of h hh (by intro q; cases q)) (ne_of h hl (by intro q; cases q)) (by intro _ _ q; cases q)
theorem Fr0.updNew {H H' : Hp} {hs jl R : Addr} {o : HO} (f : Fr0 CJ hs jl H H') (hR : H R = none) : Fr0 CJ hs jl H (upd H' R o) :=
  ⟨fun b u e n1 n2 n3 => by rw [upd_ne (ne_of_none e hR)]; exact f.keep b u e n1 n2 n3, fun b e => some_upd b (f.live b e)⟩
noncomputable abbrev sRun : Stmt := top 60
noncomputable abbrev sLose : Stmt := top 61
noncomputable abbrev sStatus : Stmt := top 62
noncomputable abbrev sIdle : Stmt := top 63
noncomputable abbrev sCounts : Stmt := top 64
noncomputable abbrev sFix : Stmt := top 65
noncomputable abbrev nRun : List Str := ["house", "schedule", "answer", "number", "possible", "event"]
theorem scRun : FnScope nRun ["house", "schedule"] (defScope sRun) := sc_mk rfl rfl rfl rfl (by decide +kernel)
theorem scLose : FnScope ["house", "number", "job"] ["house", "number"] (defScope sLose) := sc_mk rfl rfl rfl rfl (by decide +kernel)
theorem scStatus : FnScope ["house", "number", "job"] ["house", "number"] (defScope sStatus) := sc_mk rfl rfl rfl rfl (by decide +kernel)
theorem scIdle : FnScope ["house", "job"] ["house", "job"] (defScope sIdle) := sc_mk rfl rfl rfl rfl (by decide +kernel)
theorem scCounts : FnScope ["house", "outcomes", "job"] ["house"] (defScope sCounts) := sc_mk rfl rfl rfl rfl (by decide +kernel)
theorem scFix : FnScope ["house", "number", "job"] ["house", "number"] (defScope sFix) := sc_mk rfl rfl rfl rfl (by decide +kernel)
theorem PostC.give {hs jl : Addr} {H H1 : Hp} {ad : List Addr} {xs : List V} {mo : VM.M × List Int} {Q : VK} (q : PostC CH CJ hs jl H mo Q) (e : mo.2.map V.int = xs) (hl : xs.length ≤ sizeLine) (hh : HouseAt CH CJ H1 hs jl ad mo.1) (s : Fr0 CJ hs jl H H1) :
    ULst xs H1 Q := by
  subst e
  exact ⟨hl, fun p hpn => q _ p ad (hh.same (Same.upd hpn)) (fresh_of s.live hpn) upd_same (s.trans (same_fr (Same.upd hpn)))⟩
theorem runM_stop {m : VM.M} {n : Nat} {r : List Nat} (h : VM.evs m = []) : VM.runM (n :: r) m = (m, []) := by
  unfold VM.runM; rw [h]; rfl
theorem runM_go {m : VM.M} {n : Nat} {r : List Nat} {e : Nat × Nat} (h : (VM.evs m)[n % (VM.evs m).length]? = some e) : VM.runM (n :: r) m = ((VM.runM r (VM.settleM (VM.happenM m e))).1, e :: (VM.runM r (VM.settleM (VM.happenM m e))).2) := by
  rw [VM.runM, h]
theorem evNums_snoc (es : List (Nat × Nat)) (e : Nat × Nat) : VM.evNums (es ++ [e]) = VM.evNums es ++ [((e.1 : Nat) : Int), ((e.2 : Nat) : Int)] := by
  unfold VM.evNums
  rw [List.flatMap_append, List.map_append]; rfl
inductive RunInv (CH CJ : Addr) (H : Hp) (hs jl nb R : Addr) (ad : List Addr) (l : List Int) (m : VM.M) (i : Nat) (σ : L2.St) (H' : Hp) : Prop
  | mk (v1 v2 v3 : Option V) (mi : VM.M) (es : List (Nat × Nat)) (h1 : σ = [some (.ref hs), some (.ref nb), some (.ref R), v1, v2, v3]) (h2 : HouseAt CH CJ H' hs jl ad mi) (h3 : VM.WF mi)
    (h4 : VM.runM (l.map Int.toNat) m = ((VM.runM ((l.map Int.toNat).drop i) mi).1, es ++ (VM.runM ((l.map Int.toNat).drop i) mi).2)) (h5 : es.length ≤ i) (h6 : H' R = some (.lst (V.int 0 :: (VM.evNums es).map V.int))) (h7 : Fr0 CJ hs jl H H') : RunInv CH CJ H hs jl nb R ad l m i σ H'
theorem c_run (T : Txt K mg CH CJ) (TC : TxC mg) (D : DefIn K mg "run_schedule" sRun) (cE : Cal P w K mg base 4 "possible_events" ["house"] (spEvents CH CJ)) (cH : Cal P w K mg base 4 "happen" ["house", "event"] (spHappen CH CJ)) : Cal P w K mg base 5 "run_schedule" ["house", "schedule"] (spRow K CH CJ .run) := by
  refine def_cal D scRun (fun _ _ _ _ _ _ => bind2 fun _ _ => rfl) (fun vs H Q E h => ?_) (fun f cdv A outer s H vs Q E hr h => ?_)
  · obtain ⟨hs, jl, nb, ad, m, l, rfl, _⟩ := h; rfl
  · obtain ⟨hs, jl, nb, ad, m, l, rfl, hh, wf, hn, hne, hl, q⟩ := h
    have eC : VM.stepM m (.run l) = VM.runCallM m l := rfl
    refine Bod.mk (pss_cons (ps_if (pt_cmpR op_gt (pe_callB (call_lenK K rfl) rfl (T.no _ (by decide +kernel)) PySem.boot_len (pa_cons (pv 1) pa_nil)) (pe_gi TC.gMS rfl) (nomark _)) (pss_one (ps_ret (pe_lst (pa_cons (pe_gi TC.gLIMIT rfl) pa_nil)))) pss_nil)
      (pss_cons (ps_if (pt_val (pe_callB (cr_anyK K rfl rfl) rfl (T.no _ (by decide +kernel)) boot_any (pa_cons (pe_lc (own := [("number", 3)]) rfl scRun.nd (pi_listK K rfl (pv 1)) (blkOk_by (N := nRun) (sc := defScope sRun) (by decide +kernel)) (fun _ _ _ _ _ => pg_name (i := 3) scRun.nd rfl (Or.inl rfl)) (fun _ _ _ _ _ => pts_nil)
        (fun _ _ _ _ _ => pe_cmpR op_lt (pv 3) pe_int (nomark _))) pa_nil))) (pss_one (ps_ret (pe_lst (pa_cons (pe_gi TC.gRANGE rfl) pa_nil)))) pss_nil)
      (pss_cons (ps_set (i := 2) scRun.nd rfl (Or.inl rfl) (pe_lst (pa_cons pe_int pa_nil)))
      (pss_cons (ps_for PassesOwn.never rfl (pi_listK K rfl (pv 1)) (pg_name (i := 3) scRun.nd rfl (Or.inl rfl))
        (pss_cons (ps_set (i := 4) scRun.nd rfl (Or.inl rfl) (pe_cal cE hr rfl (pa_cons (pv 0) pa_nil)))
        (pss_cons (ps_if (pt_cmpR op_eq (pe_callB (call_lenK K rfl) rfl (T.no _ (by decide +kernel)) PySem.boot_len (pa_cons (pv 4) pa_nil)) pe_int (nomark _)) (pss_one ps_break) pss_nil)
        (pss_cons (ps_set (i := 5) scRun.nd rfl (Or.inl rfl) (pe_ixK K rfl (pv 4) (pe_op op_mod (pv 3) (pe_callB (call_lenK K rfl) rfl (T.no _ (by decide +kernel)) PySem.boot_len (pa_cons (pv 4) pa_nil))) (fun _ _ => rfl)))
        (pss_cons (ps_expr (pe_cal cH hr rfl (pa_cons (pv 0) (pa_cons (pv 5) pa_nil))))
        (pss_one (ps_expr (pe_bmK K rfl PySem.F.plainAttrs_list PySem.F.slot_list_extend PySem.F.type_list_extend mt_extendT (pv 2) (pa_cons (pv 5) pa_nil)))))))))
      (pss_one (ps_ret (pv 2))))))) ?_
    rw [eC] at q
    refine HouseAt.useH hh fun dh h1 => ?_
    refine ⟨_, rfl, nb, _, rfl, .inl hn, _, _, rfl, rfl, _, rfl, ?_⟩
    by_cases c1 : 512 < l.length
    · exact iteY (decide_eq_true (show (512 : Int) < ((l.map V.int).length : Nat) by rw [List.length_map]; omega)) (q.one (m := m) (by unfold VM.runCallM; rw [if_pos c1]) hh (same_fr (Same.refl _)))
    refine iteN (decide_eq_false (show ¬ (512 : Int) < ((l.map V.int).length : Nat) by rw [List.length_map]; omega)) ⟨_, rfl, nb, rfl, ⟨_, hn⟩, fun L hL => ?_⟩
    refine lc_all (K := K) (fun i => .bl (decide (l.getD i 0 < 0))) hn hL (by rw [List.length_map]; exact hl) (fun i x H2 hi hS A hA => ?_) (fun H2 hS hy => ?_)
    · refine int_use hi fun z hz => ?_
      have ez : l.getD i 0 = z := by rw [List.getD_eq_getElem?_getD, hz]; rfl
      rw [ez] at hA
      exact ⟨rfl, _, rfl, _, _, rfl, rfl, hA _ (Same.refl _)⟩
    have e : ((List.range (l.map V.int).length).map fun i => V.bl (decide (l.getD i 0 < 0))) = (l.map fun n => decide (n < 0)).map V.bl := by
      rw [List.length_map, range_int_map (fun z => V.bl (decide (z < 0))), List.map_map]; rfl
    rw [e] at hy
    refine ⟨L, _, rfl, SqL.of hy, _, rfl, ?_⟩
    have e2 : (l.map fun n => decide (n < 0)).any id = l.any fun n => decide (n < 0) := by rw [List.any_map]; rfl
    rw [e2]
    have hh2 := hh.same hS
    cases c2 : l.any fun n => decide (n < 0) with
    | true => exact iteT (q.one (m := m) (by unfold VM.runCallM; rw [if_neg c1, c2]; rfl) hh2 (same_fr hS))
    | false =>
      have hpos : ∀ z ∈ l, 0 ≤ z := fun z hz => by
        have := List.any_eq_false.mp c2 z hz
        simp at this
        exact this
      have er : VM.runCallM m l = ((VM.runM (l.map Int.toNat) m).1, 0 :: VM.evNums (VM.runM (l.map Int.toNat) m).2) := by unfold VM.runCallM; rw [if_neg c1, c2]; rfl
      rw [er] at q
      refine iteF ⟨(by show 1 ≤ sizeLine; decide), fun R hR2 => ?_⟩
      have hR : H R = none := fresh_of (same_some hS) hR2
      have sR : Same H (upd H2 R (.lst [.int 0])) := fun b o z => by rw [upd_ne (ne_of_none z hR)]; exact hS _ _ z
      have njR : R ≠ jl := Ne.symm (ne_of_none hh.lst hR)
      refine ⟨_, rfl, nb, rfl, ⟨_, sR.seq hn⟩, ?_⟩
      have fin : ∀ H' mi es, HouseAt CH CJ H' hs jl ad mi → VM.runM (l.map Int.toNat) m = (mi, es) → H' R = some (.lst (V.int 0 :: (VM.evNums es).map V.int)) → Fr0 CJ hs jl H H' → Q (.ref R) H' := fun H' mi es g er hr f => by
        rw [er] at q
        exact q H' R ad g hR hr f
      refine for_list (K := K) (a := nb) (xs := l.map V.int) (RunInv CH CJ H hs jl nb R ad l m)
        ⟨none, none, none, m, [], rfl, hh.same sR, wf, rfl, Nat.zero_le _, upd_same, same_fr sR⟩ (fun i σ H' _ hi5 => by obtain ⟨_, _, _, _, _, _, _, _, _, _, _, f5⟩ := hi5; exact f5.sqL h1 hne hn)
        (fun i x σ H' hi h0 => ?_) (fun σ H' h0 => ?_)
      · obtain ⟨v1, v2, v3, mi, es, ee, h5, wf5, er5, el5, r5, f5⟩ := h0
        subst ee
        refine int_use hi fun z hz => ?_
        have hil : i < l.length := (List.getElem?_eq_some_iff.mp hz).1
        have hz0 := hpos z (List.mem_of_getElem? hz)
        obtain ⟨n, rfl⟩ : ∃ n : Nat, z = (n : Int) := ⟨z.toNat, by omega⟩
        have hdr : (l.map Int.toNat).drop i = n :: (l.map Int.toNat).drop (i + 1) := by
          have : (l.map Int.toNat)[i]? = some n := by rw [List.getElem?_map, hz]; rfl
          obtain ⟨hi2, e2⟩ := List.getElem?_eq_some_iff.mp this
          rw [List.drop_eq_getElem_cons hi2, e2]
        refine ⟨_, rfl, hs, jl, ad, mi, rfl, h5, wf5, fun H6 p ys s6 hp hy6 ev => ?_⟩
        have h6 := h5.same s6
        have r6 := s6 _ _ r5
        have f6 : Fr0 CJ hs jl H H6 := f5.trans (same_fr s6)
        have hlen : ys.length = (VM.evs mi).length := ev.length.symm
        refine ⟨_, rfl, p, _, rfl, .inl (SqL.of hy6), rfl, _, rfl, ?_⟩
        have dz : decide (V.int ((ys.length : Nat) : Int) = V.int 0) = (ys.length == 0) := dec_nat (b := 0)
        rw [dz]
        cases hz6 : (ys.length == 0) with
        | true =>
          have e0 : VM.evs mi = [] := List.length_eq_zero_iff.mp (by rw [← hlen]; exact eq_of_beq hz6)
          rw [hdr, runM_stop e0, List.append_nil] at er5
          exact iteT ⟨_, rfl, fin H6 mi es h6 er5 r6 f6⟩
        | false =>
          have hp0 : 0 < ys.length := by
            cases hh7 : ys.length with
            | zero => rw [hh7] at hz6; cases hz6
            | succ _ => omega
          have hmod : n % ys.length < ys.length := Nat.mod_lt _ hp0
          obtain ⟨e, he, t, ht, ht6⟩ := ev.at_ (List.getElem?_eq_getElem hmod)
          have hyn : ys[n % ys.length]? = some (.ref t) := by rw [List.getElem?_eq_getElem hmod, ht]
          have atMod : atI ys ((n : Int) % ((ys.length : Nat) : Int)) = some (V.ref t) := by rw [← Int.natCast_emod]; exact atI_nat hyn
          refine iteF ⟨_, rfl, _, rfl, _, rfl, p, _, rfl, .inl (SqL.of hy6), _, _, rfl, rfl, (by omega), V.ref t, ⟨p, _, _, rfl, rfl, SqL.of hy6, atMod⟩, ?_⟩
          have he' : (VM.evs mi)[n % (VM.evs mi).length]? = some e := by rw [← hlen]; exact he
          have hmem : e ∈ VM.evs mi := List.mem_of_getElem? he'
          obtain ⟨wf7, n7⟩ := wf5.happen hmem
          obtain ⟨wf8, n8⟩ := wf7.settle
          refine HouseAt.useH h6 fun dh6 g6 => ?_
          refine ⟨_, rfl, _, rfl, hs, jl, t, ad, mi, e, rfl, h6, wf5, ht6, hmem, fun H7 h7 f7 => ?_⟩
          have r7 : H7 R = some (.lst (V.int 0 :: (VM.evNums es).map V.int)) := f7.lst g6 njR r6
          have t7 : H7 t = some (.tup [.int e.1, .int e.2]) := f7.tup g6 h6.lst ht6
          have hsz : (V.int 0 :: (VM.evNums es).map V.int).length + 2 ≤ sizeLine := by
            rw [List.length_cons, List.length_map, VM.evNums_len]
            exact Nat.le_trans (show 2 * es.length + 1 + 2 ≤ 2000 by omega) (by decide)
          refine ⟨_, rfl, .inl ⟨rfl, _, SqL.of r7⟩, _, rfl, R, t, _, _, rfl, rfl, r7, t7, hsz, ?_⟩
          refine ⟨_, _, _, _, es ++ [e], rfl, h7.lstUpd r7 njR, wf8, ?_, by rw [List.length_append, List.length_singleton]; omega, ?_, (f6.trans f7).updNew hR⟩
          · rw [er5, hdr, runM_go he', List.append_assoc]; rfl
          · rw [upd_same, evNums_snoc, List.map_append]; rfl
      · obtain ⟨v1, v2, v3, mi, es, ee, h5, wf5, er5, el5, r5, f5⟩ := h0
        subst ee
        rw [List.length_map, List.drop_of_length_le (by rw [List.length_map]; exact Nat.le_refl _)] at er5
        rw [show VM.runM [] mi = (mi, []) from rfl, List.append_nil] at er5
        exact ⟨_, rfl, fin H' mi es h5 er5 r5 f5⟩
end
end SH
end
section
set_option Elab.async false
set_option linter.all false
set_option maxRecDepth 100000
set_option maxHeartbeats 4000000
namespace SH
open PySem PySem.Spec PyProof.Rows L2
theorem isJob_nat {m : VM.M} {n : Int} (h : VM.isJob m n = true) : ∃ k : Nat, n = (k : Int) ∧ k < m.n := by
  have h2 := VM.isJob_lt h
  unfold VM.isJob at h
  rw [Bool.and_eq_true] at h
  have h1 := of_decide_eq_true h.1
  exact ⟨n.toNat, by omega, h2⟩
theorem all_one {α : Type} (f : α → Bool) (x : α) : [x].all f = f x := by simp
section
variable {P : Program} {w : World} {K : PySem.W.Frag} {mg : Str → Option Value} {base : Heap} {CH CJ : Addr}
theorem c_lose (T : Txt K mg CH CJ) (TC : TxC mg) (D : DefIn K mg "lose_job" sLose) (cA : Cal P w K mg base 1 "are_jobs" ["house", "numbers"] (spAreJobs K CH CJ)) (cR : Cal P w K mg base 1 "is_running" ["job"] (spLook CJ VM.J.running))
    (cL : Cal P w K mg base 4 "lose_running" ["house", "job"] (spLoseRun CH CJ)) : Cal P w K mg base 5 "lose_job" ["house", "number"] (spNum CH CJ .lose) := by
  refine def_cal D scLose (fun _ _ _ _ _ _ => bind2 fun _ _ => rfl) (fun vs H Q E h => ?_) (fun f cdv A outer s H vs Q E hr h => ?_)
  · obtain ⟨hs, jl, ad, m, n, rfl, _⟩ := h; rfl
  · obtain ⟨hs, jl, ad, m, n, rfl, hh, wf, q⟩ := h
    have hr1 : Room 1 _ := hr.mono (by decide)
    have eS : VM.stepM m (.lose n) = if !VM.isJob m n then (m, [-1]) else if !(m.j n.toNat).running then (m, [-4]) else (VM.loseM m n.toNat, [(((m.j n.toNat).losses + 1 : Nat) : Int)]) := rfl
    refine Bod.mk (pss_cons (ps_if (pt_not (pt_val (pe_cal cA hr1 rfl (pa_cons (pv 0) (pa_cons (pe_lst (pa_cons (pv 1) pa_nil)) pa_nil))))) (pss_one (ps_ret (pe_lst (pa_cons (pe_gi TC.gJOB rfl) pa_nil)))) pss_nil)
      (pss_cons (ps_set (i := 2) scLose.nd rfl (Or.inl rfl) (pe_ixK K rfl (pe_fldK K rfl (pv 0) rfl) (pv 1) (fun _ _ => rfl)))
      (pss_cons (ps_if (pt_not (pt_val (pe_cal cR hr1 rfl (pa_cons (pv 2) pa_nil)))) (pss_one (ps_ret (pe_lst (pa_cons (pe_gi TC.gIDLE rfl) pa_nil)))) pss_nil)
      (pss_cons (ps_expr (pe_cal cL hr rfl (pa_cons (pv 0) (pa_cons (pv 2) pa_nil))))
      (pss_one (ps_ret (pe_lst (pa_cons (pe_fldK K rfl (pv 2) rfl) pa_nil)))))))) ?_
    refine ⟨_, rfl, _, rfl, (by show 1 ≤ sizeLine; decide), fun p hp => ⟨hs, jl, p, ad, m, [n], rfl, hh.same (Same.upd hp), SqL.of upd_same, (by show 1 ≤ 100000; decide), fun H2 s2' => ⟨_, rfl, ?_⟩⟩⟩
    have s2 : Same H H2 := (Same.upd hp).trans s2'
    have hh2 := hh.same s2
    rw [all_one]
    cases c1 : VM.isJob m n with
    | false =>
      rw [c1, if_pos (by rfl)] at eS
      exact iteT (q.one (m := m) eS hh2 (same_fr s2))
    | true =>
      rw [c1, if_neg (by simp)] at eS
      obtain ⟨k, rfl, hk⟩ := isJob_nat c1
      rw [Int.toNat_natCast] at eS
      refine HouseAt.useH hh2 fun dh h1 => ?_
      refine HouseAt.useA hh2 hk fun a ha ja => ?_
      refine iteF ⟨_, rfl, _, ⟨hs, CH, dh, _, rfl, h1, T.clH, T.aH _ (by decide +kernel), hf_jobs jl m⟩, _, rfl, V.ref a, ⟨jl, _, _, rfl, rfl, SqL.of hh2.lst, atI_nat (by rw [List.getElem?_map, ha]; rfl)⟩, ?_⟩
      refine ⟨_, rfl, _, ⟨a, k, m.j k, rfl, ja, rfl⟩, _, rfl, ?_⟩
      cases c2 : (m.j k).running with
      | false =>
        rw [c2, if_pos (by rfl)] at eS
        exact iteT (q.one (m := m) eS hh2 (same_fr s2))
      | true =>
        rw [c2, if_neg (by simp)] at eS
        refine iteF ⟨_, rfl, _, rfl, hs, jl, a, ad, m, k, rfl, hh2, wf, ha, c2, fun H3 h3 k3 => ?_⟩
        refine JobAt.use (h3.job k a ha) fun dx nl ob j1 j2 => ?_
        refine ⟨_, rfl, _, ⟨a, CJ, dx, _, rfl, j1, T.clJ, T.aJ _ (by decide +kernel), jf_losses _ _ _⟩, ?_⟩
        have el : ((VM.loseM m k).j k).losses = (m.j k).losses + 1 := by
          unfold VM.loseM
          rw [VM.settle_losses, VM.M.upd_same hk, VM.loses_losses]
        rw [eS] at q
        exact q.give (by rw [el]; rfl) (by show 1 ≤ sizeLine; decide) h3 ((same_fr s2).trans k3.fr)
noncomputable def idleM (m : VM.M) (k : Nat) : Int := if !VM.wants m k then 0 else if !(m.j k).answered then 1 else if !needsThere m k then 2 else 3
inductive UIdle (CH CJ : Addr) (vs : List V) (H : Hp) (Q : VK) : Prop
  | mk (hs jl a : Addr) (ad : List Addr) (m : VM.M) (k : Nat) (h0 : vs = [.ref hs, .ref a]) (h1 : HouseAt CH CJ H hs jl ad m) (h2 : VM.WF m) (h3 : ad[k]? = some a) (h4 : ∀ H', Same H H' → Q (.int (idleM m k)) H') : UIdle CH CJ vs H Q
noncomputable def spIdle (CH CJ : Addr) : Sp := fun vs H Q _ => UIdle CH CJ vs H Q
theorem c_idle (T : Txt K mg CH CJ) (TC : TxC mg) (D : DefIn K mg "status_of_idle" sIdle) (cM : Cal P w K mg base 2 "wanted_marks" ["house"] (spMarks CH CJ)) (cN : Cal P w K mg base 2 "needs_are_there" ["house", "job"] (spNeeds CH CJ)) : Cal P w K mg base 3 "status_of_idle" ["house", "job"] (spIdle CH CJ) := by
  refine def_cal D scIdle (fun _ _ _ _ _ _ => bind2 fun _ _ => rfl) (fun vs H Q E h => ?_) (fun f cdv A outer s H vs Q E hr h => ?_)
  · obtain ⟨hs, jl, a, ad, m, k, rfl, _⟩ := h; rfl
  · obtain ⟨hs, jl, a, ad, m, k, rfl, hh, wf, ha, q⟩ := h
    have hkn := hh.lt ha
    refine Bod.mk (pss_cons (ps_if (pt_not (pt_val (pe_ixK K rfl (pe_cal cM hr rfl (pa_cons (pv 0) pa_nil)) (pe_fldK K rfl (pv 1) rfl) (fun _ _ => rfl)))) (pss_one (ps_ret (pe_gi TC.gS0 rfl))) pss_nil)
      (pss_cons (ps_if (pt_not (pt_val (pe_fldK K rfl (pv 1) rfl))) (pss_one (ps_ret (pe_gi TC.gS1 rfl))) pss_nil)
      (pss_cons (ps_if (pt_not (pt_val (pe_cal cN hr rfl (pa_cons (pv 0) (pa_cons (pv 1) pa_nil))))) (pss_one (ps_ret (pe_gi TC.gS2 rfl))) pss_nil)
      (pss_one (ps_ret (pe_gi TC.gS3 rfl)))))) ?_
    refine ⟨_, rfl, hs, jl, ad, m, rfl, hh, wf, fun H2 M s2 hM hM2 => ?_⟩
    have hh2 := hh.same s2
    refine JobAt.use (hh2.job k a ha) fun dx nl ob j1 j2 => ?_
    have fin : ∀ i, idleM m k = i → Q (.int i) H2 := fun i e => (congrArg (fun i => Q (.int i) H2) e).mp (q H2 s2)
    refine ⟨_, rfl, _, ⟨a, CJ, dx, _, rfl, j1, T.clJ, T.aJ _ (by decide +kernel), jf_number _ _ _⟩, _, ⟨M, _, _, rfl, rfl, SqL.of hM2, atI_nat (bls_at (by rw [VM.marks_length]; exact hkn))⟩, _, rfl, ?_⟩
    cases c1 : (VM.marks m).getD k false with
    | false => exact iteT (fin 0 (by unfold idleM VM.wants; rw [c1]; rfl))
    | true =>
      refine iteF ⟨_, rfl, _, ⟨a, CJ, dx, _, rfl, j1, T.clJ, T.aJ _ (by decide +kernel), jf_answered _ _ _⟩, _, rfl, ?_⟩
      cases c2 : (m.j k).answered with
      | false => exact iteT (fin 1 (by unfold idleM VM.wants; rw [c1, c2]; rfl))
      | true =>
        refine iteF ⟨_, rfl, _, rfl, hs, jl, a, ad, m, k, rfl, hh2, wf, ha, _, rfl, ?_⟩
        cases c3 : needsThere m k with
        | false => exact iteT (fin 2 (by unfold idleM VM.wants; rw [c1, c2, c3]; rfl))
        | true => exact iteF (fin 3 (by unfold idleM VM.wants; rw [c1, c2, c3]; rfl))
theorem status_eq (m : VM.M) (k : Nat) : VM.statusM m k = if (m.j k).failed then [7, (((m.j k).cause.getD 0 : Nat) : Int)] else if (m.j k).outcome == 2 then [6] else if (m.j k).outcome == 1 then [5] else if (m.j k).running then [4] else [idleM m k] := by
  unfold VM.statusM idleM VM.J.failed needsThere
  by_cases h3 : (m.j k).outcome = 3
  · rw [if_pos h3, if_pos (by rw [h3]; rfl)]
  · rw [if_neg h3, if_neg (c := ((m.j k).outcome == 3) = true) (by simpa using h3)]
    by_cases h2 : (m.j k).outcome = 2
    · rw [if_pos h2, if_pos (by rw [h2]; rfl)]
    · rw [if_neg h2, if_neg (c := ((m.j k).outcome == 2) = true) (by simpa using h2)]
      by_cases h1 : (m.j k).outcome = 1
      · rw [if_pos h1, if_pos (by rw [h1]; rfl)]
      · rw [if_neg h1, if_neg (c := ((m.j k).outcome == 1) = true) (by simpa using h1)]
        cases (m.j k).running <;> rfl
theorem c_status (T : Txt K mg CH CJ) (TC : TxC mg) (D : DefIn K mg "tell_status" sStatus) (cA : Cal P w K mg base 1 "are_jobs" ["house", "numbers"] (spAreJobs K CH CJ)) (cF : Cal P w K mg base 1 "is_failed" ["job"] (spLook CJ VM.J.failed)) (cR : Cal P w K mg base 1 "is_running" ["job"] (spLook CJ VM.J.running))
    (cI : Cal P w K mg base 3 "status_of_idle" ["house", "job"] (spIdle CH CJ)) : Cal P w K mg base 4 "tell_status" ["house", "number"] (spNum CH CJ .status) := by
  refine def_cal D scStatus (fun _ _ _ _ _ _ => bind2 fun _ _ => rfl) (fun vs H Q E h => ?_) (fun f cdv A outer s H vs Q E hr h => ?_)
  · obtain ⟨hs, jl, ad, m, n, rfl, _⟩ := h; rfl
  · obtain ⟨hs, jl, ad, m, n, rfl, hh, wf, q⟩ := h
    have hr1 : Room 1 _ := hr.mono (by decide)
    have eS : VM.stepM m (.status n) = (m, if !VM.isJob m n then [-1] else VM.statusM m n.toNat) := rfl
    refine Bod.mk (pss_cons (ps_if (pt_not (pt_val (pe_cal cA hr1 rfl (pa_cons (pv 0) (pa_cons (pe_lst (pa_cons (pv 1) pa_nil)) pa_nil))))) (pss_one (ps_ret (pe_lst (pa_cons (pe_gi TC.gJOB rfl) pa_nil)))) pss_nil)
      (pss_cons (ps_set (i := 2) scStatus.nd rfl (Or.inl rfl) (pe_ixK K rfl (pe_fldK K rfl (pv 0) rfl) (pv 1) (fun _ _ => rfl)))
      (pss_cons (ps_if (pt_val (pe_cal cF hr1 rfl (pa_cons (pv 2) pa_nil))) (pss_one (ps_ret (pe_lst (pa_cons (pe_gi TC.gS7 rfl) (pa_cons (pe_fldK K rfl (pv 2) rfl) pa_nil))))) pss_nil)
      (pss_cons (ps_if (pt_cmpR op_eq (pe_fldK K rfl (pv 2) rfl) (pe_gi T.gFETCHED rfl) (nomark _)) (pss_one (ps_ret (pe_lst (pa_cons (pe_gi TC.gS6 rfl) pa_nil)))) pss_nil)
      (pss_cons (ps_if (pt_cmpR op_eq (pe_fldK K rfl (pv 2) rfl) (pe_gi T.gBUILT rfl) (nomark _)) (pss_one (ps_ret (pe_lst (pa_cons (pe_gi TC.gS5 rfl) pa_nil)))) pss_nil)
      (pss_cons (ps_if (pt_val (pe_cal cR hr1 rfl (pa_cons (pv 2) pa_nil))) (pss_one (ps_ret (pe_lst (pa_cons (pe_gi TC.gS4 rfl) pa_nil)))) pss_nil)
      (pss_one (ps_ret (pe_lst (pa_cons (pe_cal cI hr rfl (pa_cons (pv 0) (pa_cons (pv 2) pa_nil))) pa_nil)))))))))) ?_
    refine ⟨_, rfl, _, rfl, (by show 1 ≤ sizeLine; decide), fun p hp => ⟨hs, jl, p, ad, m, [n], rfl, hh.same (Same.upd hp), SqL.of upd_same, (by show 1 ≤ 100000; decide), fun H2 s2' => ⟨_, rfl, ?_⟩⟩⟩
    have s2 : Same H H2 := (Same.upd hp).trans s2'
    have hh2 := hh.same s2
    rw [all_one]
    cases c1 : VM.isJob m n with
    | false =>
      rw [c1, if_pos (by rfl)] at eS
      exact iteT (q.one (m := m) eS hh2 (same_fr s2))
    | true =>
      rw [c1, if_neg (by simp)] at eS
      obtain ⟨k, rfl, hk⟩ := isJob_nat c1
      rw [Int.toNat_natCast, status_eq] at eS
      refine HouseAt.useH hh2 fun dh h1 => ?_
      refine HouseAt.useA hh2 hk fun a ha ja => ?_
      refine JobAt.use (hh2.job k a ha) fun dx nl ob j1 j2 => ?_
      refine iteF ⟨_, rfl, _, ⟨hs, CH, dh, _, rfl, h1, T.clH, T.aH _ (by decide +kernel), hf_jobs jl m⟩, _, rfl, V.ref a, ⟨jl, _, _, rfl, rfl, SqL.of hh2.lst, atI_nat (by rw [List.getElem?_map, ha]; rfl)⟩, ?_⟩
      refine ⟨_, rfl, _, ⟨a, k, m.j k, rfl, ja, rfl⟩, _, rfl, ?_⟩
      cases c2 : (m.j k).failed with
      | true =>
        rw [c2, if_pos (by rfl)] at eS
        rw [eS] at q
        obtain ⟨c, hc, _⟩ := wf.cause k (eq_of_beq c2)
        refine iteT ⟨_, rfl, _, ⟨a, CJ, dx, _, rfl, j1, T.clJ, T.aJ _ (by decide +kernel), jf_cause _ _ _⟩, ?_⟩
        exact q.give (ad := ad) (by rw [hc]; rfl) (by show 2 ≤ sizeLine; decide) hh2 (same_fr s2)
      | false =>
        rw [c2, if_neg (by simp)] at eS
        refine iteF ⟨_, rfl, _, ⟨a, CJ, dx, _, rfl, j1, T.clJ, T.aJ _ (by decide +kernel), jf_outcome _ _ _⟩, rfl, _, rfl, ?_⟩
        have d2 : decide (V.int (((m.j k).outcome : Nat) : Int) = V.int 2) = ((m.j k).outcome == 2) := dec_nat (b := 2)
        have d1 : decide (V.int (((m.j k).outcome : Nat) : Int) = V.int 1) = ((m.j k).outcome == 1) := dec_nat (b := 1)
        rw [d2]
        cases c3 : ((m.j k).outcome == 2) with
        | true =>
          rw [c3, if_pos (by rfl)] at eS
          exact iteT (q.one (m := m) eS hh2 (same_fr s2))
        | false =>
          rw [c3, if_neg (by simp)] at eS
          refine iteF ⟨_, rfl, _, ⟨a, CJ, dx, _, rfl, j1, T.clJ, T.aJ _ (by decide +kernel), jf_outcome _ _ _⟩, rfl, _, rfl, ?_⟩
          rw [d1]
          cases c4 : ((m.j k).outcome == 1) with
          | true =>
            rw [c4, if_pos (by rfl)] at eS
            exact iteT (q.one (m := m) eS hh2 (same_fr s2))
          | false =>
            rw [c4, if_neg (by simp)] at eS
            refine iteF ⟨_, rfl, _, ⟨a, k, m.j k, rfl, ja, rfl⟩, _, rfl, ?_⟩
            cases c5 : (m.j k).running with
            | true =>
              rw [c5, if_pos (by rfl)] at eS
              exact iteT (q.one (m := m) eS hh2 (same_fr s2))
            | false =>
              rw [c5, if_neg (by simp)] at eS
              rw [eS] at q
              refine iteF ⟨_, rfl, _, rfl, hs, jl, a, ad, m, k, rfl, hh2, wf, ha, fun H3 s3 => ?_⟩
              exact q.give (ad := ad) rfl (by show 1 ≤ sizeLine; decide) (hh2.same s3) (same_fr (s2.trans s3))
theorem c_fix (T : Txt K mg CH CJ) (TC : TxC mg) (D : DefIn K mg "fix_job" sFix) (cA : Cal P w K mg base 1 "are_jobs" ["house", "numbers"] (spAreJobs K CH CJ)) (cG : Cal P w K mg base 3 "forget_failures" ["house"] (spNil CH CJ .forget)) : Cal P w K mg base 4 "fix_job" ["house", "number"] (spNum CH CJ .fix) := by
  refine def_cal D scFix (fun _ _ _ _ _ _ => bind2 fun _ _ => rfl) (fun vs H Q E h => ?_) (fun f cdv A outer s H vs Q E hr h => ?_)
  · obtain ⟨hs, jl, ad, m, n, rfl, _⟩ := h; rfl
  · obtain ⟨hs, jl, ad, m, n, rfl, hh, wf, q⟩ := h
    have hr1 : Room 1 _ := hr.mono (by decide)
    have eS : VM.stepM m (.fix n) = if !VM.isJob m n then (m, [-1]) else (VM.forgetM (VM.unfailing m n.toNat), [0]) := rfl
    refine Bod.mk (pss_cons (ps_if (pt_not (pt_val (pe_cal cA hr1 rfl (pa_cons (pv 0) (pa_cons (pe_lst (pa_cons (pv 1) pa_nil)) pa_nil))))) (pss_one (ps_ret (pe_lst (pa_cons (pe_gi TC.gJOB rfl) pa_nil)))) pss_nil)
      (pss_cons (ps_set (i := 2) scFix.nd rfl (Or.inl rfl) (pe_ixK K rfl (pe_fldK K rfl (pv 0) rfl) (pv 1) (fun _ _ => rfl)))
      (pss_cons (ps_fldK K rfl (pv 2) pe_bl rfl)
      (pss_one (ps_ret (pe_cal cG hr rfl (pa_cons (pv 0) pa_nil))))))) ?_
    refine ⟨_, rfl, _, rfl, (by show 1 ≤ sizeLine; decide), fun p hp => ⟨hs, jl, p, ad, m, [n], rfl, hh.same (Same.upd hp), SqL.of upd_same, (by show 1 ≤ 100000; decide), fun H2 s2' => ⟨_, rfl, ?_⟩⟩⟩
    have s2 : Same H H2 := (Same.upd hp).trans s2'
    have hh2 := hh.same s2
    rw [all_one]
    cases c1 : VM.isJob m n with
    | false =>
      rw [c1, if_pos (by rfl)] at eS
      exact iteT (q.one (m := m) eS hh2 (same_fr s2))
    | true =>
      rw [c1, if_neg (by simp)] at eS
      obtain ⟨k, rfl, hk⟩ := isJob_nat c1
      rw [Int.toNat_natCast] at eS
      rw [eS] at q
      refine HouseAt.useH hh2 fun dh h1 => ?_
      refine HouseAt.useA hh2 hk fun a ha ja => ?_
      refine JobAt.use (hh2.job k a ha) fun dx nl ob j1 j2 => ?_
      refine iteF ⟨_, rfl, _, ⟨hs, CH, dh, _, rfl, h1, T.clH, T.aH _ (by decide +kernel), hf_jobs jl m⟩, _, rfl, V.ref a, ⟨jl, _, _, rfl, rfl, SqL.of hh2.lst, atI_nat (by rw [List.getElem?_map, ha]; rfl)⟩, ?_⟩
      refine ⟨_, rfl, _, ⟨a, CJ, dx, _, rfl, j1, T.clJ, T.aJ _ (by decide +kernel), jf_len _ _ _, rfl⟩, ?_⟩
      have hj := jobAt_upd (CJ := CJ) (y := { m.j k with failing := false }) j1 j2 rfl
      have h3 := hh2.step ha hj But.upd
      have k3 := hh2.kp ha But.upd hj
      refine ⟨_, rfl, hs, jl, ad, VM.unfailing m k, rfl, h3, wf.unfailing hk, fun H' p' ad' g hp' hy f' => ?_⟩
      have f3 : Fr0 CJ hs jl H _ := (same_fr s2).trans (k3.fr (hs := hs) (jl := jl))
      exact q H' p' ad' g (fresh_of f3.live hp') hy (f3.trans f')
end
end SH
end
section
set_option Elab.async false
set_option linter.all false
set_option maxRecDepth 100000
set_option maxHeartbeats 4000000
namespace SH
open PySem PySem.Spec PyProof.Rows L2
theorem count_out (m : VM.M) (t : Nat) : (((List.range m.n).map fun i => V.int (((m.j i).outcome : Nat) : Int)).countP fun z => eqV z (.int (t : Int))) = (VM.sel m fun x => x.outcome == t).length := by
  rw [List.countP_map, List.countP_eq_length_filter]
  unfold VM.sel
  congr 1
  refine List.filter_congr fun k _ => ?_
  show ((((m.j k).outcome : Nat) : Int) == ((t : Nat) : Int)) = ((m.j k).outcome == t)
  rw [Bool.eq_iff_iff, beq_iff_eq, beq_iff_eq]
  omega
theorem count_bl (bs : List Bool) : ((bs.map V.bl).countP fun z => eqV z (.bl true)) = ((List.range bs.length).filter fun k => bs.getD k false).length := by
  rw [List.countP_map, List.countP_eq_length_filter]
  have := congrArg List.length (VM.pick_filter false id bs)
  rw [List.length_map] at this
  have e : (bs.filter ((fun z => eqV z (.bl true)) ∘ V.bl)) = bs.filter id := List.filter_congr fun b _ => by cases b <;> rfl
  rw [e]
  exact this.symm
theorem flat_ints {α : Type} (f : α → Int) (l : List α) : (l.map fun i => V.int (f i)).all flatV = true := by
  rw [List.all_map, List.all_eq_true]; intro x _; rfl
theorem flat_bls (l : List Bool) : (l.map V.bl).all flatV = true := by
  rw [List.all_map, List.all_eq_true]; intro x _; rfl
section
variable {P : Program} {w : World} {K : PySem.W.Frag} {mg : Str → Option Value} {base : Heap} {CH CJ : Addr}
theorem c_counts (T : Txt K mg CH CJ) (TC : TxC mg) (D : DefIn K mg "tell_counts" sCounts) (cR : Cal P w K mg base 1 "is_running" ["job"] (spLook CJ VM.J.running)) (cM : Cal P w K mg base 2 "wanted_marks" ["house"] (spMarks CH CJ))
    (cF : Cal P w K mg base 1 "free_workers" ["house"] (spHouse CH CJ fun m => .int (VM.free m : Nat))) (cZ : Cal P w K mg base 5 "is_at_rest" ["house"] (spHouse CH CJ fun m => .bl (VM.evs m).isEmpty)) : Cal P w K mg base 6 "tell_counts" ["house"] (spNil CH CJ .counts) := by
  refine def_cal D scCounts (fun _ _ _ _ _ _ => bind1 fun _ => rfl) (fun vs H Q E h => ?_) (fun f cdv A outer s H vs Q E hr h => ?_)
  · obtain ⟨hs, jl, ad, m, rfl, _⟩ := h; rfl
  · obtain ⟨hs, jl, ad, m, rfl, hh, wf, q⟩ := h
    have hr1 : Room 1 _ := hr.mono (by decide)
    have hr2 : Room 2 _ := hr.mono (by decide)
    refine HouseAt.useH hh fun dh h1 => ?_
    refine Bod.mk (pss_cons (ps_setLc (i := 1) (own := [("job", 2)]) rfl scCounts.nd rfl rfl (sw_true rfl rfl rfl (by decide +kernel)) (pi_listK K rfl (pe_fldK K rfl (pv 0) rfl)) (blkOk_by (N := ["house", "outcomes", "job"]) (sc := defScope sCounts) (by decide +kernel)) (fun _ _ _ _ _ => pg_name (i := 2) scCounts.nd rfl (Or.inl rfl)) (fun _ _ _ _ _ => pts_nil) (fun _ _ _ _ _ => pe_fldK K rfl (pv 2) rfl))
      (pss_one (ps_ret (pe_lst (pa_cons pe_int
        (pa_cons (pe_callB (call_lenK K rfl) rfl (T.no _ (by decide +kernel)) PySem.boot_len (pa_cons (pe_fldK K rfl (pv 0) rfl) pa_nil))
        (pa_cons (pe_bmK K rfl PySem.F.plainAttrs_list PySem.F.slot_list_count PySem.F.type_list_count (mt_countK K rfl) (pv 1) (pa_cons (pe_gi T.gBUILT rfl) pa_nil))
        (pa_cons (pe_bmK K rfl PySem.F.plainAttrs_list PySem.F.slot_list_count PySem.F.type_list_count (mt_countK K rfl) (pv 1) (pa_cons (pe_gi T.gFETCHED rfl) pa_nil))
        (pa_cons (pe_bmK K rfl PySem.F.plainAttrs_list PySem.F.slot_list_count PySem.F.type_list_count (mt_countK K rfl) (pv 1) (pa_cons (pe_gi T.gFAILED rfl) pa_nil))
        (pa_cons (pe_callB (call_lenK K rfl) rfl (T.no _ (by decide +kernel)) PySem.boot_len (pa_cons (pe_lc (own := [("job", 2)]) rfl scCounts.nd (pi_listK K rfl (pe_fldK K rfl (pv 0) rfl)) (blkOk_by (N := ["house", "outcomes", "job"]) (sc := defScope sCounts) (by decide +kernel)) (fun _ _ _ _ _ => pg_name (i := 2) scCounts.nd rfl (Or.inl rfl)) (fun _ _ _ _ _ => pts_one (pt_val (pe_cal cR hr1 rfl (pa_cons (pv 2) pa_nil)))) (fun _ _ _ _ _ => pv 2)) pa_nil))
        (pa_cons (pe_bmK K rfl PySem.F.plainAttrs_list PySem.F.slot_list_count PySem.F.type_list_count (mt_countK K rfl) (pe_cal cM hr2 rfl (pa_cons (pv 0) pa_nil)) (pa_cons pe_bl pa_nil))
        (pa_cons (pe_cal cF hr1 rfl (pa_cons (pv 0) pa_nil))
        (pa_cons (pe_fldK K rfl (pv 0) rfl)
        (pa_cons (pe_ifExp (pt_val (pe_cal cZ hr rfl (pa_cons (pv 0) pa_nil))) pe_int pe_int) pa_nil)))))))))))))) ?_
    refine ⟨_, rfl, _, ⟨hs, CH, dh, _, rfl, h1, T.clH, T.aH _ (by decide +kernel), hf_jobs jl m⟩, jl, rfl, ⟨_, SqL.of hh.lst⟩, fun O hO => ?_⟩
    refine lc_all (K := K) (fun i => .int (((m.j i).outcome : Nat) : Int)) (SqL.of hh.lst) hO (hh.small wf) (fun i x H2 hi hS A hA => ?_) (fun H2 s2 hy => ?_)
    · refine ref_use hi fun a ha => ?_
      refine JobAt.use ((hh.job i a ha).same hS) fun dx nl ob g1 g2 => ?_
      exact ⟨rfl, _, rfl, _, ⟨a, CJ, dx, _, rfl, g1, T.clJ, T.aJ _ (by decide +kernel), jf_outcome _ _ _⟩, hA _ (Same.refl _)⟩
    rw [List.length_map, hh.len] at hy
    have hh2 := hh.same s2
    refine HouseAt.useH hh2 fun dh2 g2 => ?_
    have fO := flat_ints (fun i => (((m.j i).outcome : Nat) : Int)) (List.range m.n)
    refine ⟨_, rfl, _, ⟨hs, CH, dh2, _, rfl, g2, T.clH, T.aH _ (by decide +kernel), hf_jobs jl m⟩, jl, _, rfl, .inl (SqL.of hh2.lst), ?_⟩
    refine ⟨_, rfl, .inl ⟨rfl, _, SqL.of hy⟩, O, _, _, rfl, rfl, SqL.of hy, rfl, fO, ?_⟩
    refine ⟨_, rfl, .inl ⟨rfl, _, SqL.of hy⟩, O, _, _, rfl, rfl, SqL.of hy, rfl, fO, ?_⟩
    refine ⟨_, rfl, .inl ⟨rfl, _, SqL.of hy⟩, O, _, _, rfl, rfl, SqL.of hy, rfl, fO, ?_⟩
    refine ⟨_, rfl, _, ⟨hs, CH, dh2, _, rfl, g2, T.clH, T.aH _ (by decide +kernel), hf_jobs jl m⟩, jl, rfl, ⟨_, SqL.of hh2.lst⟩, fun W hW => ?_⟩
    refine lc_plain (K := K) (fun i => (m.j i).running) (fun i => .ref (ad.getD i 0)) (SqL.of hh2.lst) hW (hh.small wf) (fun i x H3 hi hS A B hA hB => ?_) (fun H3 s3 hW3 => ?_)
    · refine ref_use hi fun a ha => ?_
      refine ⟨rfl, _, rfl, _, ⟨a, i, m.j i, rfl, (hh2.job i a ha).same hS, rfl⟩, _, rfl, ?_⟩
      cases hc : (m.j i).running with
      | true =>
        refine iteT ⟨_, rfl, ?_⟩
        have := hA hc _ (Same.refl H3)
        rw [List.getD_eq_getElem?_getD, ha] at this
        exact this
      | false => exact iteF (hB hc _ (Same.refl _))
    refine ⟨W, _, rfl, .inl (SqL.of hW3), ?_⟩
    have s13 : Same H H3 := s2.trans s3
    refine ⟨_, rfl, hs, jl, ad, m, rfl, hh.same s13, wf, fun H4 M s4 hM hM4 => ?_⟩
    have s14 : Same H H4 := s13.trans s4
    refine ⟨.inl ⟨rfl, _, SqL.of hM4⟩, M, _, _, rfl, rfl, SqL.of hM4, rfl, flat_bls _, ?_⟩
    refine ⟨_, rfl, hs, jl, ad, m, rfl, hh.same s14, wf, fun H5 s5 => ?_⟩
    have s15 : Same H H5 := s14.trans s5
    refine HouseAt.useH (hh.same s15) fun dh5 g5 => ?_
    refine ⟨_, rfl, _, ⟨hs, CH, dh5, _, rfl, g5, T.clH, T.aH _ (by decide +kernel), hf_starts jl m⟩, ?_⟩
    refine ⟨_, rfl, hs, jl, ad, m, rfl, hh.same s15, wf, fun H6 s6 => ⟨_, rfl, ?_⟩⟩
    have s16 : Same H H6 := s15.trans s6
    have eW : ((((List.range (ad.map V.ref).length).filter fun i => (m.j i).running).map fun i => V.ref (ad.getD i 0)).length) = (VM.sel m VM.J.running).length := by
      rw [List.length_map, List.length_map, hh.len]; rfl
    have eM : ((VM.marks m).map V.bl).countP (fun z => eqV z (.bl true)) = ((List.range m.n).filter (VM.wants m)).length := by
      rw [count_bl, VM.marks_length]; rfl
    have eL : (ad.map V.ref).length = m.n := by rw [List.length_map, hh.len]
    have e1 : (((List.range m.n).map fun i => V.int (((m.j i).outcome : Nat) : Int)).countP fun z => eqV z (.int 1)) = (VM.sel m fun x => x.outcome == 1).length := count_out m 1
    have e2 : (((List.range m.n).map fun i => V.int (((m.j i).outcome : Nat) : Int)).countP fun z => eqV z (.int 2)) = (VM.sel m fun x => x.outcome == 2).length := count_out m 2
    have e3 : (((List.range m.n).map fun i => V.int (((m.j i).outcome : Nat) : Int)).countP fun z => eqV z (.int 3)) = (VM.sel m VM.J.failed).length := count_out m 3
    cases hz : (VM.evs m).isEmpty with
    | true =>
      refine iteT (q.give (ad := ad) ?_ (by show 10 ≤ sizeLine; decide) (hh.same s16) (same_fr s16))
      show (VM.countsM m).map V.int = _
      rw [e1, e2, e3, eW, eM, eL]
      unfold VM.countsM
      rw [hz]; rfl
    | false =>
      refine iteF (q.give (ad := ad) ?_ (by show 10 ≤ sizeLine; decide) (hh.same s16) (same_fr s16))
      show (VM.countsM m).map V.int = _
      rw [e1, e2, e3, eW, eM, eL]
      unfold VM.countsM
      rw [hz]; rfl
end
end SH
end
section
set_option Elab.async false
set_option linter.all false
set_option maxRecDepth 100000
set_option maxHeartbeats 4000000
namespace SH
open PySem PySem.Spec PyProof.Rows L2
noncomputable def cf (k : Nat) (na ra : Addr) (b : Nat) : List (Str × V) := [("kind", .int k), ("numbers", .ref na), ("row", .ref ra), ("behind", .int b)]
theorem cf_kind (k : Nat) (na ra : Addr) (b : Nat) : (cf k na ra b).lookup ("kind" : Str) = some (.int k) := rfl
theorem cf_numbers (k : Nat) (na ra : Addr) (b : Nat) : (cf k na ra b).lookup ("numbers" : Str) = some (.ref na) := rfl
theorem cf_row (k : Nat) (na ra : Addr) (b : Nat) : (cf k na ra b).lookup ("row" : Str) = some (.ref ra) := rfl
theorem cf_behind (k : Nat) (na ra : Addr) (b : Nat) : (cf k na ra b).lookup ("behind" : Str) = some (.int b) := rfl
structure TxH (K : PySem.W.Frag) (mg : Str → Option Value) (CC CJ : Addr) : Prop where
  clC : Cls K CC
  ne : CC ≠ CJ
  aC : ∀ f ∈ (["kind", "numbers", "row", "behind"] : List Str), NoAttr K CC f
  g0 : GI mg "CALL_JOB" 0
  g1 : GI mg "CALL_WORKERS" 1
  g2 : GI mg "CALL_KEEP" 2
  g3 : GI mg "CALL_GOAL" 3
  g4 : GI mg "CALL_DROP" 4
  g5 : GI mg "CALL_EVENTS" 5
  g6 : GI mg "CALL_RUN" 6
  g7 : GI mg "CALL_LOSE" 7
  g8 : GI mg "CALL_STATUS" 8
  g9 : GI mg "CALL_COUNTS" 9
  g10 : GI mg "CALL_FIX" 10
  gWN : ∃ a, mg "WHOLE_NUMBERS" = some (.ref a) ∧ ∀ H, SqT K H a (VM.wholeN.map fun (n : Nat) => V.int n)
  gHR : ∃ a, mg "HAS_ROW" = some (.ref a) ∧ ∀ H, SqT K H a (VM.hasRow.map V.bl)
section
variable {P : Program} {w : World} {K : PySem.W.Frag} {mg : Str → Option Value} {base : Heap} {CH CJ CC : Addr}
noncomputable abbrev sInitC : Stmt := inClass (top 82) 0
noncomputable abbrev sRead : Stmt := top 83
noncomputable abbrev sAnswer : Stmt := top 84
noncomputable abbrev sAnswers : Stmt := top 85
theorem scInitC : FnScope ["self", "kind", "numbers", "row", "behind"] ["self", "kind", "numbers", "row", "behind"] (defScope sInitC) := sc_mk rfl rfl rfl rfl (by decide +kernel)
theorem scRead : FnScope ["calls", "place", "kind", "behind", "numbers", "row", "first"] ["calls", "place"] (defScope sRead) := sc_mk rfl rfl rfl rfl (by decide +kernel)
theorem scAnswer : FnScope ["house", "call"] ["house", "call"] (defScope sAnswer) := sc_mk rfl rfl rfl rfl (by decide +kernel)
theorem scAnswers : FnScope ["calls", "house", "given", "place", "call", "answer"] ["calls"] (defScope sAnswers) := sc_mk rfl rfl rfl rfl (by decide +kernel)
inductive UInitC (CC : Addr) (vs : List V) (H : Hp) (Q : VK) : Prop
  | mk (p dx na ra : Addr) (k b : Nat) (h0 : vs = [.ref p, .int k, .ref na, .ref ra, .int b]) (h1 : H p = some (.ins CC dx [])) (h2 : ∀ H', H' p = some (.ins CC dx (cf k na ra b)) → But p H H' → Q .non H') : UInitC CC vs H Q
noncomputable def spInitC (CC : Addr) : Sp := fun vs H Q _ => UInitC CC vs H Q
theorem ok_initC {f : Addr} {fd : FuncData} (F : Fun K "__init__" "Call.__init__" sInitC f fd) (T : TxH K mg CC CJ) : FnOk P w K mg base CX0 1 f fd ["self", "kind", "numbers", "row", "behind"] (spInitC CC) := by
  refine F.ok scInitC (fun vs H Q E h => ?_) (fun cdv A outer s H vs Q E hr h => ?_)
  · obtain ⟨p, dx, na, ra, k, b, rfl, _⟩ := h; rfl
  · obtain ⟨p, dx, na, ra, k, b, rfl, hp, q⟩ := h
    refine Bod.mk (pss_cons (ps_fldK K rfl (pv 0) (pv 1) rfl) (pss_cons (ps_fldK K rfl (pv 0) (pv 2) rfl) (pss_cons (ps_fldK K rfl (pv 0) (pv 3) rfl) (pss_one (ps_fldK K rfl (pv 0) (pv 4) rfl))))) ?_
    refine ⟨_, rfl, _, rfl, _, ⟨p, CC, dx, _, rfl, hp, T.clC, T.aC _ (by decide +kernel), (by show 0 < 1000; decide), rfl⟩, ?_⟩
    refine ⟨_, rfl, _, rfl, _, ⟨p, CC, dx, _, rfl, upd_same, T.clC, T.aC _ (by decide +kernel), (by show 1 < 1000; decide), rfl⟩, ?_⟩
    refine ⟨_, rfl, _, rfl, _, ⟨p, CC, dx, _, rfl, upd_same, T.clC, T.aC _ (by decide +kernel), (by show 2 < 1000; decide), rfl⟩, ?_⟩
    refine ⟨_, rfl, _, rfl, _, ⟨p, CC, dx, _, rfl, upd_same, T.clC, T.aC _ (by decide +kernel), (by show 3 < 1000; decide), rfl⟩, ?_⟩
    exact q _ upd_same fun b o e n => by rw [upd_ne n, upd_ne n, upd_ne n, upd_ne n]; exact e
noncomputable def CallO (CC : Addr) (H : Hp) (c na ra : Addr) (k : Nat) (nums row : List Int) (b : Nat) : Prop := (∃ dc, H c = some (.ins CC dc (cf k na ra b))) ∧ H na = some (.lst (nums.map V.int)) ∧ H ra = some (.lst (row.map V.int))
inductive URead (K : PySem.W.Frag) (CC : Addr) (vs : List V) (H : Hp) (Q : VK) : Prop
  | mk (la : Addr) (l : List Int) (p k w p' : Nat) (nums row : List Int) (cs : List (List Int)) (h0 : vs = [.ref la, .int p]) (h1 : SqL K H la (l.map V.int)) (h2 : VM.CallAt l p k w nums row p' cs) (h3 : ∀ H' c na ra, Same H H' → H c = none → H na = none → H ra = none → CallO CC H' c na ra k nums row p' → Q (.ref c) H') : URead K CC vs H Q
noncomputable def spRead (K : PySem.W.Frag) (CC : Addr) : Sp := fun vs H Q _ => URead K CC vs H Q
theorem cut_nat {l : List Int} {a b : Nat} (hab : a ≤ b) (hb : b ≤ l.length) : cutV (l.map V.int) (some (a : Int)) (some (b : Int)) = ((l.drop a).take (b - a)).map V.int := by
  unfold cutV
  rw [HT.sIx_nat, HT.sIx_nat, List.length_map, Nat.min_eq_left hb, Nat.min_eq_left (Nat.le_trans hab hb), List.map_take, List.map_drop]
theorem c_read (T : Txt K mg CH CJ) (TH : TxH K mg CC CJ) (D : DefIn K mg "read_call" sRead) {fI : Addr} {fdI : FuncData} (mgC : mg "Call" = some (.ref CC)) (M : Mk K CC fI) (GI : FnOk P w K mg base CX0 1 fI fdI ["self", "kind", "numbers", "row", "behind"] (spInitC CC))
    (bI : Binds K fdI ["self", "kind", "numbers", "row", "behind"] []) : Cal P w K mg base 3 "read_call" ["calls", "place"] (spRead K CC) := by
  obtain ⟨aw, mw, sw⟩ := TH.gWN
  obtain ⟨ar, mr, sr⟩ := TH.gHR
  refine def_cal D scRead (fun _ _ _ _ _ _ => bind2 fun _ _ => rfl) (fun vs H Q E h => ?_) (fun f cdv A outer s H vs Q E hr h => ?_)
  · obtain ⟨la, l, p, k, w', p', nums, row, cs, rfl, _⟩ := h; rfl
  · obtain ⟨la, l, p, k, w', p', nums, row, cs, rfl, hl, ca, q⟩ := h
    have hk := VM.kind_lt ca
    have hkind : (l.map V.int)[p]? = some (.int (k : Int)) := by rw [List.getElem?_map, ca.kind]; rfl
    have hwn : (VM.wholeN.map fun (n : Nat) => V.int n)[k]? = some (.int (w' : Int)) := by rw [List.getElem?_map, ca.wn]; rfl
    have hb1 : p + 1 + w' ≤ l.length := by
      have := ca.behind
      rcases ca.rest with ⟨_, _, h, _⟩ | ⟨_, _, _, h, _⟩ <;> omega
    refine Bod.mk (pss_cons (ps_set (i := 2) scRead.nd rfl (Or.inl rfl) (pe_ixK K rfl (pv 0) (pv 1) (fun _ _ => rfl)))
      (pss_cons (ps_if (pt_not (pt_chain op_le op_lt pe_int (pv 2) (pe_callB (call_lenK K rfl) rfl (T.no _ (by decide +kernel)) PySem.boot_len (pa_cons (pe_glob (v := .ref aw) rfl mw rfl) pa_nil)))) pss_never pss_nil)
      (pss_cons (ps_set (i := 3) scRead.nd rfl (Or.inl rfl) (pe_op op_add (pe_op op_add (pv 1) pe_int) (pe_ixTK K rfl (pe_glob (v := .ref aw) rfl mw rfl) (pv 2) (fun _ _ => rfl))))
      (pss_cons (ps_set (i := 4) scRead.nd rfl (Or.inl rfl) (pe_slice (sl_listK K rfl) (pv 0) (po_some (pe_op op_add (pv 1) pe_int)) (po_some (pv 3))))
      (pss_cons (ps_set (i := 5) scRead.nd rfl (Or.inl rfl) (pe_lst pa_nil))
      (pss_cons (ps_if (pt_val (pe_ixTK K rfl (pe_glob (v := .ref ar) rfl mr rfl) (pv 2) (fun _ _ => rfl)))
        (pss_cons (ps_set (i := 6) scRead.nd rfl (Or.inl rfl) (pe_op op_add (pv 3) pe_int))
        (pss_cons (ps_set (i := 3) scRead.nd rfl (Or.inl rfl) (pe_op op_add (pv 6) (pe_ixK K rfl (pv 0) (pv 3) (fun _ _ => rfl))))
        (pss_one (ps_set (i := 5) scRead.nd rfl (Or.inl rfl) (pe_slice (sl_listK K rfl) (pv 0) (po_some (pv 6)) (po_some (pv 3))))))) pss_nil)
      (pss_one (ps_ret (pe_make M GI hr rfl mgC bI .nil pass0 (pa_cons (pv 2) (pa_cons (pv 4) (pa_cons (pv 5) (pa_cons (pv 3) pa_nil))))))))))))) ?_
    refine ⟨_, rfl, _, rfl, _, ⟨la, _, _, rfl, rfl, hl, atI_nat hkind⟩, ?_⟩
    refine ⟨_, rfl, _, _, rfl, rfl, _, rfl, ?_⟩
    refine iteY (decide_eq_true (show (0 : Int) ≤ (k : Int) by omega)) ⟨aw, _, rfl, .inr (sw _), _, _, rfl, rfl, _, rfl, ?_⟩
    rw [decide_eq_true (show (k : Int) < (((VM.wholeN.map fun (n : Nat) => V.int n).length : Nat) : Int) by show (k : Int) < 12; omega)]
    refine iteF ⟨_, rfl, _, _, rfl, rfl, _, rfl, _, ⟨aw, _, _, rfl, rfl, sw _, atI_nat hwn⟩, _, _, rfl, rfl, ?_⟩
    have eb : (p : Int) + 1 + (w' : Int) = ((p + 1 + w' : Nat) : Int) := by omega
    have ep : (p : Int) + 1 = ((p + 1 : Nat) : Int) := by omega
    refine ⟨_, rfl, _, rfl, _, _, rfl, rfl, _, rfl, _, rfl, _, rfl, la, _, rfl, hl, fun na hna => ?_⟩
    have en : cutV (l.map V.int) (some ((p : Int) + 1)) (some ((p : Int) + 1 + (w' : Int))) = nums.map V.int := by
      rw [eb, ep, cut_nat (by omega) hb1, ca.numsE]
      congr 2
      omega
    rw [en]
    refine ⟨Nat.zero_le _, fun r0 hr0 => ?_⟩
    have s1 : Same H (upd H na (.lst (nums.map V.int))) := Same.upd hna
    have hr0' : H r0 = none := fresh_of (same_some s1) hr0
    have nr : na ≠ r0 := ne_of_none (o := HO.lst (nums.map V.int)) upd_same hr0
    have s2 : Same H (upd (upd H na (.lst (nums.map V.int))) r0 (.lst [])) := s1.trans (Same.upd hr0)
    have fin : ∀ (H2 : Hp) (ra : Addr) (σ : L2.St), Same H H2 → H ra = none → H2 na = some (.lst (nums.map V.int)) → H2 ra = some (.lst (row.map V.int)) → σ[2]? = some (some (.int (k : Int))) → σ[4]? = some (some (.ref na)) → σ[5]? = some (some (.ref ra)) → σ[3]? = some (some (.int (p' : Int))) →
        tMake CC (spInitC CC) [] E0 (tCons (tVar 2) (tCons (tVar 4) (tCons (tVar 5) (tCons (tVar 3) tNil)))) σ H2 Q := fun H2 ra σ s2 hra g1 g2 v2 v4 v5 v3 => by
      refine ⟨_, v2, _, v4, _, v5, _, v3, fun x dx hx hdx hne => ⟨x, dx, na, ra, k, p', rfl, upd_same, fun H3 h3 b3 => ⟨rfl, ?_⟩⟩⟩
      have k3 : Same H2 H3 := fun b o e => b3 b o (by rw [upd_ne (ne_of_none e hx), upd_ne (ne_of_none e hdx)]; exact e) (ne_of_none e hx)
      exact q H3 x na ra (s2.trans k3) (fresh_of (same_some s2) hx) hna hra ⟨⟨dx, h3⟩, k3 _ _ g1, k3 _ _ g2⟩
    rcases ca.rest with ⟨hrow, er, e', _⟩ | ⟨hrow, hlen, er, e', _⟩
    · have hhr : (VM.hasRow.map V.bl)[k]? = some (.bl false) := by rw [List.getElem?_map, hrow]; rfl
      refine ⟨_, rfl, _, ⟨ar, _, _, rfl, rfl, sr _, atI_nat hhr⟩, _, rfl, iteF ?_⟩
      refine fin _ r0 _ s2 hr0' (by rw [upd_ne nr]; exact upd_same) (by rw [upd_same, er]; rfl) rfl rfl rfl ?_
      rw [e', ← eb]; rfl
    · have hhr : (VM.hasRow.map V.bl)[k]? = some (.bl true) := by rw [List.getElem?_map, hrow]; rfl
      refine ⟨_, rfl, _, ⟨ar, _, _, rfl, rfl, sr _, atI_nat hhr⟩, _, rfl, iteT ?_⟩
      refine ⟨_, rfl, _, _, rfl, rfl, ?_⟩
      have ef : (p : Int) + 1 + (w' : Int) + 1 = ((p + 2 + w' : Nat) : Int) := by omega
      have hl2 : SqL K (upd (upd H na (.lst (nums.map V.int))) r0 (.lst [])) la (l.map V.int) := s2.seq hl
      have hcb : (l.map V.int)[p + 1 + w']? = some (.int ((row.length : Nat) : Int)) := by rw [List.getElem?_map, hlen]; rfl
      have hcb' : atI (l.map V.int) ((p : Int) + 1 + (w' : Int)) = some (.int ((row.length : Nat) : Int)) := by rw [eb]; exact atI_nat hcb
      refine ⟨_, rfl, _, rfl, _, rfl, _, ⟨la, _, _, rfl, rfl, hl2, hcb'⟩, _, _, rfl, rfl, ?_⟩
      have eg : (p : Int) + 1 + (w' : Int) + 1 + ((row.length : Nat) : Int) = ((p' : Nat) : Int) := by rw [e']; omega
      refine ⟨_, rfl, _, rfl, _, rfl, _, rfl, _, rfl, la, _, rfl, hl2, fun ra hra => ?_⟩
      have ec : cutV (l.map V.int) (some ((p : Int) + 1 + (w' : Int) + 1)) (some ((p : Int) + 1 + (w' : Int) + 1 + ((row.length : Nat) : Int))) = row.map V.int := by
        rw [eg, ef, cut_nat (by omega) ca.behind, er, e']
        congr 2
        omega
      rw [ec]
      have s3 := s2.trans (Same.upd (o := HO.lst (row.map V.int)) hra)
      have hra' : H ra = none := fresh_of (same_some s2) hra
      have n2 : na ≠ ra := ne_of_none (H := upd (upd H na (.lst (nums.map V.int))) r0 (.lst [])) (o := HO.lst (nums.map V.int)) (by rw [upd_ne nr]; exact upd_same) hra
      exact fin _ ra _ s3 hra' (by rw [upd_ne n2, upd_ne nr]; exact upd_same) upd_same rfl rfl rfl (by rw [← eg]; rfl)
end
end SH
end
section
set_option Elab.async false
set_option linter.all false
set_option maxRecDepth 100000
set_option maxHeartbeats 4000000
namespace SH
open PySem PySem.Spec PyProof.Rows L2
structure AllC (P : Program) (w : World) (K : PySem.W.Frag) (mg : Str → Option Value) (base : Heap) (CH CJ : Addr) : Prop where
  job : Cal P w K mg base 6 "add_job" ["house", "cached", "failing", "weight", "needs"] (spAddJob K CH CJ)
  workers : Cal P w K mg base 6 "set_workers" ["house", "count"] (spNum CH CJ .workers)
  keep : Cal P w K mg base 6 "set_keep" ["house", "mark"] (spNum CH CJ .keep)
  goal : Cal P w K mg base 6 "add_goals" ["house", "numbers"] (spRow K CH CJ .goal)
  drop : Cal P w K mg base 6 "drop_goals" ["house", "numbers"] (spRow K CH CJ .drop)
  events : Cal P w K mg base 6 "list_events" ["house"] (spNil CH CJ .events)
  run : Cal P w K mg base 6 "run_schedule" ["house", "schedule"] (spRow K CH CJ .run)
  lose : Cal P w K mg base 6 "lose_job" ["house", "number"] (spNum CH CJ .lose)
  status : Cal P w K mg base 6 "tell_status" ["house", "number"] (spNum CH CJ .status)
  counts : Cal P w K mg base 6 "tell_counts" ["house"] (spNil CH CJ .counts)
  fix : Cal P w K mg base 6 "fix_job" ["house", "number"] (spNum CH CJ .fix)
  forget : Cal P w K mg base 6 "forget_failures" ["house"] (spNil CH CJ .forget)
section
variable {P : Program} {w : World} {K : PySem.W.Frag} {mg : Str → Option Value} {base : Heap} {CH CJ CC : Addr}
inductive UAnswer (K : PySem.W.Frag) (CH CJ CC : Addr) (vs : List V) (H : Hp) (Q : VK) : Prop
  | mk (hs jl c na ra : Addr) (ad : List Addr) (m : VM.M) (k w b : Nat) (nums row : List Int) (h0 : vs = [.ref hs, .ref c]) (h1 : HouseAt CH CJ H hs jl ad m) (h2 : VM.WF m) (h3 : CallO CC H c na ra k nums row b) (h4 : VM.wholeN[k]? = some w) (h5 : nums.length = w) (h6 : ra ≠ jl) (h7 : (k = 0 → row.length ≤ 100)) (h8 : row.length ≤ 100000) (h9 : PostC CH CJ hs jl H (VM.stepM m (VM.callK k nums row)) Q) : UAnswer K CH CJ CC vs H Q
noncomputable def spAnswer (K : PySem.W.Frag) (CH CJ CC : Addr) : Sp := fun vs H Q _ => UAnswer K CH CJ CC vs H Q
theorem t_kind (TH : TxH K mg CC CJ) {i k b : Nat} {σ : L2.St} {H : Hp} {c dc na ra : Addr} {Q : Bool → Hp → Prop} (hc : H c = some (.ins CC dc (cf k na ra b))) (hv : σ[1]? = some (some (.ref c))) (q : Q (k == i) H) : tTest (tOp rEq (tFld K (tVar 1) "kind") (tC (.int (i : Int)))) σ H Q := by
  refine ⟨_, hv, _, ⟨c, CC, dc, _, rfl, hc, TH.clC, TH.aC _ (by decide +kernel), cf_kind _ _ _ _⟩, rfl, _, rfl, ?_⟩
  exact (congrArg (fun b => Q b H) (dec_nat (a := k) (b := i))).mpr q
theorem t_num (TH : TxH K mg CC CJ) {i k b : Nat} {σ : L2.St} {H : Hp} {c dc na ra : Addr} {nums : List Int} {x : Int} {Q : VK} (hc : H c = some (.ins CC dc (cf k na ra b))) (hna : H na = some (.lst (nums.map V.int))) (hv : σ[1]? = some (some (.ref c))) (hx : nums[i]? = some x) (q : Q (.int x) H) :
    tOp (rIxL K) (tFld K (tVar 1) "numbers") (tC (.int (i : Int))) σ H Q :=
  ⟨_, hv, _, ⟨c, CC, dc, _, rfl, hc, TH.clC, TH.aC _ (by decide +kernel), cf_numbers _ _ _ _⟩, _, ⟨na, _, _, rfl, rfl, SqL.of hna, atI_nat (by rw [List.getElem?_map, hx]; rfl)⟩, q⟩
theorem t_row (TH : TxH K mg CC CJ) {k b : Nat} {σ : L2.St} {H : Hp} {c dc na ra : Addr} {Q : VK} (hc : H c = some (.ins CC dc (cf k na ra b))) (hv : σ[1]? = some (some (.ref c))) (q : Q (.ref ra) H) : tFld K (tVar 1) "row" σ H Q :=
  ⟨_, hv, _, ⟨c, CC, dc, _, rfl, hc, TH.clC, TH.aC _ (by decide +kernel), cf_row _ _ _ _⟩, q⟩
theorem c_answer (TH : TxH K mg CC CJ) (D : DefIn K mg "answer_call" sAnswer) (C : AllC P w K mg base CH CJ) : Cal P w K mg base 7 "answer_call" ["house", "call"] (spAnswer K CH CJ CC) := by
  refine def_cal D scAnswer (fun _ _ _ _ _ _ => bind2 fun _ _ => rfl) (fun vs H Q E h => ?_) (fun f cdv A outer s H vs Q E hr h => ?_)
  · obtain ⟨hs, jl, c, na, ra, ad, m, k, w', b, nums, row, rfl, _⟩ := h; rfl
  · obtain ⟨hs, jl, c, na, ra, ad, m, k, w', b, nums, row, rfl, hh, wf, ⟨⟨dc, hc⟩, hna, hra⟩, hw, hn, hne, h100, hrl, q⟩ := h
    refine Bod.mk (pss_cons (ps_if (pt_cmpR op_eq (pe_fldK K rfl (pv 1) rfl) (pe_gi TH.g0 rfl) (nomark _)) (pss_one (ps_ret (pe_cal C.job hr rfl (pa_cons (pv 0) (pa_cons (pe_ixK K rfl (pe_fldK K rfl (pv 1) rfl) pe_int (fun _ _ => rfl)) (pa_cons (pe_ixK K rfl (pe_fldK K rfl (pv 1) rfl) pe_int (fun _ _ => rfl)) (pa_cons (pe_ixK K rfl (pe_fldK K rfl (pv 1) rfl) pe_int (fun _ _ => rfl)) (pa_cons (pe_fldK K rfl (pv 1) rfl) pa_nil)))))))) pss_nil)
      (pss_cons (ps_if (pt_cmpR op_eq (pe_fldK K rfl (pv 1) rfl) (pe_gi TH.g1 rfl) (nomark _)) (pss_one (ps_ret (pe_cal C.workers hr rfl (pa_cons (pv 0) (pa_cons (pe_ixK K rfl (pe_fldK K rfl (pv 1) rfl) pe_int (fun _ _ => rfl)) pa_nil))))) pss_nil)
      (pss_cons (ps_if (pt_cmpR op_eq (pe_fldK K rfl (pv 1) rfl) (pe_gi TH.g2 rfl) (nomark _)) (pss_one (ps_ret (pe_cal C.keep hr rfl (pa_cons (pv 0) (pa_cons (pe_ixK K rfl (pe_fldK K rfl (pv 1) rfl) pe_int (fun _ _ => rfl)) pa_nil))))) pss_nil)
      (pss_cons (ps_if (pt_cmpR op_eq (pe_fldK K rfl (pv 1) rfl) (pe_gi TH.g3 rfl) (nomark _)) (pss_one (ps_ret (pe_cal C.goal hr rfl (pa_cons (pv 0) (pa_cons (pe_fldK K rfl (pv 1) rfl) pa_nil))))) pss_nil)
      (pss_cons (ps_if (pt_cmpR op_eq (pe_fldK K rfl (pv 1) rfl) (pe_gi TH.g4 rfl) (nomark _)) (pss_one (ps_ret (pe_cal C.drop hr rfl (pa_cons (pv 0) (pa_cons (pe_fldK K rfl (pv 1) rfl) pa_nil))))) pss_nil)
      (pss_cons (ps_if (pt_cmpR op_eq (pe_fldK K rfl (pv 1) rfl) (pe_gi TH.g5 rfl) (nomark _)) (pss_one (ps_ret (pe_cal C.events hr rfl (pa_cons (pv 0) pa_nil)))) pss_nil)
      (pss_cons (ps_if (pt_cmpR op_eq (pe_fldK K rfl (pv 1) rfl) (pe_gi TH.g6 rfl) (nomark _)) (pss_one (ps_ret (pe_cal C.run hr rfl (pa_cons (pv 0) (pa_cons (pe_fldK K rfl (pv 1) rfl) pa_nil))))) pss_nil)
      (pss_cons (ps_if (pt_cmpR op_eq (pe_fldK K rfl (pv 1) rfl) (pe_gi TH.g7 rfl) (nomark _)) (pss_one (ps_ret (pe_cal C.lose hr rfl (pa_cons (pv 0) (pa_cons (pe_ixK K rfl (pe_fldK K rfl (pv 1) rfl) pe_int (fun _ _ => rfl)) pa_nil))))) pss_nil)
      (pss_cons (ps_if (pt_cmpR op_eq (pe_fldK K rfl (pv 1) rfl) (pe_gi TH.g8 rfl) (nomark _)) (pss_one (ps_ret (pe_cal C.status hr rfl (pa_cons (pv 0) (pa_cons (pe_ixK K rfl (pe_fldK K rfl (pv 1) rfl) pe_int (fun _ _ => rfl)) pa_nil))))) pss_nil)
      (pss_cons (ps_if (pt_cmpR op_eq (pe_fldK K rfl (pv 1) rfl) (pe_gi TH.g9 rfl) (nomark _)) (pss_one (ps_ret (pe_cal C.counts hr rfl (pa_cons (pv 0) pa_nil)))) pss_nil)
      (pss_cons (ps_if (pt_cmpR op_eq (pe_fldK K rfl (pv 1) rfl) (pe_gi TH.g10 rfl) (nomark _)) (pss_one (ps_ret (pe_cal C.fix hr rfl (pa_cons (pv 0) (pa_cons (pe_ixK K rfl (pe_fldK K rfl (pv 1) rfl) pe_int (fun _ _ => rfl)) pa_nil))))) pss_nil)
      (pss_one (ps_ret (pe_cal C.forget hr rfl (pa_cons (pv 0) pa_nil))))))))))))))) ?_
    have hk : k < 12 := (List.getElem?_eq_some_iff.mp hw).1
    have sra : SqL K H ra (row.map V.int) := SqL.of hra
    refine t_kind TH (i := 0) hc rfl ?_
    match k, hk, hw, h100, hc, q with
    | 0, _, hw, h100, hc, q =>
      cases hw
      obtain ⟨x, y, z, rfl⟩ := VM.len3 hn
      refine iteT ⟨_, rfl, t_num TH (i := 0) hc hna rfl rfl (t_num TH (i := 1) hc hna rfl rfl (t_num TH (i := 2) hc hna rfl rfl (t_row TH hc rfl ?_)))⟩
      exact ⟨hs, jl, ra, ad, m, x, y, z, row, rfl, hh, wf, sra, hne, h100 rfl, q⟩
    | 1, _, hw, h100, hc, q =>
      cases hw
      obtain ⟨x, rfl⟩ := VM.len1 hn
      refine iteF (t_kind TH (i := 1) hc rfl (iteT ⟨_, rfl, t_num TH (i := 0) hc hna rfl rfl ?_⟩))
      exact ⟨hs, jl, ad, m, x, rfl, hh, wf, q⟩
    | 2, _, hw, h100, hc, q =>
      cases hw
      obtain ⟨x, rfl⟩ := VM.len1 hn
      refine iteF (t_kind TH (i := 1) hc rfl (iteF (t_kind TH (i := 2) hc rfl (iteT ⟨_, rfl, t_num TH (i := 0) hc hna rfl rfl ?_⟩))))
      exact ⟨hs, jl, ad, m, x, rfl, hh, wf, q⟩
    | 3, _, hw, h100, hc, q =>
      refine iteF (t_kind TH (i := 1) hc rfl (iteF (t_kind TH (i := 2) hc rfl (iteF (t_kind TH (i := 3) hc rfl (iteT ⟨_, rfl, t_row TH hc rfl ?_⟩))))))
      exact ⟨hs, jl, ra, ad, m, row, rfl, hh, wf, sra, hne, hrl, q⟩
    | 4, _, hw, h100, hc, q =>
      refine iteF (t_kind TH (i := 1) hc rfl (iteF (t_kind TH (i := 2) hc rfl (iteF (t_kind TH (i := 3) hc rfl (iteF (t_kind TH (i := 4) hc rfl (iteT ⟨_, rfl, t_row TH hc rfl ?_⟩))))))))
      exact ⟨hs, jl, ra, ad, m, row, rfl, hh, wf, sra, hne, hrl, q⟩
    | 5, _, hw, h100, hc, q =>
      refine iteF (t_kind TH (i := 1) hc rfl (iteF (t_kind TH (i := 2) hc rfl (iteF (t_kind TH (i := 3) hc rfl (iteF (t_kind TH (i := 4) hc rfl (iteF (t_kind TH (i := 5) hc rfl (iteT ⟨_, rfl, ?_⟩))))))))))
      exact ⟨hs, jl, ad, m, rfl, hh, wf, q⟩
    | 6, _, hw, h100, hc, q =>
      refine iteF (t_kind TH (i := 1) hc rfl (iteF (t_kind TH (i := 2) hc rfl (iteF (t_kind TH (i := 3) hc rfl (iteF (t_kind TH (i := 4) hc rfl (iteF (t_kind TH (i := 5) hc rfl (iteF (t_kind TH (i := 6) hc rfl (iteT ⟨_, rfl, t_row TH hc rfl ?_⟩))))))))))))
      exact ⟨hs, jl, ra, ad, m, row, rfl, hh, wf, sra, hne, hrl, q⟩
    | 7, _, hw, h100, hc, q =>
      cases hw
      obtain ⟨x, rfl⟩ := VM.len1 hn
      refine iteF (t_kind TH (i := 1) hc rfl (iteF (t_kind TH (i := 2) hc rfl (iteF (t_kind TH (i := 3) hc rfl (iteF (t_kind TH (i := 4) hc rfl (iteF (t_kind TH (i := 5) hc rfl (iteF (t_kind TH (i := 6) hc rfl (iteF (t_kind TH (i := 7) hc rfl (iteT ⟨_, rfl, t_num TH (i := 0) hc hna rfl rfl ?_⟩))))))))))))))
      exact ⟨hs, jl, ad, m, x, rfl, hh, wf, q⟩
    | 8, _, hw, h100, hc, q =>
      cases hw
      obtain ⟨x, rfl⟩ := VM.len1 hn
      refine iteF (t_kind TH (i := 1) hc rfl (iteF (t_kind TH (i := 2) hc rfl (iteF (t_kind TH (i := 3) hc rfl (iteF (t_kind TH (i := 4) hc rfl (iteF (t_kind TH (i := 5) hc rfl (iteF (t_kind TH (i := 6) hc rfl (iteF (t_kind TH (i := 7) hc rfl (iteF (t_kind TH (i := 8) hc rfl (iteT ⟨_, rfl, t_num TH (i := 0) hc hna rfl rfl ?_⟩))))))))))))))))
      exact ⟨hs, jl, ad, m, x, rfl, hh, wf, q⟩
    | 9, _, hw, h100, hc, q =>
      refine iteF (t_kind TH (i := 1) hc rfl (iteF (t_kind TH (i := 2) hc rfl (iteF (t_kind TH (i := 3) hc rfl (iteF (t_kind TH (i := 4) hc rfl (iteF (t_kind TH (i := 5) hc rfl (iteF (t_kind TH (i := 6) hc rfl (iteF (t_kind TH (i := 7) hc rfl (iteF (t_kind TH (i := 8) hc rfl (iteF (t_kind TH (i := 9) hc rfl (iteT ⟨_, rfl, ?_⟩))))))))))))))))))
      exact ⟨hs, jl, ad, m, rfl, hh, wf, q⟩
    | 10, _, hw, h100, hc, q =>
      cases hw
      obtain ⟨x, rfl⟩ := VM.len1 hn
      refine iteF (t_kind TH (i := 1) hc rfl (iteF (t_kind TH (i := 2) hc rfl (iteF (t_kind TH (i := 3) hc rfl (iteF (t_kind TH (i := 4) hc rfl (iteF (t_kind TH (i := 5) hc rfl (iteF (t_kind TH (i := 6) hc rfl (iteF (t_kind TH (i := 7) hc rfl (iteF (t_kind TH (i := 8) hc rfl (iteF (t_kind TH (i := 9) hc rfl (iteF (t_kind TH (i := 10) hc rfl (iteT ⟨_, rfl, t_num TH (i := 0) hc hna rfl rfl ?_⟩))))))))))))))))))))
      exact ⟨hs, jl, ad, m, x, rfl, hh, wf, q⟩
    | 11, _, hw, h100, hc, q =>
      refine iteF (t_kind TH (i := 1) hc rfl (iteF (t_kind TH (i := 2) hc rfl (iteF (t_kind TH (i := 3) hc rfl (iteF (t_kind TH (i := 4) hc rfl (iteF (t_kind TH (i := 5) hc rfl (iteF (t_kind TH (i := 6) hc rfl (iteF (t_kind TH (i := 7) hc rfl (iteF (t_kind TH (i := 8) hc rfl (iteF (t_kind TH (i := 9) hc rfl (iteF (t_kind TH (i := 10) hc rfl (iteF ⟨_, rfl, ?_⟩))))))))))))))))))))
      exact ⟨hs, jl, ad, m, rfl, hh, wf, q⟩
    | n + 12, hk, _, _, _, _ => exact absurd hk (by omega)
end
end SH
end
section
set_option Elab.async false
set_option linter.all false
set_option maxRecDepth 100000
set_option maxHeartbeats 4000000
namespace SH
open PySem PySem.Spec PyProof.Rows L2
section
variable {P : Program} {w : World} {K : PySem.W.Frag} {mg : Str → Option Value} {base : Heap} {CH CJ CC : Addr}
noncomputable def ArgA (K : PySem.W.Frag) (H : Hp) (a : Addr) (xs : List V) (jl g : Addr) : Prop := (a ≠ jl ∧ a ≠ g ∧ (H a = some (.lst xs) ∨ ∃ o, H a = some (.frz o (.lst xs)))) ∨ ∀ H', SqL K H' a xs
theorem ArgA.sq {H : Hp} {a jl g : Addr} {xs : List V} (h : ArgA K H a xs jl g) : SqL K H a xs := by
  rcases h with ⟨_, _, h | ⟨o, h⟩⟩ | h
  · exact SqL.of h
  · exact SqL.fz h
  · exact h H
theorem ArgA.start {H : Hp} {a jl g : Addr} {xs : List V} (h : SqL K H a xs) (hj : H jl = none) (hg : H g = none) : ArgA K H a xs jl g := by
  rcases h with (h | ⟨o, h⟩) | h
  · exact .inl ⟨ne_of_none h hj, ne_of_none h hg, .inl h⟩
  · exact .inl ⟨ne_of_none h hj, ne_of_none h hg, .inr ⟨o, h⟩⟩
  · exact .inr fun _ => .inr h
theorem ArgA.same {H H' : Hp} {a jl g : Addr} {xs : List V} (h : ArgA K H a xs jl g) (s : Same H H') : ArgA K H' a xs jl g := by
  rcases h with ⟨n1, n2, h | ⟨o, h⟩⟩ | h
  · exact .inl ⟨n1, n2, .inl (s _ _ h)⟩
  · exact .inl ⟨n1, n2, .inr ⟨o, s _ _ h⟩⟩
  · exact .inr h
theorem ArgA.fr {H H' : Hp} {hs a jl g dh : Addr} {fs : List (Str × V)} {xs : List V} (h : ArgA K H a xs jl g) (f : Fr0 CJ hs jl H H') (hh : H hs = some (.ins CH dh fs)) : ArgA K H' a xs jl g := by
  rcases h with ⟨n1, n2, h | ⟨o, h⟩⟩ | h
  · exact .inl ⟨n1, n2, .inl (f.keep _ _ h (ne_of h hh (by intro q; cases q)) n1 (by intro _ _ q; cases q))⟩
  · exact .inl ⟨n1, n2, .inr ⟨o, f.keep _ _ h (ne_of h hh (by intro q; cases q)) n1 (by intro _ _ q; cases q)⟩⟩
  · exact .inr h
theorem ArgA.upd {H : Hp} {a jl g : Addr} {xs : List V} {o : HO} (h : ArgA K H a xs jl g) : ArgA K (L2.upd H g o) a xs jl g := by
  rcases h with ⟨n1, n2, h | ⟨u, h⟩⟩ | h
  · exact .inl ⟨n1, n2, .inl (by rw [upd_ne n2]; exact h)⟩
  · exact .inl ⟨n1, n2, .inr ⟨u, by rw [upd_ne n2]; exact h⟩⟩
  · exact .inr h
theorem cf_hf {CC CH dc dh jl na ra : Addr} {k b : Nat} {m : VM.M} : HO.ins CC dc (cf k na ra b) ≠ HO.ins CH dh (hf jl m) := by
  intro e
  injection e with _ _ e
  unfold cf hf at e
  injection e with e _
  injection e with e _
  exact absurd e (by decide +kernel)
inductive UAns (K : PySem.W.Frag) (vs : List V) (H : Hp) (Q : VK) : Prop
  | mk (a : Addr) (l : List Int) (h0 : vs = [.ref a]) (h1 : SqL K H a (l.map V.int)) (h2 : l.length ≤ 17000) (h3 : PyVastog.answers_asked l = true) (h4 : ∀ (H' : Hp) (p : Addr), H' p = some (.lst ((PyVastog.answers l).map V.int)) → Q (.ref p) H') : UAns K vs H Q
noncomputable def spAns (K : PySem.W.Frag) : Sp := fun vs H Q _ => UAns K vs H Q
inductive AnsInv (K : PySem.W.Frag) (CH CJ a x jl g : Addr) (l : List Int) (t : Nat) (σ : L2.St) (H' : Hp) : Prop
  | mk (p : Nat) (m : VM.M) (G : List Int) (ad : List Addr) (vc va : Option V) (h1 : σ = [some (.ref a), some (.ref x), some (.ref g), some (.int (p : Int)), vc, va]) (h2 : HouseAt CH CJ H' x jl ad m) (h3 : VM.Rest l p m G t) (h4 : t ≤ 400) (h5 : G.length + t * 1026 ≤ 410400) (h6 : H' g = some (.lst (G.map V.int))) (h7 : ArgA K H' a (l.map V.int) jl g) : AnsInv K CH CJ a x jl g l t σ H'
theorem ok_answers {f fH : Addr} {fd fdH : FuncData} (F : Fun K "answers" "answers" sAnswers f fd) (T : Txt K mg CH CJ) (TH : TxH K mg CC CJ) (mgH : mg "House" = some (.ref CH)) (MH : Mk K CH fH) (GH : FnOk P w K mg base CX0 1 fH fdH ["self"] (spInitH CH)) (bH : Binds K fdH ["self"] [])
    (cR : Cal P w K mg base 3 "read_call" ["calls", "place"] (spRead K CC)) (cA : Cal P w K mg base 7 "answer_call" ["house", "call"] (spAnswer K CH CJ CC)) : FnOk P w K mg base CX0 8 f fd ["calls"] (spAns K) := by
  refine F.ok scAnswers (fun vs H Q E h => ?_) (fun cdv A outer s H vs Q E hr h => ?_)
  · obtain ⟨a, l, rfl, _⟩ := h; rfl
  · obtain ⟨a, l, rfl, hl, hlen, hask, q⟩ := h
    have hr2 : Room 2 _ := hr.mono (by decide)
    have hr3 : Room 3 _ := hr.mono (by decide)
    refine Bod.mk (pss_cons (ps_set (i := 1) scAnswers.nd rfl (Or.inl rfl) (pe_make0 MH GH hr2 rfl mgH bH .nil pass0))
      (pss_cons (ps_set (i := 2) scAnswers.nd rfl (Or.inl rfl) (pe_lst pa_nil))
      (pss_cons (ps_set (i := 3) scAnswers.nd rfl (Or.inl rfl) pe_int)
      (pss_cons (ps_while PassesOwn.never (pt_cmpR op_lt (pv 3) (pe_callB (call_lenK K rfl) rfl (T.no _ (by decide +kernel)) PySem.boot_len (pa_cons (pv 0) pa_nil)) (nomark _))
        (pss_cons (ps_set (i := 4) scAnswers.nd rfl (Or.inl rfl) (pe_cal cR hr3 rfl (pa_cons (pv 0) (pa_cons (pv 3) pa_nil))))
        (pss_cons (ps_set (i := 5) scAnswers.nd rfl (Or.inl rfl) (pe_cal cA hr rfl (pa_cons (pv 1) (pa_cons (pv 4) pa_nil))))
        (pss_cons (ps_expr (pe_bmK K rfl PySem.F.plainAttrs_list PySem.F.slot_list_append PySem.F.type_list_append mt_append (pv 2) (pa_cons (pe_callB (call_lenK K rfl) rfl (T.no _ (by decide +kernel)) PySem.boot_len (pa_cons (pv 5) pa_nil)) pa_nil)))
        (pss_cons (ps_expr (pe_bmK K rfl PySem.F.plainAttrs_list PySem.F.slot_list_extend PySem.F.type_list_extend mt_extend (pv 2) (pa_cons (pv 5) pa_nil)))
        (pss_one (ps_set (i := 3) scAnswers.nd rfl (Or.inl rfl) (pe_fldK K rfl (pv 4) rfl))))))))
      (pss_one (ps_ret (pv 2))))))) ?_
    intro x dx hx hdx hne
    refine ⟨x, dx, rfl, upd_same, fun H1 jl hjl g1 g2 b1 => ⟨rfl, ?_⟩⟩
    have s0 : Same H (upd (upd H dx (.own x)) x (.ins CH dx [])) := fun b o e => by rw [upd_ne (ne_of_none e hx), upd_ne (ne_of_none e hdx)]; exact e
    have s1 : Same H H1 := fun b o e => b1 b o (s0 _ _ e) (ne_of_none e hx)
    have hj0 : H jl = none := fresh_of (same_some s0) hjl
    have hh1 : HouseAt CH CJ H1 x jl [] VM.M.start := ⟨⟨dx, g1⟩, g2, List.nodup_nil, rfl, fun k a e => by simp at e⟩
    refine ⟨Nat.zero_le _, fun g hg => ?_⟩
    have hg0 : H g = none := fresh_of (same_some s1) hg
    have gj : g ≠ jl := Ne.symm (ne_of_none g2 hg)
    have s2 : Same H1 (upd H1 g (.lst [])) := Same.upd hg
    obtain ⟨n, hn, r0⟩ := VM.Rest.start hask
    refine ⟨AnsInv K CH CJ a x jl g l,
      ⟨n, 0, VM.M.start, [], [], none, none, rfl, hh1.same s2, r0, hn, by show 0 + n * 1026 ≤ 410400; omega, upd_same, (ArgA.start hl hj0 hg0).same (s1.trans s2)⟩, ?_⟩
    rintro t σ H' ⟨p, m, G, ad, vc, va, rfl, hh, rest, ht, hsz, hG, hA⟩
    refine ⟨_, rfl, _, rfl, a, _, rfl, .inl hA.sq, _, _, rfl, rfl, _, rfl, ?_⟩
    by_cases hp : p < l.length
    · rw [decide_eq_true (show (p : Int) < ((l.map V.int).length : Nat) by rw [List.length_map]; omega)]
      obtain ⟨k, w', nums, row, p', cs, ca, h100, ht0, rest'⟩ := rest.next hp
      have hsl := VM.stepM_len rest.wf (VM.callK k nums row)
      generalize hmo : VM.stepM m (VM.callK k nums row) = mo at rest' hsl
      have hrl : row.length ≤ 100000 := by
        have := ca.behind
        rcases ca.rest with ⟨_, er, _⟩ | ⟨_, _, _, e', _⟩
        · rw [er]; exact Nat.zero_le _
        · omega
      refine iteT ⟨AnsInv K CH CJ a x jl g l (t - 1),
        fun σ' H'' w => ⟨t - 1, by omega, w⟩, ?_⟩
      refine ⟨_, rfl, _, rfl, a, l, p, k, w', p', nums, row, cs, rfl, hA.sq, ca, fun H2 c na ra s3 hc hna hra co => ?_⟩
      have hh2 := hh.same s3
      refine HouseAt.useH hh2 fun dh2 e2 => ?_
      have hG2 := s3 _ _ hG
      refine ⟨_, rfl, _, rfl, x, jl, c, na, ra, ad, m, k, w', p', nums, row, rfl, hh2, rest.wf, co, ca.wn, ca.numsL, Ne.symm (ne_of_none hh.lst hra), h100, hrl, fun H3 r ad' h3 hr3 hy f3 => ?_⟩
      rw [hmo] at h3 hy
      obtain ⟨⟨dc, hc2⟩, _, _⟩ := co
      have hG3 : H3 g = some (.lst (G.map V.int)) := f3.lst e2 gj hG2
      have rg : r ≠ g := Ne.symm (ne_of_none hG2 hr3)
      have hc3 : H3 c = some (.ins CC dc (cf k na ra p')) := f3.keep _ _ hc2 (ne_of hc2 e2 cf_hf) (ne_of hc2 hh2.lst (by intro q; cases q)) (by intro dx fs z; injection z with z; exact TH.ne z)
      have cg : c ≠ g := ne_of hc3 hG3 (by intro q; cases q)
      have l1 : (G.map V.int).length < sizeLine := by
        rw [List.length_map]
        exact Nat.lt_of_le_of_lt (show G.length ≤ 410400 by omega) (by decide)
      refine ⟨_, rfl, .inl ⟨rfl, _, SqL.of hG3⟩, _, rfl, r, _, rfl, .inl (SqL.of hy), g, _, _, rfl, rfl, hG3, l1, ?_⟩
      have l2 : (G.map V.int ++ [V.int ((mo.2.map V.int).length : Nat)]).length + (mo.2.map V.int).length ≤ sizeLine := by
        rw [List.length_append, List.length_map, List.length_singleton, List.length_map]
        exact Nat.le_trans (show G.length + 1 + mo.2.length ≤ 420000 by omega) (by decide)
      refine ⟨_, rfl, .inl ⟨rfl, _, SqL.of upd_same⟩, _, rfl, g, r, _, _, rfl, rfl, upd_same, (by rw [upd_ne rg]; exact hy), l2, ?_⟩
      refine ⟨_, rfl, _, ⟨c, CC, dc, _, rfl, (by rw [upd_ne cg, upd_ne cg]; exact hc3), TH.clC, TH.aC _ (by decide +kernel), cf_behind _ _ _ _⟩, ?_⟩
      refine ⟨p', mo.1, _, ad', _, _, rfl, (h3.lstUpd hG3 gj).lstUpd upd_same gj, rest', by omega, ?_, ?_, ((hA.same s3).fr f3 e2).upd.upd⟩
      · rw [List.length_append, List.length_cons]
        have : t * 1026 = (t - 1) * 1026 + 1026 := by omega
        omega
      · rw [upd_same, List.map_append, List.map_cons, List.length_map, List.append_assoc]; rfl
    · rw [decide_eq_false (show ¬ (p : Int) < ((l.map V.int).length : Nat) by rw [List.length_map]; omega)]
      rw [← rest.done (by omega)] at hG
      exact iteF ⟨_, rfl, q H' g hG⟩
end
end SH
end
section
set_option Elab.async false
set_option linter.all false
set_option maxRecDepth 100000
set_option maxHeartbeats 4000000
namespace SH
open PySem PySem.Spec PyProof.Rows L2
structure Defs (K : PySem.W.Frag) (mg : Str → Option Value) : Prop where
  there : DefIn K mg "is_there" sThere
  failed : DefIn K mg "is_failed" sFailed
  ended : DefIn K mg "is_ended" sEnded
  running : DefIn K mg "is_running" sRunning
  fail : DefIn K mg "fail" sFail
  unfail : DefIn K mg "unfail" sUnfail
  marks : DefIn K mg "wanted_marks" sMarks
  free : DefIn K mg "free_workers" sFree
  workersFor : DefIn K mg "workers_for" sWorkersFor
  blocked : DefIn K mg "is_blocked" sBlocked
  needs : DefIn K mg "needs_are_there" sNeeds
  mayStart : DefIn K mg "may_start" sMayStart
  events : DefIn K mg "possible_events" sEvents
  rest : DefIn K mg "is_at_rest" sRest
  happen : DefIn K mg "happen" sHappen
  endJob : DefIn K mg "end_job" sEndJob
  startJob : DefIn K mg "start_job" sStartJob
  answerJob : DefIn K mg "answer_job" sAnswerJob
  loseRun : DefIn K mg "lose_running" sLoseRun
  settle : DefIn K mg "settle" sSettle
  settleJob : DefIn K mg "settle_job" sSettleJob
  areJobs : DefIn K mg "are_jobs" sAreJobs
  isMark : DefIn K mg "is_mark" sIsMark
  addJob : DefIn K mg "add_job" sAddJob
  setWorkers : DefIn K mg "set_workers" sSetWorkers
  setKeep : DefIn K mg "set_keep" sSetKeep
  markGoals : DefIn K mg "mark_goals" sMarkGoals
  addGoals : DefIn K mg "add_goals" sAddGoals
  dropGoals : DefIn K mg "drop_goals" sDropGoals
  listEvents : DefIn K mg "list_events" sListEvents
  run : DefIn K mg "run_schedule" sRun
  lose : DefIn K mg "lose_job" sLose
  status : DefIn K mg "tell_status" sStatus
  idle : DefIn K mg "status_of_idle" sIdle
  counts : DefIn K mg "tell_counts" sCounts
  fix : DefIn K mg "fix_job" sFix
  forget : DefIn K mg "forget_failures" sForget
  read : DefIn K mg "read_call" sRead
  answer : DefIn K mg "answer_call" sAnswer
  answers : DefIn K mg "answers" sAnswers
noncomputable def ClsIn (K : PySem.W.Frag) (mg : Str → Option Value) (x qual : Str) (st : Stmt) (C : Addr) : Prop := mg x = some (.ref C) ∧ Cls K C ∧ ∃ f fd, Fun K "__init__" qual st f fd ∧ Mk K C f
section
variable {K : PySem.W.Frag} {h : Heap} {mg : Str → Option Value}
theorem mkDef {x : Str} {st : Stmt} {f : Addr} {oc : Value} {od an : Option Addr} {osl : Array (Option Value)} {kV doc pm cdv ct : Value} (X : K.In h) (G : h.Ns mainGlobals mg) (a : PySem.W.nsIn K mainGlobals x = some (some (.ref f)))
    (l : K.lookup f = some ⟨oc, od, .func (PySem.W.fnOf x x (defArgs st) (defBody st) (defScope st) .none kV doc pm an cdv ct), osl⟩) (c : PySem.W.codeIn K cdv x = true) (k : PySem.W.keepIn K (.ref f) = true) : DefIn K mg x st :=
  ⟨f, _, fun_mk l c k, PySem.W.mg_of X G a⟩
theorem mkCls {x qual : Str} {st : Stmt} {C f : Addr} {oc : Value} {od an : Option Addr} {osl : Array (Option Value)} {kV doc pm cdv ct : Value} (X : K.In h) (G : h.Ns mainGlobals mg) (aC : PySem.W.nsIn K mainGlobals x = some (some (.ref C)))
    (a : PySem.W.findIn K (.ref C) "__init__" = some (some (.ref f))) (i : PySem.W.isFn K (.ref f) = true)
    (l : K.lookup f = some ⟨oc, od, .func (PySem.W.fnOf "__init__" qual (defArgs st) (defBody st) (defScope st) .none kV doc pm an cdv ct), osl⟩) (c : PySem.W.codeIn K cdv qual = true) (k : PySem.W.keepIn K (.ref f) = true)
    (pg : PySem.W.plainGet K C Str.empty = true) (hd : PySem.W.hasDictIn K C = true) (po : PySem.W.plainOver K C = true) (sa : PySem.W.findIn K (.ref C) "__setattr__" = some (some (.builtin "object.__setattr__"))) (mk : PySem.W.makesIn K C = true) (kc : PySem.W.keepIn K (.ref C) = true) : ClsIn K mg x qual st C :=
  ⟨PySem.W.mg_of X G aC, ⟨pg, hd, po, sa⟩, f, _, fun_mk l c k, ⟨mk, a, i, kc⟩⟩
theorem mkInt {x : Str} {i : Int} {t : Tok} (X : K.In h) (G : h.Ns mainGlobals mg) (a : PySem.W.nsIn K mainGlobals x = some (some (.int i t))) : GI mg x i := ⟨t, PySem.W.mg_of X G a⟩
theorem mkTup {x : Str} {xs : List V} {f : Addr} {od : Option Addr} {osl : Array (Option Value)} {its : Array Value} {n : Nat} (X : K.In h) (G : h.Ns mainGlobals mg) (a : PySem.W.nsIn K mainGlobals x = some (some (.ref f))) (l : K.lookup f = some ⟨.type "tuple", od, .seq its n, osl⟩)
    (hs : its.size ≤ 1000) (v : Vals xs its.toList) : ∃ a, mg x = some (.ref a) ∧ ∀ H, SqT K H a xs :=
  ⟨f, PySem.W.mg_of X G a, fun _ => .inr ⟨_, its, n, l, rfl, rfl, Nat.le_trans hs (by decide), v⟩⟩
theorem mem_all {α : Type} {p : α → Prop} : ∀ {l : List α}, (l.foldr (fun x q => p x ∧ q) True) → ∀ x ∈ l, p x
  | [], _, _, h => by cases h
  | y :: l, ⟨a, b⟩, x, h => by
    rcases List.mem_cons.mp h with rfl | h
    · exact a
    · exact mem_all b x h
theorem cls_ne {x y qual qual' : Str} {st st' : Stmt} {C C' : Addr} (a : ClsIn K mg x qual st C) (b : ClsIn K mg y qual' st' C') (h : qual ≠ qual') : C ≠ C' := by
  intro e
  subst e
  obtain ⟨_, _, f, fd, F, M⟩ := a
  obtain ⟨_, _, f', fd', F', M'⟩ := b
  have e1 := M.init.symm.trans M'.init
  have e2 : f = f' := by injection e1 with e1; injection e1 with e1; injection e1
  subst e2
  obtain ⟨oc, od, kV, doc, pm, an, cdv, ct, osl, h1, l1, _⟩ := F.ex
  obtain ⟨oc', od', kV', doc', pm', an', cdv', ct', osl', h2, l2, _⟩ := F'.ex
  have e3 := l1.symm.trans l2
  rw [h1, h2] at e3
  injection e3 with e3
  injection e3 with _ _ e3 _
  injection e3 with e3
  exact h (congrArg FuncData.qualname e3)
end
end SH
end
section
set_option Elab.async false
set_option linter.all false
set_option maxRecDepth 100000
set_option maxHeartbeats 4000000
namespace SH
open PySem PySem.Spec PyProof.Rows L2
theorem all_mk {P : Program} {w : World} {K : PySem.W.Frag} {mg : Str → Option Value} {fa CH CJ CC : Addr} (hfa : mg "answers" = some (.ref fa)) (T : Txt K mg CH CJ) (TC : TxC mg) (TH : TxH K mg CC CJ) (D : Defs K mg)
    (cJ : ClsIn K mg "Job" "Job.__init__" sInitJ CJ) (cH : ClsIn K mg "House" "House.__init__" sInitH CH) (cC : ClsIn K mg "Call" "Call.__init__" sInitC CC) :
    ∃ fd : FuncData, (∀ (s : Shared) (us : List Value), us.length = (["calls"] : List Str).length → BindsTo s fd ⟨us, []⟩ ((["calls"] : List Str).zip us)) ∧ ∀ base : Heap, K.In base → base.Ns mainGlobals mg → FnOk P w K mg base CX0 8 fa fd ["calls"] (spAns K) := by
  obtain ⟨f, fd, F, hm⟩ := D.answers
  have e := hfa.symm.trans hm
  cases e
  refine ⟨fd, ?_, fun base _ _ => ?_⟩
  · obtain ⟨oc, od, kV, doc, pm, an, cdv, ct, osl, rfl, _, _⟩ := F.ex
    exact fun s => bind1 fun _ => .of_eq rfl
  obtain ⟨mJ, _, fJ, fdJ, FJ, MJ⟩ := cJ
  obtain ⟨mH, _, fH, fdH, FH, MH⟩ := cH
  obtain ⟨mC, _, fC, fdC, FC, MC⟩ := cC
  have bJ := FJ.binds (ps := ["self", "number", "cached", "failing", "weight", "needs"]) fun _ _ _ _ _ _ => bind6 fun _ _ _ _ _ _ => rfl
  have bH := FH.binds (ps := ["self"]) fun _ _ _ _ _ _ => bind1 fun _ => rfl
  have bC := FC.binds (ps := ["self", "kind", "numbers", "row", "behind"]) fun _ _ _ _ _ _ => bind5 fun _ _ _ _ _ => rfl
  have gJ : FnOk P w K mg base CX0 1 fJ fdJ ["self", "number", "cached", "failing", "weight", "needs"] (spInitJ CJ) := ok_initJ FJ T
  have gH : FnOk P w K mg base CX0 1 fH fdH ["self"] (spInitH CH) := ok_initH FH T
  have gC : FnOk P w K mg base CX0 1 fC fdC ["self", "kind", "numbers", "row", "behind"] (spInitC CC) := ok_initC FC TH
  have aThere : Cal P w K mg base 1 "is_there" ["job"] (spLook CJ VM.J.there) := c_there T D.there
  have aFailed : Cal P w K mg base 1 "is_failed" ["job"] (spLook CJ VM.J.failed) := c_failed T D.failed
  have aEnded : Cal P w K mg base 1 "is_ended" ["job"] (spLook CJ VM.J.ended) := c_ended T D.ended
  have aRunning : Cal P w K mg base 1 "is_running" ["job"] (spLook CJ VM.J.running) := c_running T D.running
  have aFail : Cal P w K mg base 1 "fail" ["job", "cause"] (spFail CJ) := c_fail T D.fail
  have aUnfail := c_unfail T D.unfail aFailed
  have aMarks := c_marks T D.marks aEnded
  have aFree : Cal P w K mg base 1 "free_workers" ["house"] (spHouse CH CJ fun m => .int (VM.free m : Nat)) := c_free T D.free
  have aWF : Cal P w K mg base 1 "workers_for" ["house", "job"] (spWorkersFor CH CJ) := c_workersFor T D.workersFor
  have aBlocked := c_blocked T D.blocked aFailed
  have aNeeds := c_needs T D.needs aThere
  have aMay := c_mayStart T D.mayStart aRunning aNeeds aWF
  have aEvents := c_events T D.events aRunning aBlocked aMarks aFree aMay
  have aRest := c_rest T D.rest aEvents
  have aSJ := c_settleJob T D.settleJob aFailed aEnded aFail
  have aSettle := c_settle T D.settle aMarks aRunning aSJ
  have aEnd := c_endJob T D.endJob aFail
  have aStart := c_startJob T D.startJob aWF
  have aAnsJ : Cal P w K mg base 1 "answer_job" ["job"] (spAnswerJob CJ) := c_answerJob T D.answerJob
  have aHappen := c_happen T D.happen aEnd aStart aAnsJ aSettle
  have aLoseR := c_loseRun T D.loseRun aFail aSettle
  have aAre : Cal P w K mg base 1 "are_jobs" ["house", "numbers"] (spAreJobs K CH CJ) := c_areJobs T D.areJobs
  have aIsM : Cal P w K mg base 1 "is_mark" ["number"] spIsMark := c_isMark D.isMark
  have aMG := c_markGoals T TC D.markGoals aAre
  have aForget := c_forget T D.forget aUnfail
  have aIdle := c_idle T TC D.idle aMarks aNeeds
  have C : AllC P w K mg base CH CJ := {
    job := (c_addJob T TC D.addJob aIsM aAre mJ MJ gJ bJ).mono (by decide)
    workers := (c_setWorkers T TC D.setWorkers).mono (by decide)
    keep := (c_setKeep T TC D.setKeep aIsM).mono (by decide)
    goal := (c_addGoals T D.addGoals aMG aSettle).mono (by decide)
    drop := (c_dropGoals D.dropGoals aMG).mono (by decide)
    events := (c_listEvents T D.listEvents aEvents).mono (by decide)
    run := (c_run T TC D.run aEvents aHappen).mono (by decide)
    lose := (c_lose T TC D.lose aAre aRunning aLoseR).mono (by decide)
    status := (c_status T TC D.status aAre aFailed aRunning aIdle).mono (by decide)
    counts := c_counts T TC D.counts aRunning aMarks aFree aRest
    fix := (c_fix T TC D.fix aAre aForget).mono (by decide)
    forget := aForget.mono (by decide) }
  exact ok_answers F T TH mH MH gH bH (c_read T TH D.read mC MC gC bC) (c_answer TH D.answer C)
end SH
end
section
set_option Elab.async false
set_option linter.all false
set_option maxRecDepth 100000
set_option maxHeartbeats 4000000
namespace SH
open PySem PySem.Spec PyProof.Rows L2
open PySem.W (Codec)
theorem s_case (K : PySem.W.Frag) (H : Hp) (xs : List V) (a : Codec.denoteAll PySem.Challenge.rw_scheduledhouse_s01_answers.args) (hO : OnlyF H) (hwi : Codec.withinAll PySem.Challenge.rw_scheduledhouse_s01_answers.args a = true)
    (hask : Codec.app PySem.Challenge.rw_scheduledhouse_s01_answers.args PySem.Challenge.rw_scheduledhouse_s01_answers.asked a = true) (hx : DwAll K H xs (Codec.encAll PySem.Challenge.rw_scheduledhouse_s01_answers.args a)) :
    spAns K xs H (fun v H' => Dw K H' v (PySem.Challenge.rw_scheduledhouse_s01_answers.ret.enc (Codec.app PySem.Challenge.rw_scheduledhouse_s01_answers.args PySem.Challenge.rw_scheduledhouse_s01_answers.f a))) fun _ _ _ => False := by
  cases hx with
  | cons h1 h2 =>
    cases h2
    cases h1 with
    | lst hs ha =>
      have e := L2.ints_dw a.1 _ ha
      subst e
      have q : ((Codec.inLen 0 17000 a.1 && a.1.all (Codec.inInt (-1000000000000000000) 1000000000000000000)) && true) = true := hwi
      rw [Bool.and_eq_true, Bool.and_eq_true] at q
      exact ⟨_, a.1, rfl, hs, (Codec.inNat_iff.mp q.1.1).2, hask, fun H' p hp => .lst (L2.SqL.of hp) (L2.dw_ints _)⟩
end SH
end
section
set_option Elab.async false
set_option linter.all false
set_option maxRecDepth 100000
set_option maxHeartbeats 4000000
namespace SH
open PySem PySem.Spec PyProof.Rows L2
structure TxI (mg : Str → Option Value) : Prop where
  i0 : GI mg "UNENDED" (0)
  i1 : GI mg "BUILT" (1)
  i2 : GI mg "FETCHED" (2)
  i3 : GI mg "FAILED" (3)
  i4 : GI mg "END" (0)
  i5 : GI mg "START" (1)
  i6 : GI mg "ANSWER" (2)
  i7 : GI mg "MOST_LOSSES" (3)
structure TxK (mg : Str → Option Value) : Prop where
  i0 : GI mg "CALL_JOB" (0)
  i1 : GI mg "CALL_WORKERS" (1)
  i2 : GI mg "CALL_KEEP" (2)
  i3 : GI mg "CALL_GOAL" (3)
  i4 : GI mg "CALL_DROP" (4)
  i5 : GI mg "CALL_EVENTS" (5)
  i6 : GI mg "CALL_RUN" (6)
  i7 : GI mg "CALL_LOSE" (7)
  i8 : GI mg "CALL_STATUS" (8)
  i9 : GI mg "CALL_COUNTS" (9)
  i10 : GI mg "CALL_FIX" (10)
structure NaJ (K : PySem.W.Frag) (C : Addr) : Prop where
  n0 : PySem.W.findIn K (.ref C) "number" = some none
  n1 : PySem.W.findIn K (.ref C) "cached" = some none
  n2 : PySem.W.findIn K (.ref C) "failing" = some none
  n3 : PySem.W.findIn K (.ref C) "weight" = some none
  n4 : PySem.W.findIn K (.ref C) "needs" = some none
  n5 : PySem.W.findIn K (.ref C) "goal" = some none
  n6 : PySem.W.findIn K (.ref C) "answered" = some none
  n7 : PySem.W.findIn K (.ref C) "taken" = some none
  n8 : PySem.W.findIn K (.ref C) "outcome" = some none
  n9 : PySem.W.findIn K (.ref C) "cause" = some none
  n10 : PySem.W.findIn K (.ref C) "losses" = some none
theorem NaJ.all {K : PySem.W.Frag} {C : Addr} (h : NaJ K C) : ∀ f ∈ (["number", "cached", "failing", "weight", "needs", "goal", "answered", "taken", "outcome", "cause", "losses"] : List Str), NoAttr K C f := mem_all ⟨h.n0, h.n1, h.n2, h.n3, h.n4, h.n5, h.n6, h.n7, h.n8, h.n9, h.n10, True.intro⟩
structure NaH (K : PySem.W.Frag) (C : Addr) : Prop where
  n0 : PySem.W.findIn K (.ref C) "jobs" = some none
  n1 : PySem.W.findIn K (.ref C) "workers" = some none
  n2 : PySem.W.findIn K (.ref C) "keeps_going" = some none
  n3 : PySem.W.findIn K (.ref C) "starts" = some none
theorem NaH.all {K : PySem.W.Frag} {C : Addr} (h : NaH K C) : ∀ f ∈ (["jobs", "workers", "keeps_going", "starts"] : List Str), NoAttr K C f := mem_all ⟨h.n0, h.n1, h.n2, h.n3, True.intro⟩
structure NaC (K : PySem.W.Frag) (C : Addr) : Prop where
  n0 : PySem.W.findIn K (.ref C) "kind" = some none
  n1 : PySem.W.findIn K (.ref C) "numbers" = some none
  n2 : PySem.W.findIn K (.ref C) "row" = some none
  n3 : PySem.W.findIn K (.ref C) "behind" = some none
theorem NaC.all {K : PySem.W.Frag} {C : Addr} (h : NaC K C) : ∀ f ∈ (["kind", "numbers", "row", "behind"] : List Str), NoAttr K C f := mem_all ⟨h.n0, h.n1, h.n2, h.n3, True.intro⟩
structure NoB (mg : Str → Option Value) : Prop where
  n0 : mg "len" = none
  n1 : mg "all" = none
  n2 : mg "any" = none
  n3 : mg "sum" = none
  n4 : mg "min" = none
  n5 : mg "max" = none
  n6 : mg "sorted" = none
  n7 : mg "set" = none
  n8 : mg "reversed" = none
theorem NoB.all {mg : Str → Option Value} (h : NoB mg) : ∀ f ∈ (["len", "all", "any", "sum", "min", "max", "sorted", "set", "reversed"] : List Str), mg f = none := mem_all ⟨h.n0, h.n1, h.n2, h.n3, h.n4, h.n5, h.n6, h.n7, h.n8, True.intro⟩
theorem top_mk {P : Program} {w : World} {K : PySem.W.Frag} {h : Heap} {mg : Str → Option Value} {fa CH CJ CC : Addr} (X : K.In h) (G : h.Ns mainGlobals mg) (hfa : mg "answers" = some (.ref fa))
    (cJ : ClsIn K mg "Job" "Job.__init__" sInitJ CJ) (cH : ClsIn K mg "House" "House.__init__" sInitH CH) (cC : ClsIn K mg "Call" "Call.__init__" sInitC CC)
    (aJ : NaJ K CJ) (aH : NaH K CH) (aC : NaC K CC) (i : TxI mg) (c : TxC mg) (k : TxK mg) (no : NoB mg)
    (wn : ∃ a, mg "WHOLE_NUMBERS" = some (.ref a) ∧ ∀ H, SqT K H a (VM.wholeN.map fun (n : Nat) => V.int n)) (hr : ∃ a, mg "HAS_ROW" = some (.ref a) ∧ ∀ H, SqT K H a (VM.hasRow.map V.bl)) (D : Defs K mg) :
    ∃ fd : FuncData, (∀ (s : Shared) (us : List Value), us.length = (["calls"] : List Str).length → BindsTo s fd ⟨us, []⟩ ((["calls"] : List Str).zip us)) ∧ ∀ base : Heap, K.In base → base.Ns mainGlobals mg → FnOk P w K mg base CX0 8 fa fd ["calls"] (spAns K) :=
  all_mk hfa ⟨cJ.2.1, cH.2.1, aJ.all, aH.all, i.i0, i.i1, i.i2, i.i3, i.i4, i.i5, i.i6, i.i7, no.all⟩ c
    ⟨cC.2.1, cls_ne cC cJ (by decide +kernel), aC.all, k.i0, k.i1, k.i2, k.i3, k.i4, k.i5, k.i6, k.i7, k.i8, k.i9, k.i10, wn, hr⟩ D cJ cH cC
end SH
end
theorem PySem.W.Fast.te425426114137281763 : True := trivial
set_option Elab.async false
set_option maxRecDepth 100000
set_option maxHeartbeats 2000000
set_option linter.all false
open PySem PySem.W PyProof.Rows
set_option maxRecDepth 100000 in
set_option maxHeartbeats 0 in
theorem PySem.Challenge.cw_scheduledhouse_s01_answers_holds : PySem.Challenge.rw_scheduledhouse_s01_answers.Holds := by
  w_on; k_headS; (case hw => exact ⟨[.list [.int 5]], by decide +kernel, by decide +kernel⟩)
  k_fillS
  refine L2.walk_specK (r := PySem.Challenge.rw_scheduledhouse_s01_answers) (k := 8) (CX := L2.CX0) (ps := ["calls"]) (sp := SH.spAns) (by decide +kernel) rfl rfl ⟨rfl, by decide, by decide⟩ (fun w h Y => PySem.W.kIn_of Y) ?F ?S (fun _ _ _ _ z => z)
  case F =>
    intro w mg fa h Y KX G hmg
    clear Y
    refine' SH.top_mk KX G hmg ?cJ ?cH ?cC ?aJ ?aH ?aC ?i ?c ?k ?no ?wn ?hr ?D
    all_goals clear hmg
    case cJ =>
      refine' SH.mkCls KX G ?cJ_c ?cJ_a ?cJ_i ?cJ_l ?cJ_cd ?cJ_k ?cJ_pg ?cJ_hd ?cJ_po ?cJ_sa ?cJ_mk ?cJ_kc
      (case cJ_c => k_is); (case cJ_a => k_is); (case cJ_i => k_is); (case cJ_l => k_is); (case cJ_cd => k_is); (case cJ_k => k_is); (case cJ_pg => k_is); (case cJ_hd => k_is); (case cJ_po => k_is); (case cJ_sa => k_is); (case cJ_mk => k_is); (case cJ_kc => k_is)
    case cH =>
      refine' SH.mkCls KX G ?cH_c ?cH_a ?cH_i ?cH_l ?cH_cd ?cH_k ?cH_pg ?cH_hd ?cH_po ?cH_sa ?cH_mk ?cH_kc
      (case cH_c => k_is); (case cH_a => k_is); (case cH_i => k_is); (case cH_l => k_is); (case cH_cd => k_is); (case cH_k => k_is); (case cH_pg => k_is); (case cH_hd => k_is); (case cH_po => k_is); (case cH_sa => k_is); (case cH_mk => k_is); (case cH_kc => k_is)
    case cC =>
      refine' SH.mkCls KX G ?cC_c ?cC_a ?cC_i ?cC_l ?cC_cd ?cC_k ?cC_pg ?cC_hd ?cC_po ?cC_sa ?cC_mk ?cC_kc
      (case cC_c => k_is); (case cC_a => k_is); (case cC_i => k_is); (case cC_l => k_is); (case cC_cd => k_is); (case cC_k => k_is); (case cC_pg => k_is); (case cC_hd => k_is); (case cC_po => k_is); (case cC_sa => k_is); (case cC_mk => k_is); (case cC_kc => k_is)
    case aJ =>
      refine' ⟨?aJ_0, ?aJ_1, ?aJ_2, ?aJ_3, ?aJ_4, ?aJ_5, ?aJ_6, ?aJ_7, ?aJ_8, ?aJ_9, ?aJ_10⟩
      (case aJ_0 => k_is); (case aJ_1 => k_is); (case aJ_2 => k_is); (case aJ_3 => k_is); (case aJ_4 => k_is); (case aJ_5 => k_is); (case aJ_6 => k_is); (case aJ_7 => k_is); (case aJ_8 => k_is); (case aJ_9 => k_is); (case aJ_10 => k_is)
    case aH =>
      refine' ⟨?aH_0, ?aH_1, ?aH_2, ?aH_3⟩
      (case aH_0 => k_is); (case aH_1 => k_is); (case aH_2 => k_is); (case aH_3 => k_is)
    case aC =>
      refine' ⟨?aC_0, ?aC_1, ?aC_2, ?aC_3⟩
      (case aC_0 => k_is); (case aC_1 => k_is); (case aC_2 => k_is); (case aC_3 => k_is)
    case i =>
      refine' ⟨SH.mkInt KX G ?i_0, SH.mkInt KX G ?i_1, SH.mkInt KX G ?i_2, SH.mkInt KX G ?i_3, SH.mkInt KX G ?i_4, SH.mkInt KX G ?i_5, SH.mkInt KX G ?i_6, SH.mkInt KX G ?i_7⟩
      (case i_0 => k_is); (case i_1 => k_is); (case i_2 => k_is); (case i_3 => k_is); (case i_4 => k_is); (case i_5 => k_is); (case i_6 => k_is); (case i_7 => k_is)
    case c =>
      refine' ⟨SH.mkInt KX G ?c_0, SH.mkInt KX G ?c_1, SH.mkInt KX G ?c_2, SH.mkInt KX G ?c_3, SH.mkInt KX G ?c_4, SH.mkInt KX G ?c_5, SH.mkInt KX G ?c_6, SH.mkInt KX G ?c_7, SH.mkInt KX G ?c_8, SH.mkInt KX G ?c_9, SH.mkInt KX G ?c_10, SH.mkInt KX G ?c_11, SH.mkInt KX G ?c_12, SH.mkInt KX G ?c_13, SH.mkInt KX G ?c_14, SH.mkInt KX G ?c_15, SH.mkInt KX G ?c_16⟩
      (case c_0 => k_is); (case c_1 => k_is); (case c_2 => k_is); (case c_3 => k_is); (case c_4 => k_is); (case c_5 => k_is); (case c_6 => k_is); (case c_7 => k_is); (case c_8 => k_is); (case c_9 => k_is); (case c_10 => k_is); (case c_11 => k_is); (case c_12 => k_is); (case c_13 => k_is); (case c_14 => k_is); (case c_15 => k_is); (case c_16 => k_is)
    case k =>
      refine' ⟨SH.mkInt KX G ?k_0, SH.mkInt KX G ?k_1, SH.mkInt KX G ?k_2, SH.mkInt KX G ?k_3, SH.mkInt KX G ?k_4, SH.mkInt KX G ?k_5, SH.mkInt KX G ?k_6, SH.mkInt KX G ?k_7, SH.mkInt KX G ?k_8, SH.mkInt KX G ?k_9, SH.mkInt KX G ?k_10⟩
      (case k_0 => k_is); (case k_1 => k_is); (case k_2 => k_is); (case k_3 => k_is); (case k_4 => k_is); (case k_5 => k_is); (case k_6 => k_is); (case k_7 => k_is); (case k_8 => k_is); (case k_9 => k_is); (case k_10 => k_is)
    case no =>
      refine' ⟨PySem.W.mg_none_of KX G ?no_0, PySem.W.mg_none_of KX G ?no_1, PySem.W.mg_none_of KX G ?no_2, PySem.W.mg_none_of KX G ?no_3, PySem.W.mg_none_of KX G ?no_4, PySem.W.mg_none_of KX G ?no_5, PySem.W.mg_none_of KX G ?no_6, PySem.W.mg_none_of KX G ?no_7, PySem.W.mg_none_of KX G ?no_8⟩
      (case no_0 => k_is); (case no_1 => k_is); (case no_2 => k_is); (case no_3 => k_is); (case no_4 => k_is); (case no_5 => k_is); (case no_6 => k_is); (case no_7 => k_is); (case no_8 => k_is)
    case wn =>
      refine' SH.mkTup KX G ?wn_a ?wn_l ?wn_s ?wn_v
      (case wn_a => k_is); (case wn_l => k_is); (case wn_s => decide); (case wn_v => exact (.cons ⟨_, rfl⟩ (.cons ⟨_, rfl⟩ (.cons ⟨_, rfl⟩ (.cons ⟨_, rfl⟩ (.cons ⟨_, rfl⟩ (.cons ⟨_, rfl⟩ (.cons ⟨_, rfl⟩ (.cons ⟨_, rfl⟩ (.cons ⟨_, rfl⟩ (.cons ⟨_, rfl⟩ (.cons ⟨_, rfl⟩ (.cons ⟨_, rfl⟩ .nil)))))))))))))
    case hr =>
      refine' SH.mkTup KX G ?hr_a ?hr_l ?hr_s ?hr_v
      (case hr_a => k_is); (case hr_l => k_is); (case hr_s => decide); (case hr_v => exact (.cons rfl (.cons rfl (.cons rfl (.cons rfl (.cons rfl (.cons rfl (.cons rfl (.cons rfl (.cons rfl (.cons rfl (.cons rfl (.cons rfl .nil)))))))))))))
    case D =>
      refine' ⟨SH.mkDef KX G ?a0 ?l0 ?c0 ?k0, SH.mkDef KX G ?a1 ?l1 ?c1 ?k1, SH.mkDef KX G ?a2 ?l2 ?c2 ?k2, SH.mkDef KX G ?a3 ?l3 ?c3 ?k3, SH.mkDef KX G ?a4 ?l4 ?c4 ?k4, SH.mkDef KX G ?a5 ?l5 ?c5 ?k5, SH.mkDef KX G ?a6 ?l6 ?c6 ?k6, SH.mkDef KX G ?a7 ?l7 ?c7 ?k7, SH.mkDef KX G ?a8 ?l8 ?c8 ?k8, SH.mkDef KX G ?a9 ?l9 ?c9 ?k9, SH.mkDef KX G ?a10 ?l10 ?c10 ?k10, SH.mkDef KX G ?a11 ?l11 ?c11 ?k11, SH.mkDef KX G ?a12 ?l12 ?c12 ?k12, SH.mkDef KX G ?a13 ?l13 ?c13 ?k13, SH.mkDef KX G ?a14 ?l14 ?c14 ?k14, SH.mkDef KX G ?a15 ?l15 ?c15 ?k15, SH.mkDef KX G ?a16 ?l16 ?c16 ?k16, SH.mkDef KX G ?a17 ?l17 ?c17 ?k17, SH.mkDef KX G ?a18 ?l18 ?c18 ?k18, SH.mkDef KX G ?a19 ?l19 ?c19 ?k19, SH.mkDef KX G ?a20 ?l20 ?c20 ?k20, SH.mkDef KX G ?a21 ?l21 ?c21 ?k21, SH.mkDef KX G ?a22 ?l22 ?c22 ?k22, SH.mkDef KX G ?a23 ?l23 ?c23 ?k23, SH.mkDef KX G ?a24 ?l24 ?c24 ?k24, SH.mkDef KX G ?a25 ?l25 ?c25 ?k25, SH.mkDef KX G ?a26 ?l26 ?c26 ?k26, SH.mkDef KX G ?a27 ?l27 ?c27 ?k27, SH.mkDef KX G ?a28 ?l28 ?c28 ?k28, SH.mkDef KX G ?a29 ?l29 ?c29 ?k29, SH.mkDef KX G ?a30 ?l30 ?c30 ?k30, SH.mkDef KX G ?a31 ?l31 ?c31 ?k31, SH.mkDef KX G ?a32 ?l32 ?c32 ?k32, SH.mkDef KX G ?a33 ?l33 ?c33 ?k33, SH.mkDef KX G ?a34 ?l34 ?c34 ?k34, SH.mkDef KX G ?a35 ?l35 ?c35 ?k35, SH.mkDef KX G ?a36 ?l36 ?c36 ?k36, SH.mkDef KX G ?a37 ?l37 ?c37 ?k37, SH.mkDef KX G ?a38 ?l38 ?c38 ?k38, SH.mkDef KX G ?a39 ?l39 ?c39 ?k39⟩
      (case a0 => k_is); (case l0 => k_is); (case c0 => k_is); (case k0 => k_is)
      (case a1 => k_is); (case l1 => k_is); (case c1 => k_is); (case k1 => k_is)
      (case a2 => k_is); (case l2 => k_is); (case c2 => k_is); (case k2 => k_is)
      (case a3 => k_is); (case l3 => k_is); (case c3 => k_is); (case k3 => k_is)
      (case a4 => k_is); (case l4 => k_is); (case c4 => k_is); (case k4 => k_is)
      (case a5 => k_is); (case l5 => k_is); (case c5 => k_is); (case k5 => k_is)
      (case a6 => k_is); (case l6 => k_is); (case c6 => k_is); (case k6 => k_is)
      (case a7 => k_is); (case l7 => k_is); (case c7 => k_is); (case k7 => k_is)
      (case a8 => k_is); (case l8 => k_is); (case c8 => k_is); (case k8 => k_is)
      (case a9 => k_is); (case l9 => k_is); (case c9 => k_is); (case k9 => k_is)
      (case a10 => k_is); (case l10 => k_is); (case c10 => k_is); (case k10 => k_is)
      (case a11 => k_is); (case l11 => k_is); (case c11 => k_is); (case k11 => k_is)
      (case a12 => k_is); (case l12 => k_is); (case c12 => k_is); (case k12 => k_is)
      (case a13 => k_is); (case l13 => k_is); (case c13 => k_is); (case k13 => k_is)
      (case a14 => k_is); (case l14 => k_is); (case c14 => k_is); (case k14 => k_is)
      (case a15 => k_is); (case l15 => k_is); (case c15 => k_is); (case k15 => k_is)
      (case a16 => k_is); (case l16 => k_is); (case c16 => k_is); (case k16 => k_is)
      (case a17 => k_is); (case l17 => k_is); (case c17 => k_is); (case k17 => k_is)
      (case a18 => k_is); (case l18 => k_is); (case c18 => k_is); (case k18 => k_is)
      (case a19 => k_is); (case l19 => k_is); (case c19 => k_is); (case k19 => k_is)
      (case a20 => k_is); (case l20 => k_is); (case c20 => k_is); (case k20 => k_is)
      (case a21 => k_is); (case l21 => k_is); (case c21 => k_is); (case k21 => k_is)
      (case a22 => k_is); (case l22 => k_is); (case c22 => k_is); (case k22 => k_is)
      (case a23 => k_is); (case l23 => k_is); (case c23 => k_is); (case k23 => k_is)
      (case a24 => k_is); (case l24 => k_is); (case c24 => k_is); (case k24 => k_is)
      (case a25 => k_is); (case l25 => k_is); (case c25 => k_is); (case k25 => k_is)
      (case a26 => k_is); (case l26 => k_is); (case c26 => k_is); (case k26 => k_is)
      (case a27 => k_is); (case l27 => k_is); (case c27 => k_is); (case k27 => k_is)
      (case a28 => k_is); (case l28 => k_is); (case c28 => k_is); (case k28 => k_is)
      (case a29 => k_is); (case l29 => k_is); (case c29 => k_is); (case k29 => k_is)
      (case a30 => k_is); (case l30 => k_is); (case c30 => k_is); (case k30 => k_is)
      (case a31 => k_is); (case l31 => k_is); (case c31 => k_is); (case k31 => k_is)
      (case a32 => k_is); (case l32 => k_is); (case c32 => k_is); (case k32 => k_is)
      (case a33 => k_is); (case l33 => k_is); (case c33 => k_is); (case k33 => k_is)
      (case a34 => k_is); (case l34 => k_is); (case c34 => k_is); (case k34 => k_is)
      (case a35 => k_is); (case l35 => k_is); (case c35 => k_is); (case k35 => k_is)
      (case a36 => k_is); (case l36 => k_is); (case c36 => k_is); (case k36 => k_is)
      (case a37 => k_is); (case l37 => k_is); (case c37 => k_is); (case k37 => k_is)
      (case a38 => k_is); (case l38 => k_is); (case c38 => k_is); (case k38 => k_is)
      (case a39 => k_is); (case l39 => k_is); (case c39 => k_is); (case k39 => k_is)
  case S =>
    intro K H xs a hO hwi hask hx
    exact SH.s_case K H xs a hO hwi hask hx
