import PyProof.Rows.All
import Wide.All
import OpenK.AllK
import Wide.FinOn
import Lean
import PyProof.EqAt
import PyProof.EqKinds
import PyProof.TupleCall
import PyProof.NeKinds
import KE.KSortTup
import PyProof.SetKind
import PyProof.TupleKey
import PyProof.Rows.SetFrom
import KE.KDictList
import KE.KItemsList
import PyProof.SumWalk
import PyProof.WalkInts
import PyProof.Rows.SortStr
import PyProof.Rows.SortWalk
import PyProof.StrBlockI
import PyProof.SliceStr2
import PyProof.DictTable
import OpenK.KTop
import PyProof.Rows.CatFin
import PyProof.Rows.StrClose
import PyProof.GenQ
import PyProof.CodeObjX
import KE.KNestM
import PyProof.EnumMake
import PyProof.StrWalks
import PyProof.ConsumeWalk
import PyProof.ReprRoads
import PyProof.ReprLen
import PySem.Challenge.RW_leavebook_k03_whos_known
set_option Elab.async false
set_option linter.all false
set_option maxRecDepth 100000
namespace L2
open PySem PySem.Spec PyProof.Rows
abbrev Key := Sum Int Str
def keyIs : Key → Value → Bool
  | .inl k, v => Value.isInt k v
  | .inr x, v => Value.isStrOf x v
def keyH (w : World) : Key → Int
  | .inl k => hashInt k
  | .inr x => hashStr w x
theorem keyIs_shape : ∀ {k : Key} {v : Value}, keyIs k v = true → (∃ i t, k = Sum.inl i ∧ v = Value.int i t) ∨ (∃ x t, k = Sum.inr x ∧ v = Value.str x t)
  | .inl i, v, h => by
    obtain ⟨t, e⟩ := Value.isInt_shape (k := i) (v := v) h
    exact .inl ⟨i, t, rfl, e⟩
  | .inr x, v, h => by
    obtain ⟨t, e⟩ := Value.isStrOf_shape (x := x) (v := v) h
    exact .inr ⟨x, t, rfl, e⟩
theorem key_ll (a b : Int) : decide ((Sum.inl a : Key) = Sum.inl b) = (a == b) := by
  by_cases e : a = b
  · subst e; simp
  · have h : ¬ (Sum.inl a : Key) = Sum.inl b := fun q => e (Sum.inl.inj q)
    rw [decide_eq_false h]
    exact (beq_eq_false_iff_ne.mpr e).symm
theorem key_rr (a b : Str) : decide ((Sum.inr a : Key) = Sum.inr b) = decide (a = b) := by
  by_cases e : a = b
  · subst e; simp
  · have h : ¬ (Sum.inr a : Key) = Sum.inr b := fun q => e (Sum.inr.inj q)
    rw [decide_eq_false h, decide_eq_false e]
theorem key_lr (a : Int) (b : Str) : decide ((Sum.inl a : Key) = Sum.inr b) = false := decide_eq_false (fun q => nomatch q)
theorem key_rl (a : Str) (b : Int) : decide ((Sum.inr a : Key) = Sum.inl b) = false := decide_eq_false (fun q => nomatch q)
def mixKind (prog : Program) (w : World) : PySem.KeyKind prog w Key where
  is := keyIs
  hash := keyH w
  inj := fun v a b ha hb => by
    rcases keyIs_shape ha with ⟨i, t, rfl, rfl⟩ | ⟨x, t, rfl, rfl⟩
    · rcases keyIs_shape hb with ⟨j, u, rfl, e⟩ | ⟨y, u, rfl, e⟩
      · injection e with e1 _; rw [e1]
      · exact nomatch e
    · rcases keyIs_shape hb with ⟨j, u, rfl, e⟩ | ⟨y, u, rfl, e⟩
      · exact nomatch e
      · injection e with e1 _; rw [e1]
  byValue := fun k v h => by
    rcases keyIs_shape h with ⟨i, t, rfl, rfl⟩ | ⟨x, t, rfl, rfl⟩ <;> rfl
  pyHash := fun hv h => by
    rcases keyIs_shape hv with ⟨i, t, rfl, rfl⟩ | ⟨x, t, rfl, rfl⟩
    · exact wpAny_pyHash_int h
    · exact wpAny_pyHash_str h
  eqBool := fun hu hv h => by
    rcases keyIs_shape hu with ⟨i, t, rfl, rfl⟩ | ⟨x, t, rfl, rfl⟩
    · rcases keyIs_shape hv with ⟨j, u, rfl, rfl⟩ | ⟨y, u, rfl, rfl⟩
      · rw [key_ll] at h; exact wpAny_eqBool_int h
      · rw [key_lr] at h; exact SeqAt.EqAt.int_str i t y u _ _ _ _ h
    · rcases keyIs_shape hv with ⟨j, u, rfl, rfl⟩ | ⟨y, u, rfl, rfl⟩
      · rw [key_rl] at h; exact SeqAt.EqAt.str_int x t j u _ _ _ _ h
      · rw [key_rr] at h; exact wpAny_eqBool_str h
  «strs» := fun k x t v h => by
    rcases keyIs_shape h with ⟨i, u, rfl, e⟩ | ⟨y, u, rfl, e⟩
    · exact nomatch e
    · injection e with e1 _
      subst e1
      cases v <;> rfl
end L2
namespace L2
open PySem PySem.Spec PyProof.Rows
inductive V where
  | non | bl (b : Bool) | int (i : Int) | str (x : Str) | byt (b : Array UInt8) | flt (b : UInt64) | ref (a : Addr) | ty (n : String)
  deriving DecidableEq
def RelV : V → Value → Prop
  | .non, u => u = Value.none
  | .bl b, u => u = Value.bool b
  | .int i, u => ∃ t, u = Value.int i t
  | .str x, u => ∃ t, u = Value.str x t
  | .byt b, u => ∃ t, u = Value.bytes b t
  | .flt b, u => ∃ t, u = Value.float b t
  | .ref a, u => u = Value.ref a
  | .ty n, u => u = Value.type n
abbrev Vals : List V → List Value → Prop := Paired RelV
theorem Vals.length {xs : List V} {us : List Value} (r : Vals xs us) : xs.length = us.length := Paired.length r
theorem Vals.get : ∀ {xs : List V} {us : List Value} {i : Nat} {x : V}, Vals xs us → xs[i]? = some x → ∃ u, us[i]? = some u ∧ RelV x u
  | _, _, _, _, .nil, e => by simp at e
  | _, _, 0, _, .cons r _, e => by simp at e; subst e; exact ⟨_, rfl, r⟩
  | _, _, i + 1, x, .cons _ t, e => by
    obtain ⟨u, h1, h2⟩ := Vals.get (i := i) (x := x) t (by simpa using e)
    exact ⟨u, by simpa using h1, h2⟩
theorem Vals.set {x : V} {u : Value} (r : RelV x u) : ∀ {xs : List V} {us : List Value} (i : Nat), Vals xs us → Vals (xs.set i x) (us.set i u)
  | _, _, _, .nil => .nil
  | _, _, 0, .cons _ t => .cons r t
  | _, _, i + 1, .cons q t => .cons q (Vals.set r i t)
theorem Vals.append : ∀ {xs ys : List V} {us ws : List Value}, Vals xs us → Vals ys ws → Vals (xs ++ ys) (us ++ ws)
  | _, _, _, _, .nil, s => s
  | _, _, _, _, .cons r t, s => .cons r (Vals.append t s)
theorem Vals.take : ∀ {xs : List V} {us : List Value} (n : Nat), Vals xs us → Vals (xs.take n) (us.take n)
  | _, _, 0, _ => .nil
  | _, _, _ + 1, .nil => .nil
  | _, _, n + 1, .cons r t => .cons r (Vals.take n t)
theorem Vals.drop : ∀ {xs : List V} {us : List Value} (n : Nat), Vals xs us → Vals (xs.drop n) (us.drop n)
  | _, _, 0, r => r
  | _, _, _ + 1, .nil => .nil
  | _, _, n + 1, .cons _ t => Vals.drop n t
def RelO : Option V → Option Value → Prop
  | some v, some u => RelV v u
  | none, none => True
  | _, _ => False
def KV {κ : Type} : List (κ × V) → List (κ × Value) → Prop := Paired fun (p : κ × V) (q : κ × Value) => p.1 = q.1 ∧ RelV p.2 q.2
def kV : Key → V
  | .inl i => .int i
  | .inr x => .str x
inductive HO where
  /-- a list -/
  | lst (xs : List V)
  /-- a tuple (never changes) -/
  | tup (xs : List V)
  /-- a dict whose keys are ints and texts; one whose keys are tuples of ints and texts (the empty one is both) -/
  | dK (kvs : List (Key × V)) | dT (kvs : List (List Key × V))
  /-- a set of ints: its members, its size -/
  | set (S : Int → Bool) (n : Nat)
  /-- an instance of the class at C, its dict at dx, its attributes -/
  | ins (C dx : Addr) (fs : List (Str × V))
  /-- the dict of the instance at x -/
  | own (x : Addr)
  /-- the dict of an exception -/
  | xd (fs : List (Str × V))
  /-- a bound method, f of x -/
  | met (f x : Addr)
  /-- a range object lo, lo + 1, .. below hi -/
  | rng (lo hi : Int)
  /-- a thing that is known to the object (the script; a dict while a loop walks it): read, never written while it is so -/
  | frz (o : Obj) (u : HO)
  /-- a code object's table -/
  | tbl (ps : Array Value)
  /-- any other thing, by what is true of its one object (a def of one's own: SetO a S n := HO.ext fun h => ..) -/
  | ext (φ : Heap → Prop)
abbrev Hp := Addr → Option HO
def upd (H : Hp) (a : Addr) (o : HO) : Hp := fun b => if b = a then some o else H b
theorem upd_same {H : Hp} {a : Addr} {o : HO} : upd H a o a = some o := by unfold upd; rw [if_pos rfl]
theorem upd_ne {H : Hp} {a b : Addr} {o : HO} (h : b ≠ a) : upd H a o b = H b := by unfold upd; rw [if_neg h]
theorem ne_of {H : Hp} {a b : Addr} {o u : HO} (h : H a = some o) (h' : H b = some u) (d : o ≠ u) : a ≠ b := by
  intro e; subst e; rw [h] at h'; exact d (Option.some.inj h')
theorem ne_of_none {H : Hp} {a b : Addr} {o : HO} (h : H a = some o) (h' : H b = none) : a ≠ b := by
  intro e; subst e; rw [h] at h'; cases h'
def ITup (h : Heap) (a : Addr) (items : Array Value) : Prop := ∃ o, h.get? a = some o ∧ o.cls = .type "tuple" ∧ (∃ n, o.data = .seq items n) ∧ o.dict = none
theorem ITup.tup {h : Heap} {a : Addr} {items : Array Value} (x : ITup h a items) : IsTup h a items := let ⟨o, e, c, n, _⟩ := x; ⟨o, e, c, n⟩
theorem ITup.lt {h : Heap} {a : Addr} {items : Array Value} (x : ITup h a items) : a < h.objs.size := let ⟨_, e, _⟩ := x; Heap.lt_size e
theorem ITup.new (h : Heap) (items : Array Value) : ITup (h.push { cls := .type "tuple", data := .seq items }) h.objs.size items := ⟨_, Heap.get?_push_size _ rfl, rfl, ⟨_, rfl⟩, rfl⟩
section
variable (P : Program) (w : World)
def ObjOk (H : Hp) (h : Heap) (a : Addr) : HO → Prop
  | .lst xs => xs.length ≤ sizeLine ∧ ∃ (its : List Value) (n : Nat), Vals xs its ∧ h.get? a = some { cls := .type "list", data := .seq its.toArray n }
  | .tup xs => xs.length ≤ sizeLine ∧ ∃ its : List Value, Vals xs its ∧ ITup h a its.toArray
  | .dK kvs => kvs.length ≤ sizeLine ∧ (a == sysModules) = false ∧ ∃ vs, KV kvs vs ∧ h.DictOf (mixKind P w) a vs
  | .dT kvs => kvs.length ≤ sizeLine ∧ (a == sysModules) = false ∧ ∃ xs : List (List Key × Addr × Value),
      Paired (fun (p : List Key × V) (q : List Key × Addr × Value) => p.1 = q.1 ∧ H q.2.1 = some (.tup (p.1.map kV)) ∧ RelV p.2 q.2.2) kvs xs ∧
      ∃ o es ep, h.get? a = some o ∧ o.ExactDict ∧ o.data = .dict es ep ∧ es.toList = xs.map (entryOfKey (tupleKind (mixKind P w))) ∧ (xs.map (·.1)).Nodup
  | .set S n => h.SetOf (intKind P w) a S n
  | .ins C dx fs => H dx = some (.own a) ∧ fs.length ≤ 1000 ∧ dx ≠ a ∧ h.get? a = some (W.instObj C dx) ∧
      ∃ mA, h.Ns1 dx mA ∧ (∀ f, RelO (fs.lookup f) (mA f)) ∧ PySem.Within mA (fs.map (·.1))
  | .own _ => ∃ o, h.get? a = some o
  | .xd fs => ∃ mA, h.Ns1 a mA ∧ ∀ f, RelO (fs.lookup f) (mA f)
  | .rng lo hi => ∃ t u v, h.get? a = some { cls := .type "range", data := .fields #[.int lo t, .int hi u, .int 1 v] }
  | .frz o u => h.get? a = some o ∧ ObjOk H h a u
  | .tbl ps => h.get? a = some { cls := .none, data := .fields ps } ∧ TriplesOk ps.toList
  | .met f x => h.get? a = some (W.methodObj (.ref f) (.ref x))
  | .ext φ => φ h ∧ (∃ o, h.get? a = some o) ∧ ∀ h1 h2 : Heap, φ h1 → (∀ o, h1.get? a = some o → h2.get? a = some o) → φ h2
def HOk (H : Hp) (h : Heap) : Prop := ∀ a o, H a = some o → ObjOk P w H h a o
end
section
variable {P : Program} {w : World} {H H' : Hp} {h h' : Heap} {a : Addr} {o : HO}
theorem ObjOk.lt (x : ObjOk P w H h a o) : a < h.objs.size := by
  cases o with
  | lst xs => obtain ⟨_, _, _, _, e⟩ := x; exact Heap.lt_size e
  | tup xs => obtain ⟨_, _, _, p⟩ := x; exact p.lt
  | dK kvs => obtain ⟨_, _, _, _, o, _, _, e, _⟩ := x; exact Heap.lt_size e
  | dT kvs => obtain ⟨_, _, _, _, o, _, _, e, _⟩ := x; exact Heap.lt_size e
  | set S n => obtain ⟨o, _, _, _, e, _⟩ := x; exact Heap.lt_size e
  | ins C dx fs => obtain ⟨_, _, _, e, _⟩ := x; exact Heap.lt_size e
  | own y => obtain ⟨_, e⟩ := x; exact Heap.lt_size e
  | xd fs => obtain ⟨_, ⟨_, _, _, e, _⟩, _⟩ := x; exact Heap.lt_size e
  | rng lo hi => obtain ⟨_, _, _, e⟩ := x; exact Heap.lt_size e
  | frz ob u => obtain ⟨e, _⟩ := x; exact Heap.lt_size e
  | tbl ps => exact Heap.lt_size (show h.get? a = some _ from x.1)
  | met f y => exact Heap.lt_size (show h.get? a = some _ from x)
  | ext φ => obtain ⟨_, ⟨_, e⟩, _⟩ := x; exact Heap.lt_size e
theorem Paired.mapP {α β : Type} {F G : α → β → Prop} : ∀ {l₁ : List α} {l₂ : List β}, Paired F l₁ l₂ → (∀ a b, F a b → G a b) → Paired G l₁ l₂
  | _, _, .nil, _ => .nil
  | _, _, .cons r t, f => .cons (f _ _ r) (Paired.mapP t f)
theorem ObjOk.stay (x : ObjOk P w H h a o) (k : ∀ b u, (b = a ∨ H b = some (.own a)) → h.get? b = some u → h'.get? b = some u)
    (ho : ∀ b, H b = some (.own a) → H' b = some (.own a)) (ht : ∀ b xs, H b = some (.tup xs) → H' b = some (.tup xs)) : ObjOk P w H' h' a o := by
  induction o with
  | lst xs => obtain ⟨z, its, n, r, e⟩ := x; exact ⟨z, its, n, r, k _ _ (.inl rfl) e⟩
  | tup xs => obtain ⟨z, its, r, ob, e, c⟩ := x; exact ⟨z, its, r, ob, k _ _ (.inl rfl) e, c⟩
  | dK kvs => obtain ⟨z, y, vs, r, ob, es, ep, e, c⟩ := x; exact ⟨z, y, vs, r, ob, es, ep, k _ _ (.inl rfl) e, c⟩
  | dT kvs =>
    obtain ⟨z, y, xs, r, ob, es, ep, e, c⟩ := x
    exact ⟨z, y, xs, Paired.mapP r fun p q z => ⟨z.1, ht _ _ z.2.1, z.2.2⟩, ob, es, ep, k _ _ (.inl rfl) e, c⟩
  | set S n => obtain ⟨ob, es, ep, t, e, c⟩ := x; exact ⟨ob, es, ep, t, k _ _ (.inl rfl) e, c⟩
  | ins C dx fs =>
    obtain ⟨d, z, ne, e, mA, ⟨od, es, ep, e2, c⟩, r⟩ := x
    exact ⟨ho _ d, z, ne, k _ _ (.inl rfl) e, mA, ⟨od, es, ep, k _ _ (.inr d) e2, c⟩, r⟩
  | own y => obtain ⟨ob, e⟩ := x; exact ⟨ob, k _ _ (.inl rfl) e⟩
  | xd fs => obtain ⟨mA, ⟨od, es, ep, e, c⟩, r⟩ := x; exact ⟨mA, ⟨od, es, ep, k _ _ (.inl rfl) e, c⟩, r⟩
  | rng lo hi => obtain ⟨t, u, v, e⟩ := x; exact ⟨t, u, v, k _ _ (.inl rfl) e⟩
  | frz ob u ih => obtain ⟨e, q⟩ := x; exact ⟨k _ _ (.inl rfl) e, ih q⟩
  | tbl ps =>
    obtain ⟨e1, e2⟩ := x
    exact ⟨k a _ (.inl rfl) e1, e2⟩
  | met f y =>
    have e : h.get? a = some (W.methodObj (.ref f) (.ref y)) := x
    show h'.get? a = some (W.methodObj (.ref f) (.ref y))
    exact k a _ (.inl rfl) e
  | ext φ => obtain ⟨p, ⟨o, e⟩, st⟩ := x; exact ⟨st _ _ p fun o q => k _ _ (.inl rfl) q, ⟨o, k _ _ (.inl rfl) e⟩, st⟩
theorem HOk.lt (x : HOk P w H h) (e : H a = some o) : a < h.objs.size := (x a o e).lt
theorem HOk.fresh (x : HOk P w H h) (e : h.objs.size ≤ a) : H a = none := by
  cases q : H a with
  | none => rfl
  | some u => exact absurd (Nat.lt_of_lt_of_le (x.lt q) e) (Nat.lt_irrefl _)
theorem HOk.kept (x : HOk P w H h) (k : ∀ b u, h.get? b = some u → h'.get? b = some u) : HOk P w H h' := fun a o e =>
  (x a o e).stay (fun b u _ q => k b u q) (fun _ q => q) fun _ _ q => q
theorem HOk.laid (x : HOk P w H h) (k : ∀ b u, h.get? b = some u → h'.get? b = some u) (hp : h.objs.size ≤ a) (new : ObjOk P w (upd H a o) h' a o) : HOk P w (upd H a o) h' := fun b u e => by
  have hn := x.fresh hp
  by_cases hb : b = a
  · subst hb; rw [upd_same] at e; cases e; exact new
  · rw [upd_ne hb] at e
    exact (x b u e).stay (fun c v _ q => k c v q) (fun c q => by rw [upd_ne (ne_of_none q hn)]; exact q) fun c xs q => by rw [upd_ne (ne_of_none q hn)]; exact q
end
def Rd (H : Hp) (a : Addr) (u : HO) : Prop := H a = some u ∨ ∃ o, H a = some (.frz o u)
theorem Rd.ok {P : Program} {w : World} {H : Hp} {h : Heap} {a : Addr} {u : HO} (r : Rd H a u) (x : HOk P w H h) : ObjOk P w H h a u := by
  rcases r with r | ⟨o, r⟩
  · exact x a u r
  · obtain ⟨_, q⟩ := x a _ r
    exact q
def Mut : Option HO → Prop
  | some (.lst _) => True
  | some (.dK _) => True
  | some (.dT _) => True
  | some (.set _ _) => True
  | some (.ins _ _ _) => True
  | some (.ext _) => True
  | _ => False
section
variable {P : Program} {w : World} {H : Hp} {h h' : Heap} {x e : Addr} {o' : HO}
theorem HOk.write (ok : HOk P w H h) (mu : Mut (H x)) (he : e = x ∨ H e = some (.own x)) (k : ∀ b u, b ≠ e → h.get? b = some u → h'.get? b = some u) (heo : ∃ u, h'.get? e = some u)
    (new : ObjOk P w (upd H x o') h' x o') : HOk P w (upd H x o') h' := fun b u q => by
  have nown : ∀ c y, H c = some (.own y) → c ≠ x := fun c y r z => by subst z; rw [r] at mu; exact mu
  have ntup : ∀ c xs, H c = some (.tup xs) → c ≠ x := fun c xs r z => by subst z; rw [r] at mu; exact mu
  by_cases hb : b = x
  · subst hb; rw [upd_same] at q; cases q; exact new
  · rw [upd_ne hb] at q
    by_cases hbe : b = e
    · have q' : H b = some (.own x) := by
        rcases he with z | z
        · exact absurd (hbe.trans z) hb
        · rw [hbe]; exact z
      rw [q] at q'; cases q'
      obtain ⟨v, hv⟩ := heo
      exact ⟨v, by rw [hbe]; exact hv⟩
    · refine (ok b u q).stay (fun c v hc r => k c v ?_ r) (fun c r => by rw [upd_ne (nown c b r)]; exact r) fun c xs r => by rw [upd_ne (ntup c xs r)]; exact r
      rcases hc with rfl | hc
      · exact hbe
      · rintro rfl
        rcases he with z | z
        · exact nown c b hc z
        · rw [hc] at z; cases z; exact hb rfl
end
structure Un (fs ex : List Addr) (H H' : Hp) (h h' : Heap) : Prop where
  keep : ∀ b o, h.get? b = some o → H b = none → b ∉ fs → b ∉ ex → h'.get? b = some o
  slot : ∀ b o, h.get? b = some o → H b = none → b ∈ fs → b ∉ ex → ∃ sl, h'.get? b = some { o with slots := sl }
  free : ∀ b o, h.get? b = some o → H b = none → b ∉ ex → H' b = none
  there : ∀ b o, h.get? b = some o → b ∉ ex → ∃ o', h'.get? b = some o'
  tups : ∀ b xs, H b = some (.tup xs) → H' b = some (.tup xs)
  frzs : ∀ b o u, H b = some (.frz o u) → H' b = some (.frz o u)
  tbls : ∀ b ps, H b = some (.tbl ps) → ∃ more, H' b = some (.tbl (ps ++ more))
section
variable {fs fs' ex ex' : List Addr} {H H1 H2 : Hp} {h h1 h2 h' : Heap} {a x e : Addr} {o : HO}
theorem Un.any (u : Un fs ex H H1 h h1) {b : Addr} {ob : Obj} (q : h.get? b = some ob) (n : H b = none) (hx : b ∉ ex) : ∃ sl, h1.get? b = some { ob with slots := sl } := by
  by_cases hb : b ∈ fs
  · exact u.slot b ob q n hb hx
  · exact ⟨ob.slots, u.keep b ob q n hb hx⟩
theorem Un.trans (a : Un fs ex H H1 h h1) (b : Un fs ex H1 H2 h1 h2) : Un fs ex H H2 h h2 where
  keep := fun c ob q n hc hx => b.keep c ob (a.keep c ob q n hc hx) (a.free c ob q n hx) hc hx
  slot := fun c ob q n hc hx => by
    obtain ⟨sl, e1⟩ := a.slot c ob q n hc hx
    obtain ⟨sl', e2⟩ := b.slot c _ e1 (a.free c ob q n hx) hc hx
    exact ⟨sl', e2⟩
  free := fun c ob q n hx => by
    obtain ⟨o', e1⟩ := a.there c ob q hx
    exact b.free c o' e1 (a.free c ob q n hx) hx
  there := fun c ob q hx => by
    obtain ⟨o', e1⟩ := a.there c ob q hx
    exact b.there c o' e1 hx
  tups := fun c xs q => b.tups c xs (a.tups c xs q)
  frzs := fun c ob xs q => b.frzs c ob xs (a.frzs c ob xs q)
  tbls := fun c ps q => by
    obtain ⟨m1, e1⟩ := a.tbls c ps q
    obtain ⟨m2, e2⟩ := b.tbls c _ e1
    exact ⟨m1 ++ m2, by rw [e2, Array.append_assoc]⟩
theorem Un.kept (k : ∀ b u, h.get? b = some u → h'.get? b = some u) : Un fs ex H H h h' :=
  ⟨fun b ob q _ _ _ => k b ob q, fun b ob q _ _ _ => ⟨ob.slots, k b ob q⟩, fun _ _ _ n _ => n, fun b ob q _ => ⟨ob, k b ob q⟩, fun _ _ q => q, fun _ _ _ q => q, fun _ ps q => ⟨#[], by rw [q]; simp⟩⟩
theorem Un.refl : Un fs ex H H h h := Un.kept fun _ _ q => q
theorem Un.laid (k : ∀ b u, h.get? b = some u → h'.get? b = some u) (hp : h.objs.size ≤ a) (hn : H a = none) : Un fs ex H (upd H a o) h h' where
  keep := fun b u q _ _ _ => k b u q
  slot := fun b u q _ _ _ => ⟨u.slots, k b u q⟩
  free := fun b u q n _ => by rw [upd_ne (Nat.ne_of_lt (Nat.lt_of_lt_of_le (Heap.lt_size q) hp))]; exact n
  there := fun b u q _ => ⟨u, k b u q⟩
  tups := fun b xs q => by rw [upd_ne (ne_of_none q hn)]; exact q
  frzs := fun b u xs q => by rw [upd_ne (ne_of_none q hn)]; exact q
  tbls := fun b ps q => ⟨#[], by rw [upd_ne (ne_of_none q hn), q]; simp⟩
theorem Un.write (mu : Mut (H x)) (he : e = x ∨ H e = some (.own x)) (k : ∀ b u, b ≠ e → h.get? b = some u → h'.get? b = some u) (heo : ∃ u, h'.get? e = some u) : Un fs ex H (upd H x o) h h' := by
  have hx : ∀ b, H b = none → b ≠ x := fun b n z => by subst z; rw [n] at mu; exact mu
  have hb : ∀ b, H b = none → b ≠ e := fun b n z => by
    subst z
    rcases he with r | r
    · exact hx b n r
    · rw [n] at r; cases r
  have hm : ∀ b u, H b = some u → ¬ Mut (some u) → b ≠ x := fun b u q nm z => by subst z; rw [q] at mu; exact nm mu
  refine ⟨fun b u q n _ _ => k b u (hb b n) q, fun b u q n _ _ => ⟨u.slots, k b u (hb b n) q⟩, fun b u q n _ => by rw [upd_ne (hx b n)]; exact n, fun b u q _ => ?_,
    fun b xs q => by rw [upd_ne (hm b _ q fun z => z)]; exact q, fun b u xs q => by rw [upd_ne (hm b _ q fun z => z)]; exact q, fun b ps q => ⟨#[], by rw [upd_ne (hm b _ q fun z => z), q]; simp⟩⟩
  by_cases hbe : b = e
  · subst hbe; exact heo
  · exact ⟨u, k b u hbe q⟩
theorem Un.mono (u : Un fs ex H H1 h h1) (hs : ∀ b ∈ fs, b ∈ fs') (hx : ∀ b ∈ ex, b ∈ ex') : Un fs' ex' H H1 h h1 :=
  ⟨fun b ob q n hb he => u.keep b ob q n (fun z => hb (hs b z)) fun z => he (hx b z), fun _ _ q n _ he => u.any q n fun z => he (hx _ z), fun b ob q n he => u.free b ob q n fun z => he (hx b z), fun b ob q he => u.there b ob q fun z => he (hx b z), u.tups, u.frzs, u.tbls⟩
end
def trk (h : Heap) (H : Hp) : List Addr := (List.range h.objs.size).filter fun a => (H a).isSome
def hidT (h : Heap) (H : Hp) : Heap := W.hideAll h (trk h H)
theorem hidT_size (h : Heap) (H : Hp) : (hidT h H).objs.size = h.objs.size := W.hideAll_size _ _
theorem hidT_get {h : Heap} {H : Hp} {b : Addr} {o : Obj} (e : h.get? b = some o) (n : H b = none) : (hidT h H).get? b = some o :=
  W.hideAll_get _ e fun hm => by
    have q : (H b).isSome = true := (List.mem_filter.mp hm).2
    rw [n] at q; simp at q
theorem of_hidT {h : Heap} {H : Hp} {b : Addr} {o : Obj} (e : (hidT h H).get? b = some o) : h.get? b = some o ∧ H b = none := by
  have e' : h.get? b = some o := W.of_hideAll (trk h H) e
  refine ⟨e', ?_⟩
  cases q : H b with
  | none => rfl
  | some x =>
    have hm : b ∈ trk h H := List.mem_filter.mpr ⟨List.mem_range.mpr (Heap.lt_size e'), by simp [q]⟩
    have z : (hidT h H).get? b = none := W.hideAll_none (trk h H) hm
    rw [z] at e; cases e
def allNews (g h : Heap) (L : Addr) : List (Addr × Obj) := (List.range h.objs.size).filterMap fun a => if a = L ∨ (g.get? a).isSome = true then none else (h.get? a).map fun o => (a, o)
def rest (g h : Heap) (L d : Addr) : List (Addr × Obj) := (allNews g h L).filter fun p => decide (p.1 ≠ d)
end L2
namespace L2
open PySem PySem.Spec PyProof.Rows
class Tabs where
  l : List Addr
variable [Tabs]
def TbOk (H : Hp) : Prop := ∀ P ∈ Tabs.l, ∃ ps, H P = some (.tbl ps)
structure Mod (K : W.Frag) (mg : Str → Option Value) (base : Heap) : Prop where
  kin : K.In base
  glob : base.Ns mainGlobals mg
  blt : ∃ mb, base.Ns builtinsNs mb ∧ ∀ x : Str, x ≠ "__name__" → mb x = bootBuiltins x
  nolimit : base.NoLimit
  bmain : ∃ bm ob, mg "__builtins__" = some (.ref bm) ∧ bm ≠ builtinsNs ∧ base.get? bm = some ob ∧ ob.cls = .type "module" ∧ ob.dict = some builtinsNs ∧ ob.data = .plain
structure Cx where
  prog : Program
  w : World
  K : W.Frag
  mg : Str → Option Value
  base : Heap
  A : Around
  N : List Str
  s₀ : Shared
  H₀ : Hp
  env : Env
  outer : List Env
  stack : List Env
  ex : List Addr
  fn : Str → Bool
  calm : Bool
  pn : List (Addr × Obj)
  xe : Value → Shared → Prop
def frs (l : List Env) : List Addr := l.filterMap (·.frame)
abbrev Cx.fs (X : Cx) : List Addr := frs X.outer
def Vis (sc : Scope) (x : Str) : Prop := sc.names.lookup x = some .local ∨ sc.names.lookup x = some .cell ∨ sc.names.lookup x = some .free
def Loc (sc : Scope) (x : Str) : Prop := sc.names.lookup x = some .local ∨ sc.names.lookup x = some .cell
def Look (env : Env) (h : Heap) (m : Str → Option Value) (x : Str) (u : Value) : Prop :=
  (env.kindOf x = some .local ∧ m x = some u) ∨ ((env.kindOf x = some .cell ∨ env.kindOf x = some .free) ∧ ∃ c, env.cells.lookup x = some c ∧ h.IsCell c (some u))
structure Cx.Ok (X : Cx) : Prop where
  mod : Mod X.K X.mg X.base
  kind : X.env.scope.kind = .function
  glob : X.env.globals = mainGlobals
  blt : X.env.builtins = builtinsNs
  above : X.s₀.heap.objs.size ≤ X.env.locals
  inj : ∀ x y c, X.env.cells.lookup x = some c → X.env.cells.lookup y = some c → x = y
  has : ∀ x, (X.env.kindOf x = some .cell ∨ X.env.kindOf x = some .free) → ∃ c, X.env.cells.lookup x = some c
  cab : ∀ x c, X.fn x = true → X.env.cells.lookup x = some c → X.s₀.heap.objs.size ≤ c
  hd : X.calm = true → X.A.handled = none
  frames : X.A.frames = some X.stack
  stk : X.stack = X.outer ∨ (X.stack = X.env :: X.outer ∧ X.env.frame = some X.env.locals)
  exf : ∀ b ∈ X.ex, b ≠ X.env.locals ∧ ∀ x c, X.env.cells.lookup x = some c → c ≠ b
  bs : ∀ b o, X.base.get? b = some o → X.s₀.heap.get? b = some o ∧ X.H₀ b = none
  bsz : X.base.objs.size ≤ X.s₀.heap.objs.size
  noex : ∀ b o, X.base.get? b = some o → b ∉ X.ex
  exfs : ∀ b ∈ X.ex, b ∉ X.fs
  funs : X.s₀.heap.FunFrames X.base X.outer
  frf : ∀ b ∈ X.fs, X.H₀ b = none
  tab : TbOk X.H₀
structure Inv (X : Cx) (pins : List (Addr × Obj)) (σ : List (Option V)) (H : Hp) (s : Shared) : Prop where
  ok : X.Ok
  os : s.os = X.s₀.os
  bare : AllBare s.gens
  base : Un X.fs X.ex X.H₀ H X.s₀.heap s.heap
  loc : ∃ m, s.heap.Ns X.env.locals m ∧ ∀ (i : Nat) (x : Str) (v : V), X.N[i]? = some x → σ[i]? = some (some v) → Vis X.env.scope x → ∃ u, RelV v u ∧ Look X.env s.heap m x u
  cell : ∀ x c, X.env.cells.lookup x = some c → ∃ v, s.heap.IsCell c v
  free : H X.env.locals = none
  freeC : ∀ x c, X.env.cells.lookup x = some c → H c = none
  pin : ∀ p ∈ X.pn ++ pins, s.heap.get? p.1 = some p.2 ∧ H p.1 = none ∧ p.1 ≠ X.env.locals ∧ p.1 ∉ X.fs ∧ ∀ v, p.2.data ≠ .cell v
  hok : HOk X.prog X.w H s.heap
  len : σ.length = X.N.length
section
variable {X : Cx} {pins : List (Addr × Obj)} {σ : List (Option V)} {H H' : Hp} {s : Shared} {h' : Heap}
theorem Cx.Ok.nofr (ok : X.Ok) {b : Addr} {o : Obj} (e : X.base.get? b = some o) : b ∉ X.fs := fun hb => by
  have := (ok.funs.mem hb).1
  rw [e] at this; cases this
theorem Inv.bs (I : Inv X pins σ H s) : ∀ b o, X.base.get? b = some o → s.heap.get? b = some o ∧ H b = none := fun b o e =>
  ⟨I.base.keep b o (I.ok.bs b o e).1 (I.ok.bs b o e).2 (I.ok.nofr e) (I.ok.noex b o e), I.base.free b o (I.ok.bs b o e).1 (I.ok.bs b o e).2 (I.ok.noex b o e)⟩
theorem Inv.bk (I : Inv X pins σ H s) : ∀ b o, X.base.get? b = some o → s.heap.get? b = some o := fun b o e => (I.bs b o e).1
theorem Inv.mod (I : Inv X pins σ H s) : Mod X.K X.mg X.base := I.ok.mod
theorem Inv.tab (I : Inv X pins σ H s) : TbOk H := fun P hP => let ⟨ps, e⟩ := I.ok.tab P hP; let ⟨m, e'⟩ := I.base.tbls P ps e; ⟨_, e'⟩
theorem Inv.kIn (I : Inv X pins σ H s) : X.K.In s.heap := I.ok.mod.kin.keeps I.bk
theorem Inv.nolimit (I : Inv X pins σ H s) : s.heap.NoLimit := I.ok.mod.nolimit.keeps I.bk
theorem Inv.lt (I : Inv X pins σ H s) : X.env.locals < s.heap.objs.size := let ⟨_, hn, _⟩ := I.loc; hn.lt
theorem Inv.sz (I : Inv X pins σ H s) : X.s₀.heap.objs.size ≤ s.heap.objs.size := Nat.le_trans I.ok.above (Nat.le_of_lt I.lt)
theorem Inv.nofs (I : Inv X pins σ H s) {a : Addr} (h : s.heap.objs.size ≤ a) : a ∉ X.fs := fun hb => by
  obtain ⟨_, o, ho, _⟩ := I.ok.funs.mem hb
  exact absurd (Nat.lt_of_lt_of_le (Heap.lt_size ho) (Nat.le_trans I.sz h)) (Nat.lt_irrefl _)
theorem Inv.cne (I : Inv X pins σ H s) : ∀ x c, X.env.cells.lookup x = some c → c ≠ X.env.locals := fun x c e z => by
  obtain ⟨v, o, ho, hd⟩ := I.cell x c e
  obtain ⟨m, ⟨o', es, ep, ho', hd', _⟩, _⟩ := I.loc
  rw [z, ho'] at ho; cases ho; rw [hd'] at hd; cases hd
theorem Inv.funs (I : Inv X pins σ H s) : s.heap.FunFrames X.base X.outer := by
  have all : ∀ (l : List Env), (∀ b ∈ frs l, b ∈ X.fs) → X.s₀.heap.FunFrames X.base l → s.heap.FunFrames X.base l := by
    intro l
    induction l with
    | nil => intro _ _; trivial
    | cons env r ih =>
      intro hs hl
      obtain ⟨hk, ⟨L, o, hf, hn, ho, hd⟩, hr⟩ := hl
      have hL : L ∈ X.fs := hs L (by unfold frs; rw [List.filterMap_cons, hf]; exact List.mem_cons_self)
      obtain ⟨sl, e⟩ := I.base.slot L o ho (I.ok.frf L hL) hL fun z => I.ok.exfs L z hL
      exact ⟨hk, ⟨L, _, hf, hn, e, hd⟩, ih (fun b hb => hs b (by unfold frs; rw [List.filterMap_cons, hf]; exact List.mem_cons_of_mem _ hb)) hr⟩
  exact all X.outer (fun _ hb => hb) I.ok.funs
theorem Inv.stack (I : Inv X pins σ H s) : s.heap.FunFrames X.base X.stack := by
  rcases I.ok.stk with e | ⟨e, hf⟩
  · rw [e]; exact I.funs
  · rw [e]
    obtain ⟨m, hn, _⟩ := I.loc
    refine .cons (by rw [I.ok.kind]; decide) hf hn ?_ I.funs
    exact Heap.get?_none_of_le (Nat.le_trans I.ok.bsz I.ok.above)
theorem Inv.stkSub (I : Inv X pins σ H s) : ∀ b ∈ frs X.stack, b ∈ X.env.locals :: X.fs := fun b hb => by
  rcases I.ok.stk with e | ⟨e, hf⟩
  · rw [e] at hb; exact List.mem_cons_of_mem _ hb
  · rw [e] at hb
    unfold frs at hb
    rw [List.filterMap_cons, hf] at hb
    exact hb
theorem Inv.stkFree (I : Inv X pins σ H s) : ∀ b ∈ frs X.stack, H b = none := fun b hb => by
  rcases List.mem_cons.mp (I.stkSub b hb) with e | hb
  · rw [e]; exact I.free
  · obtain ⟨_, o, ho, _⟩ := I.ok.funs.mem hb
    exact I.base.free b o ho (I.ok.frf b hb) fun z => I.ok.exfs b z hb
theorem Inv.step {g' : Array GenState} {t' : Nat} {d' : Drawn} {ch : List Addr} (I : Inv X pins σ H s)
    (hch : ∀ b ∈ ch, (b ∈ X.ex ∨ X.s₀.heap.objs.size ≤ b) ∧ b ≠ X.env.locals ∧ (∀ x c, X.env.cells.lookup x = some c → c ≠ b) ∧ ∀ p ∈ X.pn ++ pins, p.1 ≠ b)
    (keep : ∀ b o, b ≠ X.env.locals → b ∉ X.fs → b ∉ ch → s.heap.get? b = some o → H b = none → h'.get? b = some o)
    (slot : ∀ b o, b ≠ X.env.locals → b ∈ X.fs → b ∉ ch → s.heap.get? b = some o → H b = none → ∃ sl, h'.get? b = some { o with slots := sl }) (free : ∀ b o, b ∉ ch → s.heap.get? b = some o → H b = none → H' b = none)
    (there : ∀ b o, b ∉ ch → s.heap.get? b = some o → ∃ o', h'.get? b = some o')
    (tups : ∀ b xs, H b = some (.tup xs) → H' b = some (.tup xs)) (frzs : ∀ b o u, H b = some (.frz o u) → H' b = some (.frz o u)) (tbls : ∀ b ps, H b = some (.tbl ps) → ∃ more, H' b = some (.tbl (ps ++ more)))
    (ns : ∀ m, s.heap.Ns X.env.locals m → h'.Ns X.env.locals m) (hok : HOk X.prog X.w H' h') (hg : AllBare g') :
    Inv X pins σ H' { s with heap := h', gens := g', drawn := d', toks := t' } := by
  have neL : ∀ b o, X.s₀.heap.get? b = some o → b ≠ X.env.locals := fun b o e => Nat.ne_of_lt (Nat.lt_of_lt_of_le (Heap.lt_size e) I.ok.above)
  have neC : ∀ b o, X.s₀.heap.get? b = some o → b ∉ X.ex → b ∉ ch := fun b o e hx hb => by
    rcases (hch b hb).1 with z | z
    · exact hx z
    · exact absurd (Nat.lt_of_lt_of_le (Heap.lt_size e) z) (Nat.lt_irrefl _)
  have cellK : ∀ x c, X.env.cells.lookup x = some c → ∀ v, s.heap.IsCell c v → h'.IsCell c v := fun x c e v ⟨o, ho, hd⟩ => by
    have nch : c ∉ ch := fun z => (hch c z).2.2.1 x c e rfl
    by_cases hc : c ∈ X.fs
    · obtain ⟨sl, q⟩ := slot c o (I.cne x c e) hc nch ho (I.freeC x c e)
      exact ⟨_, q, hd⟩
    · exact ⟨o, keep c o (I.cne x c e) hc nch ho (I.freeC x c e), hd⟩
  refine ⟨I.ok, I.os, hg, ⟨fun b o e n hb hx => ?_, fun b o e n hb hx => ?_, fun b o e n hx => ?_, fun b o e hx => ?_, fun b xs e => tups b xs (I.base.tups b xs e), fun b o xs e => frzs b o xs (I.base.frzs b o xs e), fun b ps e => ?_⟩, ?_, fun x c e => ?_, ?_, fun x c e => ?_, fun p hp => ?_, hok, I.len⟩
  · exact keep b o (neL b o e) hb (neC b o e hx) (I.base.keep b o e n hb hx) (I.base.free b o e n hx)
  · obtain ⟨sl, e1⟩ := I.base.slot b o e n hb hx
    obtain ⟨sl', e2⟩ := slot b _ (neL b o e) hb (neC b o e hx) e1 (I.base.free b o e n hx)
    exact ⟨sl', e2⟩
  · obtain ⟨o', e1⟩ := I.base.there b o e hx
    exact free b o' (neC b o e hx) e1 (I.base.free b o e n hx)
  · obtain ⟨o', e1⟩ := I.base.there b o e hx
    exact there b o' (neC b o e hx) e1
  · obtain ⟨m1, e1⟩ := I.base.tbls b ps e
    obtain ⟨m2, e2⟩ := tbls b _ e1
    exact ⟨m1 ++ m2, by rw [e2, Array.append_assoc]⟩
  · obtain ⟨m, hn, hl⟩ := I.loc
    refine ⟨m, ns m hn, fun i x v e1 e2 e3 => ?_⟩
    obtain ⟨u, r, l⟩ := hl i x v e1 e2 e3
    refine ⟨u, r, ?_⟩
    rcases l with l | ⟨k, c, e, z⟩
    · exact .inl l
    · exact .inr ⟨k, c, e, cellK x c e _ z⟩
  · obtain ⟨v, z⟩ := I.cell x c e
    exact ⟨v, cellK x c e v z⟩
  · obtain ⟨m, ⟨o, _, _, ho, _⟩, _⟩ := I.loc
    exact free _ o (fun z => (hch _ z).2.1 rfl) ho I.free
  · obtain ⟨v, o, ho, hd⟩ := I.cell x c e
    exact free c o (fun z => (hch c z).2.2.1 x c e rfl) ho (I.freeC x c e)
  · obtain ⟨e, n, ne, nf, d⟩ := I.pin p hp
    have nch : p.1 ∉ ch := fun z => (hch p.1 z).2.2.2 p hp rfl
    exact ⟨keep p.1 p.2 ne nf nch e n, free p.1 p.2 nch e n, ne, nf, d⟩
theorem Inv.un {t' : Nat} (I : Inv X pins σ H s) (u : Un X.fs [] H H' s.heap h') (hok : HOk X.prog X.w H' h') : Inv X pins σ H' { s with heap := h', toks := t' } := by
  obtain ⟨m, ⟨o, es, ep, ho, r⟩, _⟩ := id I.loc
  obtain ⟨sl, hL⟩ := u.any ho I.free (by simp)
  exact I.step (g' := s.gens) (d' := s.drawn) (ch := []) (fun _ z => nomatch z) (fun b o _ hb _ e n => u.keep b o e n hb (by simp)) (fun b o _ hb _ e n => u.slot b o e n hb (by simp)) (fun b o _ e n => u.free b o e n (by simp)) (fun b o _ e => u.there b o e (by simp)) u.tups u.frzs u.tbls (fun m' hm => by
    obtain ⟨o', es', ep', ho', r'⟩ := hm
    rw [ho] at ho'; cases ho'
    exact ⟨_, es', ep', hL, r'⟩) hok I.bare
theorem Inv.call {g' : Array GenState} {t' : Nat} {d' : Drawn} {ch : List Addr} (I : Inv X pins σ H s) (u : Un (frs X.stack) ch H H' s.heap h') (hok : HOk X.prog X.w H' h') (hg : AllBare g')
    (hch : ∀ b ∈ ch, (b ∈ X.ex ∨ X.s₀.heap.objs.size ≤ b) ∧ b ≠ X.env.locals ∧ (∀ x c, X.env.cells.lookup x = some c → c ≠ b) ∧ ∀ p ∈ X.pn ++ pins, p.1 ≠ b) :
    Inv X pins σ H' { s with heap := h', gens := g', drawn := d', toks := t' } := by
  obtain ⟨m, ⟨o, es, ep, ho, r⟩, _⟩ := id I.loc
  obtain ⟨sl, hL⟩ := u.any ho I.free fun z => (hch _ z).2.1 rfl
  exact I.step (ch := ch) hch (fun b o hL hb hc e n => u.keep b o e n (fun z => (List.mem_cons.mp (I.stkSub b z)).elim hL hb) hc) (fun b o _ _ hc e n => u.any e n hc) (fun b o hc e n => u.free b o e n hc) (fun b o hc e => u.there b o e hc) u.tups u.frzs u.tbls (fun m' hm => by
    obtain ⟨o', es', ep', ho', r'⟩ := hm
    rw [ho] at ho'; cases ho'
    exact ⟨_, es', ep', hL, r'⟩) hok hg
theorem Inv.turned {t' : Nat} {it : Addr} (I : Inv X pins σ H s) (k : ∀ b o, b ≠ it → s.heap.get? b = some o → h'.get? b = some o) (hn : H it = none) (hL : it ≠ X.env.locals)
    (h1 : it ∈ X.ex ∨ X.s₀.heap.objs.size ≤ it) (h2 : ∀ x c, X.env.cells.lookup x = some c → c ≠ it) (h3 : ∀ p ∈ X.pn ++ pins, p.1 ≠ it) : Inv X pins σ H { s with heap := h', toks := t' } := by
  have nit : ∀ b u, H b = some u → b ≠ it := fun b u e z => by rw [z, hn] at e; cases e
  refine I.step (g' := s.gens) (d' := s.drawn) (ch := [it]) (fun b hb => ?_) (fun b o _ _ hc e _ => k b o (fun z => hc (by simp [z])) e) (fun b o _ _ hc e _ => ⟨o.slots, k b o (fun z => hc (by simp [z])) e⟩) (fun _ _ _ _ n => n)
    (fun b o hc e => ⟨o, k b o (fun z => hc (by simp [z])) e⟩) (fun _ _ e => e) (fun _ _ _ e => e) (fun b ps e => ⟨#[], by rw [e]; simp⟩) (fun m hm => ?_) (fun b u e => ?_) I.bare
  · have e : b = it := by simpa using hb
    subst e
    exact ⟨h1, hL, h2, h3⟩
  · obtain ⟨o, es, ep, ho, r⟩ := hm
    exact ⟨o, es, ep, k _ o (Ne.symm hL) ho, r⟩
  · refine (I.hok b u e).stay (fun c v hc q => k c v ?_ q) (fun _ q => q) fun _ _ q => q
    rcases hc with z | z
    · rw [z]; exact nit b u e
    · exact nit c _ z
theorem Inv.tok (I : Inv X pins σ H s) (t : Nat) : Inv X pins σ H { s with toks := t } := I.un (h' := s.heap) (t' := t) Un.refl I.hok
theorem Inv.kept {t' : Nat} (I : Inv X pins σ H s) (k : ∀ b u, s.heap.get? b = some u → h'.get? b = some u) : Inv X pins σ H { s with heap := h', toks := t' } := I.un (Un.kept k) (I.hok.kept k)
theorem Inv.laid {a : Addr} {o : HO} {t' : Nat} (I : Inv X pins σ H s) (k : ∀ b u, s.heap.get? b = some u → h'.get? b = some u) (hp : s.heap.objs.size ≤ a) (new : ObjOk X.prog X.w (upd H a o) h' a o) :
    Inv X pins σ (upd H a o) { s with heap := h', toks := t' } := I.un (Un.laid k hp (I.hok.fresh hp)) (I.hok.laid k hp new)
theorem Inv.write {x e : Addr} {o : HO} {t' : Nat} (I : Inv X pins σ H s) (mu : Mut (H x)) (he : e = x ∨ H e = some (.own x)) (k : ∀ b u, b ≠ e → s.heap.get? b = some u → h'.get? b = some u) (heo : ∃ u, h'.get? e = some u)
    (new : ObjOk X.prog X.w (upd H x o) h' x o) : Inv X pins σ (upd H x o) { s with heap := h', toks := t' } := I.un (Un.write mu he k heo) (I.hok.write mu he k heo new)
theorem Inv.weak {σ' : List (Option V)} (I : Inv X pins σ H s) (hl : σ'.length = σ.length) (w : ∀ (i : Nat) v, σ'[i]? = some (some v) → σ[i]? = some (some v)) : Inv X pins σ' H s :=
  ⟨I.ok, I.os, I.bare, I.base, let ⟨m, hn, hl'⟩ := I.loc; ⟨m, hn, fun i x v e1 e2 e3 => hl' i x v e1 (w i v e2) e3⟩, I.cell, I.free, I.freeC, I.pin, I.hok, hl.trans I.len⟩
theorem Inv.pins_of {pins' : List (Addr × Obj)} (I : Inv X pins σ H s) (h : ∀ p ∈ pins', s.heap.get? p.1 = some p.2 ∧ H p.1 = none ∧ p.1 ≠ X.env.locals ∧ p.1 ∉ X.fs ∧ ∀ v, p.2.data ≠ .cell v) : Inv X pins' σ H s :=
  ⟨I.ok, I.os, I.bare, I.base, I.loc, I.cell, I.free, I.freeC, fun p hp => (List.mem_append.mp hp).elim (fun z => I.pin p (List.mem_append_left _ z)) (h p), I.hok, I.len⟩
theorem nodup_ix {N : List Str} (hN : N.Nodup) {i j : Nat} {x : Str} (a : N[i]? = some x) (b : N[j]? = some x) : i = j := by
  obtain ⟨h1, e1⟩ := List.getElem?_eq_some_iff.mp a
  obtain ⟨h2, e2⟩ := List.getElem?_eq_some_iff.mp b
  exact (List.getElem_inj hN).mp (e1.trans e2.symm)
theorem store_ok2 {M : Model} {A : Around} {E : Value → Shared → Prop} {i : Nat} {x : Str} {v : V} {u : Value} {Q : Unit → Shared → Prop} (I : Inv X pins σ H s) (hN : X.N.Nodup) (hi : X.N[i]? = some x) (hx : Loc X.env.scope x) (r : RelV v u)
    (h : ∀ s', Inv X pins (σ.set i (some v)) H s' → (∃ a, Heap.SameBut a s.heap s'.heap ∧ (a = X.env.locals ∨ X.env.cells.lookup x = some a)) → Q () s') (hf : X.fn x = true ∨ X.env.scope.names.lookup x = some .local := by first | exact .inl rfl | exact .inr rfl | assumption) : wpAny M A (storeName X.env x u) Q E s := by
  obtain ⟨m, hn, hl⟩ := id I.loc
  have hcls : (X.env.scope.kind == .class || (X.env.scope.kind == .module && X.env.locals != X.env.globals)) = false := by rw [I.ok.kind]; rfl
  have hiσ : i < σ.length := by rw [I.len]; exact (List.getElem?_eq_some_iff.mp hi).1
  have cne := I.cne
  have tracked : ∀ {a : Addr} {h' : Heap}, (∃ o, s.heap.get? a = some o ∧ H a = none) → Heap.SameBut a s.heap h' → HOk X.prog X.w H h' := fun {a h'} ha hs b ob e => by
    obtain ⟨_, _, hfree⟩ := ha
    refine (I.hok b ob e).stay (fun c w' hc q => (hs.2 c ?_).trans q) (fun _ q => q) fun _ _ q => q
    rintro rfl
    rcases hc with rfl | hc
    · rw [hfree] at e; cases e
    · rw [hfree] at hc; cases hc
  rcases hx with hk | hk
  · refine wpAny_storeName_local hk hn (fun h' hn' hs => ?_) hcls
    obtain ⟨oL, _, _, hoL, _⟩ := id hn
    refine h _ ⟨I.ok, I.os, I.bare, ⟨fun b o e n hb hx => ?_, fun b o e n hb hx => ?_, I.base.free, fun b o e hx => ?_, I.base.tups, I.base.frzs, I.base.tbls⟩, ⟨_, hn', fun j y v' e1 e2 e3 => ?_⟩, fun y c e => ?_, I.free, I.freeC, fun p hp => ?_, tracked ⟨oL, hoL, I.free⟩ hs, by simpa using I.len⟩ ⟨_, hs, .inl rfl⟩
    · exact (hs.2 b (Nat.ne_of_lt (Nat.lt_of_lt_of_le (Heap.lt_size e) I.ok.above))).trans (I.base.keep b o e n hb hx)
    · obtain ⟨sl, e1⟩ := I.base.slot b o e n hb hx
      exact ⟨sl, (hs.2 b (Nat.ne_of_lt (Nat.lt_of_lt_of_le (Heap.lt_size e) I.ok.above))).trans e1⟩
    · obtain ⟨o', e1⟩ := I.base.there b o e hx
      exact ⟨o', (hs.2 b (Nat.ne_of_lt (Nat.lt_of_lt_of_le (Heap.lt_size e) I.ok.above))).trans e1⟩
    · by_cases hj : j = i
      · subst hj
        rw [hi] at e1; cases e1
        rw [List.getElem?_set_self hiσ] at e2
        cases e2
        exact ⟨u, r, .inl ⟨hk, by simp⟩⟩
      · rw [List.getElem?_set_ne (Ne.symm hj)] at e2
        obtain ⟨u', r', q⟩ := hl j y v' e1 e2 e3
        refine ⟨u', r', ?_⟩
        rcases q with ⟨k, e⟩ | ⟨k, c, e, z⟩
        · refine .inl ⟨k, ?_⟩
          have : y ≠ x := fun e => hj (nodup_ix hN e1 (e ▸ hi))
          simp [this, e]
        · exact .inr ⟨k, c, e, z.sameBut hs (cne y c e)⟩
    · obtain ⟨w', z⟩ := I.cell y c e
      exact ⟨w', z.sameBut hs (cne y c e)⟩
    · obtain ⟨e, n, ne, nf, d⟩ := I.pin p hp
      exact ⟨(hs.2 p.1 ne).trans e, n, ne, nf, d⟩
  · have hfn : X.fn x = true := by
      rcases hf with z | z
      · exact z
      · rw [z] at hk; cases hk
    obtain ⟨c, hc⟩ := I.ok.has x (.inl hk)
    obtain ⟨w', z⟩ := I.cell x c hc
    refine wpAny_storeName_cell I.ok.kind hk hc z (fun h' hc' hs => ?_)
    obtain ⟨oc, hoc, hocd⟩ := id z
    refine h { s with heap := h' } ⟨I.ok, I.os, I.bare, ⟨fun b o e n hb hx => ?_, fun b o e n hb hx => ?_, I.base.free, fun b o e hx => ?_, I.base.tups, I.base.frzs, I.base.tbls⟩, ⟨m, hn.sameBut hs (Ne.symm (cne x c hc)), fun j y v' e1 e2 e3 => ?_⟩, fun y c' e => ?_, I.free, I.freeC, fun p hp => ?_, tracked ⟨oc, hoc, I.freeC x c hc⟩ hs, by simpa using I.len⟩ ⟨c, hs, .inr hc⟩
    · exact (hs.2 b (Nat.ne_of_lt (Nat.lt_of_lt_of_le (Heap.lt_size e) (I.ok.cab x c hfn hc)))).trans (I.base.keep b o e n hb hx)
    · obtain ⟨sl, e1⟩ := I.base.slot b o e n hb hx
      exact ⟨sl, (hs.2 b (Nat.ne_of_lt (Nat.lt_of_lt_of_le (Heap.lt_size e) (I.ok.cab x c hfn hc)))).trans e1⟩
    · obtain ⟨o', e1⟩ := I.base.there b o e hx
      exact ⟨o', (hs.2 b (Nat.ne_of_lt (Nat.lt_of_lt_of_le (Heap.lt_size e) (I.ok.cab x c hfn hc)))).trans e1⟩
    · by_cases hj : j = i
      · subst hj
        rw [hi] at e1; cases e1
        rw [List.getElem?_set_self hiσ] at e2
        cases e2
        exact ⟨u, r, .inr ⟨.inl hk, c, hc, hc'⟩⟩
      · rw [List.getElem?_set_ne (Ne.symm hj)] at e2
        obtain ⟨u', r', q⟩ := hl j y v' e1 e2 e3
        refine ⟨u', r', ?_⟩
        rcases q with q | ⟨k, c', e, z'⟩
        · exact .inl q
        · refine .inr ⟨k, c', e, z'.sameBut hs ?_⟩
          rintro rfl
          exact hj (nodup_ix hN e1 (I.ok.inj _ _ _ e hc ▸ hi))
    · by_cases hcc : c' = c
      · subst hcc; exact ⟨_, hc'⟩
      · obtain ⟨w2, z2⟩ := I.cell y c' e
        exact ⟨w2, z2.sameBut hs hcc⟩
    · obtain ⟨e, n, ne, nf, d⟩ := I.pin p hp
      refine ⟨(hs.2 p.1 ?_).trans e, n, ne, nf, d⟩
      intro q
      rw [q, hoc] at e
      have q' : oc = p.2 := Option.some.inj e
      exact d w' (by rw [← q']; exact hocd)
theorem store_ok {M : Model} {A : Around} {E : Value → Shared → Prop} {i : Nat} {x : Str} {v : V} {u : Value} {Q : Unit → Shared → Prop} (I : Inv X pins σ H s) (hN : X.N.Nodup) (hi : X.N[i]? = some x) (hx : Loc X.env.scope x) (r : RelV v u)
    (h : ∀ s', Inv X pins (σ.set i (some v)) H s' → Q () s') (hf : X.fn x = true ∨ X.env.scope.names.lookup x = some .local := by first | exact .inl rfl | exact .inr rfl | assumption) : wpAny M A (storeName X.env x u) Q E s :=
  store_ok2 I hN hi hx r (fun s' I' _ => h s' I') hf
theorem Inv.call' {s' : Shared} {ch : List Addr} (I : Inv X pins σ H s) (ho : s'.os = s.os) (u : Un (frs X.stack) ch H H' s.heap s'.heap) (hok : HOk X.prog X.w H' s'.heap) (hg : AllBare s'.gens)
    (hch : ∀ b ∈ ch, (b ∈ X.ex ∨ X.s₀.heap.objs.size ≤ b) ∧ b ≠ X.env.locals ∧ (∀ x c, X.env.cells.lookup x = some c → c ≠ b) ∧ ∀ p ∈ X.pn ++ pins, p.1 ≠ b) : Inv X pins σ H' s' := by
  obtain ⟨h', g', d', t', o'⟩ := s'
  have e : o' = s.os := ho
  subst e
  exact I.call (g' := g') (t' := t') (d' := d') u hok hg hch
end
abbrev XK := Value → Option Addr → Hp → Prop
abbrev St := List (Option V)
abbrev VK := V → Hp → Prop
abbrev TE := St → Hp → VK → Prop
abbrev TT := St → Hp → (Bool → Hp → Prop) → Prop
abbrev TA := St → Hp → (List V → Hp → Prop) → Prop
structure Ends where
  nx : St → Hp → Prop
  rt : VK
  bk : St → Hp → Prop := fun _ _ => False
  ct : St → Hp → Prop := fun _ _ => False
abbrev TS := Ends → St → Hp → Prop
def EP (X : Cx) (pins : List (Addr × Obj)) (σ : St) (Q : VK) (u : Value) (s' : Shared) : Prop := ∃ v H', Inv X pins σ H' s' ∧ RelV v u ∧ Q v H'
def TP (X : Cx) (pins : List (Addr × Obj)) (σ : St) (Q : Bool → Hp → Prop) (b : Bool) (s' : Shared) : Prop := ∃ H', Inv X pins σ H' s' ∧ Q b H'
def AP (X : Cx) (pins : List (Addr × Obj)) (σ : St) (Q : List V → Hp → Prop) (us : List Value) (s' : Shared) : Prop := ∃ vs H', Inv X pins σ H' s' ∧ Vals vs us ∧ Q vs H'
def SP (X : Cx) (pins : List (Addr × Obj)) (D : Ends) (f : Flow) (s' : Shared) : Prop :=
  match f with
  | .next => ∃ σ' H', Inv X pins σ' H' s' ∧ D.nx σ' H'
  | .brk => ∃ σ' H', Inv X pins σ' H' s' ∧ D.bk σ' H'
  | .cont => ∃ σ' H', Inv X pins σ' H' s' ∧ D.ct σ' H'
  | .ret u => ∃ v σ' H', Inv X pins σ' H' s' ∧ RelV v u ∧ D.rt v H'
def PE (X : Cx) (e : Expr) (t : TE) : Prop :=
  ∀ (pins : List (Addr × Obj)) (s : Shared) (σ : St) (H : Hp) (Q : VK), Inv X pins σ H s → t σ H Q → wpAny (model X.prog X.w) X.A (eval e X.env) (EP X pins σ Q) X.xe s
def PT (X : Cx) (e : Expr) (t : TT) : Prop :=
  ∀ (pins : List (Addr × Obj)) (s : Shared) (σ : St) (H : Hp) (Q : Bool → Hp → Prop), Inv X pins σ H s → t σ H Q → wpAny (model X.prog X.w) X.A (isTrue e X.env (eval e X.env)) (TP X pins σ Q) X.xe s
def PW (X : Cx) (e : Expr) (t : TT) : Prop :=
  ∀ (whole : Sem Value) (pins : List (Addr × Obj)) (s : Shared) (σ : St) (H : Hp) (Q : Bool → Hp → Prop), Inv X pins σ H s → t σ H Q → wpAny (model X.prog X.w) X.A (isTrue e X.env whole) (TP X pins σ Q) X.xe s
theorem PW.pt {X : Cx} {e : Expr} {t : TT} (h : PW X e t) : PT X e t := h _
def PA (X : Cx) (es : List Expr) (t : TA) : Prop :=
  ∀ (pos : Pos) (pins : List (Addr × Obj)) (s : Shared) (σ : St) (H : Hp) (Q : List V → Hp → Prop), Inv X pins σ H s → t σ H Q → wpAny (model X.prog X.w) X.A (spliced (backTo pos (starEach es X.env))) (AP X pins σ Q) X.xe s
def PS (X : Cx) (st : Stmt) (t : TS) : Prop :=
  ∀ (pins : List (Addr × Obj)) (s : Shared) (σ : St) (H : Hp) (D : Ends), Inv X pins σ H s → t D σ H → wpAny (model X.prog X.w) X.A (exec st X.env) (SP X pins D) X.xe s
def PSs (X : Cx) (st : List Stmt) (t : TS) : Prop :=
  ∀ (pins : List (Addr × Obj)) (s : Shared) (σ : St) (H : Hp) (D : Ends), Inv X pins σ H s → t D σ H → wpAny (model X.prog X.w) X.A (execs st X.env) (SP X pins D) X.xe s
theorem thn {α : Type} {t : Sem α} {Q Q' : α → Shared → Prop} {M : Model} {A : Around} {E : Value → Shared → Prop} {s : Shared} (h : wpAny M A t Q E s) (hQ : ∀ a s, Q a s → Q' a s) : wpAny M A t Q' E s := wpAny_mono h hQ fun _ _ x => x
end L2
namespace L2
open PySem PySem.Spec PyProof.Rows
variable [Tabs]
section
variable {X : Cx}
def tVar (i : Nat) : TE := fun σ H Q => ∃ v, σ[i]? = some (some v) ∧ Q v H
def tC (v : V) : TE := fun _ H Q => Q v H
theorem pe_var {i : Nat} {x : Str} {pos : Pos} (hN : X.N[i]? = some x) (hv : Vis X.env.scope x) (hd : (x == ("__debug__" : Str)) = false := by decide) (hcd : (x == ("__classdict__" : Str)) = false := by decide) : PE X (.Name x pos) (tVar i) := by
  intro pins s σ H Q I h
  obtain ⟨v, e, h⟩ := h
  obtain ⟨m, hn, hl⟩ := I.loc
  obtain ⟨u, r, l⟩ := hl i x v hN e hv
  have fin : EP X pins σ Q u s := ⟨v, H, I, r, h⟩
  rcases l with ⟨hk, hm⟩ | ⟨hk, c, hc, hcell⟩
  · exact wpAny_Name (wpAny_loadName_local I.ok.kind hk hn hm fin) hd
  · rcases hk with hk | hk
    · exact wpAny_Name (wpAny_loadName_cell I.ok.kind hk hc hcell fin) hd
    · exact wpAny_Name (wpAny_loadName_free I.ok.kind hk hc hcell fin hcd) hd
theorem pe_int {i j pos} : PE X (.Constant (.int i) j pos) (tC (.int i)) := fun _ _ _ H _ I h => wpAny_Constant_int ⟨.int i, H, I.tok _, ⟨_, rfl⟩, h⟩
theorem pe_bl {b j pos} : PE X (.Constant (.bool b) j pos) (tC (.bl b)) := fun _ _ _ H _ I h => Constant_bool ⟨.bl b, H, I, rfl, h⟩
theorem pe_non {j pos} : PE X (.Constant .none j pos) (tC .non) := fun _ _ _ H _ I h => Constant_none ⟨.non, H, I, rfl, h⟩
theorem pe_str {x j pos} : PE X (.Constant (.str x) j pos) (tC (.str x)) := fun _ _ _ H _ I h => Calls.Constant_str ⟨.str x, H, I.tok _, ⟨_, rfl⟩, h⟩
def Gl (X : Cx) (x : Str) : Prop := X.env.kindOf x = some .globalImplicit
theorem ld_glob {E : Value → Shared → Prop} {pins : List (Addr × Obj)} {s : Shared} {σ : St} {H : Hp} {x : Str} {u : Value} {pos : Pos} {Q : Value → Shared → Prop} (I : Inv X pins σ H s) (hg : Gl X x) (hm : X.mg x = some u) (h : Q u s)
    (hd : (x == ("__debug__" : Str)) = false := by decide) : wpAny (model X.prog X.w) X.A (eval (.Name x pos) X.env) Q E s :=
  Calls.Name_function_global I.ok.kind hg (Calls.loadGlobal_global (by rw [I.ok.glob]; exact I.mod.glob.keeps I.bk) hm h) hd
theorem ld_blt {E : Value → Shared → Prop} {pins : List (Addr × Obj)} {s : Shared} {σ : St} {H : Hp} {x : Str} {u : Value} {pos : Pos} {Q : Value → Shared → Prop} (I : Inv X pins σ H s) (hg : Gl X x) (hm : X.mg x = none) (hv : bootBuiltins x = some u) (h : Q u s)
    (hn : x ≠ "__name__" := by decide) (hd : (x == ("__debug__" : Str)) = false := by decide) : wpAny (model X.prog X.w) X.A (eval (.Name x pos) X.env) Q E s := by
  obtain ⟨mb, h1, h2⟩ := I.mod.blt
  exact Calls.Name_function_global I.ok.kind hg (Calls.loadGlobal_builtin (by rw [I.ok.glob]; exact I.mod.glob.keeps I.bk) hm (by rw [I.ok.blt]; exact h1.keeps I.bk) ((h2 x hn).trans hv) h) hd
theorem pe_glob {x : Str} {v : V} {u : Value} {pos : Pos} (hg : Gl X x) (hm : X.mg x = some u) (r : RelV v u) (hd : (x == ("__debug__" : Str)) = false := by decide) : PE X (.Name x pos) (tC v) :=
  fun _ _ _ H _ I h => ld_glob I hg hm ⟨v, H, I, r, h⟩ hd
theorem pe_bltn {x : Str} {v : V} {u : Value} {pos : Pos} (hg : Gl X x) (hm : X.mg x = none) (hv : bootBuiltins x = some u) (r : RelV v u) (hn : x ≠ "__name__" := by decide) (hd : (x == ("__debug__" : Str)) = false := by decide) : PE X (.Name x pos) (tC v) :=
  fun _ _ _ H _ I h => ld_blt I hg hm hv ⟨v, H, I, r, h⟩ hn hd
variable {a b : Expr} {ta tb : TE} {pos : Pos}
variable {tA tB' : TT} {rest : List Expr}
def tOr (t u : TT) : TT := fun σ H Q => t σ H fun c H1 => if c = true then Q true H1 else u σ H1 Q
def tNot (t : TT) : TT := fun σ H Q => t σ H fun c H1 => Q (!c) H1
theorem pw_or1 (ha : PT X a tA) : PW X (.BoolOp .Or [a] pos) tA := by
  intro wh pins s σ H Q I h
  refine isTrue_or (thn (ha pins s σ H Q I h) fun c s1 e => ?_)
  cases c with
  | false => exact isTrue_or_nil e
  | true => exact e
theorem pw_or (ha : PT X a tA) (hb : PW X (.BoolOp .Or (b :: rest) pos) tB') : PW X (.BoolOp .Or (a :: b :: rest) pos) (tOr tA tB') := by
  intro wh pins s σ H Q I h
  refine isTrue_or (thn (ha pins s σ H _ I h) fun c s1 ⟨H1, I1, q1⟩ => ?_)
  cases c with
  | true => exact ⟨H1, I1, q1⟩
  | false => exact hb wh pins s1 σ H1 Q I1 q1
theorem pt_not (ha : PT X a tA) : PT X (.UnaryOp .Not a pos) (tNot tA) := by
  intro pins s σ H Q I h
  exact isTrue_not (ha pins s σ H (fun c H1 => Q (!c) H1) I h)
def tAndV (ta tb : TE) : TE := fun σ H Q => ta σ H fun x H1 => ∃ c, x = .bl c ∧ if c = true then tb σ H1 Q else Q (.bl false) H1
def tOrV (ta tb : TE) : TE := fun σ H Q => ta σ H fun x H1 => ∃ c, x = .bl c ∧ if c = true then Q (.bl true) H1 else tb σ H1 Q
theorem pe_and (ha : PE X a ta) (hb : PE X (.BoolOp .And (b :: rest) pos) tb) : PE X (.BoolOp .And (a :: b :: rest) pos) (tAndV ta tb) := by
  intro pins s σ H Q I h
  refine BoolOp_and (thn (ha pins s σ H _ I h) fun v s1 ⟨x, H1, I1, r1, q1⟩ => ?_)
  obtain ⟨c, rfl, q1⟩ := q1
  cases r1
  refine wpAny_truthy_bool ?_
  cases c with
  | true => exact hb pins s1 σ H1 Q I1 q1
  | false => exact ⟨.bl false, H1, I1, rfl, q1⟩
theorem pe_or (ha : PE X a ta) (hb : PE X (.BoolOp .Or (b :: rest) pos) tb) : PE X (.BoolOp .Or (a :: b :: rest) pos) (tOrV ta tb) := by
  intro pins s σ H Q I h
  refine BoolOp_or (thn (ha pins s σ H _ I h) fun v s1 ⟨x, H1, I1, r1, q1⟩ => ?_)
  obtain ⟨c, rfl, q1⟩ := q1
  cases r1
  refine wpAny_truthy_bool ?_
  cases c with
  | false => exact hb pins s1 σ H1 Q I1 q1
  | true => exact ⟨.bl true, H1, I1, rfl, q1⟩
end
end L2
namespace L2
open PySem PySem.Spec PyProof.Rows
variable [Tabs]
def SqL (K : W.Frag) (H : Hp) (a : Addr) (xs : List V) : Prop :=
  Rd H a (.lst xs) ∨
    ∃ (o : Obj) (its : Array Value) (n : Nat), K.lookup a = some o ∧ o.cls = .type "list" ∧ o.dict = none ∧ o.data = .seq its n ∧ its.size ≤ sizeLine ∧ Vals xs its.toList
def SqT (K : W.Frag) (H : Hp) (a : Addr) (xs : List V) : Prop :=
  Rd H a (.tup xs) ∨
    ∃ (o : Obj) (its : Array Value) (n : Nat), K.lookup a = some o ∧ (o.cls = .type "tuple" ∧ o.dict = none) ∧ o.data = .seq its n ∧ its.size ≤ sizeLine ∧ Vals xs its.toList
def absV : Value → Option V
  | .none => some .non
  | .bool b => some (.bl b)
  | .int i _ => some (.int i)
  | .str x _ => some (.str x)
  | .bytes b _ => some (.byt b)
  | .float b _ => some (.flt b)
  | .ref a => some (.ref a)
  | .type n => some (.ty n)
  | _ => none
theorem RelV.abs {x : V} {u : Value} (r : RelV x u) : absV u = some x := by
  cases x with
  | non => cases r; rfl
  | bl _ => cases r; rfl
  | int _ => obtain ⟨t, rfl⟩ := r; rfl
  | str _ => obtain ⟨t, rfl⟩ := r; rfl
  | byt _ => obtain ⟨t, rfl⟩ := r; rfl
  | flt _ => obtain ⟨t, rfl⟩ := r; rfl
  | ref _ => cases r; rfl
  | ty _ => cases r; rfl
theorem RelV.inj {x y : V} {u : Value} (r : RelV x u) (q : RelV y u) : x = y := Option.some.inj (r.abs.symm.trans q.abs)
theorem Vals.inj : ∀ {xs ys : List V} {us : List Value}, Vals xs us → Vals ys us → xs = ys
  | _, _, _, .nil, .nil => rfl
  | _, _, _, .cons r t, .cons r' t' => by rw [r.inj r', Vals.inj t t']
section
variable {X : Cx} {pins : List (Addr × Obj)} {σ : St} {H : Hp} {s : Shared} {a : Addr} {xs ys : List V}
theorem SqL.of {K : W.Frag} (h : H a = some (.lst xs)) : SqL K H a xs := .inl (.inl h)
theorem SqT.of {K : W.Frag} (h : H a = some (.tup xs)) : SqT K H a xs := .inl (.inl h)
theorem Inv.list (I : Inv X pins σ H s) (h : SqL X.K H a xs) : ∃ its : List Value, Vals xs its ∧ PlainL s.heap a its.toArray ∧ xs.length ≤ sizeLine := by
  rcases h with h | ⟨o, its, n, hk, hc, hd, hs, hz, r⟩
  · obtain ⟨z, its, n, r, e⟩ := h.ok I.hok
    exact ⟨its, r, ⟨_, n, e, rfl, rfl, rfl⟩, z⟩
  · refine ⟨its.toList, r, ⟨o, n, I.kIn a o hk, hc, hd, by simpa using hs⟩, ?_⟩
    have e := r.length
    simp only [Array.length_toList] at e
    omega
theorem Inv.tuple (I : Inv X pins σ H s) (h : SqT X.K H a xs) : ∃ its : List Value, Vals xs its ∧ IsTup s.heap a its.toArray ∧ xs.length ≤ sizeLine := by
  rcases h with h | ⟨o, its, n, hk, hc, hs, hz, r⟩
  · obtain ⟨z, its, r, p⟩ := h.ok I.hok
    exact ⟨its, r, p.tup, z⟩
  · refine ⟨its.toList, r, ⟨o, I.kIn a o hk, hc.1, n, by simpa using hs⟩, ?_⟩
    have e := r.length
    simp only [Array.length_toList] at e
    omega
theorem Inv.list_inj (I : Inv X pins σ H s) (h : SqL X.K H a xs) (h' : SqL X.K H a ys) : xs = ys := by
  obtain ⟨its, r, ⟨o, n, e, _, _, d⟩, _⟩ := I.list h
  obtain ⟨its', r', ⟨o', n', e', _, _, d'⟩, _⟩ := I.list h'
  rw [e] at e'; cases e'
  rw [d] at d'
  injection d' with d1 _
  have : its = its' := by simpa using congrArg Array.toList d1
  subst this
  exact r.inj r'
theorem Inv.tuple_inj (I : Inv X pins σ H s) (h : SqT X.K H a xs) (h' : SqT X.K H a ys) : xs = ys := by
  obtain ⟨its, r, ⟨o, e, _, n, d⟩, _⟩ := I.tuple h
  obtain ⟨its', r', ⟨o', e', _, n', d'⟩, _⟩ := I.tuple h'
  rw [e] at e'; cases e'
  rw [d] at d'
  injection d' with d1 _
  have : its = its' := by simpa using congrArg Array.toList d1
  subst this
  exact r.inj r'
end
abbrev Cx.wish (X : Cx) (E : Value → Shared → Prop) : Cx := { X with xe := E }
abbrev Cx.nox (X : Cx) : Cx := X.wish fun _ _ => False
theorem Cx.Ok.wish {X : Cx} (ok : X.Ok) (E : Value → Shared → Prop) : (X.wish E).Ok :=
  ⟨ok.mod, ok.kind, ok.glob, ok.blt, ok.above, ok.inj, ok.has, ok.cab, ok.hd, ok.frames, ok.stk, ok.exf, ok.bs, ok.bsz, ok.noex, ok.exfs, ok.funs, ok.frf, ok.tab⟩
theorem Cx.Ok.unwish {X : Cx} {E : Value → Shared → Prop} (ok : (X.wish E).Ok) : X.Ok :=
  ⟨ok.mod, ok.kind, ok.glob, ok.blt, ok.above, ok.inj, ok.has, ok.cab, ok.hd, ok.frames, ok.stk, ok.exf, ok.bs, ok.bsz, ok.noex, ok.exfs, ok.funs, ok.frf, ok.tab⟩
section
variable {X : Cx} {pins : List (Addr × Obj)} {σ : St} {H : Hp} {s : Shared} {E : Value → Shared → Prop}
theorem Inv.wish (I : Inv X pins σ H s) (E : Value → Shared → Prop) : Inv (X.wish E) pins σ H s := ⟨I.ok.wish E, I.os, I.bare, I.base, I.loc, I.cell, I.free, I.freeC, I.pin, I.hok, I.len⟩
theorem Inv.unwish (I : Inv (X.wish E) pins σ H s) : Inv X pins σ H s := ⟨I.ok.unwish, I.os, I.bare, I.base, I.loc, I.cell, I.free, I.freeC, I.pin, I.hok, I.len⟩
theorem SP.unwish {D : Ends} {f : Flow} {s' : Shared} (h : SP (X.wish E) pins D f s') : SP X pins D f s' := by
  cases f with
  | next => obtain ⟨σ', H', I, q⟩ := h; exact ⟨σ', H', I.unwish, q⟩
  | brk => obtain ⟨σ', H', I, q⟩ := h; exact ⟨σ', H', I.unwish, q⟩
  | cont => obtain ⟨σ', H', I, q⟩ := h; exact ⟨σ', H', I.unwish, q⟩
  | ret u => obtain ⟨v, σ', H', I, r, q⟩ := h; exact ⟨v, σ', H', I.unwish, r, q⟩
theorem PE.nox {e : Expr} {t : TE} (h : PE X.nox e t) : PE X e t := fun pins s σ H Q I hw =>
  wpAny_mono (h pins s σ H Q (I.wish _) hw) (fun _ _ ⟨v, H', I', r, q⟩ => ⟨v, H', I'.unwish, r, q⟩) fun _ _ z => False.elim z
theorem PT.nox {e : Expr} {t : TT} (h : PT X.nox e t) : PT X e t := fun pins s σ H Q I hw =>
  wpAny_mono (h pins s σ H Q (I.wish _) hw) (fun _ _ ⟨H', I', q⟩ => ⟨H', I'.unwish, q⟩) fun _ _ z => False.elim z
theorem PSs.nox {st : List Stmt} {t : TS} (h : PSs X.nox st t) : PSs X st t := fun pins s σ H D I hw =>
  wpAny_mono (h pins s σ H D (I.wish _) hw) (fun _ _ q => q.unwish) fun _ _ z => False.elim z
end
section
variable {X : Cx} {st : Stmt} {rest : List Stmt} {t u : TS} {e : Expr} {te : TE} {pos : Pos}
def tNext : TS := fun D σ H => D.nx σ H
def tSeq (t u : TS) : TS := fun D σ H => t { D with nx := u D } σ H
theorem pss_nil : PSs X [] tNext := fun _ _ σ H _ I h => wpAny_execs_nil ⟨σ, H, I, h⟩
theorem pss_cons (h1 : PS X st t) (h2 : PSs X rest u) : PSs X (st :: rest) (tSeq t u) := by
  intro pins s σ H D I h
  refine wpAny_execs_cons (thn (h1 pins s σ H { D with nx := u D } I h) fun f s1 q => ?_)
  cases f with
  | next =>
    obtain ⟨σ', H', I', q⟩ := q
    exact h2 pins s1 σ' H' D I' q
  | ret v => exact q
  | brk => exact q
  | cont => exact q
theorem pss_one (h1 : PS X st t) : PSs X [st] t := by
  intro pins s σ H D I h
  refine wpAny_execs_cons (thn (h1 pins s σ H D I h) fun f s1 q => ?_)
  cases f with
  | next => exact wpAny_execs_nil q
  | ret v => exact q
  | brk => exact q
  | cont => exact q
theorem Inv.quiet {pins : List (Addr × Obj)} {σ : St} {H : Hp} {s : Shared} (I : Inv X pins σ H s) : interactive X.env = false := by simp [interactive, I.ok.kind]
def tDrop (te : TE) : TS := fun D σ H => te σ H fun _ H1 => D.nx σ H1
theorem ps_expr (he : PE X e te) (hs : swapsWith e none pos.line X.env = pure false := by rfl) : PS X (.Expr e pos) (tDrop te) := by
  intro pins s σ H D I h
  exact wpAny_Expr_any (thn (he pins s σ H _ I h) fun v s1 ⟨x, H1, I1, r1, q1⟩ => ⟨σ, H1, I1, q1⟩) I.quiet hs
def tRet (te : TE) : TS := fun D σ H => te σ H D.rt
theorem ps_ret (he : PE X e te) : PS X (.Return (some e) pos) (tRet te) := by
  intro pins s σ H D I h
  exact wpAny_Return_some (thn (he pins s σ H _ I h) fun v s1 ⟨x, H1, I1, r1, q1⟩ => ⟨x, σ, H1, I1, r1, q1⟩)
def tIfS (c : TT) (t u : TS) : TS := fun D σ H => c σ H fun b H1 => if b = true then t D σ H1 else u D σ H1
theorem ps_if {c : Expr} {a b : List Stmt} {tc : TT} (hc : PT X c tc) (ha : PSs X a t) (hb : PSs X b u) : PS X (.If c a b pos) (tIfS tc t u) := by
  intro pins s σ H D I h
  refine wpAny_If (thn (hc pins s σ H _ I h) fun d s1 ⟨H1, I1, q1⟩ => ?_)
  cases d with
  | true => exact ha pins s1 σ H1 D I1 q1
  | false => exact hb pins s1 σ H1 D I1 q1
end
abbrev TG := V → St → Hp → (St → Hp → Prop) → Prop
def PG (X : Cx) (target : Expr) (t : TG) : Prop :=
  ∀ (pins : List (Addr × Obj)) (s : Shared) (σ : St) (H : Hp) (v : V) (u : Value) (Q : St → Hp → Prop), Inv X pins σ H s → RelV v u → t v σ H Q →
    wpAny (model X.prog X.w) X.A (assign target X.env u) (fun _ s' => ∃ σ' H', Inv X pins σ' H' s' ∧ Q σ' H') X.xe s
abbrev TSet := V → V → V → Hp → (Hp → Prop) → Prop
def PSet (X : Cx) (t : TSet) : Prop :=
  ∀ (pins : List (Addr × Obj)) (s : Shared) (σ : St) (H : Hp) (o i v : V) (ov iv u : Value) (Q : Hp → Prop), Inv X pins σ H s → RelV o ov → RelV i iv → RelV v u → t o i v H Q →
    wpAny (model X.prog X.w) X.A (setItem ov iv u) (fun _ s' => ∃ H', Inv X pins σ H' s' ∧ Q H') X.xe s
section
variable {X : Cx} {pos : Pos}
def gName (i : Nat) : TG := fun v σ H Q => Q (σ.set i (some v)) H
theorem pg_name {i : Nat} {x : Str} (hN : X.N.Nodup) (hi : X.N[i]? = some x) (hx : Loc X.env.scope x) (hf : X.fn x = true ∨ X.env.scope.names.lookup x = some .local := by first | exact .inl rfl | exact .inr rfl | assumption) : PG X (.Name x pos) (gName i) := by
  intro pins s σ H v u Q I r h
  exact wpAny_assign_Name (store_ok I hN hi hx r (fun s' I' => ⟨_, H, I', h⟩) hf)
def gSub (to ti : TE) (t : TSet) : TG := fun v σ H Q => to σ H fun o H1 => ti σ H1 fun i H2 => t o i v H2 fun H3 => Q σ H3
theorem pg_sub {o i : Expr} {to ti : TE} {t : TSet} (ho : PE X o to) (hi : PE X i ti) (hs : PSet X t)
    (ha : ∀ v, assign (.Subscript o i pos) X.env v = (do
      let ov ← holding [v] (eval o X.env)
      let iv ← holding [v, ov] (eval i X.env)
      standAt pos
      holding [v, ov, iv] (setItem ov iv v)
      release [v, ov, iv] []) := by intro _; rfl) : PG X (.Subscript o i pos) (gSub to ti t) := by
  intro pins s σ H v u Q I r h
  rw [ha]
  refine wpAny_bind (wpAny_holding (thn (ho pins s σ H _ I h) fun ov s1 ⟨x, H1, I1, r1, q1⟩ => ?_))
  refine wpAny_bind (wpAny_holding (thn (hi pins s1 σ H1 _ I1 q1) fun iv s2 ⟨y, H2, I2, r2, q2⟩ => ?_))
  refine wpAny_bind (wpAny_standAt (wpAny_bind (wpAny_holding (thn (hs pins s2 σ H2 x y v ov iv u _ I2 r1 r2 r q2) fun _ s3 ⟨H3, I3, q3⟩ => ?_))))
  exact wpAny_release ⟨σ, H3, I3, q3⟩
def tAsg (te : TE) (g : TG) : TS := fun D σ H => te σ H fun x H1 => g x σ H1 D.nx
theorem ps_asg {tg e : Expr} {te : TE} {g : TG} (he : PE X e te) (hg : PG X tg g) (hs : swapsWithSole [tg] e pos.line X.env = pure false := by rfl) (hw : swappedStores [tg] e X.env = pure none := by rfl)
    (h1 : (assignEach [tg] X.env).map (·.2) = [assign tg X.env] := by rfl) : PS X (.Assign [tg] e pos) (tAsg te g) := by
  intro pins s σ H D I h
  refine wpAny_Assign_stores (thn (he pins s σ H _ I h) fun v s1 ⟨x, H1, I1, r1, q1⟩ => ?_) hs hw
  rw [h1]
  exact thn (hg pins s1 σ H1 x v _ I1 r1 q1) fun _ s2 q => q
theorem ps_set {i : Nat} {x : Str} {e : Expr} {te : TE} {pos' : Pos} (hN : X.N.Nodup) (hi : X.N[i]? = some x) (hx : Loc X.env.scope x) (he : PE X e te) (hs : swapsWith e (some (.Name x pos')) pos.line X.env = pure false := by rfl) (hf : X.fn x = true ∨ X.env.scope.names.lookup x = some .local := by first | exact .inl rfl | exact .inr rfl | assumption) :
    PS X (.Assign [.Name x pos'] e pos) (tAsg te (gName i)) := by
  intro pins s σ H D I h
  refine wpAny_Assign_Name (thn (he pins s σ H _ I h) fun v s1 ⟨y, H1, I1, r1, q1⟩ => ?_) hs
  exact store_ok I1 hN hi hx r1 (fun s2 I2 => ⟨_, H1, I2, q1⟩) hf
def tPar (i j : Nat) (ta : TA) : TS := fun D σ H => ta σ H fun vs H1 => ∃ v w, vs = [v, w] ∧ D.nx ((σ.set i (some v)).set j (some w)) H1
theorem ps_par {i j : Nat} {x y : Str} {a b : Expr} {ta : TA} {px py pt : Pos} {kt k2 pt2} (hc : X.calm = true) (hN : X.N.Nodup) (hi : X.N[i]? = some x) (hj : X.N[j]? = some y) (hij : i ≠ j)
    (hx : X.env.scope.names.lookup x = some .local) (hy : X.env.scope.names.lookup y = some .local) (ha : PA X [a, b] ta)
    (hw : swappedStores [.Tuple [.Name x px, .Name y py] kt pt] (.Tuple [a, b] k2 pt2) X.env = pure (some [x, y]))
    (hs : swapsWithSole [.Tuple [.Name x px, .Name y py] kt pt] (.Tuple [a, b] k2 pt2) pos.line X.env = pure false := by rfl) :
    PS X (.Assign [.Tuple [.Name x px, .Name y py] kt pt] (.Tuple [a, b] k2 pt2) pos) (tPar i j ta) := by
  intro pins s σ H D I h
  rw [exec_Assign_arm]
  refine wpAny_bind (wpAny_standAt ?_)
  rw [hs]
  refine wpAny_bind (wpAny_pure ?_)
  rw [if_neg (by decide)]
  refine wpAny_bind (Tuple_ (thn (ha _ pins s σ H _ I h) fun us s1 ⟨vs, H1, I1, r1, q1⟩ => ?_))
  obtain ⟨v, w, e1, q1⟩ := q1
  subst e1
  obtain ⟨u1, u2, rfl, rv, rw'⟩ : ∃ u1 u2, us = [u1, u2] ∧ RelV v u1 ∧ RelV w u2 := by
    cases r1 with
    | cons p q =>
      cases q with
      | cons p' q' =>
        cases q'
        exact ⟨_, _, rfl, p, p'⟩
  refine wpAny_newObj_type ?_ (by show 2 ≤ sizeLine; decide)
  have I2 : Inv X pins σ H1 { s1 with heap := s1.heap.push { cls := .type "tuple", data := .seq [u1, u2].toArray } } := I1.kept (t' := s1.toks) fun b o e => Heap.get?_push_of_some _ e
  rw [hw]
  refine wpAny_bind (wpAny_pure ?_)
  show wpAny (model X.prog X.w) X.A (do rule "assign.swapped-stores"; let items ← unpackItems (.ref s1.heap.objs.size) 2 none; assignInOrder [fun v => bindName X.env y v, fun v => bindName X.env x v] items.reverse; pure Flow.next) _ _ _
  refine wpAny_bind (wpAny_rule (wpAny_bind (unpackItems_tuple (items := #[u1, u2]) (I.ok.hd hc) (IsTup.new s1.heap _) fun h' hx' => ?_)))
  have I3 := I2.kept (h' := h') (t' := s1.toks) fun b o e => hx' b o (Nat.ne_of_lt (Heap.lt_size e)) e
  show wpAny _ _ (assignInOrder [fun v => bindName X.env y v, fun v => bindName X.env x v] [u2, u1] >>= fun _ => pure Flow.next) _ _ _
  refine wpAny_bind (assignInOrder_cons (wpAny_bindName (store_ok I3 hN hj (.inl hy) rw' (fun s2 I4 => ?_) (.inr hy))))
  refine assignInOrder_cons (wpAny_bindName (store_ok I4 hN hi (.inl hx) rv (fun s3 I5 => assignInOrder_nil (wpAny_pure ?_)) (.inr hx)))
  rw [List.set_comm _ _ (Ne.symm hij)] at I5
  exact ⟨_, H1, I5, q1⟩
end
section
variable {X : Cx} {pos : Pos}
end
structure It where
  go : Nat → Hp → Prop
  yld : Nat → Hp → V → Hp → Prop
  stop : Nat → Hp → Prop
def FpOk (X : Cx) (pins : List (Addr × Obj)) (H : Hp) (b : Addr) : Prop :=
  H b = none ∧ b ≠ X.env.locals ∧ b ∉ X.fs ∧ (b ∈ X.ex ∨ X.s₀.heap.objs.size ≤ b) ∧ (∀ x c, X.env.cells.lookup x = some c → c ≠ b) ∧ ∀ p ∈ X.pn ++ pins, p.1 ≠ b
theorem Inv.fpOk {X : Cx} {pins : List (Addr × Obj)} {σ : St} {H H' : Hp} {s : Shared} {b : Addr} (I : Inv X pins σ H s) (hb : s.heap.objs.size ≤ b) (hn : H' b = none) : FpOk X pins H' b := by
  refine ⟨hn, Nat.ne_of_gt (Nat.lt_of_lt_of_le I.lt hb), I.nofs hb, .inr (Nat.le_trans I.sz hb), fun x c e z => ?_, fun p hp z => ?_⟩
  · obtain ⟨v, q⟩ := I.cell x c e
    exact absurd (Nat.lt_of_lt_of_le q.lt (by rw [z]; exact hb)) (Nat.lt_irrefl _)
  · exact absurd (Nat.lt_of_lt_of_le (Heap.lt_size (I.pin p hp).1) (by rw [z]; exact hb)) (Nat.lt_irrefl _)
structure Turn (P : Program) (w : World) (K : W.Frag) (tg : Expr) (J : It) (fp : List Addr) (it : Addr) (tn : Nat → Heap → Prop) : Prop where
  mem : it ∈ fp
  obj : ∀ i h, tn i h → ∀ b ∈ fp, ∃ o, h.get? b = some o ∧ ∀ v, o.data ≠ .cell v
  keep : ∀ i h h', tn i h → (∀ b ∈ fp, ∀ o, h.get? b = some o → h'.get? b = some o) → tn i h'
  item : ∀ (X : Cx), X.prog = P → X.w = w → X.K = K → X.calm = true → ∀ (i : Nat) (pins : List (Addr × Obj)) (s : Shared) (σ : St) (H : Hp) (E : Value → Shared → Prop), Inv X pins σ H s → (∀ b ∈ fp, FpOk X pins H b) → tn i s.heap → J.go i H →
    wpAny (model P w) X.A (pyNext (.ref it)) (fun r s1 => ∃ u, r = some u ∧
      wpAny (model P w) X.A (letOwnedTupleGo tg (.ref it) u) (fun _ s2 => ∃ x H', Inv X pins σ H' s2 ∧ RelV x u ∧ J.yld i H x H' ∧ tn (i + 1) s2.heap ∧ ∀ b ∈ fp, H' b = none) E s1) E s
  done : ∀ (X : Cx), X.prog = P → X.w = w → X.K = K → X.calm = true → ∀ (i : Nat) (pins : List (Addr × Obj)) (s : Shared) (σ : St) (H : Hp) (E : Value → Shared → Prop), Inv X pins σ H s → (∀ b ∈ fp, FpOk X pins H b) → tn i s.heap → J.stop i H →
    wpAny (model P w) X.A (pyNext (.ref it)) (fun r s1 => r = none ∧ Inv X pins σ H s1) E s
  self : ∀ (A : Around) (i : Nat) (s : Shared) (Q : Value → Shared → Prop) (E : Value → Shared → Prop), tn i s.heap → Q (.ref it) s → wpAny (model P w) A (pyIter (.ref it)) Q E s
abbrev TI := St → Hp → (It → Hp → Prop) → Prop
def PIE (X : Cx) (pins : List (Addr × Obj)) (σ : St) (tg : Expr) (R : It → Hp → Prop) (itv : Value) (s2 : Shared) : Prop :=
  ∃ (it : Addr) (fp : List Addr) (tn : Nat → Heap → Prop) (J : It) (H' : Hp), itv = .ref it ∧ Inv X pins σ H' s2 ∧ Turn X.prog X.w X.K tg J fp it tn ∧ tn 0 s2.heap ∧ (∀ b ∈ fp, FpOk X pins H' b) ∧ R J H'
def PI (X : Cx) (tg iter : Expr) (wi : TI) : Prop :=
  ∀ (pins : List (Addr × Obj)) (s : Shared) (σ : St) (H : Hp) (R : It → Hp → Prop), Inv X pins σ H s → wi σ H R →
    wpAny (model X.prog X.w) X.A (eval iter X.env) (fun v s1 => wpAny (model X.prog X.w) X.A (pyIter v) (PIE X pins σ tg R) X.xe s1) X.xe s
theorem go_of {M : Model} {A : Around} {E : Value → Shared → Prop} {s : Shared} {tg : Expr} {it : Addr} {u : Value} {o : Obj} {n : String} {vs : Array Value} {Q : Unit → Shared → Prop} (ho : s.heap.get? it = some o) (hc : o.cls = .type n) (hd : o.data = .fields vs)
    (hn : ["enumerate", "zip", "dict_itemiterator", "dict_reverseitemiterator", "odict_iterator", "itertools.zip_longest", "itertools.pairwise"].contains n = false) (hQ : Q () s) : wpAny M A (letOwnedTupleGo tg (.ref it) u) Q E s := by
  unfold letOwnedTupleGo
  cases tg <;> first
    | exact wpAny_pure hQ
    | (cases u <;> first
        | exact wpAny_pure hQ
        | (refine wpAny_bind (wpAny_load ho ?_)
           rw [hc, hd]
           show wpAny M A (if (["enumerate", "zip", "dict_itemiterator", "dict_reverseitemiterator", "odict_iterator", "itertools.zip_longest", "itertools.pairwise"].contains n && vs[0]? == some (rawInt _)) = true then _ else _) Q E s
           rw [if_neg (by intro h; rw [hn, Bool.false_and] at h; cases h)]
           exact wpAny_pure hQ))
def Itl (K : W.Frag) (a : Addr) : It :=
  ⟨fun i H => ∃ xs x, SqL K H a xs ∧ xs[i]? = some x, fun i H x H' => H' = H ∧ ∀ xs, SqL K H a xs → xs[i]? = some x, fun i H => ∃ xs, SqL K H a xs ∧ xs.length ≤ i⟩
def Itt (K : W.Frag) (a : Addr) : It :=
  ⟨fun i H => ∃ xs x, SqT K H a xs ∧ xs[i]? = some x, fun i H x H' => H' = H ∧ ∀ xs, SqT K H a xs → xs[i]? = some x, fun i H => ∃ xs, SqT K H a xs ∧ xs.length ≤ i⟩
def Itr (lo : Int) (n : Nat) : It := ⟨fun i _ => i < n, fun i H x H' => H' = H ∧ x = .int (lo + i), fun i _ => n ≤ i⟩
theorem turn_list {P : Program} {w : World} {K : W.Frag} {tg : Expr} (a it : Addr) : Turn P w K tg (Itl K a) [it] it (fun i h => h.IsListIter it a i) where
  mem := by simp
  obj := fun i h st b hb => by
    have e : b = it := by simpa using hb
    subst e
    obtain ⟨o, e, c, d⟩ := st
    exact ⟨o, e, fun v z => by rw [d] at z; cases z⟩
  keep := fun i h h' st k => st.at fun o e => k it (by simp) o e
  item := by
    intro X hP hw hK hc i pins s σ H E I hf st hg
    subst hP hw hK
    obtain ⟨xs, x, hq, hx⟩ := hg
    obtain ⟨its, rv, p, hz⟩ := I.list hq
    obtain ⟨u, hu, ru⟩ := rv.get hx
    obtain ⟨f0, f1, f2, f3, f4, f5⟩ := hf it (by simp)
    refine wpAny_pyNext_list_item st p.isList (x := u) (by simpa using hu) fun h' st' sb => ?_
    have I1 : Inv X pins σ H { s with heap := h' } := I.turned (t' := s.toks) (fun b o hb e => (sb.2 b hb).trans e) f0 f1 f3 f4 f5
    obtain ⟨o, e, c, d⟩ := id st'
    exact ⟨u, rfl, go_of (s := { s with heap := h' }) e c d (by decide) ⟨x, H, I1, ru, ⟨rfl, fun ys hy => by rw [I.list_inj hy hq]; exact hx⟩, st', fun b hb => (hf b hb).1⟩⟩
  done := by
    intro X hP hw hK hc i pins s σ H E I hf st hg
    subst hP hw hK
    obtain ⟨xs, hq, hx⟩ := hg
    obtain ⟨its, rv, p, hz⟩ := I.list hq
    obtain ⟨f0, f1, f2, f3, f4, f5⟩ := hf it (by simp)
    have hl := rv.length
    exact wpAny_pyNext_list_end (I.ok.hd hc) st p.isList (by simp; omega) fun h' eb => ⟨rfl, I.turned (t' := s.toks) (fun b o hb e => eb b o hb e) f0 f1 f3 f4 f5⟩
  self := fun _ _ _ _ _ st h => wpAny_pyIter_listiter st h
theorem turn_tuple {P : Program} {w : World} {K : W.Frag} {tg : Expr} (a it : Addr) : Turn P w K tg (Itt K a) [it] it (fun i h => h.IsTupleIter it a i) where
  mem := by simp
  obj := fun i h st b hb => by
    have e : b = it := by simpa using hb
    subst e
    obtain ⟨o, e, c, d⟩ := st
    exact ⟨o, e, fun v z => by rw [d] at z; cases z⟩
  keep := fun i h h' st k => st.at fun o e => k it (by simp) o e
  item := by
    intro X hP hw hK hc i pins s σ H E I hf st hg
    subst hP hw hK
    obtain ⟨xs, x, hq, hx⟩ := hg
    obtain ⟨its, rv, p, hz⟩ := I.tuple hq
    obtain ⟨u, hu, ru⟩ := rv.get hx
    obtain ⟨f0, f1, f2, f3, f4, f5⟩ := hf it (by simp)
    refine wpAny_pyNext_tuple_item st (show s.heap.IsTuple a its.toArray from p) (x := u) (by simpa using hu) fun h' st' sb => ?_
    have I1 : Inv X pins σ H { s with heap := h' } := I.turned (t' := s.toks) (fun b o hb e => (sb.2 b hb).trans e) f0 f1 f3 f4 f5
    obtain ⟨o, e, c, d⟩ := id st'
    exact ⟨u, rfl, go_of (s := { s with heap := h' }) e c d (by decide) ⟨x, H, I1, ru, ⟨rfl, fun ys hy => by rw [I.tuple_inj hy hq]; exact hx⟩, st', fun b hb => (hf b hb).1⟩⟩
  done := by
    intro X hP hw hK hc i pins s σ H E I hf st hg
    subst hP hw hK
    obtain ⟨xs, hq, hx⟩ := hg
    obtain ⟨its, rv, p, hz⟩ := I.tuple hq
    obtain ⟨f0, f1, f2, f3, f4, f5⟩ := hf it (by simp)
    have hl := rv.length
    exact wpAny_pyNext_tuple_end (I.ok.hd hc) st (show s.heap.IsTuple a its.toArray from p) (by simp; omega) fun h' eb => ⟨rfl, I.turned (t' := s.toks) (fun b o hb e => eb b o hb e) f0 f1 f3 f4 f5⟩
  self := fun _ _ _ _ _ st h => wpAny_pyIter_tupleiter st h
theorem turn_range {P : Program} {w : World} {K : PySem.W.Frag} {tg : Expr} (it : Addr) (lo : Int) (n : Nat) : Turn P w K tg (Itr lo n) [it] it (fun i h => IsRangeIter h it (lo + (i : Nat) * 1) ((n : Int) - (i : Nat)) 1) where
  mem := by simp
  obj := fun i h st b hb => by
    have e : b = it := by simpa using hb
    subst e
    exact ⟨_, st, fun v z => by
      have z' : Data.fields _ = Data.cell v := z
      cases z'⟩
  keep := fun i h h' st k => k it (by simp) _ st
  item := by
    intro X hP hw hK hc i pins s σ H E I hf st hg
    subst hP hw hK
    obtain ⟨f0, f1, f2, f3, f4, f5⟩ := hf it (by simp)
    have W := Walks.range (prog := X.prog) (w := X.w) (I.ok.hd hc) it lo 1 n
    refine W.item i s _ _ hg st fun v h' tk hv st' kk => ?_
    obtain ⟨t, rfl⟩ := hv
    have I1 : Inv X pins σ H { s with heap := h', toks := tk } := I.turned (fun b o hb e => kk b o (by simpa using hb) e) f0 f1 f3 f4 f5
    refine ⟨_, rfl, go_of (s := { s with heap := h', toks := tk }) (n := "range_iterator") st' rfl rfl (by decide) ⟨.int (lo + i), H, I1, ⟨t, ?_⟩, ⟨rfl, rfl⟩, st', fun b hb => (hf b hb).1⟩⟩
    rw [Int.mul_one]
  done := by
    intro X hP hw hK hc i pins s σ H E I hf st hg
    subst hP hw hK
    obtain ⟨f0, f1, f2, f3, f4, f5⟩ := hf it (by simp)
    exact wpAny_pyNext_range_end (I.ok.hd hc) st (by have : n ≤ i := hg; omega) fun h' eb => ⟨rfl, I.turned (t' := s.toks) (fun b o hb e => eb b o hb e) f0 f1 f3 f4 f5⟩
  self := fun _ _ _ _ _ st h => wpAny_pyIter_rangeiter st h
end L2
namespace L2
open PySem PySem.Spec PyProof.Rows
variable [Tabs]
section
variable {X : Cx} {tg : Expr}
theorem range_it {pins : List (Addr × Obj)} {σ : St} {H : Hp} {s : Shared} {R : It → Hp → Prop} {E : Value → Shared → Prop} {lo hi : Int} {t u v : Tok} {tk : Nat} (I : Inv X pins σ H s) (h1 : -(2 ^ 62) ≤ lo) (h2 : lo < 2 ^ 62) (h3 : -(2 ^ 62) ≤ hi) (h4 : hi < 2 ^ 62)
    (q : R (Itr lo (hi - lo).toNat) H) : wpAny (model X.prog X.w) X.A (pyIter (.ref s.heap.objs.size)) (PIE X pins σ tg R) E { s with heap := s.heap.push { cls := .type "range", data := .fields #[.int lo t, .int hi u, .int 1 v] }, toks := tk } := by
  refine wpAny_pyIter_range (IsRange.new ..) (small_one h1 h2 h3 h4) ?_
  have I1 : Inv X pins σ H { s with heap := s.heap.push { cls := .type "range", data := .fields #[.int lo t, .int hi u, .int 1 v] }, toks := tk } := I.kept fun b o e => Heap.get?_push_of_some _ e
  refine ⟨(s.heap.push { cls := .type "range", data := .fields #[.int lo t, .int hi u, .int 1 v] }).objs.size, [(s.heap.push { cls := .type "range", data := .fields #[.int lo t, .int hi u, .int 1 v] }).objs.size], _, _, H, rfl,
    I1.kept (t' := tk) fun b o e => Heap.get?_push_of_some _ e, turn_range _ lo (hi - lo).toNat, ?_, fun b hb => ?_, q⟩
  · have e1 : lo + ((0 : Nat) : Int) * 1 = lo := by simp
    have e2 : (((hi - lo).toNat : Nat) : Int) - ((0 : Nat) : Int) = Builtin.Range.rangeSize lo hi 1 := by rw [rangeSize_one]; split <;> omega
    show IsRangeIter _ _ (lo + ((0 : Nat) : Int) * 1) ((((hi - lo).toNat : Nat) : Int) - ((0 : Nat) : Int)) 1
    rw [e1, e2]
    exact Heap.get?_push_size _ rfl
  · have e : b = (s.heap.push { cls := .type "range", data := .fields #[.int lo t, .int hi u, .int 1 v] }).objs.size := by simpa using hb
    subst e
    exact I1.fpOk (Nat.le_refl _) (I1.hok.fresh (Nat.le_refl _))
def iRng1 (ta : TA) : TI := fun σ H R => ta σ H fun vs H1 => ∃ j : Int, vs = [.int j] ∧ -(2 ^ 62) ≤ j ∧ j < 2 ^ 62 ∧ R (Itr 0 j.toNat) H1
def iRng2 (ta : TA) : TI := fun σ H R => ta σ H fun vs H1 => ∃ i j : Int, vs = [.int i, .int j] ∧ (-(2 ^ 62) ≤ i ∧ i < 2 ^ 62 ∧ -(2 ^ 62) ≤ j ∧ j < 2 ^ 62) ∧ R (Itr i (j - i).toNat) H1
theorem pi_range1 {a : Expr} {ta : TA} {p pos : Pos} (hg : Gl X "range") (hm : X.mg "range" = none) (ha : PA X [a] ta) (hs : starEach [a] X.env = [(false, eval a X.env)] := by rfl) : PI X tg (.Call (.Name "range" p) [a] [] pos) (iRng1 ta) := by
  intro pins s σ H R I h
  refine Call_ (ld_blt I hg hm boot_range (PyProof.Rows.callWith_type1 (thn (ha pos pins s σ H _ I h) fun us s1 ⟨vs, H1, I1, r1, q1⟩ => ?_) hs rfl))
  obtain ⟨j, e, q1, q2, q⟩ := q1
  subst e
  cases r1 with
  | cons r rr =>
    cases rr
    obtain ⟨t, rfl⟩ := r
    exact call_range_1 (range_it I1 (by omega) (by omega) q1 q2 (by simpa using q))
theorem pi_range2 {a b : Expr} {ta : TA} {p pos : Pos} (hg : Gl X "range") (hm : X.mg "range" = none) (ha : PA X [a, b] ta) (hs : starEach [a, b] X.env = [(false, eval a X.env), (false, eval b X.env)] := by rfl) (hs2 : starEach [b] X.env = [(false, eval b X.env)] := by rfl) :
    PI X tg (.Call (.Name "range" p) [a, b] [] pos) (iRng2 ta) := by
  intro pins s σ H R I h
  refine Call_ (ld_blt I hg hm boot_range (PyProof.Rows.callWith_type1 (thn (ha pos pins s σ H _ I h) fun us s1 ⟨vs, H1, I1, r1, q1⟩ => ?_) (by rw [hs, hs2]) (by rw [hs2]; rfl)))
  obtain ⟨i, j, e, ⟨q1, q2, q3, q4⟩, q⟩ := q1
  subst e
  cases r1 with
  | cons r rr =>
    cases rr with
    | cons r' rr =>
      cases rr
      obtain ⟨t, rfl⟩ := r
      obtain ⟨t', rfl⟩ := r'
      exact call_range_2 (range_it I1 q1 q2 q3 q4 q)
def tFor (wi : TI) (g : TG) (tb : TS) : TS := fun D σ H => wi σ H fun J H1 => ∃ W : Nat → Nat → St → Hp → Prop, (∃ m, W 0 m σ H1) ∧ ∀ i m σ H, W i m σ H →
  (J.stop i H ∧ D.nx σ H) ∨ (J.go i H ∧ ∃ N : St → Hp → Prop, (∀ σ' H', N σ' H' → ∃ m', m' < m ∧ W (i + 1) m' σ' H') ∧ ∀ x H', J.yld i H x H' → g x σ H' fun σ2 H2 => tb { D with nx := N, ct := N, bk := D.nx } σ2 H2)
def pinsAt (fp : List Addr) (h : Heap) : List (Addr × Obj) := fp.filterMap fun b => (h.get? b).map fun o => (b, o)
theorem mem_pinsAt {fp : List Addr} {h : Heap} {b : Addr} {o : Obj} (hb : b ∈ fp) (e : h.get? b = some o) : (b, o) ∈ pinsAt fp h := List.mem_filterMap.mpr ⟨b, hb, by rw [e]; rfl⟩
theorem of_pinsAt {fp : List Addr} {h : Heap} {p : Addr × Obj} (hp : p ∈ pinsAt fp h) : p.1 ∈ fp ∧ h.get? p.1 = some p.2 := by
  obtain ⟨b, hb, e⟩ := List.mem_filterMap.mp hp
  cases q : h.get? b with
  | none => rw [q] at e; cases e
  | some o =>
    rw [q] at e
    have e' : (b, o) = p := Option.some.inj e
    subst e'
    exact ⟨hb, q⟩
theorem Inv.pinned {pins : List (Addr × Obj)} {σ : St} {H : Hp} {s : Shared} {fp : List Addr} (I : Inv X pins σ H s) (hf : ∀ b ∈ fp, FpOk X pins H b) (ho : ∀ b ∈ fp, ∃ o, s.heap.get? b = some o ∧ ∀ v, o.data ≠ .cell v) : Inv X (pins ++ pinsAt fp s.heap) σ H s :=
  I.pins_of fun p hp => (List.mem_append.mp hp).elim (fun z => I.pin p (List.mem_append_right _ z)) fun z => by
    obtain ⟨hb, e⟩ := of_pinsAt z
    obtain ⟨f0, f1, f2, _⟩ := hf p.1 hb
    obtain ⟨o, e', d⟩ := ho p.1 hb
    rw [e] at e'; cases e'
    exact ⟨e, f0, f1, f2, d⟩
theorem Inv.unpinned {pins pl : List (Addr × Obj)} {σ : St} {H : Hp} {s : Shared} (I : Inv X (pins ++ pl) σ H s) : Inv X pins σ H s := I.pins_of fun p hp => I.pin p (List.mem_append_right _ (List.mem_append_left _ hp))
theorem ps_for {iter : Expr} {body : List Stmt} {wi : TI} {g : TG} {tb : TS} {pos : Pos} (hp : PassesOwn (model X.prog X.w) X.A X.env X.xe) (hc : X.calm = true) (hi : PI X tg iter wi) (hg : PG X tg g) (hb : PSs X body tb)
    (hs : ∀ x, foldedSetIterable iter X.env x = pure x := by intro _; rfl) : PS X (.For tg iter body [] pos) (tFor wi g tb) := by
  intro pins s σ H D I h
  refine wpAny_For (thn (hi pins s σ H _ I h) fun v s1 h1 => thn h1 fun itv s2 h2 => ?_) hs
  obtain ⟨it, fp, tn, J, H2, e, I2, T, st2, f2, W, ⟨m0, w0⟩, turn⟩ := h2
  subst e
  have stat : ∀ {H' : Hp}, (∀ b ∈ fp, H' b = none) → ∀ b ∈ fp, FpOk X pins H' b := fun hn b hb => ⟨hn b hb, (f2 b hb).2⟩
  refine codeAny_forLoop_any (fun n s' => ∃ i σ' H', Inv X pins σ' H' s' ∧ tn i s'.heap ∧ (∀ b ∈ fp, H' b = none) ∧ W i n σ' H') ?_ m0 ⟨0, σ, H2, I2, st2, fun b hb => (f2 b hb).1, w0⟩
  rintro n s3 ⟨i, σ3, H3, I3, st3, fr3, w3⟩
  rcases turn i n σ3 H3 w3 with ⟨stop, qn⟩ | ⟨go, N, hN, step⟩
  · refine wpAny_passesOwn hp (thn (T.done X rfl rfl rfl hc i pins s3 σ3 H3 X.xe I3 (stat fr3) st3 stop) fun r s4 ⟨hr, I4⟩ => ?_)
    subst hr
    exact wpAny_execs_nil ⟨σ3, H3, I4, qn⟩
  · refine wpAny_passesOwn hp (thn (T.item X rfl rfl rfl hc i pins s3 σ3 H3 X.xe I3 (stat fr3) st3 go) fun r s4 ⟨u, hr, h4⟩ => ?_)
    subst hr
    refine wpAny_passesOwn hp (thn h4 fun _ s5 ⟨x, H5, I5, r5, y5, st5, fr5⟩ => ?_)
    have I5' := I5.pinned (stat fr5) (T.obj _ _ st5)
    refine wpAny_passesOwn hp (thn (hg _ s5 σ3 H5 x u _ I5' r5 (step x H5 y5)) fun _ s6 ⟨σ6, H6, I6, q6⟩ => ?_)
    refine wpAny_passesOwn hp (thn (hb _ s6 σ6 H6 _ I6 q6) fun f s7 q7 => ?_)
    have again : ∀ {σ7 : St} {H7 : Hp}, Inv X (pins ++ pinsAt fp s5.heap) σ7 H7 s7 → N σ7 H7 → ∃ m, m < n ∧ ∃ i σ' H', Inv X pins σ' H' s7 ∧ tn i s7.heap ∧ (∀ b ∈ fp, H' b = none) ∧ W i m σ' H' := fun {σ7 H7} I7 n7 => by
      obtain ⟨m', hm, w7⟩ := hN σ7 H7 n7
      refine ⟨m', hm, i + 1, σ7, H7, I7.unpinned, T.keep _ _ _ st5 fun b hb o e => (I7.pin (b, o) (List.mem_append_right _ (List.mem_append_right _ (mem_pinsAt hb e)))).1, fun b hb => ?_, w7⟩
      obtain ⟨o, e, d⟩ := T.obj _ _ st5 b hb
      exact (I7.pin (b, o) (List.mem_append_right _ (List.mem_append_right _ (mem_pinsAt hb e)))).2.1
    cases f with
    | next => obtain ⟨σ7, H7, I7, n7⟩ := q7; exact again I7 n7
    | cont => obtain ⟨σ7, H7, I7, n7⟩ := q7; exact again I7 n7
    | brk => obtain ⟨σ7, H7, I7, q7⟩ := q7; exact ⟨σ7, H7, I7.unpinned, q7⟩
    | ret v => obtain ⟨x7, σ7, H7, I7, r7, q7⟩ := q7; exact ⟨x7, σ7, H7, I7.unpinned, r7, q7⟩
end
end L2
namespace L2
open PySem PySem.Spec PyProof.Rows
variable [Tabs]
abbrev R2 := V → V → Hp → VK → Prop
def OpR (X : Cx) (f : Value → Value → Sem Value) (r : R2) : Prop :=
  ∀ (pins : List (Addr × Obj)) (s : Shared) (σ : St) (H : Hp) (x y : V) (v u : Value) (Q : VK), Inv X pins σ H s → RelV x v → RelV y u → r x y H Q →
    wpAny (model X.prog X.w) X.A (f v u) (EP X pins σ Q) X.xe s
def CallR (X : Cx) (f : Value) (r : List V → Hp → VK → Prop) : Prop :=
  ∀ (pins : List (Addr × Obj)) (s : Shared) (σ : St) (H : Hp) (xs : List V) (us : List Value) (Q : VK), Inv X pins σ H s → Vals xs us → r xs H Q →
    wpAny (model X.prog X.w) X.A (call f us) (EP X pins σ Q) X.xe s
def TruR (X : Cx) (r : V → Hp → (Bool → Hp → Prop) → Prop) : Prop :=
  ∀ (pins : List (Addr × Obj)) (s : Shared) (σ : St) (H : Hp) (x : V) (v : Value) (Q : Bool → Hp → Prop), Inv X pins σ H s → RelV x v → r x H Q →
    wpAny (model X.prog X.w) X.A (truthy v) (TP X pins σ Q) X.xe s
def rI (C : Int → Int → Prop) (g : Int → Int → V) : R2 := fun x y H Q => ∃ i j, x = .int i ∧ y = .int j ∧ C i j ∧ Q (g i j) H
def rI0 (g : Int → Int → V) : R2 := fun x y H Q => ∃ i j, x = .int i ∧ y = .int j ∧ Q (g i j) H
section
variable {X : Cx} {a b c : Expr} {ta tb tc : TE} {pos : Pos}
theorem opI {f : Value → Value → Sem Value} {C : Int → Int → Prop} {g : Int → Int → Int}
    (rule : ∀ (i j : Int) (t u : Tok) (s : Shared) (Q : Value → Shared → Prop) (E : Value → Shared → Prop), C i j → Q (.int (g i j) s.toks) { s with toks := s.toks + 1 } → wpAny (model X.prog X.w) X.A (f (.int i t) (.int j u)) Q E s) :
    OpR X f (rI C fun i j => .int (g i j)) := by
  intro pins s σ H x y v u Q I rx ry h
  obtain ⟨i, j, rfl, rfl, hc, q⟩ := h
  obtain ⟨t, rfl⟩ := rx
  obtain ⟨t', rfl⟩ := ry
  exact rule i j t t' s _ _ hc ⟨.int (g i j), H, I.tok _, ⟨_, rfl⟩, q⟩
theorem opI0 {f : Value → Value → Sem Value} {g : Int → Int → Int}
    (rule : ∀ (i j : Int) (t u : Tok) (s : Shared) (Q : Value → Shared → Prop) (E : Value → Shared → Prop), Q (.int (g i j) s.toks) { s with toks := s.toks + 1 } → wpAny (model X.prog X.w) X.A (f (.int i t) (.int j u)) Q E s) :
    OpR X f (rI0 fun i j => .int (g i j)) := by
  intro pins s σ H x y v u Q I rx ry h
  obtain ⟨i, j, rfl, rfl, q⟩ := h
  obtain ⟨t, rfl⟩ := rx
  obtain ⟨t', rfl⟩ := ry
  exact rule i j t t' s _ _ ⟨.int (g i j), H, I.tok _, ⟨_, rfl⟩, q⟩
theorem opB0 {f : Value → Value → Sem Value} {g : Int → Int → Bool}
    (rule : ∀ (i j : Int) (t u : Tok) (s : Shared) (Q : Value → Shared → Prop) (E : Value → Shared → Prop), Q (.bool (g i j)) s → wpAny (model X.prog X.w) X.A (f (.int i t) (.int j u)) Q E s) :
    OpR X f (rI0 fun i j => .bl (g i j)) := by
  intro pins s σ H x y v u Q I rx ry h
  obtain ⟨i, j, rfl, rfl, q⟩ := h
  obtain ⟨t, rfl⟩ := rx
  obtain ⟨t', rfl⟩ := ry
  exact rule i j t t' s _ _ ⟨.bl (g i j), H, I, rfl, q⟩
def CDiv (i j : Int) : Prop := 0 < j ∧ j < 1073741824
def CPow (i j : Int) : Prop := 0 ≤ j ∧ j ≤ 1000000 ∧ i.natAbs < 2 ^ 64
def CMul (i j : Int) : Prop := (-(2 ^ 64) < i ∧ i < 2 ^ 64) ∨ (-(2 ^ 64) < j ∧ j < 2 ^ 64)
theorem CMul.ok {i j : Int} (h : CMul i j) : IntMulOk i j := by
  rcases h with ⟨h1, h2⟩ | ⟨h1, h2⟩
  · exact .of_left (intBits_le_64 h1 h2)
  · exact .of_right (intBits_le_64 h1 h2)
theorem op_add : OpR X (binaryOp .Add) (rI0 fun i j => .int (i + j)) := opI0 fun _ _ _ _ _ _ _ q => add_int q
theorem op_sub : OpR X (binaryOp .Sub) (rI0 fun i j => .int (i - j)) := opI0 fun _ _ _ _ _ _ _ q => sub_int q
theorem op_mul : OpR X (binaryOp .Mult) (rI CMul fun i j => .int (i * j)) := opI fun _ _ _ _ _ _ _ hc q => mul_int q hc.ok
theorem op_fdiv : OpR X (binaryOp .FloorDiv) (rI CDiv fun i j => .int (i / j)) := opI fun i j _ _ _ _ _ hc q => by
  have h1 : (0 : Int) < j := hc.1
  have h2 : j < 1073741824 := hc.2
  exact floordiv_int (by omega) (by rw [Int.fdiv_eq_ediv_of_nonneg i (by omega)]; exact q) (.inl (PyProof.noPylong_small (by omega)))
theorem op_mod : OpR X (binaryOp .Mod) (rI (fun _ j => 0 < j) fun i j => .int (i % j)) := opI fun i j _ _ _ _ _ hc q => by
  have h1 : (0 : Int) < j := hc
  exact mod_int' (by omega) (by rw [Int.fmod_eq_emod_of_nonneg i (by omega)]; exact q)
theorem op_pow : OpR X (binaryOp .Pow) (rI CPow fun i j => .int (i ^ j.toNat)) := opI fun _ _ _ _ _ _ _ hc q => pow_int_small hc.1 hc.2.1 hc.2.2 q
end
section
variable {X : Cx} {a b c : Expr} {ta tb tc : TE} {pos : Pos}
theorem fin_bl {pins : List (Addr × Obj)} {σ : St} {H : Hp} {s : Shared} {Q : VK} {k k' : Bool} (I : Inv X pins σ H s) (q : Q (.bl k) H) (e : k = k') : EP X pins σ Q (.bool k') s := by
  subst e
  exact ⟨.bl k, H, I, rfl, q⟩
theorem op_lt : OpR X (compareOp .Lt) (rI0 fun i j => .bl (decide (i < j))) := opB0 fun _ _ _ _ _ _ _ q => lt_int q
theorem op_le : OpR X (compareOp .LtE) (rI0 fun i j => .bl (decide (i ≤ j))) := opB0 fun _ _ _ _ _ _ _ q => le_int q
theorem op_gt : OpR X (compareOp .Gt) (rI0 fun i j => .bl (decide (j < i))) := opB0 fun _ _ _ _ _ _ _ q => gt_int q
theorem op_ge : OpR X (compareOp .GtE) (rI0 fun i j => .bl (decide (j ≤ i))) := opB0 fun _ _ _ _ _ _ _ q => ge_int q
theorem op_lt_str : OpR X (compareOp .Lt) (fun x y H Q => ∃ i j, x = .str i ∧ y = .str j ∧ Q (.bl (decide (i.cps.toList < j.cps.toList))) H) := by
  intro pins s σ H x y v u Q I rx ry h
  obtain ⟨i, j, rfl, rfl, q⟩ := h
  obtain ⟨t, rfl⟩ := rx
  obtain ⟨t', rfl⟩ := ry
  exact lt_str (fin_bl I q rfl)
theorem op_in_str : OpR X (compareOp .In) (fun x y H Q => ∃ i j, x = .str i ∧ y = .str j ∧ Q (.bl (!(Builtin.Str.occurrences j i 0 j.length 1).isEmpty)) H) := by
  intro pins s σ H x y v u Q I rx ry h
  obtain ⟨i, j, rfl, rfl, q⟩ := h
  obtain ⟨t, rfl⟩ := rx
  obtain ⟨t', rfl⟩ := ry
  exact in_str (fin_bl I q rfl)
theorem nomark (b : Expr) {op : CmpOp} (h : op ≠ .In := by decide) (h2 : op ≠ .NotIn := by decide) : behindInMarks op b = false := by
  have e1 : (op == CmpOp.In) = false := by cases op <;> first | rfl | exact absurd rfl h
  have e2 : (op == CmpOp.NotIn) = false := by cases op <;> first | rfl | exact absurd rfl h2
  cases b <;> simp [behindInMarks, e1, e2]
def TruV (K : W.Frag) (x : V) (H : Hp) (k : Bool) : Prop :=
  match x with
  | .non => k = false
  | .bl b => k = b
  | .int i => k = (i != 0)
  | .str y => y.length ≤ sizeLine ∧ k = ((y.length : Int) != 0)
  | .byt y => y.size ≤ sizeLine ∧ k = ((y.size : Int) != 0)
  | .ref p => (∃ xs, SqL K H p xs ∧ k = !xs.isEmpty) ∨ (∃ xs, SqT K H p xs ∧ k = !xs.isEmpty) ∨ ∃ kvs, H p = some (.dK kvs) ∧ k = !kvs.isEmpty
  | _ => False
theorem isEmpty_kv {κ : Type} {kvs : List (κ × V)} {vs : List (κ × Value)} (r : KV kvs vs) : (!vs.isEmpty) = !kvs.isEmpty := by
  cases r <;> rfl
theorem isEmpty_of {xs : List V} {its : List Value} (r : Vals xs its) : (!its.toArray.isEmpty) = !xs.isEmpty := by
  cases r <;> simp
theorem line63 : (sizeLine : Nat) < 2 ^ 63 := by rw [sizeLine_eq]; decide
theorem tru_ok : TruR X (fun x H Q => ∃ k, TruV X.K x H k ∧ Q k H) := by
  intro pins s σ H x v Q I rx h
  obtain ⟨k, e, q⟩ := h
  have hl := line63
  have hs : sizeLine = 16777216 := sizeLine_eq
  cases x with
  | non =>
    cases rx
    have e' : k = false := e
    subst e'
    exact truthy_none ⟨H, I, q⟩
  | bl b =>
    cases rx
    have e' : k = b := e
    subst e'
    exact wpAny_truthy_bool ⟨H, I, q⟩
  | int i =>
    obtain ⟨t, rfl⟩ := rx
    have e' : k = (i != 0) := e
    subst e'
    exact PySem.P.truthy_int ⟨H, I, q⟩
  | str y =>
    obtain ⟨t, rfl⟩ := rx
    obtain ⟨hy, e'⟩ : y.length ≤ sizeLine ∧ k = ((y.length : Int) != 0) := e
    subst e'
    exact PySem.P.truthy_str (by omega) ⟨H, I.tok _, q⟩
  | byt y =>
    obtain ⟨t, rfl⟩ := rx
    obtain ⟨hy, e'⟩ : y.size ≤ sizeLine ∧ k = ((y.size : Int) != 0) := e
    subst e'
    exact W.truthy_bytes (by omega) ⟨H, I.tok _, q⟩
  | ref p =>
    cases rx
    have e' : (∃ xs, SqL X.K H p xs ∧ k = !xs.isEmpty) ∨ (∃ xs, SqT X.K H p xs ∧ k = !xs.isEmpty) ∨ ∃ kvs, H p = some (.dK kvs) ∧ k = !kvs.isEmpty := e
    rcases e' with ⟨xs, hx, e'⟩ | ⟨xs, hx, e'⟩ | ⟨kvs, hx, e'⟩
    · subst e'
      obtain ⟨its, r, pl, hz⟩ := I.list hx
      have hlen := r.length
      exact wpAny_truthy_list pl.isList (by simp only [List.size_toArray]; omega) ⟨H, I.tok _, by rw [isEmpty_of r]; exact q⟩
    · subst e'
      obtain ⟨its, r, pl, hz⟩ := I.tuple hx
      have hlen := r.length
      exact truthy_tuple pl (by simp only [List.size_toArray]; omega) ⟨H, I.tok _, by rw [isEmpty_of r]; exact q⟩
    · subst e'
      obtain ⟨hz, hS, vs, r, m⟩ : kvs.length ≤ sizeLine ∧ (p == sysModules) = false ∧ ∃ vs, KV kvs vs ∧ s.heap.DictOf (mixKind X.prog X.w) p vs := I.hok p _ hx
      have hlen : kvs.length = vs.length := Paired.length r
      exact wpAny_truthy_dict hS m (by omega) ⟨H, I.tok _, by rw [isEmpty_kv r]; exact q⟩
  | _ => exact (show False from e).elim
theorem pt_truth (ha : PE X a ta) (he : ∀ whole, isTrue a X.env whole = (do let v ← whole; standAt a.pos; holding [v] (truthy v))) :
    PT X a (fun σ H Q => ta σ H fun x H' => ∃ k, TruV X.K x H' k ∧ Q k H') := by
  intro pins s σ H Q I h
  exact isTrue_plain (thn (ha pins s σ H _ I h) fun v s1 ⟨x, H1, I1, r1, q1⟩ => tru_ok pins s1 σ H1 x v Q I1 r1 q1) (he _)
theorem op_add_str : OpR X (binaryOp .Add) (fun x y H Q => ∃ i j, x = .str i ∧ y = .str j ∧ i.length + j.length ≤ sizeLine ∧ Q (.str (i ++ j)) H) := by
  intro pins s σ H x y v u Q I rx ry h
  obtain ⟨i, j, rfl, rfl, hz, q⟩ := h
  obtain ⟨t, rfl⟩ := rx
  obtain ⟨t', rfl⟩ := ry
  exact add_str (fun t' tk => ⟨.str (i ++ j), H, I.tok _, ⟨_, rfl⟩, q⟩) hz
theorem vals1 {x : V} {us : List Value} (r : Vals [x] us) : ∃ u, us = [u] ∧ RelV x u := by
  cases r with
  | cons r1 r2 => cases r2; exact ⟨_, rfl, r1⟩
theorem vals2 {x y : V} {us : List Value} (r : Vals [x, y] us) : ∃ u w', us = [u, w'] ∧ RelV x u ∧ RelV y w' := by
  cases r with
  | cons r1 r2 =>
    cases r2 with
    | cons r3 r4 => cases r4; exact ⟨_, _, rfl, r1, r3⟩
theorem call_min2 (hc : X.calm = true) : CallR X (.builtin "min") (fun xs H Q => ∃ i j, xs = [.int i, .int j] ∧ Q (.int (if j < i then j else i)) H) := by
  intro pins s σ H xs us Q I r h
  obtain ⟨i, j, rfl, q⟩ := h
  obtain ⟨u, w', rfl, ⟨t, rfl⟩, ⟨t', rfl⟩⟩ := vals2 r
  refine min_two_ints (I.ok.hd hc) fun h' tk k => ⟨_, H, I.kept k, ?_, q⟩
  by_cases hj : j < i
  · rw [if_pos hj, if_pos hj]; exact ⟨_, rfl⟩
  · rw [if_neg hj, if_neg hj]; exact ⟨_, rfl⟩
end
end L2
namespace L2
open PySem PySem.Spec PyProof.Rows
variable [Tabs]
structure ObjM (h : Heap) (x dx C : Addr) (mA : Str → Option Value) : Prop where
  obj : h.get? x = some (W.instObj C dx)
  ns : h.Ns1 dx mA
  ne : dx ≠ x
theorem lookIn_ns {h : Heap} {dx : Addr} {mA : Str → Option Value} (n : h.Ns1 dx mA) : ∃ od, h.get? dx = some od ∧ ∀ name, W.lookIn name od = some (mA name) := by
  obtain ⟨o, es, ep, ho, hd, hk, _, hm⟩ := n
  refine ⟨o, ho, fun name => ?_⟩
  have e := hm name
  unfold nsFind findBy at e
  rw [← Array.find?_toList] at e
  unfold W.lookIn
  rw [hd]
  dsimp only
  split
  · rename_i y q
    rw [q] at e
    exact congrArg some e
  · rename_i q
    rw [q] at e
    have a : es.toList.any (·.refKey) = false := by
      rw [List.any_eq_false]
      intro y hy
      obtain ⟨z, t, hkey⟩ := hk y (Array.mem_toList_iff.mp hy)
      simp [DictEntry.refKey, hkey]
    have a' : ¬ es.toList.any (·.refKey) = true := by rw [a]; exact Bool.false_ne_true
    rw [if_neg a']
    exact congrArg some e
theorem ObjM.look {h : Heap} {x dx C : Addr} {mA : Str → Option Value} (I : ObjM h x dx C mA) : ∃ od, W.InstAt h x (W.instObj C dx) C (some od) ∧ ∀ name, W.lookIn name od = some (mA name) :=
  let ⟨od, ho, hl⟩ := lookIn_ns I.ns
  ⟨od, ⟨I.obj, rfl, rfl, ho⟩, hl⟩
section
variable {prog : Program} {w : World} {A : Around} {E : Value → Shared → Prop} {s : Shared} {K : W.Frag} {x dx C f : Addr} {mA : Str → Option Value} {name : Str} {v : Value}
end
section
variable {P : Program} {w : World} {H H' : Hp} {h h' : Heap} {a C dx : Addr} {fs fs' : List (Str × V)}
theorem ins_get (hok : HOk P w H h) (e : H a = some (.ins C dx fs)) : ∃ mA, ObjM h a dx C mA ∧ (∀ f, RelO (fs.lookup f) (mA f)) ∧ PySem.Within mA (fs.map (·.1)) ∧ fs.length ≤ 1000 ∧ H dx = some (.own a) := by
  obtain ⟨d, z, ne, ob, mA, n, r, q⟩ := (show ObjOk P w H h a (.ins C dx fs) from hok a _ e)
  exact ⟨mA, ⟨ob, n, ne⟩, r, q, z, d⟩
end
structure Cls (K : W.Frag) (C : Addr) : Prop where
  pg : W.plainGet K C Str.empty = true
  hd : W.hasDictIn K C = true
  po : W.plainOver K C = true
  sa : W.findIn K (.ref C) "__setattr__" = some (some (.builtin "object.__setattr__"))
theorem Cls.get {K : W.Frag} {C : Addr} (c : Cls K C) (f : Str) : W.plainGet K C f = true := c.pg
section
variable {X : Cx} {pins : List (Addr × Obj)} {σ : St} {H : Hp} {s : Shared} {a C dx : Addr} {fs : List (Str × V)} {f : Str} {v : V} {A : Around} {E : Value → Shared → Prop}
theorem Inv.made (I : Inv X pins σ H s) : Inv X pins σ (upd (upd H s.heap.objs.size (.own (s.heap.objs.size + 1))) (s.heap.objs.size + 1) (.ins C s.heap.objs.size []))
    { s with heap := (s.heap.push W.emptyDict).push (W.instObj C s.heap.objs.size) } := by
  have e1 : (s.heap.push W.emptyDict).get? s.heap.objs.size = some W.emptyDict := Heap.get?_push_size s.heap rfl
  have e2 : ((s.heap.push W.emptyDict).push (W.instObj C s.heap.objs.size)).get? (s.heap.objs.size + 1) = some (W.instObj C s.heap.objs.size) := by
    have := Heap.get?_push_size (s.heap.push W.emptyDict) (o := W.instObj C s.heap.objs.size) rfl
    rwa [Heap.size_push] at this
  have e3 : (s.heap.push W.emptyDict).Ns s.heap.objs.size (fun _ => none) := ⟨W.emptyDict, #[], _, e1, rfl, (fun e he => absurd he (by simp)), fun _ => rfl⟩
  have I1 := I.laid (a := s.heap.objs.size) (o := .own (s.heap.objs.size + 1)) (h' := s.heap.push W.emptyDict) (t' := s.toks) (fun b u q => Heap.get?_push_of_some _ q) (Nat.le_refl _) ⟨_, e1⟩
  refine I1.laid (a := s.heap.objs.size + 1) (o := .ins C s.heap.objs.size []) (t' := s.toks) (fun b u q => Heap.get?_push_of_some _ q) (Nat.le_of_eq (Heap.size_push _ _)) ?_
  have ne : s.heap.objs.size ≠ s.heap.objs.size + 1 := Nat.ne_of_lt (Nat.lt_succ_self _)
  refine ⟨by rw [upd_ne ne, upd_same], Nat.zero_le _, ne, e2, fun _ => none, (Heap.Ns1.of_empty e3).at fun o q => Heap.get?_push_of_some _ q, fun _ => True.intro, fun y hy => absurd rfl hy⟩
end
section
variable {X : Cx} {o e value : Expr} {f : Str} {pos pos' tpos : Pos} {ta tv : TE}
end
section
variable {X : Cx} {pins : List (Addr × Obj)} {σ : St} {H : Hp} {s : Shared} {A : Around} {E : Value → Shared → Prop} {Q : Value → Shared → Prop} {c : Value} {b : Bool}
end
end L2
namespace L2
open PySem PySem.Spec PyProof.Rows
variable [Tabs]
structure Room (k : Nat) (A : Around) : Prop where
  hd : A.handled = none
  dp : A.depth + 3 * k + 5 < recursionLimit
  un : A.units + 16 * k + 200 < cLine
  gd : A.guards = some []
theorem Room.mono {j k : Nat} {A : Around} (r : Room k A) (h : j ≤ k) : Room j A := ⟨r.hd, by have := r.dp; omega, by have := r.un; omega, r.gd⟩
theorem Room.deeper {k : Nat} {A : Around} (r : Room (k + 1) A) (env : Env) : Room k (A.deeper env) :=
  ⟨r.hd, by have := r.dp; show A.depth + 1 + 3 * k + 5 < _; omega, by have := r.un; show A.units + 3 + 16 * k + 200 < _; omega, r.gd⟩
theorem Room.in1 {k : Nat} {A : Around} (r : Room (k + 1) A) : Room k A.in1 :=
  ⟨r.hd, by have := r.dp; show A.depth + 3 * k + 5 < _; omega, by have := r.un; show A.units + 1 + 16 * k + 200 < _; omega, r.gd⟩
theorem Room.depth {k : Nat} {A : Around} (r : Room k A) : A.depth < recursionLimit := by have := r.dp; omega
theorem Room.units {k : Nat} {A : Around} (r : Room k A) : A.units + 64 < cLine := by have := r.un; omega
def tNil : TA := fun _ H Q => Q [] H
def tCons (ta : TE) (tr : TA) : TA := fun σ H Q => ta σ H fun x H1 => tr σ H1 fun xs H2 => Q (x :: xs) H2
section
variable {X : Cx} {e : Expr} {es : List Expr} {te : TE} {t : TA} {pos : Pos}
theorem pa_nil : PA X [] tNil := fun _ _ _ _ H Q I h => Calls.spliced_nil ⟨[], H, I, .nil, h⟩
theorem pa_cons (ha : PE X e te) (hr : PA X es t) (hs : starEach (e :: es) X.env = (false, eval e X.env) :: starEach es X.env := by rfl) : PA X (e :: es) (tCons te t) := by
  intro pos pins s σ H Q I h
  rw [hs]
  show wpAny _ _ (spliced ((false, eval e X.env) :: backTo pos (starEach es X.env))) _ _ s
  refine Calls.spliced_cons (thn (ha pins s σ H _ I h) fun u s1 ⟨x, H1, I1, r1, q1⟩ => ?_)
  exact thn (hr pos pins s1 σ H1 _ I1 q1) fun us s2 ⟨xs, H2, I2, r2, q2⟩ => ⟨x :: xs, H2, I2, .cons r1 r2, q2⟩
def tTup (t : TA) : TE := fun σ H Q => t σ H fun xs H1 => xs.length ≤ sizeLine ∧ ∀ p, H1 p = none → Q (.ref p) (upd H1 p (.tup xs))
def tLst (t : TA) : TE := fun σ H Q => t σ H fun xs H1 => xs.length ≤ sizeLine ∧ ∀ p, H1 p = none → Q (.ref p) (upd H1 p (.lst xs))
theorem pe_tup {x1} (h : PA X es t) : PE X (.Tuple es x1 pos) (tTup t) := by
  intro pins s σ H Q I hq
  refine wpAny_Tuple_spliced (thn (h pos pins s σ H _ I hq) fun us s1 ⟨xs, H1, I1, r, z, q⟩ => ⟨by rw [← r.length]; exact z, ?_⟩)
  have hf : H1 s1.heap.objs.size = none := I1.hok.fresh (Nat.le_refl _)
  refine ⟨.ref s1.heap.objs.size, upd H1 s1.heap.objs.size (.tup xs), I1.laid (t' := s1.toks) (fun b u e => Heap.get?_push_of_some _ e) (Nat.le_refl _) ?_, rfl, q _ hf⟩
  exact ⟨z, us, r, ⟨_, Heap.get?_push_size _ rfl, rfl, ⟨_, rfl⟩, rfl⟩⟩
theorem pe_lst (h : PA X es t) : PE X (.List es pos) (tLst t) := by
  intro pins s σ H Q I hq
  refine wpAny_List_spliced (thn (h pos pins s σ H _ I hq) fun us s1 ⟨xs, H1, I1, r, z, q⟩ => ⟨by rw [← r.length]; exact z, ?_⟩)
  have hf : H1 s1.heap.objs.size = none := I1.hok.fresh (Nat.le_refl _)
  refine ⟨.ref s1.heap.objs.size, upd H1 s1.heap.objs.size (.lst xs), I1.laid (t' := s1.toks) (fun b u e => Heap.get?_push_of_some _ e) (Nat.le_refl _) ?_, rfl, q _ hf⟩
  exact ⟨z, us, 0, r, Heap.get?_push_size _ rfl⟩
end
abbrev Sp := List V → Hp → VK → XK → Prop
abbrev CXT := List Env → Hp → Shared → XK → Value → Shared → Prop
structure Env0 (P : Program) (w : World) (K : W.Frag) (mg : Str → Option Value) (base : Heap) (A : Around) (outer : List Env) (s : Shared) (H : Hp) : Prop where
  frames : A.frames = some outer
  mod : Mod K mg base
  bs : ∀ b o, base.get? b = some o → s.heap.get? b = some o ∧ H b = none
  bsz : base.objs.size ≤ s.heap.objs.size
  funs : s.heap.FunFrames base outer
  frf : ∀ b ∈ frs outer, H b = none
  hok : HOk P w H s.heap
  bare : AllBare s.gens
  tab : TbOk H
def CE (outer : List Env) (P : Program) (w : World) (H : Hp) (s : Shared) (Q : VK) (u : Value) (s' : Shared) : Prop :=
  ∃ v H', s'.os = s.os ∧ AllBare s'.gens ∧ Un (frs outer) [] H H' s.heap s'.heap ∧ HOk P w H' s'.heap ∧ RelV v u ∧ Q v H'
def CR (CX : CXT) (outer : List Env) (P : Program) (w : World) (H : Hp) (s : Shared) (Q : VK) (E : XK) (r : Result) (s' : Shared) : Prop :=
  match r with
  | .ok (.ret u) => CE outer P w H s Q u s'
  | .ok _ => False
  | .error e => CX outer H s E e s'
structure FnOk (P : Program) (w : World) (K : W.Frag) (mg : Str → Option Value) (base : Heap) (CX : CXT) (k : Nat) (f : Addr) (fd : FuncData) (ps : List Str) (sp : Sp) : Prop where
  len : ∀ vs H Q E, sp vs H Q E → vs.length = ps.length
  run : ∀ (A : Around) (outer : List Env) (s : Shared) (H : Hp) (args : Args) (us : List Value) (vs : List V) (Q : VK) (E : XK), Room k A → Env0 P w K mg base A outer s H → BindsTo s fd args (ps.zip us) → Vals vs us → sp vs H Q E →
    codeAny (model P w) A (.call (.ref f) args) (CR CX outer P w H s Q E) s
theorem FnOk.mono {P : Program} {w : World} {K : W.Frag} {mg : Str → Option Value} {base : Heap} {CX : CXT} {j k : Nat} {f : Addr} {fd : FuncData} {ps : List Str} {sp : Sp} (F : FnOk P w K mg base CX j f fd ps sp) (h : j ≤ k) :
    FnOk P w K mg base CX k f fd ps sp := ⟨F.len, fun A outer s H args us vs Q E hr => F.run A outer s H args us vs Q E (hr.mono h)⟩
theorem FnOk.imp {P : Program} {w : World} {K : W.Frag} {mg : Str → Option Value} {base : Heap} {CX : CXT} {k : Nat} {f : Addr} {fd : FuncData} {ps : List Str} {sp sp' : Sp} (F : FnOk P w K mg base CX k f fd ps sp)
    (h : ∀ vs H Q E, sp' vs H Q E → sp vs H Q E) : FnOk P w K mg base CX k f fd ps sp' :=
  ⟨fun vs H Q E q => F.len vs H Q E (h _ _ _ _ q), fun A outer s H args us vs Q E hr he hb hv hs => F.run A outer s H args us vs Q E hr he hb hv (h _ _ _ _ hs)⟩
theorem Env0.in1 {P : Program} {w : World} {K : W.Frag} {mg : Str → Option Value} {base : Heap} {A : Around} {outer : List Env} {s : Shared} {H : Hp} (e : Env0 P w K mg base A outer s H) :
    Env0 P w K mg base A.in1 outer s H := ⟨e.frames, e.mod, e.bs, e.bsz, e.funs, e.frf, e.hok, e.bare, e.tab⟩
section
variable {X : Cx} {pins : List (Addr × Obj)} {σ : St} {H : Hp} {s s' : Shared}
theorem Inv.env0 (I : Inv X pins σ H s) : Env0 X.prog X.w X.K X.mg X.base X.A X.stack s H :=
  ⟨I.ok.frames, I.ok.mod, I.bs, Nat.le_trans I.ok.bsz I.sz, I.stack, I.stkFree, I.hok, I.bare, I.tab⟩
theorem Inv.after {Q : VK} {u : Value} (I : Inv X pins σ H s) (h : CE X.stack X.prog X.w H s Q u s') : EP X pins σ Q u s' := by
  obtain ⟨v, H', os, bare, un, hok, r, q⟩ := h
  obtain ⟨hh, g, d, t, os'⟩ := s'
  obtain rfl : os' = s.os := os
  exact ⟨v, H', I.call (h' := hh) (g' := g) (d' := d) (t' := t) (ch := []) un hok bare (fun b z => absurd z (by simp)), r, q⟩
end
def tCall (sp : Sp) (dvs : List V) (E : XK) (t : TA) : TE := fun σ H Q => t σ H fun vs H1 => sp (vs ++ dvs) H1 Q E
def Binds (K : W.Frag) (fd : FuncData) (ps : List Str) (ds : List Value) : Prop :=
  ∀ (s : Shared) (us : List Value), K.In s.heap → (us ++ ds).length = ps.length → BindsTo s fd ⟨us, []⟩ (ps.zip (us ++ ds))
theorem Binds.all {K : W.Frag} {fd : FuncData} {ps : List Str} (h : ∀ us : List Value, us.length = ps.length → bindArgs fd ⟨us, []⟩ = pure (ps.zip us)) : Binds K fd ps [] := fun s us _ hl => by
  rw [List.append_nil] at hl ⊢
  exact .of_eq (h us hl)
def Passes (CX : CXT) (X : Cx) (E : XK) : Prop := ∀ (pins : List (Addr × Obj)) (σ : St) (H : Hp) (s : Shared) (e : Value) (s' : Shared), Inv X pins σ H s → CX X.stack H s E e s' → X.xe e s'
section
variable {X : Cx} {CX : CXT} {k : Nat} {f C : Addr} {fd : FuncData} {ps : List Str} {sp : Sp} {dvs : List V} {ds : List Value} {E : XK} {x m : Str} {p pos apos : Pos} {e o : Expr} {es : List Expr} {ta : TE} {t : TA}
theorem run_fn {pins : List (Addr × Obj)} {σ : St} {H : Hp} {s : Shared} {Q : VK} {us : List Value} {vs : List V} (F : FnOk X.prog X.w X.K X.mg X.base CX k f fd ps sp) (hr : Room k X.A) (hb : Binds X.K fd ps ds) (hd : Vals dvs ds) (hx : Passes CX X E)
    (I : Inv X pins σ H s) (r : Vals vs us) (h : sp (vs ++ dvs) H Q E) : wpAny (model X.prog X.w) X.A (call (.ref f) us) (EP X pins σ Q) X.xe s := by
  have r2 : Vals (vs ++ dvs) (us ++ ds) := r.append hd
  have hl : (us ++ ds).length = ps.length := by rw [← r2.length]; exact F.len _ _ _ _ h
  refine wpAny_call (codeAny_mono (F.run X.A X.stack s H ⟨us, []⟩ (us ++ ds) (vs ++ dvs) Q E hr I.env0 (hb s us I.kIn hl) r2 h) fun r s' hq => ?_)
  cases r with
  | error e => exact hx pins σ H s e s' I hq
  | ok fl =>
    cases fl with
    | ret u => exact I.after hq
    | next => exact False.elim hq
    | brk => exact False.elim hq
    | cont => exact False.elim hq
theorem pe_call (F : FnOk X.prog X.w X.K X.mg X.base CX k f fd ps sp) (hr : Room k X.A) (hg : Gl X x) (hm : X.mg x = some (.ref f)) (hk : W.keepIn X.K (.ref f) = true) (hb : Binds X.K fd ps ds) (hd : Vals dvs ds) (hx : Passes CX X E)
    (ha : PA X (e :: es) t) (hdb : (x == ("__debug__" : Str)) = false := by decide) (he : starEach (e :: es) X.env = (false, eval e X.env) :: starEach es X.env := by rfl) (hpl : (backTo pos (starEach es X.env)).any (·.1) = false := by rfl) :
    PE X (.Call (.Name x p) (e :: es) [] pos) (tCall sp dvs E t) := by
  intro pins s σ H Q I h
  refine wpAny_Call_Name_kw (ld_glob I hg hm ?_ hdb)
  refine W.callWith_K (h₀ := X.base) I.ok.mod.kin hk (thn (ha pos pins s σ H _ I h) fun us s1 ⟨vs, H1, I1, r, q⟩ => ⟨I1.kIn, ?_⟩) he hpl
  exact run_fn F hr hb hd hx I1 r q
end
section
variable {X : Cx} {CX : CXT} {k : Nat} {f C : Addr} {fd : FuncData} {ps ks : List Str} {sp : Sp} {E : XK} {x m : Str} {p pos apos kpos : Pos} {e o : Expr} {es : List Expr} {kws : List Keyword} {te ta : TE} {t tk : TA} {nm : Option Str}
variable {g : List Value → List Value → List Value} {gV : List V → List V → List V}
end
structure FnScope (N P : List Str) (sc : Scope) : Prop where
  kind : sc.kind = .function
  co : sc.isCoroutine = false
  gen : sc.isGenerator = false
  nd : N.Nodup
  pre : N.take P.length = P
  par : ∀ x ∈ P, sc.names.lookup x = some .local ∨ sc.names.lookup x = some .cell
  nofree : ∀ y ∈ sc.names, y.2 ≠ .free
theorem bindL_out {kindOf : Str → Option NameKind} {x : Str} : ∀ {binds : List (Str × Value)} {m : Str → Option Value}, (∀ v, (x, v) ∉ binds) → bindL kindOf binds m x = m x
  | [], _, _ => rfl
  | (n, v) :: r, m, h => by
    unfold bindL
    rw [bindL_out fun w hw => h w (List.mem_cons_of_mem _ hw)]
    split
    · have : x ≠ n := by rintro rfl; exact h v List.mem_cons_self
      simp [this]
    · rfl
theorem bindC_out {kindOf : Str → Option NameKind} {x : Str} : ∀ {binds : List (Str × Value)} {m : Str → Option Value}, (∀ v, (x, v) ∉ binds) → bindC kindOf binds m x = m x
  | [], _, _ => rfl
  | (n, v) :: r, m, h => by
    unfold bindC
    rw [bindC_out fun w hw => h w (List.mem_cons_of_mem _ hw)]
    split
    · rfl
    · have : x ≠ n := by rintro rfl; exact h v List.mem_cons_self
      simp [this]
theorem bindL_get {kindOf : Str → Option NameKind} {x : Str} {v : Value} : ∀ {P : List Str} {vs : List Value} {i : Nat} {m : Str → Option Value}, P.Nodup → P[i]? = some x → vs[i]? = some v → kindOf x = some .local →
    bindL kindOf (P.zip vs) m x = some v
  | [], _, _, _, _, h, _, _ => by simp at h
  | _ :: _, [], _, _, _, _, h, _ => by simp at h
  | p :: P, w :: vs, 0, m, nd, h1, h2, hk => by
    simp at h1 h2; subst h1; subst h2
    show bindL kindOf ((p, w) :: P.zip vs) m p = _
    unfold bindL
    rw [bindL_out fun v hv => (List.nodup_cons.mp nd).1 (List.of_mem_zip hv).1, if_pos hk]
    simp
  | p :: P, w :: vs, i + 1, m, nd, h1, h2, hk => by
    show bindL kindOf ((p, w) :: P.zip vs) m x = _
    unfold bindL
    exact bindL_get (i := i) (List.nodup_cons.mp nd).2 (by simpa using h1) (by simpa using h2) hk
theorem bindC_get {kindOf : Str → Option NameKind} {x : Str} {v : Value} : ∀ {P : List Str} {vs : List Value} {i : Nat} {m : Str → Option Value}, P.Nodup → P[i]? = some x → vs[i]? = some v → kindOf x ≠ some .local →
    bindC kindOf (P.zip vs) m x = some v
  | [], _, _, _, _, h, _, _ => by simp at h
  | _ :: _, [], _, _, _, _, h, _ => by simp at h
  | p :: P, w :: vs, 0, m, nd, h1, h2, hk => by
    simp at h1 h2; subst h1; subst h2
    show bindC kindOf ((p, w) :: P.zip vs) m p = _
    unfold bindC
    rw [bindC_out fun v hv => (List.nodup_cons.mp nd).1 (List.of_mem_zip hv).1, if_neg hk]
    simp
  | p :: P, w :: vs, i + 1, m, nd, h1, h2, hk => by
    show bindC kindOf ((p, w) :: P.zip vs) m x = _
    unfold bindC
    exact bindC_get (i := i) (List.nodup_cons.mp nd).2 (by simpa using h1) (by simpa using h2) hk
def start (N : List Str) (vs : List V) : St := vs.map some ++ List.replicate (N.length - vs.length) none
def cxOf (CX : CXT) (P : Program) (w : World) (K : W.Frag) (mg : Str → Option Value) (base : Heap) (N : List Str) (qual : Str) (scope : Scope) (f : Addr) (cd : Value) (A : Around) (outer : List Env) (s : Shared) (H : Hp) (E : XK) : Cx where
  prog := P
  w := w
  K := K
  mg := mg
  base := base
  A := A.deeper (envOfC qual scope s.heap.objs.size f cd)
  N := N
  s₀ := s
  H₀ := H
  env := envOfC qual scope s.heap.objs.size f cd
  outer := outer
  stack := envOfC qual scope s.heap.objs.size f cd :: outer
  ex := []
  calm := true
  fn := fun _ => true
  pn := []
  xe := fun e s' => wpAny (model P w) (A.deeper (envOfC qual scope s.heap.objs.size f cd)) (leaving (envOfC qual scope s.heap.objs.size f cd) e) (fun _ s'' => CX outer H s E e s'') (fun e' s'' => CX outer H s E e' s'') s'
theorem cell_has {sc : Scope} {n : Nat} {x : Str} (h : sc.names.lookup x = some .cell) : ∃ c, (cellsFrom n sc.names []).lookup x = some c := by
  have q := W.cellsFrom_some sc.names n [] (.inl h)
  exact Option.isSome_iff_exists.mp q
theorem inv_start {CX : CXT} {P : Program} {w : World} {K : W.Frag} {mg : Str → Option Value} {base : Heap} {N ps : List Str} {qual : Str} {scope : Scope} {f : Addr} {cd : Value} {A : Around} {outer : List Env} {s s1 : Shared} {H : Hp} {E : XK} {us : List Value} {vs : List V}
    (S : FnScope N ps scope) (hd : A.handled = none) (e0 : Env0 P w K mg base A outer s H) (hl : vs.length = ps.length) (r : Vals vs us)
    (x : InCallC s s.heap.objs.size (bindL (envOfC qual scope s.heap.objs.size f cd).kindOf (ps.zip us) fun _ => none) (cellsFrom (s.heap.objs.size + 1) scope.names []) (bindC (envOfC qual scope s.heap.objs.size f cd).kindOf (ps.zip us) fun _ => none) s1) :
    Inv (cxOf CX P w K mg base N qual scope f cd A outer s H E) [] (start N vs) H s1 := by
  have hpl : ps.length ≤ N.length := by have := congrArg List.length S.pre; rw [List.length_take] at this; omega
  obtain ⟨h1, tk, rfl, hk⟩ := x.done
  have noA : ∀ b : Addr, b ∉ (cxOf CX P w K mg base N qual scope f cd A outer s H E).ex := fun b z => absurd (show b ∈ ([] : List Addr) from z) (by simp)
  refine ⟨⟨e0.mod, S.kind, rfl, rfl, Nat.le_refl _, fun y z c h1 h2 => ?_, fun y hy => ?_, fun y c _ h => ?_, fun _ => hd, Around.frames_deeper e0.frames, .inr ⟨rfl, rfl⟩, fun b z => absurd z (noA b), e0.bs, e0.bsz, fun b _ _ => noA b, fun b z => absurd z (noA b), e0.funs, e0.frf, e0.tab⟩,
    rfl, e0.bare, Un.kept hk, ⟨_, x.toInCall.ns, fun i y v h1 h2 h3 => ?_⟩, fun y c h => ⟨_, x.cell y c h⟩, e0.hok.fresh (Nat.le_refl _), fun y c h => ?_, fun p hp => absurd (show p ∈ ([] : List (Addr × Obj)) from hp) (by simp), e0.hok.kept hk, ?_⟩
  · exact name_of_addr x.apart (PySem.mem_of_lookup h1) (PySem.mem_of_lookup h2)
  · have hy : scope.names.lookup y = some .cell ∨ scope.names.lookup y = some .free := hy
    rcases hy with hy | hy
    · exact cell_has hy
    · exact absurd rfl (S.nofree _ (PySem.mem_of_lookup hy))
  · exact Nat.le_of_lt (x.above y c (PySem.mem_of_lookup h))
  · have hi : i < vs.length := by
      unfold start at h2
      by_cases hi : i < vs.length
      · exact hi
      · rw [List.getElem?_append_right (by simpa using hi)] at h2
        rw [List.getElem?_replicate] at h2
        split at h2 <;> cases h2
    have ha : vs[i]? = some v := by
      unfold start at h2
      rw [List.getElem?_append_left (by simpa using hi), List.getElem?_map] at h2
      cases e : vs[i]? with
      | none => rw [e] at h2; cases h2
      | some a => rw [e] at h2; cases h2; rfl
    obtain ⟨u, hu, rv⟩ := r.get ha
    have hp : ps[i]? = some y := by
      rw [← S.pre, List.getElem?_take_of_lt (by omega)]; exact h1
    have ndP : ps.Nodup := by rw [← S.pre]; exact S.nd.sublist (List.take_sublist _ _)
    refine ⟨u, rv, ?_⟩
    rcases S.par y (List.mem_of_getElem? hp) with k | k
    · exact .inl ⟨k, bindL_get ndP hp hu k⟩
    · obtain ⟨c, e⟩ := cell_has (n := s.heap.objs.size + 1) k
      refine .inr ⟨.inl k, c, e, ?_⟩
      have q := x.cell y c e
      rw [bindC_get ndP hp hu (by show scope.names.lookup y ≠ _; rw [k]; decide)] at q
      exact q
  · exact e0.hok.fresh (Nat.le_of_lt (x.above y c (PySem.mem_of_lookup h)))
  · unfold start
    show _ = N.length
    rw [List.length_append, List.length_map, List.length_replicate]
    omega
theorem fn_of {CX : CXT} {P : Program} {w : World} {K : W.Frag} {mg : Str → Option Value} {base : Heap} {k : Nat} {f : Addr} {name qual : Str} {params : Arguments} {body : List Stmt} {scope : Scope} {dV kV doc pm cdv ct oc : Value} {an od : Option Addr}
    {osl : Array (Option Value)} {N ps : List Str} {sp : Sp} (lk : K.lookup f = some ⟨oc, od, .func (W.fnOf name qual params body scope dV kV doc pm an cdv ct), osl⟩) (hcd : W.codeIn K cdv qual = true) (S : FnScope N ps scope)
    (len : ∀ vs H Q E, sp vs H Q E → vs.length = ps.length)
    (hbody : ∀ (A : Around) (outer : List Env) (s : Shared) (H : Hp) (vs : List V) (Q : VK) (E : XK), Room k (A.deeper (envOfC qual scope s.heap.objs.size f cdv)) → sp vs H Q E →
      ∃ t, PSs (cxOf CX P w K mg base N qual scope f cdv A outer s H E) body t ∧ t { nx := fun _ H' => Q .non H', rt := Q } (start N vs) H) :
    FnOk P w K mg base CX (k + 1) f (W.fnOf name qual params body scope dV kV doc pm an cdv ct) ps sp := by
  refine ⟨len, fun A outer s H args us vs Q E hr e0 hb r hsp => ?_⟩
  have hl := len _ _ _ _ hsp
  have KX : K.In s.heap := e0.mod.kin.keeps fun b o e => (e0.bs b o e).1
  have lim : s.heap.NoLimit := e0.mod.nolimit.keeps fun b o e => (e0.bs b o e).1
  have hkind : ∀ y ∈ ps.zip us, scope.names.lookup y.1 = some .local ∨ (scope.names.lookup y.1 = some .cell ∧ ((cellsFrom (s.heap.objs.size + 1) scope.names []).lookup y.1).isSome = true) := fun ⟨n, v⟩ hy => by
    rcases S.par n (List.of_mem_zip hy).1 with q | q
    · exact .inl q
    · exact .inr ⟨q, W.cellsFrom_some _ _ _ (.inl q)⟩
  refine codeAny_call_function hr.depth (KX _ _ lk) rfl S.co S.gen rfl (W.codeRec_of KX hcd) (hb _ _ _ _ ?_)
  refine wpAny_newFunctionEnv_cells S.kind hkind fun env he s1 x => ?_
  subst he
  refine ⟨lim.keeps x.toInCall.keep, codeAny_func ?_⟩
  obtain ⟨t, ht, hq⟩ := hbody A outer s H vs Q E (hr.deeper _) hsp
  have I : Inv (cxOf CX P w K mg base N qual scope f cdv A outer s H E) [] (start N vs) H s1 := inv_start S hr.hd e0 hl r x
  refine wpAny_mono (ht [] s1 (start N vs) H _ I hq) (fun fl s' hs => ?_) fun e s' hs => hs
  have fin : ∀ {σ' : St} {H' : Hp} {v : V} {u : Value}, Inv (cxOf CX P w K mg base N qual scope f cdv A outer s H E) [] σ' H' s' → RelV v u → Q v H' → CE outer P w H s Q u s' :=
    fun {σ' H' v u} J rv q => ⟨v, H', J.os, J.bare, J.base, J.hok, rv, q⟩
  cases fl with
  | ret u =>
    obtain ⟨v, σ', H', J, rv, q⟩ := hs
    exact fin J rv q
  | next =>
    obtain ⟨σ', H', J, q⟩ := hs
    exact fin (v := V.non) (u := Value.none) J rfl q
  | brk =>
    obtain ⟨_, _, _, q⟩ := hs
    exact False.elim q
  | cont =>
    obtain ⟨_, _, _, q⟩ := hs
    exact False.elim q
end L2
namespace L2
open PySem PySem.Spec PyProof.Rows
variable [Tabs]
section
variable {X : Cx} {x : Str} {p pos : Pos} {e : Expr} {es : List Expr} {t : TA} {id T : String} {r : List V → Hp → VK → Prop}
def tCB (r : List V → Hp → VK → Prop) (t : TA) : TE := fun σ H Q => t σ H fun vs H1 => r vs H1 Q
theorem pe_callB (hc : CallR X (.builtin id) r) (hg : Gl X x) (hm : X.mg x = none) (hv : bootBuiltins x = some (.builtin id)) (ha : PA X (e :: es) t) (hn : x ≠ "__name__" := by decide) (hdb : (x == ("__debug__" : Str)) = false := by decide)
    (he : starEach (e :: es) X.env = (false, eval e X.env) :: starEach es X.env := by rfl) (hpl : (backTo pos (starEach es X.env)).any (·.1) = false := by rfl) : PE X (.Call (.Name x p) (e :: es) [] pos) (tCB r t) := by
  intro pins s σ H Q I h
  refine wpAny_Call_Name_kw (ld_blt I hg hm hv ?_ hn hdb)
  exact PyProof.Rows.callWith_builtin1 (thn (ha pos pins s σ H _ I h) fun us s1 ⟨vs, H1, I1, r1, q1⟩ => hc pins s1 σ H1 vs us Q I1 r1 q1) he hpl
theorem pe_callTy (hc : CallR X (.type T) r) (hg : Gl X x) (hm : X.mg x = none) (hv : bootBuiltins x = some (.type T)) (ha : PA X (e :: es) t) (hn : x ≠ "__name__" := by decide) (hdb : (x == ("__debug__" : Str)) = false := by decide)
    (he : starEach (e :: es) X.env = (false, eval e X.env) :: starEach es X.env := by rfl) (hpl : (backTo pos (starEach es X.env)).any (·.1) = false := by rfl) : PE X (.Call (.Name x p) (e :: es) [] pos) (tCB r t) := by
  intro pins s σ H Q I h
  refine wpAny_Call_Name_kw (ld_blt I hg hm hv ?_ hn hdb)
  exact PyProof.Rows.callWith_type1 (thn (ha pos pins s σ H _ I h) fun us s1 ⟨vs, H1, I1, r1, q1⟩ => hc pins s1 σ H1 vs us Q I1 r1 q1) he hpl
end
end L2
namespace HT
open PySem PyProof.Rows
section
open PySem.SeqAt
open PySem.AutoSeq1 (wpAny_loadPart')
open PySem.MeetsSeq PySem.MeetsSeq2 PySem.MeetsSeq3
end
section
variable {prog : Program} {w : World} {A : Around} {E : Value → Shared → Prop} {s : Shared}
theorem cat_tup {t b : Addr} {vs ws : List Value} {Q : Value → Shared → Prop} (ht : IsTup s.heap t vs.toArray) (hb : IsTup s.heap b ws.toArray) (hv : vs ≠ [])
    (h1 : ws = [] → Q (.ref t) s) (h2 : ws ≠ [] → Q (.ref s.heap.objs.size) { s with heap := s.heap.push { cls := .type "tuple", data := .seq (vs ++ ws).toArray } })
    (hsz : vs.length + ws.length ≤ sizeLine) : wpAny (model prog w) A (binaryOp .Add (.ref t) (.ref b)) Q E s := by
  obtain ⟨⟨cls, dd, data, sl⟩, ho, hc, n, hd⟩ := id ht
  obtain ⟨⟨cls2, dd2, data2, sl2⟩, ho2, hc2, n2, hd2⟩ := id hb
  simp only at hc hd hc2 hd2
  subst hc hd hc2 hd2
  have e : vs.toArray ++ ws.toArray = (vs ++ ws).toArray := by simp
  by_cases hw : ws = []
  · exact concat_meets ⟨_, ho, rfl⟩ ⟨_, ho2, rfl⟩ noFill_tuple_add seq_tuple_add PySem.F.slot_tuple_add PySem.F.entry_tuple_add (PySem.F.args_tuple_add_2 _ _)
      (tuple_addW1 t b vs.toArray ws.toArray n n2 dd dd2 sl sl2 (by simpa using hv) (by simp [hw])) ⟨ho, ho2, h1 hw⟩
  · refine concat_meets ⟨_, ho, rfl⟩ ⟨_, ho2, rfl⟩ noFill_tuple_add seq_tuple_add PySem.F.slot_tuple_add PySem.F.entry_tuple_add (PySem.F.args_tuple_add_2 _ _)
      (tuple_addW2 t b vs.toArray ws.toArray n n2 dd dd2 sl sl2 (by simpa using hv) (by simpa using hw) (by rw [List.size_toArray, List.size_toArray]; exact hsz)) ⟨ho, ho2, ?_⟩
    rw [e]
    exact h2 hw
def sIx (n d : Nat) : Option Int → Nat
  | none => d
  | some v => if v < 0 then (v + (n : Int)).toNat else min v.toNat n
theorem sIx_le (n d : Nat) (hd : d ≤ n) (o : Option Int) : sIx n d o ≤ n := by
  cases o with
  | none => exact hd
  | some v =>
    show (if v < 0 then (v + (n : Int)).toNat else min v.toNat n) ≤ n
    by_cases hv : v < 0
    · rw [if_pos hv]; omega
    · rw [if_neg hv]; exact Nat.min_le_right _ _
theorem clip_eq (v : Int) (n d : Nat) : (if v < 0 then max (v + (n : Int)) 0 else min v (n : Int)) = ((sIx n d (some v) : Nat) : Int) := by
  show (if v < 0 then max (v + (n : Int)) 0 else min v (n : Int)) = (((if v < 0 then (v + (n : Int)).toNat else min v.toNat n) : Nat) : Int)
  by_cases hv : v < 0
  · simp only [if_pos hv]; omega
  · simp only [if_neg hv]; omega
theorem adjust_gen (lo hi : Option Int) (n : Nat) : Builtin.Slice.sliceAdjust lo hi 1 (n : Int) = (((sIx n 0 lo : Nat) : Int), ((sIx n n hi : Nat) : Int)) := by
  have h1 : ¬ ((1 : Int) < 0) := by omega
  unfold Builtin.Slice.sliceAdjust
  simp only [h1, if_false]
  refine Prod.ext ?_ ?_
  · cases lo with
    | none => rfl
    | some v => exact clip_eq v n 0
  · cases hi with
    | none => rfl
    | some v => exact clip_eq v n n
theorem places_gen (i j : Nat) : Builtin.Slice.slicePlaces (i : Int) (j : Int) 1 = j - i := by
  unfold Builtin.Slice.slicePlaces
  have h1 : (1 : Int) > 0 := by omega
  simp only [h1, if_true, Int.ediv_one]
  split <;> omega
theorem slicePart_ {v : Value} {o : Option Int} {Q : Option Int → Shared → Prop} (p : IsPart v o) (h : Q o s) : wpAny (model prog w) A (Builtin.Slice.slicePartIndex v) Q E s := by
  cases p with
  | none => exact slicePart_none h
  | int i t => exact slicePart_int h
theorem sliceApplied_gen {sl : Addr} {vl vu : Value} {lo hi : Option Int} {n : Nat} {Q : Int × Int × Nat → Shared → Prop} (hs : s.heap.IsSliceOf sl vl vu .none) (pl : IsPart vl lo) (pu : IsPart vu hi)
    (h : Q (((sIx n 0 lo : Nat) : Int), 1, sIx n n hi - sIx n 0 lo) s) : wpAny (model prog w) A (Builtin.Slice.sliceApplied (.ref sl) (pure (n : Int))) Q E s := by
  obtain ⟨os, hos, hcs, hds⟩ := id hs
  unfold Builtin.Slice.sliceApplied Builtin.Slice.sliceFields
  refine wpAny_bind (wpAny_bind (wpAny_field hos hds (x := vl) rfl (wpAny_bind (wpAny_field hos hds (x := vu) rfl (wpAny_bind (wpAny_field hos hds (x := .none) rfl (wpAny_pure ?_)))))))
  refine wpAny_bind (slicePart_none ?_)
  show wpAny _ _ (if ((1 : Int) == 0) = true then _ else _) _ _ s
  rw [if_neg (by decide)]
  refine wpAny_bind (slicePart_ pl (wpAny_bind (slicePart_ pu (wpAny_bind (wpAny_pure ?_)))))
  show wpAny _ _ (match Builtin.Slice.sliceAdjust lo hi 1 (n : Int) with | (lo, hi) => pure (lo, (1 : Int), Builtin.Slice.slicePlaces lo hi 1)) _ _ s
  rw [adjust_gen lo hi n]
  show wpAny _ _ (pure (((sIx n 0 lo : Nat) : Int), (1 : Int), Builtin.Slice.slicePlaces ((sIx n 0 lo : Nat) : Int) ((sIx n n hi : Nat) : Int) 1)) _ _ s
  rw [places_gen]
  exact wpAny_pure h
theorem pick_gen (xs : Array Value) (i k : Nat) : ((List.range k).filterMap fun (m : Nat) => xs[((i : Int) + (m : Int) * 1).toNat]?).toArray = ((xs.toList.drop i).take k).toArray := by
  have e : (fun (m : Nat) => xs[((i : Int) + (m : Int) * 1).toNat]?) = fun m => xs[i + m]? := by
    funext m
    have : ((i : Int) + (m : Int) * 1).toNat = i + m := by omega
    rw [this]
  rw [e]
  have := pick_run xs i k
  rw [List.filterMap_map] at this
  have e2 : ((fun x => xs[x]?) ∘ fun x => i + x) = fun m => xs[i + m]? := rfl
  rw [e2] at this
  rw [this]
theorem getItem_tuple_cut {t sl : Addr} {items : Array Value} {vl vu : Value} {lo hi : Option Int} {Q : Value → Shared → Prop} (ht : IsTup s.heap t items) (hs : s.heap.IsSliceOf sl vl vu .none) (pl : IsPart vl lo) (pu : IsPart vu hi)
    (hw : ¬ (sIx items.size 0 lo = 0 ∧ sIx items.size items.size hi = items.size))
    (h : Q (.ref s.heap.objs.size) { s with heap := s.heap.push { cls := .type "tuple", data := .seq ((items.toList.drop (sIx items.size 0 lo)).take (sIx items.size items.size hi - sIx items.size 0 lo)).toArray } })
    (hsz : items.size ≤ sizeLine) : wpAny (model prog w) A (getItem (.ref t) (.ref sl)) Q E s := by
  have htake : sizeOk (.seq ((items.toList.drop (sIx items.size 0 lo)).take (sIx items.size items.size hi - sIx items.size 0 lo)).toArray) := by
    show ((items.toList.drop (sIx items.size 0 lo)).take (sIx items.size items.size hi - sIx items.size 0 lo)).toArray.size ≤ sizeLine
    rw [List.size_toArray, List.length_take, List.length_drop, Array.length_toList]
    omega
  have hj : sIx items.size items.size hi ≤ items.size := sIx_le _ _ (Nat.le_refl _) hi
  obtain ⟨os, hos, hcs, hds⟩ := id hs
  have hTs : s.TypeIs (.ref sl) "slice" := ⟨os, hos, hcs⟩
  unfold getItem
  try with_reducible refine wpAny_holding ?_
  first | refine wpAny_bind (wpAny_pure ?_) | skip
  refine wpAny_bind (wpAny_sequenceKey ht.typeIs (by decide) ?_)
  refine wpAny_bind (wpAny_callSpecial?_slot (name := Str.ofString "__getitem__") ht.typeIs PyProof.Rows.slot_tuple_getitem
    (wpAny_call_entry PyProof.Rows.slot_tuple_getitem ht.typeIs entry_tuple_getitem ?_ (args_tuple_getitem _ _)))
  show wpAny _ _ (Builtin.Tuple.tupleItemsOf (.ref t) >>= _) _ _ s
  refine wpAny_bind (tupleItemsOf_ ht ?_)
  refine wpAny_bind (wpAny_typeOf hTs ?_)
  rw [if_pos (by decide)]
  refine wpAny_bind (sliceApplied_gen hs pl pu ?_)
  have hno : ¬ ((((sIx items.size 0 lo : Nat) : Int) == 0 && (1 : Int) == 1 && (sIx items.size items.size hi - sIx items.size 0 lo) == items.size) = true) := by
    intro q
    rw [Bool.and_eq_true, Bool.and_eq_true] at q
    have q1 : ((sIx items.size 0 lo : Nat) : Int) = 0 := eq_of_beq q.1.1
    have q2 : sIx items.size items.size hi - sIx items.size 0 lo = items.size := eq_of_beq q.2
    exact hw ⟨by omega, by omega⟩
  show wpAny _ _ (if (((sIx items.size 0 lo : Nat) : Int) == 0 && (1 : Int) == 1 && (sIx items.size items.size hi - sIx items.size 0 lo) == items.size) = true then _ else _) _ _ s
  rw [if_neg hno, pick_gen]
  first
    | exact wpAny_bind (m := Builtin.Tuple.tupleExact _) (wpAny_newObj_type (wpAny_pure ⟨_, rfl, wpAny_pure h⟩) htake)
    | exact wpAny_bind (m := Builtin.Tuple.tupleExact _) (wpAny_newObj_type (wpAny_bind (wpAny_pure (wpAny_pure ⟨_, rfl, wpAny_pure h⟩))) htake)
    | exact wpAny_bind (wpAny_bind (m := Builtin.Tuple.tupleExact _) (wpAny_newObj_type (wpAny_pure (wpAny_pure ⟨_, rfl, wpAny_pure h⟩)) htake))
    | exact wpAny_bind (wpAny_bind (m := Builtin.Tuple.tupleExact _) (wpAny_newObj_type (wpAny_pure ⟨_, rfl, wpAny_pure h⟩) htake))
end
end HT
namespace L2
open PySem PySem.Spec PyProof.Rows
variable [Tabs]
abbrev TO := St → Hp → (Option Int → Hp → Prop) → Prop
def PO (X : Cx) (e : Option Expr) (t : TO) : Prop :=
  ∀ (pins : List (Addr × Obj)) (s : Shared) (σ : St) (H : Hp) (Q : Option Int → Hp → Prop), Inv X pins σ H s → t σ H Q →
    wpAny (model X.prog X.w) X.A (evalPart e X.env) (fun u s' => ∃ o H', Inv X pins σ H' s' ∧ IsPart u o ∧ Q o H') X.xe s
def tNoPart : TO := fun _ H Q => Q none H
def tPart (t : TE) : TO := fun σ H Q => t σ H fun x H1 => ∃ i, x = .int i ∧ Q (some i) H1
section
variable {X : Cx} {e : Expr} {te : TE} {lo hi : Option Expr} {tl th : TO} {pos p2 : Pos}
theorem po_none : PO X none tNoPart := by
  intro pins s σ H Q I h
  rw [evalPart_none]
  exact wpAny_pure ⟨none, H, I, .none, h⟩
theorem po_some (h : PE X e te) : PO X (some e) (tPart te) := by
  intro pins s σ H Q I hw
  rw [evalPart_some]
  refine thn (h pins s σ H _ I hw) fun u s1 ⟨x, H1, I1, r1, q1⟩ => ?_
  obtain ⟨i, rfl, q⟩ := q1
  obtain ⟨t, rfl⟩ := r1
  exact ⟨some i, H1, I1, .int i t, q⟩
def SlR (X : Cx) (r : V → Option Int → Option Int → Hp → VK → Prop) : Prop :=
  ∀ (pins : List (Addr × Obj)) (s : Shared) (σ : St) (H : Hp) (x : V) (v vl vu : Value) (lo hi : Option Int) (sl : Addr) (Q : VK), Inv X pins σ H s → RelV x v → s.heap.IsSliceOf sl vl vu .none → IsPart vl lo → IsPart vu hi → r x lo hi H Q →
    ∃ T id, typeLookup (.type T) "__getitem__" = pure (some (.builtin id)) ∧ s.TypeIs v T ∧ wpAny (model X.prog X.w) X.A (getItem v (.ref sl)) (EP X pins σ Q) X.xe s
theorem SlR.or {r r' : V → Option Int → Option Int → Hp → VK → Prop} (h : SlR X r) (h' : SlR X r') : SlR X (fun x lo hi H Q => r x lo hi H Q ∨ r' x lo hi H Q) := by
  intro pins s σ H x v vl vu lo hi sl Q I rx hs pl pu q
  rcases q with q | q
  · exact h pins s σ H x v vl vu lo hi sl Q I rx hs pl pu q
  · exact h' pins s σ H x v vl vu lo hi sl Q I rx hs pl pu q
def tSl (r : V → Option Int → Option Int → Hp → VK → Prop) (te : TE) (tl th : TO) : TE := fun σ H Q => te σ H fun x H1 => tl σ H1 fun l H2 => th σ H2 fun u H3 => r x l u H3 Q
theorem pe_slice {r : V → Option Int → Option Int → Hp → VK → Prop} (hr : SlR X r) (he : PE X e te) (hl : PO X lo tl) (hu : PO X hi th) : PE X (.Subscript e (.Slice lo hi none p2) pos) (tSl r te tl th) := by
  intro pins s σ H Q I h
  refine Subscript_ (thn (he pins s σ H _ I h) fun v s1 ⟨x, H1, I1, r1, q1⟩ => ?_)
  refine wpAny_Slice (thn (hl pins s1 σ H1 _ I1 q1) fun vl s2 ⟨l, H2, I2, pl, q2⟩ => thn (hu pins s2 σ H2 _ I2 q2) fun vu s3 ⟨u, H3, I3, pu, q3⟩ => ?_)
  rw [evalPart_none]
  refine wpAny_pure ?_
  have I4 : Inv X pins σ H3 { s3 with heap := s3.heap.push { cls := .type "slice", data := .fields #[vl, vu, .none] } } := I3.kept (t' := s3.toks) fun b ob q => Heap.get?_push_of_some _ q
  obtain ⟨T, id, hT, ht, hg⟩ := hr pins { s3 with heap := s3.heap.push { cls := .type "slice", data := .fields #[vl, vu, .none] } } σ H3 x v vl vu l u s3.heap.objs.size Q I4 r1 (Heap.IsSliceOf.new ..) pl pu q3
  show wpAny (model X.prog X.w) X.A (subscriptTail e (.Slice lo hi none p2) v (.ref s3.heap.objs.size)) (EP X pins σ Q) X.xe { s3 with heap := s3.heap.push { cls := .type "slice", data := .fields #[vl, vu, .none] } }
  exact tail_any (ops := [.ref s3.heap.objs.size, v]) ht hT hg (by with_unfolding_all rfl)
def cutV (xs : List V) (lo hi : Option Int) : List V := (xs.drop (HT.sIx xs.length 0 lo)).take (HT.sIx xs.length xs.length hi - HT.sIx xs.length 0 lo)
theorem cutV_length (xs : List V) (lo hi : Option Int) : (cutV xs lo hi).length ≤ xs.length := by
  unfold cutV
  rw [List.length_take, List.length_drop]
  omega
def rSlT (K : W.Frag) : V → Option Int → Option Int → Hp → VK → Prop := fun x lo hi H Q => ∃ a xs, x = .ref a ∧ SqT K H a xs ∧
  ¬ (HT.sIx xs.length 0 lo = 0 ∧ HT.sIx xs.length xs.length hi = xs.length) ∧ ∀ p, H p = none → Q (.ref p) (upd H p (.tup (cutV xs lo hi)))
theorem sl_tup : SlR X (rSlT X.K) := by
  intro pins s σ H x v vl vu lo hi sl Q I rx hs pl pu h
  obtain ⟨a, xs, rfl, hx, hw, q⟩ := h
  cases rx
  obtain ⟨its, r, ht, hz⟩ := I.tuple hx
  have hlen : its.toArray.size = xs.length := by rw [List.size_toArray]; exact r.length.symm
  refine ⟨"tuple", _, PyProof.Rows.slot_tuple_getitem.lookup, ht.typeIs, ?_⟩
  refine HT.getItem_tuple_cut ht hs pl pu (by rw [hlen]; exact hw) ?_ (by rw [hlen]; exact hz)
  rw [hlen]
  refine ⟨.ref s.heap.objs.size, _, I.laid (t' := s.toks) (o := .tup (cutV xs lo hi)) (fun b ob q => Heap.get?_push_of_some _ q) (Nat.le_refl _) ?_, rfl, q _ (I.hok.fresh (Nat.le_refl _))⟩
  exact ⟨Nat.le_trans (cutV_length xs lo hi) hz, _, (r.drop (HT.sIx xs.length 0 lo)).take (HT.sIx xs.length xs.length hi - HT.sIx xs.length 0 lo), ITup.new _ _⟩
def rCatT (K : W.Frag) : R2 := fun x y H Q => ∃ a b xs ys, x = .ref a ∧ y = .ref b ∧ SqT K H a xs ∧ SqT K H b ys ∧ xs ≠ [] ∧ xs.length + ys.length ≤ sizeLine ∧
  (ys = [] → Q (.ref a) H) ∧ (ys ≠ [] → ∀ p, H p = none → Q (.ref p) (upd H p (.tup (xs ++ ys))))
theorem Vals.nil_iff {xs : List V} {us : List Value} (r : Vals xs us) : us = [] ↔ xs = [] := by
  cases r with
  | nil => simp
  | cons _ _ => simp
theorem op_catT : OpR X (binaryOp .Add) (rCatT X.K) := by
  intro pins s σ H x y v u Q I rx ry h
  obtain ⟨a, b, xs, ys, rfl, rfl, ha, hb, hx, hz, q1, q2⟩ := h
  cases rx
  cases ry
  obtain ⟨its, r1, p1, _⟩ := I.tuple ha
  obtain ⟨its2, r2, p2, _⟩ := I.tuple hb
  refine HT.cat_tup p1 p2 (fun z => hx (r1.nil_iff.mp z)) (fun z => ⟨.ref a, H, I, rfl, q1 (r2.nil_iff.mp z)⟩) (fun z => ?_) (by rw [← r1.length, ← r2.length]; exact hz)
  refine ⟨.ref s.heap.objs.size, _, I.laid (t' := s.toks) (o := .tup (xs ++ ys)) (fun b ob q => Heap.get?_push_of_some _ q) (Nat.le_refl _) ?_, rfl, q2 (fun w => z (r2.nil_iff.mpr w)) _ (I.hok.fresh (Nat.le_refl _))⟩
  exact ⟨by rw [List.length_append]; exact hz, _, r1.append r2, ITup.new _ _⟩
end
end L2
namespace L2
open PySem PySem.Spec PyProof.Rows
variable [Tabs]
def ixN (n : Nat) (i : Int) : Option Nat := if 0 ≤ i then (if i < n then some i.toNat else none) else if -(n : Int) ≤ i then some (i + n).toNat else none
def atI {α : Type} (xs : List α) (i : Int) : Option α := (ixN xs.length i).bind fun j => xs[j]?
theorem ixN_seq {n : Nat} {i : Int} {j : Nat} (h : ixN n i = some j) : seqIndex? i n = some j ∧ j < n ∧ -(n : Int) ≤ i ∧ i < n := by
  unfold ixN at h
  by_cases h0 : 0 ≤ i
  · rw [if_pos h0] at h
    by_cases h1 : i < n
    · rw [if_pos h1] at h
      have e : i.toNat = j := Option.some.inj h
      exact ⟨by rw [seqIndex_of h0 h1, e], by omega, by omega, h1⟩
    · rw [if_neg h1] at h; cases h
  · rw [if_neg h0] at h
    by_cases h1 : -(n : Int) ≤ i
    · rw [if_pos h1] at h
      have e : (i + n).toNat = j := Option.some.inj h
      exact ⟨by rw [seqIndex_neg (by omega) h1, e], by omega, h1, by omega⟩
    · rw [if_neg h1] at h; cases h
theorem atI_get {α : Type} {xs : List α} {i : Int} {v : α} (h : atI xs i = some v) : ∃ j, seqIndex? i xs.length = some j ∧ xs[j]? = some v ∧ j < xs.length ∧ -(xs.length : Int) ≤ i ∧ i < xs.length := by
  unfold atI at h
  cases e : ixN xs.length i with
  | none => rw [e] at h; cases h
  | some j =>
    rw [e] at h
    obtain ⟨h1, h2, h3, h4⟩ := ixN_seq e
    exact ⟨j, h1, h, h2, h3, h4⟩
theorem atI_nat {α : Type} {xs : List α} {j : Nat} {v : α} (h : xs[j]? = some v) : atI xs (j : Int) = some v := by
  have hj : j < xs.length := (List.getElem?_eq_some_iff.mp h).1
  have e : ixN xs.length (j : Int) = some j := by
    unfold ixN
    rw [if_pos (by omega), if_pos (by omega)]; simp
  unfold atI; rw [e]; exact h
def PlainIx (b : Expr) : Prop := ∀ o i, subscripted b false o i = operate [o, i] (getItem o i)
def IxR (X : Cx) (r : R2) : Prop :=
  ∀ (value slice : Expr) (pins : List (Addr × Obj)) (s : Shared) (σ : St) (H : Hp) (x y : V) (v u : Value) (Q : VK), Inv X pins σ H s → RelV x v → RelV y u → r x y H Q →
    subscripted slice false v u = operate [v, u] (getItem v u) → wpAny (model X.prog X.w) X.A (subscriptTail value slice v u) (EP X pins σ Q) X.xe s
def MtR (X : Cx) (id : String) (r : V → List V → Hp → VK → Prop) : Prop :=
  ∀ (pins : List (Addr × Obj)) (s : Shared) (σ : St) (H : Hp) (x : V) (xs : List V) (v : Value) (us : List Value) (Q : VK), Inv X pins σ H s → RelV x v → Vals xs us → r x xs H Q →
    wpAny (model X.prog X.w) X.A (call (.builtin id) (v :: us)) (EP X pins σ Q) X.xe s
section
variable {X : Cx} {a b : Expr} {ta tb : TE} {pos : Pos}
def rIxL (K : W.Frag) : R2 := fun x y H Q => ∃ p xs i v, x = .ref p ∧ y = .int i ∧ SqL K H p xs ∧ atI xs i = some v ∧ Q v H
def rIxT (K : W.Frag) : R2 := fun x y H Q => ∃ p xs i v, x = .ref p ∧ y = .int i ∧ SqT K H p xs ∧ atI xs i = some v ∧ Q v H
def rIxS : R2 := fun x y H Q => ∃ z i c, x = .str z ∧ y = .int i ∧ z.length ≤ sizeLine ∧ atI z.cps.toList i = some c ∧ Q (.str ⟨#[c]⟩) H
theorem ix_list : IxR X (rIxL X.K) := by
  intro value slice pins s σ H x y v u Q I rx ry h hs
  obtain ⟨p, xs, i, z, rfl, rfl, hq, he, q⟩ := h
  cases rx
  obtain ⟨t, rfl⟩ := ry
  obtain ⟨its, r, pl, hz⟩ := I.list hq
  obtain ⟨j, h1, h2, h3, h4, h5⟩ := atI_get he
  obtain ⟨w, ew, rw'⟩ := r.get h2
  have hl := r.length
  have hn := line63
  have fin : EP X pins σ Q w s := ⟨z, H, I, rw', q⟩
  by_cases h0 : 0 ≤ i
  · have hj : i.toNat = j := by
      rw [seqIndex_of h0 h5] at h1
      exact Option.some.inj h1
    exact item_listR pl.isList h0 (by omega) (by rw [hj]; simpa using ew) fin hs
  · have hj : (i + (its.toArray.size : Int)).toNat = j := by
      rw [seqIndex_neg (by omega) h4] at h1
      rw [List.size_toArray, ← hl]
      exact Option.some.inj h1
    exact subscriptTail_builtinR (x := w) pl.isList.typeIs slot_list_getitem.lookup
      (wpAny_getItem_list_neg (Q := fun r s' => r = w ∧ EP X pins σ Q r s') pl.isList (by omega) (by rw [List.size_toArray] <;> omega) (by omega) (by rw [hj]; simpa using ew) ⟨rfl, fin⟩) hs
theorem ix_tup : IxR X (rIxT X.K) := by
  intro value slice pins s σ H x y v u Q I rx ry h hs
  obtain ⟨p, xs, i, z, rfl, rfl, hq, he, q⟩ := h
  cases rx
  obtain ⟨t, rfl⟩ := ry
  obtain ⟨its, r, pl, hz⟩ := I.tuple hq
  obtain ⟨j, h1, h2, h3, h4, h5⟩ := atI_get he
  obtain ⟨w, ew, rw'⟩ := r.get h2
  have hl := r.length
  have hn := line63
  have fin : EP X pins σ Q w s := ⟨z, H, I, rw', q⟩
  exact subscriptTail_builtinR (x := w) pl.typeIs slot_tuple_getitem.lookup
    (getItem_tuple (j := j) (Q := fun r s' => r = w ∧ EP X pins σ Q r s') pl (by omega) (by omega) (by rw [List.size_toArray, ← hl]; exact h1) (by simpa using ew) ⟨rfl, fin⟩) hs
theorem ix_str : IxR X rIxS := by
  intro value slice pins s σ H x y v u Q I rx ry h hs
  obtain ⟨z, i, c, rfl, rfl, hz, he, q⟩ := h
  obtain ⟨t, rfl⟩ := rx
  obtain ⟨t', rfl⟩ := ry
  obtain ⟨j, h1, h2, h3, h4, h5⟩ := atI_get he
  have hl : z.cps.toList.length = z.length := by simp [Str.length]
  rw [hl] at h1 h4 h5
  have hn := line63
  exact tail_any (typeIs_str s z t) slot_str_getitem.lookup (getItem_str (c := c) (by
    have e1 : decide (i < -(2 ^ 63 : Int)) = false := decide_eq_false (by omega)
    have e2 : decide (i ≥ 2 ^ 63) = false := decide_eq_false (by omega)
    rw [e1, e2, Bool.or_false]) (by rw [h1]; simpa using h2) ⟨.str ⟨#[c]⟩, H, I.tok _, ⟨_, rfl⟩, q⟩) hs
theorem mapSeq_set (its : List Value) (n j : Nat) (u : Value) : Obj.mapSeq (·.setIfInBounds j u) { cls := .type "list", data := .seq its.toArray n } = { cls := .type "list", data := .seq (its.set j u).toArray n } := by
  simp [Obj.mapSeq]
theorem Inv.lst {pins : List (Addr × Obj)} {σ : St} {H : Hp} {s : Shared} {p : Addr} {xs : List V} (I : Inv X pins σ H s) (h : H p = some (.lst xs)) :
    ∃ (its : List Value) (n : Nat), Vals xs its ∧ s.heap.get? p = some { cls := .type "list", data := .seq its.toArray n } ∧ xs.length ≤ sizeLine := by
  obtain ⟨z, its, n, r, e⟩ := I.hok p _ h
  exact ⟨its, n, r, e, z⟩
theorem Inv.lstUpd {pins : List (Addr × Obj)} {σ : St} {H : Hp} {s : Shared} {p : Addr} {xs ys : List V} {its its' : List Value} {n n' : Nat} {f : Obj → Obj} (I : Inv X pins σ H s) (h : H p = some (.lst xs))
    (ho : s.heap.get? p = some { cls := .type "list", data := .seq its.toArray n }) (hf : f { cls := .type "list", data := .seq its.toArray n } = { cls := .type "list", data := .seq its'.toArray n' }) (r : Vals ys its') (hz : ys.length ≤ sizeLine) (t : Nat) :
    Inv X pins σ (upd H p (.lst ys)) { s with heap := s.heap.update p f, toks := t } := by
  have e : (s.heap.update p f).get? p = some { cls := .type "list", data := .seq its'.toArray n' } := by
    rw [Heap.get?_update_self f ho (by rw [hf] <;> rfl), hf]
  refine I.write (x := p) (e := p) (by rw [h]; trivial) (.inl rfl) (fun b u hb q => (Heap.get?_update_other _ _ (Ne.symm hb)).trans q) ⟨_, e⟩ ?_
  exact ⟨hz, its', n', r, e⟩
def rSetL : V → V → V → Hp → (Hp → Prop) → Prop := fun o i v H Q => ∃ p xs k j, o = .ref p ∧ i = .int k ∧ H p = some (.lst xs) ∧ ixN xs.length k = some j ∧ Q (upd H p (.lst (xs.set j v)))
theorem set_list : PSet X rSetL := by
  intro pins s σ H o i v ov iv u Q I ro ri rv h
  obtain ⟨p, xs, k, j, rfl, rfl, hp, hj, q⟩ := h
  cases ro
  obtain ⟨t, rfl⟩ := ri
  obtain ⟨its, n, r, ho, hz⟩ := I.lst hp
  obtain ⟨h1, h2, h3, h4⟩ := ixN_seq hj
  have hl := r.length
  have hn := line63
  have I' : Inv X pins σ (upd H p (.lst (xs.set j v))) { s with heap := s.heap.update p (Obj.mapSeq (·.setIfInBounds j u)) } :=
    I.lstUpd hp ho (mapSeq_set its n j u) (r.set rv j) (by rw [List.length_set]; exact hz) s.toks
  by_cases h0 : 0 ≤ k
  · have hk : k.toNat = j := by
      rw [seqIndex_of h0 h4] at h1
      exact Option.some.inj h1
    exact W.ki_setAt ho h0 (by omega) (by rw [List.size_toArray, ← hl]; exact h4) (by rw [hk]; exact ⟨_, I', q⟩)
  · have hk : (k + (its.toArray.size : Int)).toNat = j := by
      rw [seqIndex_neg (by omega) h3] at h1
      rw [List.size_toArray, ← hl]
      exact Option.some.inj h1
    exact W.ki_setBack ho (by omega) (by rw [List.size_toArray, ← hl]; exact h3) (by omega) (by rw [hk]; exact ⟨_, I', q⟩)
theorem slice_bounds (lo hi : Option Int) (n : Nat) : (sliceBounds lo hi none n).1 = ((HT.sIx n 0 lo : Nat) : Int) ∧ (sliceBounds lo hi none n).2.1 = ((HT.sIx n n hi : Nat) : Int) ∧ (sliceBounds lo hi none n).2.2 = 1 := by
  refine ⟨?_, ?_, rfl⟩
  · cases lo with
    | none => simp [sliceBounds, HT.sIx]
    | some i =>
      simp only [sliceBounds, HT.sIx, Option.getD_none, show (1 : Int) > 0 by decide, if_true]
      by_cases h : i < 0
      · simp only [h, if_true] <;> omega
      · simp only [h, if_false] <;> omega
  · cases hi with
    | none => simp [sliceBounds, HT.sIx]
    | some i =>
      simp only [sliceBounds, HT.sIx, Option.getD_none, show (1 : Int) > 0 by decide, if_true]
      by_cases h : i < 0
      · simp only [h, if_true] <;> omega
      · simp only [h, if_false] <;> omega
theorem slicePick_cut (its : List Value) (lo hi : Option Int) : slicePick its.toArray lo hi none = ((its.drop (HT.sIx its.length 0 lo)).take (HT.sIx its.length its.length hi - HT.sIx its.length 0 lo)).toArray := by
  obtain ⟨h1, h2, h3⟩ := slice_bounds lo hi its.toArray.size
  unfold slicePick
  rw [h1, h2, h3]
  simp only [sliceRange_one, pick_run, List.size_toArray] <;> rfl
def rSlL (K : W.Frag) : V → Option Int → Option Int → Hp → VK → Prop := fun x lo hi H Q => ∃ a xs, x = .ref a ∧ SqL K H a xs ∧ ∀ p, H p = none → Q (.ref p) (upd H p (.lst (cutV xs lo hi)))
theorem sl_list : SlR X (rSlL X.K) := by
  intro pins s σ H x v vl vu lo hi sl Q I rx hs pl pu h
  obtain ⟨a, xs, rfl, hx, q⟩ := h
  cases rx
  obtain ⟨its, r, ht, hz⟩ := I.list hx
  have hlen := r.length
  refine ⟨"list", _, slot_list_getitem.lookup, ht.isList.typeIs, ?_⟩
  refine wpAny_getItem_list_slice ht.isList hs pl pu .none (by simp) ?_ (by rw [List.size_toArray] <;> omega)
  rw [slicePick_cut, ← hlen]
  refine ⟨.ref s.heap.objs.size, _, I.laid (t' := s.toks) (o := .lst (cutV xs lo hi)) (fun b ob q => Heap.get?_push_of_some _ q) (Nat.le_refl _) ?_, rfl, q _ (I.hok.fresh (Nat.le_refl _))⟩
  exact ⟨Nat.le_trans (cutV_length xs lo hi) hz, _, 0, (r.drop (HT.sIx xs.length 0 lo)).take (HT.sIx xs.length xs.length hi - HT.sIx xs.length 0 lo), Heap.get?_push_size _ rfl⟩
def flatV : V → Bool
  | .non => true
  | .bl _ => true
  | .int _ => true
  | .str _ => true
  | _ => false
def eqV : V → V → Bool
  | .non, .non => true
  | .bl a, .bl b => a == b
  | .bl a, .int b => (if a then 1 else 0) == b
  | .int a, .bl b => a == (if b then 1 else 0)
  | .int a, .int b => a == b
  | .str a, .str b => a == b
  | _, _ => false
theorem eqAt_V {A : Around} {s : Shared} {y x : V} {u v : Value} (ry : RelV y u) (rx : RelV x v) (fy : flatV y = true) (fx : flatV x = true) : SeqAt.EqAt A s u v (eqV y x) := by
  cases y with
  | non =>
    cases ry
    cases x with
    | non => cases rx; exact SeqAt.EqAt.same _
    | bl b => cases rx; exact SeqAt.EqAt.none_bool b
    | int b => obtain ⟨t, rfl⟩ := rx; exact SeqAt.EqAt.none_int b t
    | str b => obtain ⟨t, rfl⟩ := rx; exact SeqAt.EqAt.none_str b t
    | _ => exact absurd (show false = true from fx) Bool.false_ne_true
  | bl a =>
    cases ry
    cases x with
    | non => cases rx; exact SeqAt.EqAt.bool_none a
    | bl b => cases rx; exact SeqAt.EqAt.bool_bool a b
    | int b => obtain ⟨t, rfl⟩ := rx; exact SeqAt.EqAt.bool_int a b t
    | str b => obtain ⟨t, rfl⟩ := rx; exact SeqAt.EqAt.bool_str a b t
    | _ => exact absurd (show false = true from fx) Bool.false_ne_true
  | int a =>
    obtain ⟨t', rfl⟩ := ry
    cases x with
    | non => cases rx; exact SeqAt.EqAt.int_none a t'
    | bl b => cases rx; exact SeqAt.EqAt.int_bool a t' b
    | int b => obtain ⟨t, rfl⟩ := rx; exact SeqAt.EqAt.int_int a t' b t
    | str b => obtain ⟨t, rfl⟩ := rx; exact SeqAt.EqAt.int_str a t' b t
    | _ => exact absurd (show false = true from fx) Bool.false_ne_true
  | str a =>
    obtain ⟨t', rfl⟩ := ry
    cases x with
    | non => cases rx; exact SeqAt.EqAt.str_none a t'
    | bl b => cases rx; exact SeqAt.EqAt.str_bool a t' b
    | int b => obtain ⟨t, rfl⟩ := rx; exact SeqAt.EqAt.str_int a t' b t
    | str b => obtain ⟨t, rfl⟩ := rx; exact SeqAt.EqAt.str_str a t' b t
    | _ => exact absurd (show false = true from fx) Bool.false_ne_true
  | _ => exact absurd (show false = true from fy) Bool.false_ne_true
def eqU (x : V) (u : Value) : Bool := match u with
  | .none => eqV .non x
  | .bool b => eqV (.bl b) x
  | .int i _ => eqV (.int i) x
  | .str z _ => eqV (.str z) x
  | _ => false
theorem eqU_of {x y : V} {u : Value} (r : RelV y u) (f : flatV y = true) : eqU x u = eqV y x := by
  cases y with
  | non => cases r; rfl
  | bl b => cases r; rfl
  | int i => obtain ⟨t, rfl⟩ := r; rfl
  | str z => obtain ⟨t, rfl⟩ := r; rfl
  | _ => exact absurd (show false = true from f) Bool.false_ne_true
theorem any_eqU {x : V} : ∀ {xs : List V} {us : List Value}, Vals xs us → xs.all flatV = true → us.any (eqU x) = xs.any fun y => eqV y x
  | _, _, .nil, _ => rfl
  | y :: xs, u :: us, .cons r t, f => by
    rw [List.all_cons, Bool.and_eq_true] at f
    rw [List.any_cons, List.any_cons, eqU_of r f.1, any_eqU t f.2]
theorem mem_eqAt {A : Around} {s : Shared} {x : V} {v : Value} (rx : RelV x v) (fx : flatV x = true) : ∀ {xs : List V} {us : List Value}, Vals xs us → xs.all flatV = true → ∀ u ∈ us, SeqAt.EqAt A s u v (eqU x u)
  | _, _, .nil, _ => fun u hu => by cases hu
  | y :: xs, u :: us, .cons r t, f => fun u' hu => by
    rw [List.all_cons, Bool.and_eq_true] at f
    rcases List.mem_cons.mp hu with rfl | hu
    · rw [eqU_of r f.1]; exact eqAt_V r rx f.1 fx
    · exact mem_eqAt rx fx t f.2 u' hu
def inV (x : V) (xs : List V) : Bool := xs.any fun y => eqV y x
def rIn (K : W.Frag) (neg : Bool) : R2 := fun x y H Q => ∃ p xs, y = .ref p ∧ (SqL K H p xs ∨ SqT K H p xs) ∧ flatV x = true ∧ xs.all flatV = true ∧ Q (.bl (if neg then !inV x xs else inV x xs)) H
theorem op_in_seq : OpR X (compareOp .In) (rIn X.K false) := by
  intro pins s σ H x y v u Q I rx ry h
  obtain ⟨p, xs, rfl, hq, fx, fs, q⟩ := h
  cases ry
  rcases hq with hq | hq
  · obtain ⟨its, r, pl, hz⟩ := I.list hq
    refine SeqAt.in_listAt (eqU x) pl.isList (fun w hw => mem_eqAt rx fx r fs w (by simpa using hw)) ⟨.bl _, H, I, rfl, ?_⟩
    rw [show its.toArray.any (eqU x) = its.any (eqU x) by simp, any_eqU r fs]
    exact q
  · obtain ⟨its, r, pl, hz⟩ := I.tuple hq
    refine SeqAt.in_tupleAt (eqU x) pl (fun w hw => mem_eqAt rx fx r fs w (by simpa using hw)) ⟨.bl _, H, I, rfl, ?_⟩
    rw [show its.toArray.any (eqU x) = its.any (eqU x) by simp, any_eqU r fs]
    exact q
theorem call_len_seq : CallR X (.builtin "len") (fun xs H Q => ∃ p ys, xs = [.ref p] ∧ (SqL X.K H p ys ∨ SqT X.K H p ys) ∧ Q (.int ys.length) H) := by
  intro pins s σ H xs us Q I r h
  obtain ⟨p, ys, rfl, hq, q⟩ := h
  obtain ⟨u, rfl, rx⟩ := vals1 r
  cases rx
  have hn := line63
  rcases hq with hq | hq
  · obtain ⟨its, r', pl, hz⟩ := I.list hq
    have hlen := r'.length
    exact Calls.call_len_list pl.isList (by simp only [List.size_toArray] <;> omega) ⟨.int ys.length, H, I.tok _, ⟨s.toks + 1, by rw [List.size_toArray, hlen]⟩, q⟩
  · obtain ⟨its, r', pl, hz⟩ := I.tuple hq
    have hlen := r'.length
    exact len_tuple pl (by simp only [List.size_toArray] <;> omega) ⟨.int ys.length, H, I.tok _, ⟨s.toks + 1, by rw [List.size_toArray, hlen]⟩, q⟩
theorem call_len_str : CallR X (.builtin "len") (fun xs H Q => ∃ z, xs = [.str z] ∧ z.length ≤ sizeLine ∧ Q (.int z.length) H) := by
  intro pins s σ H xs us Q I r h
  obtain ⟨z, rfl, hz, q⟩ := h
  obtain ⟨u, rfl, t, rfl⟩ := vals1 r
  have hn := line63
  exact len_str (by omega) ⟨.int z.length, H, I.tok _, ⟨_, rfl⟩, q⟩
theorem call_list_of : CallR X (.type "list") (fun xs H Q => ∃ p ys, xs = [.ref p] ∧ (SqL X.K H p ys ∨ SqT X.K H p ys) ∧ ∀ l, H l = none → Q (.ref l) (upd H l (.lst ys))) := by
  intro pins s σ H xs us Q I r h
  obtain ⟨p, ys, rfl, hq, q⟩ := h
  obtain ⟨u, rfl, rx⟩ := vals1 r
  cases rx
  have fin : ∀ (its : List Value), Vals ys its → ys.length ≤ sizeLine → ∀ (h' : Heap) (c' : Nat), (∀ b o', s.heap.get? b = some o' → h'.get? b = some o') →
      h'.get? s.heap.objs.size = some { cls := .type "list", dict := none, data := .seq its.toArray c', slots := #[] } → EP X pins σ Q (.ref s.heap.objs.size) { s with heap := h' } := fun its r' hz h' c' kp e =>
    ⟨.ref s.heap.objs.size, _, I.laid (t' := s.toks) kp (Nat.le_refl _) (show ObjOk X.prog X.w _ h' _ (.lst ys) from ⟨hz, its, c', r', e⟩), rfl, q _ (I.hok.fresh (Nat.le_refl _))⟩
  rcases hq with hq | hq
  · obtain ⟨its, r', pl, hz⟩ := I.list hq
    have hlen := r'.length
    obtain ⟨o, ho, hc, n, hd⟩ := pl.isList
    exact call_list_seq p (.inl rfl) ho hc hd (fun h' c' kp e => fin its r' hz h' c' kp e) (by simp only [List.size_toArray] <;> omega)
  · obtain ⟨its, r', pl, hz⟩ := I.tuple hq
    have hlen := r'.length
    obtain ⟨o, ho, hc, n, hd⟩ := pl
    exact call_list_seq p (.inr rfl) ho hc hd (fun h' c' kp e => fin its r' hz h' c' kp e) (by simp only [List.size_toArray] <;> omega)
theorem call_tuple_of : CallR X (.type "tuple") (fun xs H Q => ∃ p ys, xs = [.ref p] ∧ ((SqL X.K H p ys ∧ ∀ l, H l = none → Q (.ref l) (upd H l (.tup ys))) ∨ (SqT X.K H p ys ∧ Q (.ref p) H))) := by
  intro pins s σ H xs us Q I r h
  obtain ⟨p, ys, rfl, h⟩ := h
  obtain ⟨u, rfl, rx⟩ := vals1 r
  cases rx
  rcases h with ⟨hq, q⟩ | ⟨hq, q⟩
  · obtain ⟨its, r', pl, hz⟩ := I.list hq
    have hlen := r'.length
    refine call_tuple_list pl.isList (fun h' kp => ?_) (by simp only [List.size_toArray] <;> omega)
    have I1 : Inv X pins σ H { s with heap := h' } := I.kept (t' := s.toks) kp
    have I2 : Inv X pins σ (upd H h'.objs.size (.tup ys)) { s with heap := h'.push { cls := .type "tuple", data := .seq its.toArray } } :=
      I1.laid (t' := s.toks) (fun b o e => Heap.get?_push_of_some _ e) (Nat.le_refl _) (show ObjOk X.prog X.w _ _ _ (.tup ys) from ⟨hz, its, r', ITup.new _ _⟩)
    exact ⟨.ref h'.objs.size, _, I2, rfl, q _ (I1.hok.fresh (Nat.le_refl _))⟩
  · obtain ⟨its, r', pl, hz⟩ := I.tuple hq
    exact call_tuple_same pl ⟨.ref p, H, I, rfl, q⟩
def tyV (K : W.Frag) (T : String) (x : V) (H : Hp) : Prop := match x with
  | .str _ => T = "str"
  | .int _ => T = "int"
  | .ref p => (T = "list" ∧ ∃ xs, SqL K H p xs) ∨ (T = "tuple" ∧ ∃ o, K.lookup p = some o ∧ o.cls = .type "tuple" ∧ o.dict = none) ∨
      (T = "dict" ∧ ((∃ kvs, H p = some (.dK kvs)) ∨ ∃ kvs, H p = some (.dT kvs))) ∨ (T = "set" ∧ ∃ S n, H p = some (.set S n))
  | _ => False
theorem tyV_is {pins : List (Addr × Obj)} {σ : St} {H : Hp} {s : Shared} {T : String} {x : V} {v : Value} (I : Inv X pins σ H s) (r : RelV x v) (ty : tyV X.K T x H) :
    s.TypeIs v T ∧ ∀ a, v = .ref a → ∃ ob, s.heap.get? a = some ob ∧ ob.dict = none := by
  cases x with
  | str z =>
    obtain ⟨t, rfl⟩ := r
    cases (show T = "str" from ty)
    exact ⟨typeIs_str s z t, fun _ e => nomatch e⟩
  | int i =>
    obtain ⟨t, rfl⟩ := r
    cases (show T = "int" from ty)
    exact ⟨typeIs_int s i t, fun _ e => nomatch e⟩
  | ref p =>
    cases r
    rcases ty with ⟨rfl, xs, hq⟩ | ⟨rfl, o, hk, hc, hd⟩ | ⟨rfl, hk⟩ | ⟨rfl, S, n, hk⟩
    · obtain ⟨its, _, pl, _⟩ := I.list hq
      refine ⟨pl.isList.typeIs, fun a e => ?_⟩
      cases e
      obtain ⟨o, n, e, c, hd, _⟩ := pl
      exact ⟨o, e, hd⟩
    · refine ⟨⟨o, I.kIn p o hk, hc⟩, fun a e => ?_⟩
      cases e
      exact ⟨o, I.kIn _ o hk, hd⟩
    · have z : ∃ o, s.heap.get? p = some o ∧ o.ExactDict := by
        rcases hk with ⟨kvs, hk⟩ | ⟨kvs, hk⟩
        · obtain ⟨_, _, _, _, o, _, _, e, ex, _⟩ := I.hok p _ hk
          exact ⟨o, e, ex⟩
        · obtain ⟨_, _, _, _, o, _, _, e, ex, _⟩ := I.hok p _ hk
          exact ⟨o, e, ex⟩
      obtain ⟨o, e, ex⟩ := z
      refine ⟨⟨o, e, ex.1⟩, fun a e2 => ?_⟩
      cases e2
      exact ⟨o, e, ex.2.1⟩
    · obtain ⟨o, _, _, _, e, ex, _⟩ := I.hok p _ hk
      refine ⟨⟨o, e, ex.1⟩, fun a e2 => ?_⟩
      cases e2
      exact ⟨o, e, ex.2.1⟩
  | _ => exact False.elim ty
def tBM (K : W.Frag) (T : String) (r : V → List V → Hp → VK → Prop) (to : TE) (t : TA) : TE := fun σ H Q => to σ H fun x H1 => tyV K T x H1 ∧ t σ H1 fun xs H2 => r x xs H2 Q
variable {o e : Expr} {es : List Expr} {to : TE} {t : TA} {name : Str} {apos cpos : Pos} {T id : String} {r : V → List V → Hp → VK → Prop}
theorem pe_bm (pa : PlainAttrs T) (slot : Slot T name id) (hty : typeOf (.builtin id) = pure (.type "method_descriptor")) (hm : MtR X id r) (ho : PE X o to) (ha : PA X (e :: es) t)
    (hbase : attributeBase o name X.env (eval o X.env) = eval o X.env := by rfl)
    (hfew : ((backTo cpos (starEach (e :: es) X.env)).all (fun x => !x.1) && (backToKw cpos (keywordEach [] X.env)).all (fun x => x.1.isSome)
      && decide ((e :: es).length + ([] : List Keyword).length + (if ([] : List Keyword).isEmpty then 0 else 1) < 30)) = true := by rfl)
    (hline : (apos.endLine == cpos.line) = true := by rfl) (hs : starEach (e :: es) X.env = (false, eval e X.env) :: starEach es X.env := by rfl) (hplain : (backTo cpos (starEach es X.env)).any (·.1) = false := by rfl) :
    PE X (.Call (.Attribute o name apos) (e :: es) [] cpos) (tBM X.K T r to t) := by
  intro pins s σ H Q I h
  refine wpAny_Call_method_late hbase hfew hline rfl (thn (ho pins s σ H _ I h) fun v s1 ⟨x, H1, I1, r1, ty, q1⟩ => ?_)
  obtain ⟨h1, h2⟩ := tyV_is I1 r1 ty
  refine ⟨T, id, pa, slot, hty, h1, h2, ?_⟩
  have hA := ha cpos pins s1 σ H1 _ I1 q1
  rw [hs] at hA ⊢
  refine Calls.callWith_builtin (by show (false || (backTo cpos (starEach es X.env)).any (·.1)) = false; rw [hplain] <;> rfl) (Calls.evalArgs_plain ?_)
  exact thn hA fun us s2 ⟨vs, H2, I2, r2, q2⟩ => hm pins s2 σ H2 x vs v us Q I2 r1 r2 q2
/- xs.append(e), list.index on a module's tuple .. are MtR facts of 06m -/
end
end L2
namespace L2
open PySem PySem.Spec PyProof.Rows
variable [Tabs]
def MtM (X : Cx) (id : String) (r : V → List V → Hp → VK → Prop) : Prop :=
  ∀ (pins : List (Addr × Obj)) (s : Shared) (σ : St) (H : Hp) (x : V) (xs : List V) (v : Value) (us : List Value) (Q : VK), Inv X pins σ H s → RelV x v → Vals xs us → r x xs H Q →
    wpAny (model X.prog X.w) X.A (call (.builtin id) (v :: us)) (EP X pins σ Q) X.xe s
theorem Vals.one : ∀ {x : V} {us : List Value}, Vals [x] us → ∃ u, us = [u] ∧ RelV x u
  | _, _, .cons r .nil => ⟨_, rfl, r⟩
theorem Vals.two : ∀ {x y : V} {us : List Value}, Vals [x, y] us → ∃ u v, us = [u, v] ∧ RelV x u ∧ RelV y v
  | _, _, _, .cons r (.cons q .nil) => ⟨_, _, rfl, r, q⟩
theorem Vals.zero : ∀ {us : List Value}, Vals [] us → us = []
  | _, .nil => rfl
theorem Vals.eraseIdx : ∀ {xs : List V} {us : List Value} (i : Nat), Vals xs us → Vals (xs.eraseIdx i) (us.eraseIdx i)
  | _, _, _, .nil => .nil
  | _, _, 0, .cons _ t => t
  | _, _, i + 1, .cons r t => .cons r (Vals.eraseIdx i t)
theorem Vals.reverse {xs : List V} {us : List Value} (h : Vals xs us) : Vals xs.reverse us.reverse := by
  induction h with
  | nil => exact .nil
  | cons r t ih => rw [List.reverse_cons, List.reverse_cons]; exact Vals.append ih (.cons r .nil)
theorem Vals.rep {xs : List V} {us : List Value} (h : Vals xs us) : ∀ k : Nat, Vals (List.replicate k xs).flatten (List.replicate k us).flatten
  | 0 => .nil
  | k + 1 => by
    rw [List.replicate_succ, List.replicate_succ, List.flatten_cons, List.flatten_cons]
    exact Vals.append h (Vals.rep h k)
section
variable {X : Cx} {pins : List (Addr × Obj)} {σ : St} {H : Hp} {s : Shared} {l b : Addr} {xs ys zs : List V}
theorem Inv.lset {its its' : List Value} {n : Nat} {f : Array Value → Array Value} {t' : Nat} (I : Inv X pins σ H s) (hH : H l = some (.lst xs))
    (e : s.heap.get? l = some { cls := .type "list", data := .seq its.toArray n }) (hf : f its.toArray = its'.toArray) (hv : Vals ys its') (hz : ys.length ≤ sizeLine) :
    Inv X pins σ (upd H l (.lst ys)) { s with heap := s.heap.update l (Obj.mapSeq f), toks := t' } := by
  have q := PySem.IsL.update e f
  rw [hf] at q
  refine I.write (x := l) (e := l) (by rw [hH]; exact trivial) (.inl rfl) (fun b' u hb hu => (Heap.get?_update_other s.heap (Obj.mapSeq f) (Ne.symm hb)).trans hu) ⟨_, q⟩ ?_
  exact ⟨hz, its', _, hv, q⟩
theorem Inv.lnew {its : List Value} {t' : Nat} (I : Inv X pins σ H s) (hv : Vals ys its) (hz : ys.length ≤ sizeLine) :
    Inv X pins σ (upd H s.heap.objs.size (.lst ys)) { s with heap := s.heap.push { cls := .type "list", data := .seq its.toArray }, toks := t' } :=
  I.laid (fun _ _ q => Heap.get?_push_of_some _ q) (Nat.le_refl _) ⟨hz, its, 0, hv, Heap.get?_push_size _ rfl⟩
theorem Inv.fresh (I : Inv X pins σ H s) : H s.heap.objs.size = none := I.hok.fresh (Nat.le_refl _)
theorem Inv.lstM (I : Inv X pins σ H s) (hH : H l = some (.lst xs)) : xs.length ≤ sizeLine ∧ ∃ (its : List Value) (n : Nat), Vals xs its ∧ xs.length = its.length ∧ s.heap.get? l = some { cls := .type "list", data := .seq its.toArray n } := by
  obtain ⟨z, its, n, r, e⟩ := I.hok l _ hH
  exact ⟨z, its, n, r, r.length, e⟩
end
section
variable {X : Cx}
def rAppend : V → List V → Hp → VK → Prop := fun x vs H Q => ∃ l xs y, x = .ref l ∧ vs = [y] ∧ H l = some (.lst xs) ∧ xs.length < sizeLine ∧ Q .non (upd H l (.lst (xs ++ [y])))
theorem mt_append : MtM X "list.append" rAppend := by
  intro pins s σ H x vs v us Q I rx rv h
  obtain ⟨l, xs, y, rfl, rfl, hH, hz, q⟩ := h
  cases rx
  obtain ⟨u, rfl, ru⟩ := rv.one
  obtain ⟨z, its, n, r, hl, e⟩ := I.lstM hH
  refine call_meets F.slot_list_append ⟨_, e, rfl⟩ F.entry_list_append (F.args_list_append_2 _ _) (PySem.list_append l its.toArray n u (by rw [List.size_toArray]; omega)) ⟨e, ?_⟩
  refine ⟨.non, _, I.lset (its' := its ++ [u]) hH e (by simp) (r.append (.cons ru .nil)) ?_, rfl, q⟩
  rw [List.length_append, List.length_singleton]
  omega
end
section
variable {prog : Program} {w : World} {A : Around} {E : Value → Shared → Prop} {s : Shared}
end
section
variable {X : Cx}
end
end L2
namespace Att
open PySem PySem.W PySem.Calls PyProof.Rows
theorem ints_of_wellAll {P : Params} {h : Heap} : ∀ (ns : List Int) (vs : List Value), WellAll P h vs (ns.map WData.int) → IntsAre vs ns := by
  intro ns
  induction ns with
  | nil =>
    intro vs w
    rw [List.map_nil] at w
    cases w
    exact .nil
  | cons n ns ih =>
    intro vs w
    rw [List.map_cons] at w
    cases w with
    | cons a b =>
      cases a
      exact .cons _ _ (ih _ b)
theorem script_of {l : OpenLaw} {n : Nat} (hn : l.most = some n) {P : Params} {h : Heap} {args : List WData} {vals : List Value}
    (hpre : l.row.toRowW.claim.pre args = true) (hwl : WellAll P h vals args) :
    ∃ a vs ns, vals = [Value.ref a] ∧ args = [WData.list (ns.map WData.int)] ∧ h.get? a = some { cls := .type "list", data := .seq vs.toArray } ∧ IntsAre vs ns ∧ ns.length ≤ n := by
  have hsh : WShape.hasAll [] args [.list .int] = true := (pre_splitW hpre).1
  have hc : l.pre.holds [] { args := args } = true := (pre_splitW hpre).2
  obtain ⟨d, r, rfl, h1, h2⟩ := hasAllW_cons hsh
  obtain rfl := hasAllW_nil h2
  obtain ⟨xs, rfl, h3⟩ := hasW_list h1
  obtain ⟨ns, rfl⟩ := items_int h3
  have hlen : ns.length ≤ n := by
    unfold OpenLaw.pre at hc
    have h4 : (WTm.not (.lt (.lit (.int (n : Int))) (.len (.arg 0)))).holds [] { args := [.list (ns.map .int)] } = true := by
      have h4 := (holds_andW hc).1
      rw [hn] at h4
      exact h4
    have h5 := condW_of h4 (w_not (w_lt w_lit (w_len_list (w_arg rfl))))
    rw [List.length_map] at h5
    refine Nat.le_of_not_lt fun q => ?_
    have q' : (n : Int) < ((ns.length : Nat) : Int) := by omega
    first
      | (rw [decide_eq_true q'] at h5; exact absurd h5 (by decide))
      | (simp at h5; omega)
  cases hwl with
  | cons w1 w2 =>
    cases w2
    cases w1 with
    | list ho hall => exact ⟨_, _, ns, rfl, rfl, ho, ints_of_wellAll ns _ hall, hlen⟩
theorem post_true (l : OpenLaw) (args : List WData) : l.row.toRowW.claim.post args (.bool true) args = true :=
  postW_of (r := l.row.toRowW) (X := (true == true))
    (show WShape.has [] (.bool true) .bool = true by first | rfl | decide | simp [WShape.has, WShape.arms, WShape.armsAll])
    (show (WTm.eq .res (.lit (.bool true))).value [] { args := args, res := some (.bool true), after := args } = some (.bool (true == true)) from w_eq_bool (w_res rfl) w_lit) rfl
theorem attach_call {l : OpenLaw} {n : Nat} {q : Program} {loose : List Str} {XP : (Str → Option Value) → Heap → Prop} {YP : World → Heap → Prop} {d : DefRec}
    (hn : l.most = some n) (hdf : d.params.defaults = [])
    (call : ∀ (w : World) (s₀ s₁ : Shared) (mg mb : Str → Option Value) (fa : Addr) (o : Obj) (pm cd doc : Value) (a : Addr) (vs : List Value) (ns : List Int),
      Ground q loose [] XP w s₀ mg mb s₁.heap → YP w s₁.heap →
      s₁.heap.get? fa = some o → o.data = .func (docDef d.name d.params d.body d.scope pm cd doc) → s₁.heap.CodeRec cd d.name → mg d.name = some (.ref fa) →
      s₁.heap.get? a = some { cls := .type "list", data := .seq vs.toArray } → IntsAre vs ns → ns.length ≤ n → s₁.gens = #[] →
      codeAny (model l.prog w) callerA (.call (.ref fa) ⟨[.ref a], []⟩) (fun r s' => r = .ok (.ret (.bool true)) ∧ OldK s₁.heap s'.heap ∧ s'.os = s₁.os ∧ AllBare s'.gens) s₁) :
    WalkO q loose XP YP l.row.toRowW d [] (fun f vs => PySem.call f vs) := by
  intro w s₀ s₁ mg mb G Y fa o pm cd doc dV kV ho hd hcd hD hmg hg args vals as hpre hlay hrd hwl hlo
  obtain rfl : dV = .none := Dflts.none hD hdf
  obtain rfl : kV = .none := Dflts.noKw hD
  obtain ⟨a, vs, ns, rfl, rfl, hobj, hints, hlen⟩ := script_of hn hpre hwl
  refine enter_call (codeAny_mono (call w s₀ s₁ mg mb fa o pm cd doc a vs ns G Y ho (fd_plain hd) hcd hmg hobj hints hlen hg) fun r s' hq => ?_)
  obtain ⟨rfl, h2, h3, h4⟩ := hq
  exact ⟨.inl ⟨.bool true, .bool true, [], rfl, fun _ => rfl, .bool true, post_true l _, fun _ => ⟨List.Pairwise.nil, fun _ hm => (nomatch hm)⟩⟩, h2, h3, h4⟩
section
variable {prog : Program} {w : World} {A : Around} {E : Value → Shared → Prop} {s : Shared} {K : Frag}
end
end Att
namespace L2
open PySem PySem.Spec PyProof.Rows
variable [Tabs]
theorem vals_ints : ∀ {vs : List Value} {ns : List Int}, IntsAre vs ns → Vals (ns.map V.int) vs
  | _, _, .nil => .nil
  | _, _, .cons n t h => .cons ⟨t, rfl⟩ (vals_ints h)
def Only (H : Hp) : Prop := ∀ b, H b = none ∨ (∃ o xs, H b = some (.frz o (.lst xs))) ∨ b ∈ Tabs.l ∧ H b = some (.tbl #[])
theorem law_call {P : Program} {w : World} {K : W.Frag} {mg mb : Str → Option Value} {CX : CXT} {k : Nat} {fa a : Addr} {fd : FuncData} {x : Str} {sp : Sp} {s₁ : Shared} {vs : List Value} {ns : List Int}
    (KX : K.In s₁.heap) (hns : s₁.heap.Ns mainGlobals mg) (hb : s₁.heap.Ns builtinsNs mb) (hbb : ∀ x : Str, x ≠ "__name__" → mb x = bootBuiltins x) (hlim : s₁.heap.NoLimit) (hg : s₁.gens = #[])
    (hbm : ∃ bm ob, mg "__builtins__" = some (.ref bm) ∧ bm ≠ builtinsNs ∧ s₁.heap.get? bm = some ob ∧ ob.cls = .type "module" ∧ ob.dict = some builtinsNs ∧ ob.data = .plain)
    (hT : ∀ Q ∈ Tabs.l, ∃ c, s₁.heap.TableAt c Q #[]) (hKT : ∀ Q ∈ Tabs.l, K.lookup Q = none)
    (ha : s₁.heap.get? a = some { cls := .type "list", data := .seq vs.toArray }) (hi : IntsAre vs ns) (hl : ns.length ≤ sizeLine) (hr : Room k callerA)
    (F : ∀ base : Heap, K.In base → base.Ns mainGlobals mg → FnOk P w K mg base CX k fa fd [x] sp) (hbind : ∀ (s : Shared) (u : Value), BindsTo s fd ⟨[u], []⟩ [(x, u)])
    (hsp : ∀ H : Hp, Only H → SqL K H a (ns.map V.int) → sp [.ref a] H (fun v _ => v = .bl true) fun _ _ _ => False)
    (hCX : ∀ H e s', CX [] H s₁ (fun _ _ _ => False) e s' → False) :
    codeAny (model P w) callerA (.call (.ref fa) ⟨[.ref a], []⟩) (fun r s' => r = .ok (.ret (.bool true)) ∧ OldK s₁.heap s'.heap ∧ s'.os = s₁.os ∧ AllBare s'.gens) s₁ := by
  have rv := vals_ints hi
  have lenV := hi.length
  have noT : ∀ {b : Addr} {o : Obj}, s₁.heap.get? b = some o → o ≠ { cls := .none, data := .fields #[] } → b ∉ Tabs.l := fun {b o} e n z => by
    obtain ⟨c, _, e2⟩ := hT b z
    rw [e] at e2
    exact n (Option.some.inj e2)
  have core : ∀ H : Hp, Only H → SqL K H a (ns.map V.int) → HOk P w H s₁.heap → (∀ b, H b ≠ none → b = a ∨ b ∈ Tabs.l) → (H a ≠ none → K.lookup a = none) → TbOk H →
      codeAny (model P w) callerA (.call (.ref fa) ⟨[.ref a], []⟩) (fun r s' => r = .ok (.ret (.bool true)) ∧ OldK s₁.heap s'.heap ∧ s'.os = s₁.os ∧ AllBare s'.gens) s₁ := by
    intro H hO hS hok hA hK hTb
    have base_of : ∀ {b : Addr} {o : Obj}, s₁.heap.get? b = some o → H b = none → (hidT s₁.heap H).get? b = some o := fun e n => hidT_get e n
    have notA : ∀ {b : Addr} {o : Obj}, s₁.heap.get? b = some o → o ≠ { cls := .type "list", data := .seq vs.toArray } → o ≠ { cls := .none, data := .fields #[] } → H b = none := fun {b o} e n1 n2 => by
      cases q : H b with
      | none => rfl
      | some u =>
        rcases hA b (by rw [q]; simp) with e' | e'
        · subst e'
          rw [ha] at e; exact absurd (Option.some.inj e).symm n1
        · exact absurd e' (noT e n2)
    have noA : ∀ {b : Addr} {o : Obj} {es : Array DictEntry} {ep : Nat}, s₁.heap.get? b = some o → o.data = .dict es ep → H b = none := fun {b o es ep} e d =>
      notA e (fun z => by subst z; cases d) fun z => by subst z; cases d
    have nsK : ∀ {b : Addr} {m : Str → Option Value}, s₁.heap.Ns b m → (hidT s₁.heap H).Ns b m := fun {b m} ⟨o, es, ep, e, d, r⟩ => ⟨o, es, ep, base_of e (noA e d), d, r⟩
    have hKb : K.In (hidT s₁.heap H) := fun b o e => base_of (KX b o e) (by
      cases q : H b with
      | none => rfl
      | some u =>
        rcases hA b (by rw [q]; simp) with e' | e'
        · subst e'
          rw [hK (by rw [q]; simp)] at e; cases e
        · rw [hKT b e'] at e; cases e)
    have hM : Mod K mg (hidT s₁.heap H) := ⟨hKb, nsK hns, ⟨mb, nsK hb, hbb⟩, let ⟨mc, h1, h2⟩ := hlim; ⟨mc, nsK h1, h2⟩, by
      obtain ⟨bm, ob, h1, h2, h3, h4, h5, h6⟩ := hbm
      exact ⟨bm, ob, h1, h2, base_of h3 (notA h3 (fun z => by subst z; cases h6) fun z => by subst z; cases h6), h4, h5, h6⟩⟩
    have e0 : Env0 P w K mg (hidT s₁.heap H) callerA [] s₁ H := ⟨rfl, hM, fun b o e => of_hidT e, Nat.le_of_eq (hidT_size _ _), trivial, fun b hb => absurd (show b ∈ ([] : List Addr) from hb) (by simp), hok, .of_eq hg, hTb⟩
    refine codeAny_mono ((F _ hKb (nsK hns)).run callerA [] s₁ H ⟨[.ref a], []⟩ [.ref a] [.ref a] _ _ hr e0 (hbind s₁ (.ref a)) (.cons rfl .nil) (hsp H hO hS)) fun r s' h => ?_
    cases r with
    | error e => exact (hCX H e s' h).elim
    | ok fl =>
      cases fl with
      | next => exact False.elim h
      | brk => exact False.elim h
      | cont => exact False.elim h
      | ret u =>
        obtain ⟨v, H', os, bare, un, hok', r', q⟩ := h
        have q' : v = .bl true := q
        subst q'
        obtain rfl : u = Value.bool true := r'
        have ne : ∀ b : Addr, b ∉ frs ([] : List Env) := fun b z => absurd (show b ∈ ([] : List Addr) from z) (by simp)
        refine ⟨rfl, ⟨fun b o e => ?_, fun b o e => un.there b o e (by simp)⟩, os, bare⟩
        rcases hO b with z | ⟨ob, xs, z⟩ | ⟨hb, z⟩
        · exact .inl (un.keep b o e z (ne b) (by simp))
        · have z2 := un.frzs b ob _ z
          obtain ⟨e1, _⟩ := hok b _ z
          obtain ⟨e2, _⟩ := hok' b _ z2
          rw [e] at e1; cases e1
          exact .inl e2
        · obtain ⟨m, z2⟩ := un.tbls b _ z
          obtain ⟨e1, _⟩ := hok b _ z
          obtain ⟨e2, _⟩ := hok' b _ z2
          rw [e] at e1; cases e1
          obtain ⟨c, ct⟩ := hT b hb
          exact .inr (.inl ⟨ct.isCodeTable, rfl, #[], m, rfl, e2⟩)
  have aT : a ∉ Tabs.l := noT ha (fun z => by cases z)
  have tb : ∀ Q ∈ Tabs.l, s₁.heap.get? Q = some { cls := .none, data := .fields #[] } := fun Q hQ => let ⟨_, _, e⟩ := hT Q hQ; e
  cases hk : K.lookup a with
  | some o =>
    have e := KX a o hk
    rw [ha] at e
    cases e
    refine core (fun b => if b ∈ Tabs.l then some (.tbl #[]) else none) (fun b => ?_) (.inr ⟨_, vs.toArray, _, hk, rfl, rfl, rfl, by rw [List.size_toArray, lenV]; exact hl, by simpa using rv⟩) (fun b u z => ?_) (fun b z => ?_) (fun z => absurd (if_neg aT) z) fun Q hQ => ⟨_, if_pos hQ⟩
    · by_cases hb : b ∈ Tabs.l
      · exact .inr (.inr ⟨hb, if_pos hb⟩)
      · exact .inl (if_neg hb)
    · by_cases hb : b ∈ Tabs.l
      · have z' := (if_pos hb).symm.trans z
        cases z'
        exact ⟨tb b hb, trivial⟩
      · have z' := (if_neg hb).symm.trans z
        cases z'
    · by_cases hb : b ∈ Tabs.l
      · exact .inr hb
      · exact absurd (if_neg hb) z
  | none =>
    refine core (fun b => if b = a then some (.frz { cls := .type "list", data := .seq vs.toArray } (.lst (ns.map V.int))) else if b ∈ Tabs.l then some (.tbl #[]) else none) (fun b => ?_) (.inl (.inr ⟨{ cls := .type "list", data := .seq vs.toArray }, if_pos rfl⟩)) (fun b u z => ?_) (fun b z => ?_) (fun _ => hk)
      fun Q hQ => ⟨#[], by
        have hne : Q ≠ a := fun z => aT (z ▸ hQ)
        exact (if_neg hne).trans (if_pos hQ)⟩
    · by_cases hb : b = a
      · exact .inr (.inl ⟨_, _, if_pos hb⟩)
      · by_cases hb2 : b ∈ Tabs.l
        · exact .inr (.inr ⟨hb2, (if_neg hb).trans (if_pos hb2)⟩)
        · exact .inl ((if_neg hb).trans (if_neg hb2))
    · by_cases hb : b = a
      · have z' := (if_pos hb).symm.trans z
        cases z'
        subst hb
        exact ⟨ha, by rw [List.length_map]; exact hl, vs, _, rv, ha⟩
      · by_cases hb2 : b ∈ Tabs.l
        · have z' := ((if_neg hb).trans (if_pos hb2)).symm.trans z
          cases z'
          exact ⟨tb b hb2, trivial⟩
        · have z' := ((if_neg hb).trans (if_neg hb2)).symm.trans z
          cases z'
    · by_cases hb : b = a
      · exact .inl hb
      · by_cases hb2 : b ∈ Tabs.l
        · exact .inr hb2
        · exact absurd ((if_neg hb).trans (if_neg hb2)) z
end L2
namespace L2
open PySem PySem.Spec PyProof.Rows
variable [Tabs]
abbrev KOf {K : W.Frag} {h : Heap} (_ : K.In h) : W.Frag := K
theorem walk_of {l : W.OpenLaw} {n k : Nat} {q : Program} {loose : List Str} {XP : (Str → Option Value) → Heap → Prop} {YP : World → Heap → Prop} {d : DefRec} {K : Params → W.Frag} {CX : World → CXT} {sp : World → Sp} {x : Str}
    (hn : l.most = some n) (hn2 : n ≤ sizeLine) (hdf : d.params.defaults = []) (hr : Room k callerA)
    (hY : ∀ (w : World) (h : Heap), YP w h → (K w.params).In h)
    (F : ∀ (w : World) (mg : Str → Option Value) (fa : Addr) (h : Heap), (K w.params).In h → h.Ns mainGlobals mg → mg d.name = some (.ref fa) →
      ∃ fd : FuncData, (∀ (s : Shared) (u : Value), BindsTo s fd ⟨[u], []⟩ [(x, u)]) ∧
        ∀ base : Heap, (K w.params).In base → base.Ns mainGlobals mg → FnOk l.prog w (K w.params) mg base (CX w) k fa fd [x] (sp w))
    (hT : ∀ (w : World) (mg mb : Str → Option Value) (h : Heap) (mean : ExcName → Option Value), (K w.params).In h → Top q (W.looseW q loose) mean mg mb h → ∀ Q ∈ Tabs.l, ∃ c, h.TableAt c Q #[]) (hKT : ∀ (w : World), ∀ Q ∈ Tabs.l, (K w.params).lookup Q = none)
    (hsp : ∀ (w : World) (H : Hp) (a : Addr) (ns : List Int), ns.length ≤ n → Only H → SqL (K w.params) H a (ns.map V.int) → sp w [.ref a] H (fun v _ => v = .bl true) fun _ _ _ => False)
    (hCX : ∀ (w : World) (H : Hp) (s : Shared) (e : Value) (s' : Shared), CX w [] H s (fun _ _ _ => False) e s' → False) :
    W.WalkO q loose XP YP l.row.toRowW d [] (fun f vs => PySem.call f vs) := by
  refine Att.attach_call hn hdf fun w s₀ s₁ mg mb fa o pm cd doc a vs ns G Y ho hd hcd hmg hobj hints hlen hg => ?_
  have KX := hY w _ Y
  obtain ⟨fd, hb, hF⟩ := F w mg fa _ KX G.T.g hmg
  exact law_call KX G.T.g G.T.b G.T.builtins G.T.nolimit hg G.T.bmain (hT w mg mb _ _ KX G.T) (hKT w) hobj hints (Nat.le_trans hlen hn2) hr hF hb (fun H hO hS => hsp w H a ns hlen hO hS) fun H e s' => hCX w H s₁ e s'
end L2
/- THE LAST THEOREM (shape; LID, My.* are yours):
   My.Adr: a structure of the addresses that your layer names (classes, functions); My.Txt K t: a structure (Prop) of the equations over K;
   My.txt_mk : {K} {implicit addresses ..} (e1 : nsIn K mainGlobals "law" = some (some (.ref f))) (e2 : K.lookup f = some ⟨oc, od, .func (fnOf "law" "law" params body scope dV kV doc pm an cdv ct), sl⟩) (e3 : codeIn K cdv "law" = true) .. : ∃ t, My.Txt K t
set_option maxRecDepth 100000 in
set_option maxHeartbeats 0 in
theorem PySem.Challenge.cw_LID_holds : PySem.Challenge.rw_LID.Holds := by
  w_on; o_law; k_head; (case hw => w_witness2)
  k_fill
  refine L2.walk_of (l := PySem.Challenge.rw_LID) (n := 63) (k := 40) (x := "script") (CX := fun w => ..) (sp := fun _ => My.sp_law) rfl (by decide) rfl ⟨rfl, by decide, by decide⟩ (fun w h Y => W.kIn_of Y) ?F ?S ?C
  case F =>
    intro w mg fa h KX G hmg
    have T : ∃ t, My.Txt (L2.KOf KX) t := by
      dsimp only [L2.KOf]                          -- K must stand as «<heap const> w.params» for k_is
      refine' My.txt_mk ?e1 ?e2 ?e3 ..
      (case e1 => W.k_is)                    -- in the order: a name -> its address -> its object -> its parts
      (case e2 => W.k_is)
      ..
    obtain ⟨t, T⟩ := T
    have e0 := hmg.symm.trans (W.mg_of KX G T.law)
    cases e0                                       -- fa is the law's own address
    exact ⟨_, fun s u => .of_eq rfl, fun base kb nb => My.law_fn T kb nb⟩     -- if «.of_eq rfl» comes too early: refine' ⟨_, ?b, fun base kb nb => My.law_fn T kb nb⟩; exact fun s u => .of_eq rfl
  case S => exact fun w H a ns hl hO hS => ..
  case C => exact ..
(the tactic k_is has no namespace: write k_is) -/
namespace L2
open PySem PySem.Spec PyProof.Rows
variable [Tabs]
def defArgs (s : Stmt) : Arguments := match s with
  | .FunctionDef _ a _ _ _ _ _ _ _ _ => a
  | _ => { posonlyargs := [], args := [], vararg := none, kwonlyargs := [], kw_defaults := [], kwarg := none, defaults := [] }
def defBody (s : Stmt) : List Stmt := match s with
  | .FunctionDef _ _ b _ _ _ _ _ _ _ => b
  | _ => []
def defScope (s : Stmt) : Scope := match s with
  | .FunctionDef _ _ _ _ _ _ sc _ _ _ => sc
  | _ => { kind := .function, names := [], isGenerator := false, isCoroutine := false }
abbrev CX0 : CXT := fun _ _ _ _ _ _ => False
abbrev E0 : XK := fun _ _ _ => False
theorem pass0 {X : Cx} : Passes CX0 X E0 := fun _ _ _ _ _ _ _ h => h.elim
structure Fun (K : W.Frag) (x qual : Str) (st : Stmt) (f : Addr) (fd : FuncData) : Prop where
  ex : ∃ (oc : Value) (od : Option Addr) (kV doc pm : Value) (an : Option Addr) (cdv ct : Value) (osl : Array (Option Value)),
    fd = W.fnOf x qual (defArgs st) (defBody st) (defScope st) .none kV doc pm an cdv ct ∧ K.lookup f = some ⟨oc, od, .func fd, osl⟩ ∧ W.codeIn K cdv qual = true
  kp : W.keepIn K (.ref f) = true
section
variable {P : Program} {w : World} {K : W.Frag} {mg : Str → Option Value} {base : Heap}
theorem Fun.binds {x qual : Str} {st : Stmt} {f : Addr} {fd : FuncData} {ps : List Str} (F : Fun K x qual st f fd)
    (h : ∀ (kV doc pm : Value) (an : Option Addr) (cdv ct : Value) (us : List Value), us.length = ps.length → bindArgs (W.fnOf x qual (defArgs st) (defBody st) (defScope st) .none kV doc pm an cdv ct) ⟨us, []⟩ = pure (ps.zip us)) : Binds K fd ps [] := by
  obtain ⟨oc, od, kV, doc, pm, an, cdv, ct, osl, rfl, lk, hcd⟩ := F.ex
  exact .all (h kV doc pm an cdv ct)
theorem fun_mk {x qual : Str} {st : Stmt} {f : Addr} {oc : Value} {od an : Option Addr} {osl : Array (Option Value)} {kV doc pm cdv ct : Value} (l : K.lookup f = some ⟨oc, od, .func (W.fnOf x qual (defArgs st) (defBody st) (defScope st) .none kV doc pm an cdv ct), osl⟩)
    (c : W.codeIn K cdv qual = true) (k : W.keepIn K (.ref f) = true) : Fun K x qual st f (W.fnOf x qual (defArgs st) (defBody st) (defScope st) .none kV doc pm an cdv ct) := ⟨⟨oc, od, kV, doc, pm, an, cdv, ct, osl, rfl, l, c⟩, k⟩
end
section
variable {X : Cx}
end
def Same (H H' : Hp) : Prop := ∀ b o, H b = some o → H' b = some o
theorem Same.refl (H : Hp) : Same H H := fun _ _ h => h
theorem Same.trans {H H1 H2 : Hp} (a : Same H H1) (b : Same H1 H2) : Same H H2 := fun c o h => b c o (a c o h)
theorem Same.free {H H' : Hp} (e : Same H H') {l : Addr} (h : H' l = Option.none) : H l = Option.none := by
  cases q : H l with
  | none => rfl
  | some o =>
    rw [e l o q] at h
    cases h
theorem Same.seq {K : W.Frag} {H H' : Hp} {a : Addr} {xs : List V} (e : Same H H') (h : SqL K H a xs) : SqL K H' a xs := by
  rcases h with (h | ⟨o, h⟩) | h
  · exact .inl (.inl (e _ _ h))
  · exact .inl (.inr ⟨o, e _ _ h⟩)
  · exact .inr h
end L2
set_option maxHeartbeats 4000000
namespace FW
open PySem PySem.Spec PyProof.Rows L2
variable [Tabs]
inductive T where
  | non | bl (b : Bool) | int (i : Int) | str (x : Str) | tup (xs : List T) | lst (xs : List T) | dct (kvs : List (Str × T))
def LstAt (K : W.Frag) (H : Hp) (a : Addr) (vs : List V) : Prop :=
  (∃ o, H a = some (.frz o (.lst vs))) ∨
    ∃ (o : Obj) (its : Array Value) (n : Nat), K.lookup a = some o ∧ o.cls = .type "list" ∧ o.dict = none ∧ o.data = .seq its n ∧ its.size ≤ sizeLine ∧ Vals vs its.toList
theorem LstAt.sq {K : W.Frag} {H : Hp} {a : Addr} {vs : List V} (h : LstAt K H a vs) : SqL K H a vs := by
  rcases h with ⟨o, h⟩ | h
  · exact .inl (.inr ⟨o, h⟩)
  · exact .inr h
def DctAt (H : Hp) (a : Addr) (kvs : List (Key × V)) : Prop := ∃ o, H a = some (.frz o (.dK kvs))
mutual
def Rep (K : W.Frag) (H : Hp) : T → V → Prop
  | .non, v => v = .non
  | .bl b, v => v = .bl b
  | .int i, v => v = .int i
  | .str x, v => v = .str x
  | .tup ts, v => ∃ a vs, v = .ref a ∧ SqT K H a vs ∧ Reps K H ts vs
  | .lst ts, v => ∃ a vs, v = .ref a ∧ LstAt K H a vs ∧ Reps K H ts vs
  | .dct kts, v => ∃ a kvs, v = .ref a ∧ DctAt H a kvs ∧ RepD K H kts kvs
def Reps (K : W.Frag) (H : Hp) : List T → List V → Prop
  | [], vs => vs = []
  | t :: ts, vs => ∃ v r, vs = v :: r ∧ Rep K H t v ∧ Reps K H ts r
def RepD (K : W.Frag) (H : Hp) : List (Str × T) → List (Key × V) → Prop
  | [], vs => vs = []
  | (k, t) :: ts, vs => ∃ v r, vs = (Sum.inr k, v) :: r ∧ Rep K H t v ∧ RepD K H ts r
end
def Pers (H H' : Hp) : Prop := (∀ b xs, H b = some (.tup xs) → H' b = some (.tup xs)) ∧ ∀ b o u, H b = some (.frz o u) → H' b = some (.frz o u)
theorem Pers.refl (H : Hp) : Pers H H := ⟨fun _ _ h => h, fun _ _ _ h => h⟩
theorem Pers.trans {H H1 H2 : Hp} (a : Pers H H1) (b : Pers H1 H2) : Pers H H2 := ⟨fun c xs h => b.1 c xs (a.1 c xs h), fun c o u h => b.2 c o u (a.2 c o u h)⟩
theorem Pers.sqT {K : W.Frag} {H H' : Hp} {a : Addr} {vs : List V} (p : Pers H H') (h : SqT K H a vs) : SqT K H' a vs := by
  rcases h with (h | ⟨o, h⟩) | h
  · exact .inl (.inl (p.1 _ _ h))
  · exact .inl (.inr ⟨o, p.2 _ _ _ h⟩)
  · exact .inr h
theorem Pers.lstAt {K : W.Frag} {H H' : Hp} {a : Addr} {vs : List V} (p : Pers H H') (h : LstAt K H a vs) : LstAt K H' a vs := by
  rcases h with ⟨o, h⟩ | h
  · exact .inl ⟨o, p.2 _ _ _ h⟩
  · exact .inr h
mutual
theorem Rep.pers {K : W.Frag} {H H' : Hp} (p : Pers H H') : ∀ (t : T) (v : V), Rep K H t v → Rep K H' t v
  | .non, _, h => by unfold Rep at h ⊢; exact h
  | .bl _, _, h => by unfold Rep at h ⊢; exact h
  | .int _, _, h => by unfold Rep at h ⊢; exact h
  | .str _, _, h => by unfold Rep at h ⊢; exact h
  | .tup ts, v, h => by
    unfold Rep at h ⊢
    obtain ⟨a, vs, e, q, r⟩ := h
    exact ⟨a, vs, e, p.sqT q, Reps.pers p ts vs r⟩
  | .lst ts, v, h => by
    unfold Rep at h ⊢
    obtain ⟨a, vs, e, q, r⟩ := h
    exact ⟨a, vs, e, p.lstAt q, Reps.pers p ts vs r⟩
  | .dct ts, v, h => by
    unfold Rep at h ⊢
    obtain ⟨a, vs, e, ⟨o, q⟩, r⟩ := h
    exact ⟨a, vs, e, ⟨o, p.2 _ _ _ q⟩, RepD.pers p ts vs r⟩
theorem Reps.pers {K : W.Frag} {H H' : Hp} (p : Pers H H') : ∀ (ts : List T) (vs : List V), Reps K H ts vs → Reps K H' ts vs
  | [], _, h => by unfold Reps at h ⊢; exact h
  | t :: ts, vs, h => by
    unfold Reps at h ⊢
    obtain ⟨v, r, e, q, z⟩ := h
    exact ⟨v, r, e, Rep.pers p t v q, Reps.pers p ts r z⟩
theorem RepD.pers {K : W.Frag} {H H' : Hp} (p : Pers H H') : ∀ (ts : List (Str × T)) (vs : List (Key × V)), RepD K H ts vs → RepD K H' ts vs
  | [], _, h => by unfold RepD at h ⊢; exact h
  | (k, t) :: ts, vs, h => by
    unfold RepD at h ⊢
    obtain ⟨v, r, e, q, z⟩ := h
    exact ⟨v, r, e, Rep.pers p t v q, RepD.pers p ts r z⟩
end
section
variable {K : W.Frag} {H : Hp}
@[simp] theorem rep_non {v : V} : Rep K H .non v ↔ v = .non := by unfold Rep; exact Iff.rfl
@[simp] theorem rep_bl {b : Bool} {v : V} : Rep K H (.bl b) v ↔ v = .bl b := by unfold Rep; exact Iff.rfl
@[simp] theorem rep_int {i : Int} {v : V} : Rep K H (.int i) v ↔ v = .int i := by unfold Rep; exact Iff.rfl
@[simp] theorem rep_str {x : Str} {v : V} : Rep K H (.str x) v ↔ v = .str x := by unfold Rep; exact Iff.rfl
theorem rep_tup {ts : List T} {v : V} : Rep K H (.tup ts) v ↔ ∃ a vs, v = .ref a ∧ SqT K H a vs ∧ Reps K H ts vs := by conv => lhs; unfold Rep
theorem rep_lst {ts : List T} {v : V} : Rep K H (.lst ts) v ↔ ∃ a vs, v = .ref a ∧ LstAt K H a vs ∧ Reps K H ts vs := by conv => lhs; unfold Rep
theorem reps_nil {vs : List V} : Reps K H [] vs ↔ vs = [] := by unfold Reps; exact Iff.rfl
theorem reps_cons {t : T} {ts : List T} {vs : List V} : Reps K H (t :: ts) vs ↔ ∃ v r, vs = v :: r ∧ Rep K H t v ∧ Reps K H ts r := by conv => lhs; unfold Reps
theorem Reps.length : ∀ {ts : List T} {vs : List V}, Reps K H ts vs → ts.length = vs.length
  | [], _, h => by rw [reps_nil] at h; subst h; rfl
  | _ :: _, _, h => by
    rw [reps_cons] at h
    obtain ⟨v, r, rfl, _, z⟩ := h
    simp [Reps.length z]
theorem Reps.get : ∀ {ts : List T} {vs : List V} {i : Nat} {t : T}, Reps K H ts vs → ts[i]? = some t → ∃ v, vs[i]? = some v ∧ Rep K H t v
  | [], _, _, _, _, e => by simp at e
  | t :: ts, _, 0, _, h, e => by
    rw [reps_cons] at h
    obtain ⟨v, r, rfl, q, z⟩ := h
    simp at e; subst e
    exact ⟨v, rfl, q⟩
  | t :: ts, _, i + 1, _, h, e => by
    rw [reps_cons] at h
    obtain ⟨v, r, rfl, q, z⟩ := h
    obtain ⟨u, hu, r'⟩ := Reps.get (i := i) z (by simpa using e)
    exact ⟨u, by simpa using hu, r'⟩
theorem Reps.getV : ∀ {ts : List T} {vs : List V} {i : Nat} {v : V}, Reps K H ts vs → vs[i]? = some v → ∃ t, ts[i]? = some t ∧ Rep K H t v := fun {ts vs i v} h e => by
  have hi : i < ts.length := by rw [h.length]; exact (List.getElem?_eq_some_iff.mp e).1
  obtain ⟨u, hu, r⟩ := h.get (List.getElem?_eq_getElem hi)
  rw [e] at hu; cases hu
  exact ⟨_, List.getElem?_eq_getElem hi, r⟩
theorem Reps.append : ∀ {ts ts' : List T} {vs vs' : List V}, Reps K H ts vs → Reps K H ts' vs' → Reps K H (ts ++ ts') (vs ++ vs')
  | [], _, _, _, h, h' => by rw [reps_nil] at h; subst h; exact h'
  | _ :: _, _, _, _, h, h' => by
    rw [reps_cons] at h
    obtain ⟨v, r, rfl, q, z⟩ := h
    rw [List.cons_append, List.cons_append, reps_cons]
    exact ⟨v, _, rfl, q, z.append h'⟩
theorem Reps.take : ∀ {ts : List T} {vs : List V} (n : Nat), Reps K H ts vs → Reps K H (ts.take n) (vs.take n)
  | _, _, 0, h => by simp [reps_nil]
  | [], _, _ + 1, h => by rw [reps_nil] at h; subst h; simp [reps_nil]
  | _ :: _, _, n + 1, h => by
    rw [reps_cons] at h
    obtain ⟨v, r, rfl, q, z⟩ := h
    rw [List.take_succ_cons, List.take_succ_cons, reps_cons]
    exact ⟨v, _, rfl, q, z.take n⟩
theorem Reps.drop : ∀ {ts : List T} {vs : List V} (n : Nat), Reps K H ts vs → Reps K H (ts.drop n) (vs.drop n)
  | _, _, 0, h => h
  | [], _, _ + 1, h => by rw [reps_nil] at h; subst h; simp [reps_nil]
  | _ :: _, _, n + 1, h => by
    rw [reps_cons] at h
    obtain ⟨v, r, rfl, q, z⟩ := h
    rw [List.drop_succ_cons, List.drop_succ_cons]
    exact z.drop n
theorem Reps.set : ∀ {ts : List T} {vs : List V} {t : T} {v : V} (n : Nat), Reps K H ts vs → Rep K H t v → Reps K H (ts.set n t) (vs.set n v)
  | [], _, _, _, n, h, _ => by rw [reps_nil] at h; subst h; simp [reps_nil]
  | _ :: _, _, _, _, 0, h, p => by
    rw [reps_cons] at h
    obtain ⟨v, r, rfl, q, z⟩ := h
    rw [List.set_cons_zero, List.set_cons_zero, reps_cons]
    exact ⟨_, _, rfl, p, z⟩
  | _ :: _, _, _, _, n + 1, h, p => by
    rw [reps_cons] at h
    obtain ⟨v, r, rfl, q, z⟩ := h
    rw [List.set_cons_succ, List.set_cons_succ, reps_cons]
    exact ⟨_, _, rfl, q, z.set n p⟩
theorem Reps.one {t : T} {v : V} (h : Rep K H t v) : Reps K H [t] [v] := by rw [reps_cons]; exact ⟨v, [], rfl, h, by rw [reps_nil]⟩
theorem Reps.nil : Reps K H [] [] := by rw [reps_nil]
theorem Reps.reverse : ∀ {ts : List T} {vs : List V}, Reps K H ts vs → Reps K H ts.reverse vs.reverse
  | [], _, h => by rw [reps_nil] at h; subst h; exact .nil
  | _ :: _, _, h => by
    rw [reps_cons] at h
    obtain ⟨v, r, rfl, q, z⟩ := h
    rw [List.reverse_cons, List.reverse_cons]
    exact z.reverse.append (.one q)
theorem Reps.ints : ∀ (ns : List Int), Reps K H (ns.map T.int) (ns.map V.int)
  | [] => .nil
  | n :: ns => by
    rw [List.map_cons, List.map_cons, reps_cons]
    exact ⟨_, _, rfl, by simp, Reps.ints ns⟩
end
inductive Slot where
  | un | val (t : T) | own (xs : List T)
inductive R where
  | val (t : T) | own (xs : List T) | bor (i : Nat)
abbrev Ev := List Slot
def Own (ρ : Ev) (σ : L2.St) (b : Addr) : Prop := ∃ (i : Nat) (xs : List T), ρ[i]? = some (.own xs) ∧ σ[i]? = some (some (.ref b))
structure EvOk (K : W.Frag) (ρ : Ev) (σ : L2.St) (H : Hp) : Prop where
  len : ρ.length = σ.length
  val : ∀ (i : Nat) (t : T), ρ[i]? = some (.val t) → ∃ v, σ[i]? = some (some v) ∧ Rep K H t v
  own : ∀ (i : Nat) (xs : List T), ρ[i]? = some (.own xs) → ∃ p vs, σ[i]? = some (some (.ref p)) ∧ H p = some (.lst vs) ∧ Reps K H xs vs
  inj : ∀ (i j : Nat) (xs ys : List T) (p : Addr), ρ[i]? = some (.own xs) → ρ[j]? = some (.own ys) → σ[i]? = some (some (.ref p)) → σ[j]? = some (some (.ref p)) → i = j
structure Stp (O : Addr → Prop) (H : Hp) (O' : Addr → Prop) (H' : Hp) : Prop where
  pers : Pers H H'
  keep : ∀ b o, H b = some o → (∀ ps, o ≠ .tbl ps) → ¬ O b → H' b = some o
  own : ∀ b, O' b → O b ∨ H b = none
  there : ∀ b o, H b = some o → ∃ o', H' b = some o'
theorem Stp.refl {O : Addr → Prop} {H : Hp} : Stp O H O H := ⟨.refl H, fun _ _ h _ _ => h, fun _ h => .inl h, fun _ o h => ⟨o, h⟩⟩
theorem Stp.trans {O O1 O2 : Addr → Prop} {H H1 H2 : Hp} (a : Stp O H O1 H1) (b : Stp O1 H1 O2 H2) : Stp O H O2 H2 where
  pers := a.pers.trans b.pers
  keep := fun c o h t n => b.keep c o (a.keep c o h t n) t fun z => by
    rcases a.own c z with z | z
    · exact n z
    · rw [h] at z; cases z
  own := fun c z => by
    rcases b.own c z with z | z
    · exact a.own c z
    · refine .inr ?_
      cases q : H c with
      | none => rfl
      | some o =>
        obtain ⟨o', e⟩ := a.there c o q
        rw [z] at e; cases e
  there := fun c o h => let ⟨o', h'⟩ := a.there c o h; b.there c o' h'
theorem Stp.fresh {O O' : Addr → Prop} {H H' : Hp} (a : Stp O H O' H') {c : Addr} (h : H' c = none) : H c = none := by
  cases q : H c with
  | none => rfl
  | some o =>
    obtain ⟨o', e⟩ := a.there c o q
    rw [h] at e; cases e
theorem Stp.new {O : Addr → Prop} {H : Hp} {p : Addr} (h : H p = none) (o : HO) : Stp O H O (upd H p o) where
  pers := ⟨fun b xs e => by rw [upd_ne (ne_of_none e h)]; exact e, fun b o' u e => by rw [upd_ne (ne_of_none e h)]; exact e⟩
  keep := fun b o' e _ _ => by rw [upd_ne (ne_of_none e h)]; exact e
  own := fun _ z => .inl z
  there := fun b o' e => ⟨o', by rw [upd_ne (ne_of_none e h)]; exact e⟩
theorem Stp.weak {O O' O'' : Addr → Prop} {H H' : Hp} (a : Stp O H O' H') (h : ∀ b, O'' b → O' b) : Stp O H O'' H' := ⟨a.pers, a.keep, fun b z => a.own b (h b z), a.there⟩
section
variable {K : W.Frag} {ρ : Ev} {σ : L2.St} {H H' : Hp}
theorem EvOk.noOwn (e : EvOk K ρ σ H) {b : Addr} (o : Own ρ σ b) : ∃ vs, H b = some (.lst vs) := by
  obtain ⟨i, xs, h1, h2⟩ := o
  obtain ⟨p, vs, h3, h4, _⟩ := e.own i xs h1
  rw [h2] at h3; cases h3
  exact ⟨vs, h4⟩
theorem EvOk.kept (e : EvOk K ρ σ H) (p : Pers H H') (k : ∀ b, Own ρ σ b → H' b = H b) : EvOk K ρ σ H' where
  len := e.len
  val := fun i t h => let ⟨v, h1, h2⟩ := e.val i t h; ⟨v, h1, Rep.pers p t v h2⟩
  own := fun i xs h => let ⟨q, vs, h1, h2, h3⟩ := e.own i xs h; ⟨q, vs, h1, by rw [k q ⟨i, xs, h, h1⟩]; exact h2, Reps.pers p xs vs h3⟩
  inj := e.inj
theorem EvOk.new (e : EvOk K ρ σ H) {p : Addr} (h : H p = none) (o : HO) : EvOk K ρ σ (upd H p o) :=
  e.kept (Stp.new (O := fun _ => False) h o).pers fun b ob => by
    obtain ⟨vs, q⟩ := e.noOwn ob
    exact upd_ne (ne_of_none q h)
end
def Now (K : W.Frag) (H : Hp) : T → V → Prop
  | .lst ts, v => ∃ a vs, v = .ref a ∧ SqL K H a vs ∧ Reps K H ts vs
  | t, v => Rep K H t v
theorem Rep.now {K : W.Frag} {H : Hp} {t : T} {v : V} (h : Rep K H t v) : Now K H t v := by
  cases t <;> first
    | exact h
    | (rw [rep_lst] at h
       obtain ⟨a, vs, e, q, r⟩ := h
       exact ⟨a, vs, e, q.sq, r⟩)
def RepR (K : W.Frag) (ρ : Ev) (σ : L2.St) (H H' : Hp) : R → V → Prop
  | .val t, v => Rep K H' t v
  | .own xs, v => ∃ p vs, v = .ref p ∧ H' p = some (.lst vs) ∧ Reps K H' xs vs ∧ ¬ Own ρ σ p ∧ H p = none
  | .bor i, v => ∃ xs, ρ[i]? = some (.own xs) ∧ σ[i]? = some (some v)
def rdR (ρ : Ev) : R → Option T
  | .val t => some t
  | .own xs => some (.lst xs)
  | .bor i => match ρ[i]? with
    | some (.own xs) => some (.lst xs)
    | _ => none
theorem RepR.now {K : W.Frag} {ρ : Ev} {σ : L2.St} {H H' : Hp} {r : R} {v : V} {t : T} (e : EvOk K ρ σ H') (h : RepR K ρ σ H H' r v) (q : rdR ρ r = some t) : Now K H' t v := by
  cases r with
  | val t' => cases q; exact Rep.now h
  | own xs =>
    cases q
    obtain ⟨p, vs, e1, e2, e3, _⟩ := h
    exact ⟨p, vs, e1, .of e2, e3⟩
  | bor i =>
    obtain ⟨xs, h1, h2⟩ := h
    have q' : rdR ρ (.bor i) = some (.lst xs) := by unfold rdR; simp only [h1]
    rw [q'] at q; cases q
    obtain ⟨p, vs, h3, h4, h5⟩ := e.own i xs h1
    rw [h2] at h3; cases h3
    exact ⟨p, vs, rfl, .of h4, h5⟩
def RepR.later {K : W.Frag} {ρ ρ' : Ev} {σ : L2.St} {H H1 H2 : Hp} {r : R} {v : V} (h : RepR K ρ σ H H1 r v) (s : Stp (Own ρ σ) H1 (Own ρ' σ) H2) (b : ∀ i, r = .bor i → ∃ xs, ρ'[i]? = some (.own xs)) : RepR K ρ' σ H H2 r v := by
  cases r with
  | val t => exact Rep.pers s.pers t v h
  | own xs =>
    obtain ⟨p, vs, e1, e2, e3, e4, e5⟩ := h
    refine ⟨p, vs, e1, s.keep p _ e2 (fun _ z => nomatch z) e4, Reps.pers s.pers xs vs e3, fun z => ?_, e5⟩
    rcases s.own p z with z | z
    · exact e4 z
    · rw [e2] at z; cases z
  | bor i =>
    obtain ⟨xs, h1, h2⟩ := h
    obtain ⟨ys, h3⟩ := b i rfl
    exact ⟨ys, h3, h2⟩
end FW
namespace FW
open PySem PySem.Spec PyProof.Rows L2
variable [Tabs]
def bO {α : Type} : Option α → (α → Prop) → Prop
  | some a, k => k a
  | none, _ => False
@[simp] theorem bO_some {α : Type} (a : α) (k : α → Prop) : bO (some a) k = k a := rfl
@[simp] theorem bO_none {α : Type} (k : α → Prop) : bO none k = False := rfl
theorem bO_iff {α : Type} {o : Option α} {k : α → Prop} : bO o k ↔ ∃ a, o = some a ∧ k a := by
  cases o with
  | none => simp
  | some a => simp
abbrev WE := Ev → (R → Ev → Prop) → Prop
abbrev WT := Ev → (Bool → Ev → Prop) → Prop
abbrev WA := Ev → (List R → Ev → Prop) → Prop
structure WD where
  nx : Ev → Prop
  rt : R → Ev → Prop
  bk : Ev → Prop := fun _ => False
  ct : Ev → Prop := fun _ => False
abbrev WS := WD → Ev → Prop
def Post (X : Cx) (pins : List (Addr × Obj)) (σ : L2.St) (ρ : Ev) (H : Hp) (Q : R → Ev → Prop) (u : Value) (s' : Shared) : Prop :=
  ∃ v H' r ρ', Inv X pins σ H' s' ∧ RelV v u ∧ EvOk X.K ρ' σ H' ∧ Stp (Own ρ σ) H (Own ρ' σ) H' ∧ RepR X.K ρ' σ H H' r v ∧ Q r ρ'
def DE (X : Cx) (e : Expr) (t : WE) : Prop :=
  ∀ (pins : List (Addr × Obj)) (s : Shared) (σ : L2.St) (H : Hp) (ρ : Ev) (Q : R → Ev → Prop), Inv X pins σ H s → EvOk X.K ρ σ H → t ρ Q → wpAny (model X.prog X.w) X.A (eval e X.env) (Post X pins σ ρ H Q) X.xe s
def DT (X : Cx) (e : Expr) (t : WT) : Prop :=
  ∀ (pins : List (Addr × Obj)) (s : Shared) (σ : L2.St) (H : Hp) (ρ : Ev) (Q : Bool → Ev → Prop), Inv X pins σ H s → EvOk X.K ρ σ H → t ρ Q → wpAny (model X.prog X.w) X.A (isTrue e X.env (eval e X.env))
    (fun b s' => ∃ H' ρ', Inv X pins σ H' s' ∧ EvOk X.K ρ' σ H' ∧ Stp (Own ρ σ) H (Own ρ' σ) H' ∧ Q b ρ') X.xe s
def RepRs (K : W.Frag) (ρ : Ev) (σ : L2.St) (H H' : Hp) : List R → List V → Prop := Paired (RepR K ρ σ H H')
def up (K : W.Frag) (t : WE) : TE := fun σ H Q' => ∃ ρ Q, EvOk K ρ σ H ∧ t ρ Q ∧ ∀ v H' r ρ', EvOk K ρ' σ H' → Stp (Own ρ σ) H (Own ρ' σ) H' → RepR K ρ' σ H H' r v → Q r ρ' → Q' v H'
def upT (K : W.Frag) (t : WT) : TT := fun σ H Q' => ∃ ρ Q, EvOk K ρ σ H ∧ t ρ Q ∧ ∀ b H' ρ', EvOk K ρ' σ H' → Stp (Own ρ σ) H (Own ρ' σ) H' → Q b ρ' → Q' b H'
def upA (K : W.Frag) (t : WA) : TA := fun σ H Q' => ∃ ρ Q, EvOk K ρ σ H ∧ t ρ Q ∧ ∀ vs H' rs ρ', EvOk K ρ' σ H' → Stp (Own ρ σ) H (Own ρ' σ) H' → RepRs K ρ' σ H H' rs vs → Q rs ρ' → Q' vs H'
section
variable {X : Cx} {e a b : Expr} {t ta tb : WE}
theorem DE.pe (h : DE X e t) : PE X e (up X.K t) := fun pins s σ H Q' I ⟨ρ, Q, E, q, k⟩ =>
  thn (h pins s σ H ρ Q I E q) fun u s' ⟨v, H', r, ρ', I', rv, E', S, rr, q'⟩ => ⟨v, H', I', rv, k v H' r ρ' E' S rr q'⟩
theorem DE.of {te : TE} (h : PE X e te) (k : ∀ σ H ρ Q, EvOk X.K ρ σ H → t ρ Q → te σ H fun v H' => ∃ r ρ', EvOk X.K ρ' σ H' ∧ Stp (Own ρ σ) H (Own ρ' σ) H' ∧ RepR X.K ρ' σ H H' r v ∧ Q r ρ') : DE X e t :=
  fun pins s σ H ρ Q I E q => thn (h pins s σ H _ I (k σ H ρ Q E q)) fun u s' ⟨v, H', I', rv, r, ρ', E', S, rr, q'⟩ => ⟨v, H', r, ρ', I', rv, E', S, rr, q'⟩
theorem DT.pt {t : WT} (h : DT X e t) : PT X e (upT X.K t) := fun pins s σ H Q' I ⟨ρ, Q, E, q, k⟩ =>
  thn (h pins s σ H ρ Q I E q) fun b s' ⟨H', ρ', I', E', S, q'⟩ => ⟨H', I', k b H' ρ' E' S q'⟩
theorem DT.of {t : WT} {te : TT} (h : PT X e te) (k : ∀ σ H ρ Q, EvOk X.K ρ σ H → t ρ Q → te σ H fun b H' => ∃ ρ', EvOk X.K ρ' σ H' ∧ Stp (Own ρ σ) H (Own ρ' σ) H' ∧ Q b ρ') : DT X e t :=
  fun pins s σ H ρ Q I E q => thn (h pins s σ H _ I (k σ H ρ Q E q)) fun b s' ⟨H', I', ρ', E', S, q'⟩ => ⟨H', ρ', I', E', S, q'⟩
end
def DA (X : Cx) (es : List Expr) (t : WA) : Prop := PA X es (upA X.K t)
def Ext (H H' : Hp) : Prop := ∀ b o, H b = some o → H' b = some o
theorem Ext.refl (H : Hp) : Ext H H := fun _ _ h => h
theorem Ext.new {H : Hp} {p : Addr} (h : H p = none) (o : HO) : Ext H (upd H p o) := fun b o' e => by rw [upd_ne (ne_of_none e h)]; exact e
theorem Ext.pers {H H' : Hp} (e : Ext H H') : Pers H H' := ⟨fun b _ h => e b _ h, fun b _ _ h => e b _ h⟩
theorem Ext.stp {H H' : Hp} (e : Ext H H') {O : Addr → Prop} : Stp O H O H' := ⟨e.pers, fun b o h _ _ => e b o h, fun _ z => .inl z, fun b o h => ⟨o, e b o h⟩⟩
theorem EvOk.ext {K : W.Frag} {ρ : Ev} {σ : L2.St} {H H' : Hp} (E : EvOk K ρ σ H) (e : Ext H H') : EvOk K ρ σ H' :=
  E.kept e.pers fun b ob => by
    obtain ⟨vs, q⟩ := E.noOwn ob
    rw [q, e b _ q]
def NewR (K : W.Frag) (H H' : Hp) (r : R) (v : V) : Prop := Ext H H' ∧ match r with
  | .val t => Rep K H' t v
  | .own xs => ∃ p vs, v = .ref p ∧ H' p = some (.lst vs) ∧ Reps K H' xs vs ∧ H p = none
  | .bor _ => False
theorem NewR.rep {K : W.Frag} {ρ : Ev} {σ : L2.St} {H0 H H' : Hp} {r : R} {v : V} {O : Addr → Prop} (n : NewR K H H' r v) (E : EvOk K ρ σ H) (S : Stp O H0 (Own ρ σ) H) : RepR K ρ σ H0 H' r v := by
  obtain ⟨e, n⟩ := n
  cases r with
  | val t => exact n
  | own xs =>
    obtain ⟨p, vs, h1, h2, h3, h4⟩ := n
    refine ⟨p, vs, h1, h2, h3, fun z => ?_, S.fresh h4⟩
    obtain ⟨ws, q⟩ := E.noOwn z
    rw [h4] at q; cases q
  | bor i => exact n.elim
def wC (t : T) : WE := fun ρ Q => Q (.val t) ρ
def rdV (i : Nat) : Slot → Option R
  | .un => none
  | .val t => some (.val t)
  | .own _ => some (.bor i)
def wV (i : Nat) : WE := fun ρ Q => bO (ρ[i]?) fun s => bO (rdV i s) fun r => Q r ρ
section
variable {X : Cx}
theorem d_var (i : Nat) {x : Str} {pos : Pos} (hN : X.N[i]? = some x := by rfl) (hv : Vis X.env.scope x := by first | exact Or.inl rfl | exact Or.inr (Or.inl rfl) | exact Or.inr (Or.inr rfl)) (hd : (x == ("__debug__" : Str)) = false := by decide)
    (hcd : (x == ("__classdict__" : Str)) = false := by decide) : DE X (.Name x pos) (wV i) := by
  refine DE.of (pe_var hN hv hd hcd) fun σ H ρ Q E q => ?_
  obtain ⟨sl, h1, q⟩ := bO_iff.mp q
  obtain ⟨r, h2, q⟩ := bO_iff.mp q
  cases sl with
  | un => cases h2
  | val t =>
    cases h2
    obtain ⟨v, h3, h4⟩ := E.val i t h1
    exact ⟨v, h3, .val t, ρ, E, .refl, h4, q⟩
  | own xs =>
    cases h2
    obtain ⟨p, vs, h3, h4, h5⟩ := E.own i xs h1
    exact ⟨_, h3, .bor i, ρ, E, .refl, ⟨xs, h1, h3⟩, q⟩
theorem d_int {i j pos} : DE X (.Constant (.int i) j pos) (wC (.int i)) := DE.of pe_int fun σ H ρ Q E q => ⟨_, ρ, E, .refl, (by simp [RepR] : RepR X.K ρ σ H H (.val (.int i)) (.int i)), q⟩
theorem d_bl {b j pos} : DE X (.Constant (.bool b) j pos) (wC (.bl b)) := DE.of pe_bl fun σ H ρ Q E q => ⟨_, ρ, E, .refl, (by simp [RepR] : RepR X.K ρ σ H H (.val (.bl b)) (.bl b)), q⟩
theorem d_non {j pos} : DE X (.Constant .none j pos) (wC .non) := DE.of pe_non fun σ H ρ Q E q => ⟨_, ρ, E, .refl, (by simp [RepR] : RepR X.K ρ σ H H (.val .non) .non), q⟩
theorem d_str {x j pos} : DE X (.Constant (.str x) j pos) (wC (.str x)) := DE.of pe_str fun σ H ρ Q E q => ⟨_, ρ, E, .refl, (by simp [RepR] : RepR X.K ρ σ H H (.val (.str x)) (.str x)), q⟩
theorem d_gstr {x z : Str} {tk : Tok} {pos : Pos} (hg : Gl X x) (hm : X.mg x = some (.str z tk)) (hd : (x == ("__debug__" : Str)) = false := by decide) : DE X (.Name x pos) (wC (.str z)) :=
  DE.of (pe_glob (v := .str z) hg hm ⟨tk, rfl⟩ hd) fun σ H ρ Q E q => ⟨_, ρ, E, .refl, (by simp [RepR] : RepR X.K ρ σ H H (.val (.str z)) (.str z)), q⟩
theorem d_gint {x : Str} {i : Int} {tk : Tok} {pos : Pos} (hg : Gl X x) (hm : X.mg x = some (.int i tk)) (hd : (x == ("__debug__" : Str)) = false := by decide) : DE X (.Name x pos) (wC (.int i)) :=
  DE.of (pe_glob (v := .int i) hg hm ⟨tk, rfl⟩ hd) fun σ H ρ Q E q => ⟨_, ρ, E, .refl, (by simp [RepR] : RepR X.K ρ σ H H (.val (.int i)) (.int i)), q⟩
end
def OpT (X : Cx) (f : Value → Value → Sem Value) (g : T → T → Option R) : Prop :=
  ∀ (pins : List (Addr × Obj)) (s : Shared) (σ : L2.St) (H : Hp) (x y : V) (u v : Value) (t1 t2 : T) (r : R) (Q : VK), Inv X pins σ H s → RelV x u → RelV y v → Now X.K H t1 x → Now X.K H t2 y → g t1 t2 = some r →
    (∀ z H', NewR X.K H H' r z → Q z H') → wpAny (model X.prog X.w) X.A (f u v) (EP X pins σ Q) X.xe s
def wBin (g : T → T → Option R) (ta tb : WE) : WE := fun ρ Q => ta ρ fun r1 ρ1 => tb ρ1 fun r2 ρ2 => bO (rdR ρ2 r1) fun t1 => bO (rdR ρ2 r2) fun t2 => bO (g t1 t2) fun r => Q r ρ2
theorem rdR_bor {ρ : Ev} {i : Nat} {t : T} (h : rdR ρ (.bor i) = some t) : ∃ xs, ρ[i]? = some (.own xs) := by
  have h' : (match ρ[i]? with | some (Slot.own xs) => some (T.lst xs) | _ => none) = some t := h
  cases q : ρ[i]? with
  | none => rw [q] at h'; cases h'
  | some sl =>
    cases sl with
    | un => rw [q] at h'; cases h'
    | val t => rw [q] at h'; cases h'
    | own xs => exact ⟨xs, rfl⟩
theorem RepR.later' {K : W.Frag} {ρ ρ' : Ev} {σ : L2.St} {H H1 H2 : Hp} {r : R} {v : V} {t : T} (h : RepR K ρ σ H H1 r v) (s : Stp (Own ρ σ) H1 (Own ρ' σ) H2) (q : rdR ρ' r = some t) : RepR K ρ' σ H H2 r v :=
  h.later s fun i e => by subst e; exact rdR_bor q
section
variable {X : Cx} {a b : Expr} {ta tb : WE} {pos : Pos}
theorem bin_post {pins : List (Addr × Obj)} {s : Shared} {σ : L2.St} {H : Hp} {ρ : Ev} {Q : R → Ev → Prop} {f : Value → Value → Sem Value} {g : T → T → Option R} (ho : OpT X f g) (ha : DE X a ta) (hb : DE X b tb) (I : Inv X pins σ H s) (E : EvOk X.K ρ σ H) (q : wBin g ta tb ρ Q) :
    wpAny (model X.prog X.w) X.A (eval a X.env) (fun v s₁ => wpAny (model X.prog X.w) X.A (eval b X.env) (fun u s₂ => wpAny (model X.prog X.w) X.A (f v u) (Post X pins σ ρ H Q) X.xe s₂) X.xe s₁) X.xe s := by
  refine thn (ha pins s σ H ρ _ I E q) fun u s1 ⟨x, H1, r1, ρ1, I1, rx, E1, S1, p1, q1⟩ => ?_
  refine thn (hb pins s1 σ H1 ρ1 _ I1 E1 q1) fun v s2 ⟨y, H2, r2, ρ2, I2, ry, E2, S2, p2, q2⟩ => ?_
  obtain ⟨t1, e1, q2⟩ := bO_iff.mp q2
  obtain ⟨t2, e2, q2⟩ := bO_iff.mp q2
  obtain ⟨r, e3, q2⟩ := bO_iff.mp q2
  have n1 := (p1.later' S2 e1).now E2 e1
  have n2 := p2.now E2 e2
  refine thn (ho pins s2 σ H2 x y u v t1 t2 r (fun z H' => NewR X.K H2 H' r z) I2 rx ry n1 n2 e3 fun z H' n => n) fun w s3 ⟨z, H3, I3, rz, n⟩ => ?_
  exact ⟨z, H3, r, ρ2, I3, rz, E2.ext n.1, (S1.trans S2).trans n.1.stp, n.rep E2 (S1.trans S2), q2⟩
theorem d_bin {op : Operator} {g : T → T → Option R} (ho : OpT X (binaryOp op) g) (ha : DE X a ta) (hb : DE X b tb) : DE X (.BinOp a op b pos) (wBin g ta tb) := fun pins s σ H ρ Q I E q => wpAny_BinOp (bin_post ho ha hb I E q)
theorem d_cmp {op : CmpOp} {g : T → T → Option R} (ho : OpT X (compareOp op) g) (ha : DE X a ta) (hb : DE X b tb) (hm : behindInMarks op b = false) : DE X (.Compare a [op] [b] pos) (wBin g ta tb) := fun pins s σ H ρ Q I E q =>
  wpAny_Compare1 (bin_post ho ha hb I E q) hm
def tst (t : WE) : WT := fun ρ Q => t ρ fun r ρ' => ∃ b, r = .val (.bl b) ∧ Q b ρ'
theorem dt_cmp {op : CmpOp} {g : T → T → Option R} (ho : OpT X (compareOp op) g) (ha : DE X a ta) (hb : DE X b tb) (hm : behindInMarks op b = false) : DT X (.Compare a [op] [b] pos) (tst (wBin g ta tb)) := fun pins s σ H ρ Q I E q => by
  refine wpAny_isTrue_Compare1 (thn (bin_post ho ha hb I E q) fun v s1 h1 => thn h1 fun u s2 h2 => thn h2 fun c s3 ⟨x, H1, r1, ρ1, I1, rx, E1, S1, p1, k, e1, q1⟩ => ?_) hm
  subst e1
  have p1' : Rep X.K H1 (.bl k) x := p1
  rw [rep_bl] at p1'
  subst p1'
  cases rx
  exact wpAny_truthy_bool ⟨H1, ρ1, I1, E1, S1, q1⟩
end
end FW
namespace FW
open PySem PySem.Spec PyProof.Rows L2
variable [Tabs]
theorem inv_freeze {X : Cx} {pins : List (Addr × Obj)} {σ : L2.St} {H : Hp} {s : Shared} {p : Addr} {vs : List V} (I : Inv X pins σ H s) (h : H p = some (.lst vs)) : ∃ o, Inv X pins σ (upd H p (.frz o (.lst vs))) s := by
  have ok := I.hok p _ h
  obtain ⟨z, its, n, r, e⟩ := id ok
  refine ⟨{ cls := .type "list", data := .seq its.toArray n }, ?_⟩
  have hne : ∀ b o, H b = some o → (∀ xs, o ≠ .lst xs) → b ≠ p := fun b o e1 e2 z => by subst z; rw [h] at e1; cases e1; exact e2 _ rfl
  have hok : HOk X.prog X.w (upd H p (.frz { cls := .type "list", data := .seq its.toArray n } (.lst vs))) s.heap := fun b o q => by
    by_cases hb : b = p
    · subst hb
      rw [upd_same] at q; cases q
      exact ⟨e, z, its, n, r, e⟩
    · rw [upd_ne hb] at q
      refine (I.hok b o q).stay (fun _ _ _ x => x) (fun c q2 => ?_) fun c xs q2 => ?_
      · rw [upd_ne (hne c _ q2 (fun _ z => nomatch z))]; exact q2
      · rw [upd_ne (hne c _ q2 (fun _ z => nomatch z))]; exact q2
  have un : Un X.fs [] H (upd H p (.frz { cls := .type "list", data := .seq its.toArray n } (.lst vs))) s.heap s.heap := {
    keep := fun b o q _ _ _ => q
    slot := fun b o q _ _ _ => ⟨o.slots, q⟩
    free := fun b o _ q _ => by
      have : b ≠ p := fun z => by subst z; rw [h] at q; cases q
      rw [upd_ne this]; exact q
    there := fun b o q _ => ⟨o, q⟩
    tups := fun b xs q => by rw [upd_ne (hne b _ q (fun _ z => nomatch z))]; exact q
    frzs := fun b o u q => by rw [upd_ne (hne b _ q (fun _ z => nomatch z))]; exact q
    tbls := fun b ps q => ⟨#[], by rw [upd_ne (hne b _ q (fun _ z => nomatch z)), q]; simp⟩ }
  have := I.un (t' := s.toks) un hok
  exact this
theorem pers_freeze {H : Hp} {p : Addr} {vs : List V} {o : Obj} (h : H p = some (.lst vs)) : Pers H (upd H p (.frz o (.lst vs))) := by
  have hne : ∀ b o, H b = some o → (∀ xs, o ≠ .lst xs) → b ≠ p := fun b o e1 e2 z => by subst z; rw [h] at e1; cases e1; exact e2 _ rfl
  exact ⟨fun b xs q => by rw [upd_ne (hne b _ q (fun _ z => nomatch z))]; exact q, fun b o u q => by rw [upd_ne (hne b _ q (fun _ z => nomatch z))]; exact q⟩
def frz (ρ : Ev) : R → Option (T × Ev)
  | .val t => some (t, ρ)
  | .own xs => some (.lst xs, ρ)
  | .bor i => match ρ[i]? with
    | some (.own xs) => some (.lst xs, ρ.set i (.val (.lst xs)))
    | _ => none
def wFr (t : WE) : WE := fun ρ Q => t ρ fun r ρ1 => bO (frz ρ1 r) fun x => Q (.val x.1) x.2
theorem frz_bor {ρ : Ev} {i : Nat} {x : T × Ev} (h : frz ρ (.bor i) = some x) : ∃ xs, ρ[i]? = some (.own xs) ∧ x = (.lst xs, ρ.set i (.val (.lst xs))) := by
  have h' : (match ρ[i]? with | some (Slot.own xs) => some (T.lst xs, ρ.set i (Slot.val (T.lst xs))) | _ => none) = some x := h
  cases q : ρ[i]? with
  | none => rw [q] at h'; cases h'
  | some sl =>
    cases sl with
    | un => rw [q] at h'; cases h'
    | val t => rw [q] at h'; cases h'
    | own xs => rw [q] at h'; cases h'; exact ⟨xs, rfl, rfl⟩
theorem d_fr {X : Cx} {e : Expr} {t : WE} (h : DE X e t) : DE X e (wFr t) := by
  intro pins s σ H ρ Q I E q
  refine thn (h pins s σ H ρ _ I E q) fun u s1 ⟨v, H1, r, ρ1, I1, rv, E1, S1, p1, q1⟩ => ?_
  obtain ⟨x, hx, q1⟩ := bO_iff.mp q1
  cases r with
  | val t => cases hx; exact ⟨v, H1, _, ρ1, I1, rv, E1, S1, p1, q1⟩
  | own xs =>
    cases hx
    obtain ⟨p, vs, e1, e2, e3, e4, e5⟩ := p1
    obtain ⟨o, I2⟩ := inv_freeze I1 e2
    have P := pers_freeze (o := o) e2
    refine ⟨v, _, .val (.lst xs), ρ1, I2, rv, E1.kept P fun b ob => upd_ne (fun z => by subst z; exact e4 ob), ⟨S1.pers.trans P, fun b o' q t n => ?_, S1.own, fun b o' q => ?_⟩, ?_, q1⟩
    · rw [upd_ne (ne_of_none q e5)]; exact S1.keep b o' q t n
    · rw [upd_ne (ne_of_none q e5)]; exact S1.there b o' q
    · show Rep X.K _ (.lst xs) v
      rw [rep_lst]
      exact ⟨p, vs, e1, .inl ⟨o, upd_same⟩, Reps.pers P xs vs e3⟩
  | bor i =>
    obtain ⟨xs, h1, rfl⟩ := frz_bor hx
    obtain ⟨p, vs, h3, h4, h5⟩ := E1.own i xs h1
    obtain ⟨ys, h6, h7⟩ := p1
    rw [h3] at h7; cases h7
    obtain ⟨o, I2⟩ := inv_freeze I1 h4
    have P := pers_freeze (o := o) h4
    have hi : i < ρ1.length := (List.getElem?_eq_some_iff.mp h1).1
    have own' : ∀ b, Own (ρ1.set i (.val (.lst xs))) σ b → Own ρ1 σ b ∧ b ≠ p := fun b ⟨j, zs, g1, g2⟩ => by
      by_cases hj : j = i
      · subst hj; rw [List.getElem?_set_self hi] at g1; cases g1
      · rw [List.getElem?_set_ne (Ne.symm hj)] at g1
        exact ⟨⟨j, zs, g1, g2⟩, fun z => hj (E1.inj j i zs xs p g1 h1 (z ▸ g2) h3)⟩
    refine ⟨.ref p, _, .val (.lst xs), _, I2, rv, ⟨by rw [List.length_set]; exact E1.len, fun j t g => ?_, fun j zs g => ?_, fun j k zs ws q g1 g2 g3 g4 => ?_⟩, ⟨S1.pers.trans P, fun b o' q t n => ?_, fun b z => S1.own b (own' b z).1, fun b o' q => ?_⟩, ?_, q1⟩
    · by_cases hj : j = i
      · subst hj
        rw [List.getElem?_set_self hi] at g; cases g
        exact ⟨_, h3, by rw [rep_lst]; exact ⟨p, vs, rfl, .inl ⟨o, upd_same⟩, Reps.pers P xs vs h5⟩⟩
      · rw [List.getElem?_set_ne (Ne.symm hj)] at g
        obtain ⟨v, g1, g2⟩ := E1.val j t g
        exact ⟨v, g1, Rep.pers P t v g2⟩
    · by_cases hj : j = i
      · subst hj; rw [List.getElem?_set_self hi] at g; cases g
      · rw [List.getElem?_set_ne (Ne.symm hj)] at g
        obtain ⟨q, ws, g1, g2, g3⟩ := E1.own j zs g
        refine ⟨q, ws, g1, ?_, Reps.pers P zs ws g3⟩
        rw [upd_ne (fun (z : q = p) => hj (E1.inj j i zs xs p g h1 (by rw [← z]; exact g1) h3))]; exact g2
    · by_cases hj : j = i
      · subst hj; rw [List.getElem?_set_self hi] at g1; cases g1
      · rw [List.getElem?_set_ne (Ne.symm hj)] at g1
        by_cases hk : k = i
        · subst hk; rw [List.getElem?_set_self hi] at g2; cases g2
        · rw [List.getElem?_set_ne (Ne.symm hk)] at g2
          exact E1.inj j k zs ws q g1 g2 g3 g4
    · have hb : b ≠ p := fun z => by
        subst z
        rcases S1.own b ⟨i, xs, h1, h3⟩ with z | z
        · exact n z
        · rw [q] at z; cases z
      rw [upd_ne hb]; exact S1.keep b o' q t n
    · by_cases hb : b = p
      · subst hb; exact ⟨_, upd_same⟩
      · rw [upd_ne hb]; exact S1.there b o' q
    · show Rep X.K _ (.lst xs) (.ref p)
      rw [rep_lst]
      exact ⟨p, vs, rfl, .inl ⟨o, upd_same⟩, Reps.pers P xs vs h5⟩
def okR (ρ : Ev) (r : R) : Prop := (rdR ρ r).isSome = true
theorem okR_iff {ρ : Ev} {r : R} : okR ρ r ↔ ∃ t, rdR ρ r = some t := by unfold okR; rw [Option.isSome_iff_exists]
@[simp] theorem okR_val {ρ : Ev} {t : T} : okR ρ (.val t) = True := by simp [okR, rdR]
@[simp] theorem okR_own {ρ : Ev} {xs : List T} : okR ρ (.own xs) = True := by simp [okR, rdR]
def wNil : WA := fun ρ Q => Q [] ρ
def wCons (te : WE) (tr : WA) : WA := fun ρ Q => te ρ fun r ρ1 => tr ρ1 fun rs ρ2 => okR ρ2 r ∧ Q (r :: rs) ρ2
section
variable {X : Cx} {e : Expr} {es : List Expr} {te : WE} {t : WA} {pos : Pos}
theorem da_nil : DA X [] wNil := fun p pins s σ H Q I ⟨ρ, Q', E, q, k⟩ => pa_nil p pins s σ H Q I (k [] H [] ρ E .refl .nil q)
theorem da_cons (ha : DE X e te) (hr : DA X es t) (hs : starEach (e :: es) X.env = (false, eval e X.env) :: starEach es X.env := by rfl) : DA X (e :: es) (wCons te t) := by
  intro p pins s σ H Q I ⟨ρ, Q', E, q, k⟩
  refine pa_cons (te := up X.K te) (t := upA X.K t) ha.pe hr hs p pins s σ H Q I ⟨ρ, _, E, q, fun v H1 r ρ1 E1 S1 p1 q1 => ⟨ρ1, _, E1, q1, fun vs H2 rs ρ2 E2 S2 p2 q2 => ?_⟩⟩
  obtain ⟨ok, q2⟩ := q2
  obtain ⟨tt, ok⟩ := okR_iff.mp ok
  refine k (v :: vs) H2 (r :: rs) ρ2 E2 (S1.trans S2) (.cons (p1.later' S2 ok) ?_) q2
  have fr : ∀ {rs : List R} {vs : List V}, RepRs X.K ρ2 σ H1 H2 rs vs → RepRs X.K ρ2 σ H H2 rs vs := by
    intro rs vs h
    refine Paired.mapP h fun r v q => ?_
    cases r with
    | val t => exact q
    | own xs =>
      obtain ⟨p, ws, e1, e2, e3, e4, e5⟩ := q
      exact ⟨p, ws, e1, e2, e3, e4, S1.fresh e5⟩
    | bor i => exact q
  exact fr p2
def valsR : List R → Option (List T)
  | [] => some []
  | .val t :: rs => (valsR rs).map (t :: ·)
  | _ :: _ => none
@[simp] theorem valsR_nil : valsR [] = some [] := rfl
@[simp] theorem valsR_cons {t : T} {rs : List R} : valsR (.val t :: rs) = (valsR rs).map (t :: ·) := rfl
theorem valsR_reps {K : W.Frag} {ρ : Ev} {σ : L2.St} {H H' : Hp} : ∀ {rs : List R} {vs : List V} {ts : List T}, RepRs K ρ σ H H' rs vs → valsR rs = some ts → Reps K H' ts vs
  | _, _, _, .nil, e => by cases e; exact .nil
  | r :: rs, v :: vs, ts, .cons h t, e => by
    cases r with
    | val x =>
      rw [valsR_cons, Option.map_eq_some_iff] at e
      obtain ⟨us, e, rfl⟩ := e
      rw [reps_cons]
      exact ⟨v, vs, rfl, h, valsR_reps t e⟩
    | own xs => cases e
    | bor i => cases e
def wLst (t : WA) : WE := fun ρ Q => t ρ fun rs ρ1 => bO (valsR rs) fun ts => ts.length ≤ sizeLine ∧ Q (.own ts) ρ1
def wTup (t : WA) : WE := fun ρ Q => t ρ fun rs ρ1 => bO (valsR rs) fun ts => ts.length ≤ sizeLine ∧ Q (.val (.tup ts)) ρ1
theorem d_lst (h : DA X es t) : DE X (.List es pos) (wLst t) := by
  refine DE.of (pe_lst h) fun σ H ρ Q E q => ⟨ρ, _, E, q, fun vs H1 rs ρ1 E1 S1 p1 q1 => ?_⟩
  obtain ⟨ts, e, hz, q1⟩ := bO_iff.mp q1
  have rr := valsR_reps p1 e
  refine ⟨by rw [← rr.length]; exact hz, fun p hp => ?_⟩
  have x := Ext.new hp (.lst vs)
  exact ⟨.own ts, ρ1, E1.ext x, S1.trans x.stp, NewR.rep (H := H1) ⟨x, p, vs, rfl, upd_same, Reps.pers x.pers ts vs rr, hp⟩ E1 S1, q1⟩
theorem d_tup {k} (h : DA X es t) : DE X (.Tuple es k pos) (wTup t) := by
  refine DE.of (pe_tup h) fun σ H ρ Q E q => ⟨ρ, _, E, q, fun vs H1 rs ρ1 E1 S1 p1 q1 => ?_⟩
  obtain ⟨ts, e, hz, q1⟩ := bO_iff.mp q1
  have rr := valsR_reps p1 e
  refine ⟨by rw [← rr.length]; exact hz, fun p hp => ?_⟩
  have x := Ext.new hp (.tup vs)
  exact ⟨.val (.tup ts), ρ1, E1.ext x, S1.trans x.stp, (by show Rep X.K _ (.tup ts) (.ref p); rw [rep_tup]; exact ⟨p, vs, rfl, .of upd_same, Reps.pers x.pers ts vs rr⟩), q1⟩
end
def rdRs (ρ : Ev) : List R → Option (List T)
  | [] => some []
  | r :: rs => (rdR ρ r).bind fun t => (rdRs ρ rs).map (t :: ·)
def CallT (X : Cx) (f : Value) (g : List T → Option R) : Prop :=
  ∀ (pins : List (Addr × Obj)) (s : Shared) (σ : L2.St) (H : Hp) (vs : List V) (us : List Value) (ts : List T) (r : R) (Q : VK), Inv X pins σ H s → Vals vs us → Paired (Now X.K H) ts vs → g ts = some r →
    (∀ z H', NewR X.K H H' r z → Q z H') → wpAny (model X.prog X.w) X.A (call f us) (EP X pins σ Q) X.xe s
def rOfT (K : W.Frag) (g : List T → Option R) : List V → Hp → VK → Prop := fun vs H Q => ∃ ts r, Paired (Now K H) ts vs ∧ g ts = some r ∧ ∀ z H', NewR K H H' r z → Q z H'
theorem CallT.r {X : Cx} {f : Value} {g : List T → Option R} (h : CallT X f g) : CallR X f (rOfT X.K g) := fun pins s σ H vs us Q I rv ⟨ts, r, n, e, q⟩ => h pins s σ H vs us ts r Q I rv n e q
def wCB (g : List T → Option R) (t : WA) : WE := fun ρ Q => t ρ fun rs ρ1 => bO (rdRs ρ1 rs) fun ts => bO (g ts) fun r => Q r ρ1
theorem rdRs_now {K : W.Frag} {ρ : Ev} {σ : L2.St} {H H' : Hp} (E : EvOk K ρ σ H') : ∀ {rs : List R} {vs : List V} {ts : List T}, RepRs K ρ σ H H' rs vs → rdRs ρ rs = some ts → Paired (Now K H') ts vs
  | _, _, _, .nil, e => by cases e; exact .nil
  | r :: rs, v :: vs, ts, .cons h t, e => by
    have e' : ((rdR ρ r).bind fun t => (rdRs ρ rs).map (t :: ·)) = some ts := e
    rw [Option.bind_eq_some_iff] at e'
    obtain ⟨a, ea, e'⟩ := e'
    rw [Option.map_eq_some_iff] at e'
    obtain ⟨b, eb, rfl⟩ := e'
    exact .cons (h.now E ea) (rdRs_now E t eb)
section
variable {X : Cx} {x : Str} {p pos : Pos} {e : Expr} {es : List Expr} {t : WA} {id Ty : String} {g : List T → Option R}
theorem cb_go {σ : L2.St} {H : Hp} {ρ : Ev} {Q : R → Ev → Prop} (E : EvOk X.K ρ σ H) (q : wCB g t ρ Q) :
    tCB (rOfT X.K g) (upA X.K t) σ H fun v H' => ∃ r ρ', EvOk X.K ρ' σ H' ∧ Stp (Own ρ σ) H (Own ρ' σ) H' ∧ RepR X.K ρ' σ H H' r v ∧ Q r ρ' := by
  refine ⟨ρ, _, E, q, fun vs H1 rs ρ1 E1 S1 p1 q1 => ?_⟩
  obtain ⟨ts, e1, q1⟩ := bO_iff.mp q1
  obtain ⟨r, e2, q1⟩ := bO_iff.mp q1
  exact ⟨ts, r, rdRs_now E1 p1 e1, e2, fun z H2 n => ⟨r, ρ1, E1.ext n.1, S1.trans n.1.stp, n.rep E1 S1, q1⟩⟩
theorem d_callB (hc : CallT X (.builtin id) g) (hg : Gl X x) (hm : X.mg x = none) (hv : bootBuiltins x = some (.builtin id)) (ha : DA X (e :: es) t) (hn : x ≠ "__name__" := by decide) (hdb : (x == ("__debug__" : Str)) = false := by decide)
    (he : starEach (e :: es) X.env = (false, eval e X.env) :: starEach es X.env := by rfl) (hpl : (backTo pos (starEach es X.env)).any (·.1) = false := by rfl) : DE X (.Call (.Name x p) (e :: es) [] pos) (wCB g t) :=
  DE.of (pe_callB hc.r hg hm hv ha hn hdb he hpl) fun σ H ρ Q E q => cb_go E q
theorem d_callTy (hc : CallT X (.type Ty) g) (hg : Gl X x) (hm : X.mg x = none) (hv : bootBuiltins x = some (.type Ty)) (ha : DA X (e :: es) t) (hn : x ≠ "__name__" := by decide) (hdb : (x == ("__debug__" : Str)) = false := by decide)
    (he : starEach (e :: es) X.env = (false, eval e X.env) :: starEach es X.env := by rfl) (hpl : (backTo pos (starEach es X.env)).any (·.1) = false := by rfl) : DE X (.Call (.Name x p) (e :: es) [] pos) (wCB g t) :=
  DE.of (pe_callTy hc.r hg hm hv ha hn hdb he hpl) fun σ H ρ Q E q => cb_go E q
end
end FW
namespace FW
open PySem PySem.Spec PyProof.Rows L2
variable [Tabs]
def DW (X : Cx) (e : Expr) (t : WT) : Prop := PW X e (upT X.K t)
theorem DW.dt {X : Cx} {e : Expr} {t : WT} (h : DW X e t) : DT X e t :=
  DT.of h.pt fun σ H ρ Q E q => ⟨ρ, Q, E, q, fun b H' ρ' E' S q' => ⟨ρ', E', S, q'⟩⟩
theorem PW.mono {X : Cx} {e : Expr} {t t' : TT} (h : PW X e t) (k : ∀ σ H Q, t' σ H Q → t σ H Q) : PW X e t' := fun wh pins s σ H Q I q => h wh pins s σ H Q I (k σ H Q q)
theorem PT.mono {X : Cx} {e : Expr} {t t' : TT} (h : PT X e t) (k : ∀ σ H Q, t' σ H Q → t σ H Q) : PT X e t' := fun pins s σ H Q I q => h pins s σ H Q I (k σ H Q q)
def wAnd (t u : WT) : WT := fun ρ Q => t ρ fun c ρ1 => if c = true then u ρ1 Q else Q false ρ1
def wOr (t u : WT) : WT := fun ρ Q => t ρ fun c ρ1 => if c = true then Q true ρ1 else u ρ1 Q
def wNot (t : WT) : WT := fun ρ Q => t ρ fun c ρ1 => Q (!c) ρ1
section
variable {X : Cx} {a b c : Expr} {rest : List Expr} {tA tB : WT} {ta tb tc : WE} {pos : Pos}
theorem dw_or1 (ha : DT X a tA) : DW X (.BoolOp .Or [a] pos) tA := pw_or1 ha.pt
theorem dw_or (ha : DT X a tA) (hb : DW X (.BoolOp .Or (b :: rest) pos) tB) : DW X (.BoolOp .Or (a :: b :: rest) pos) (wOr tA tB) := by
  refine PW.mono (pw_or ha.pt hb) fun σ H Q' ⟨ρ, Q, E, q, k⟩ => ⟨ρ, _, E, q, fun d H1 ρ1 E1 S1 q1 => ?_⟩
  cases d with
  | false => exact ⟨ρ1, Q, E1, q1, fun b H2 ρ2 E2 S2 q2 => k b H2 ρ2 E2 (S1.trans S2) q2⟩
  | true => exact k true H1 ρ1 E1 S1 q1
theorem dt_not (ha : DT X a tA) : DT X (.UnaryOp .Not a pos) (wNot tA) :=
  DT.of (pt_not ha.pt) fun σ H ρ Q E q => ⟨ρ, _, E, q, fun b H' ρ' E' S q' => ⟨ρ', E', S, q'⟩⟩
def truT : T → Option Bool
  | .non => some false
  | .bl b => some b
  | .int i => some (i != 0)
  | .str x => if x.length ≤ sizeLine then some ((x.length : Int) != 0) else none
  | .tup xs => some (!xs.isEmpty)
  | .lst xs => some (!xs.isEmpty)
  | .dct _ => none
def wTru (t : WE) : WT := fun ρ Q => t ρ fun r ρ1 => bO (rdR ρ1 r) fun x => bO (truT x) fun b => Q b ρ1
theorem isEmpty_reps {K : W.Frag} {H : Hp} {ts : List T} {vs : List V} (h : Reps K H ts vs) : ts.isEmpty = vs.isEmpty := by
  have := h.length
  cases ts <;> cases vs <;> simp_all
theorem dt_tru (ha : DE X a ta) (he : ∀ whole, isTrue a X.env whole = (do let v ← whole; standAt a.pos; holding [v] (truthy v)) := by intro _; rfl) : DT X a (wTru ta) := by
  refine DT.of (pt_truth ha.pe he) fun σ H ρ Q E q => ⟨ρ, _, E, q, fun v H1 r ρ1 E1 S1 p1 q1 => ?_⟩
  obtain ⟨t, e1, q1⟩ := bO_iff.mp q1
  obtain ⟨k, e2, q1⟩ := bO_iff.mp q1
  refine ⟨k, ?_, ρ1, E1, S1, q1⟩
  have n := p1.now E1 e1
  cases t with
  | non => rw [show Now X.K H1 .non v = Rep X.K H1 .non v from rfl, rep_non] at n; subst n; cases e2; rfl
  | bl b => rw [show Now X.K H1 (.bl b) v = Rep X.K H1 (.bl b) v from rfl, rep_bl] at n; subst n; cases e2; rfl
  | int i => rw [show Now X.K H1 (.int i) v = Rep X.K H1 (.int i) v from rfl, rep_int] at n; subst n; cases e2; rfl
  | str x =>
    rw [show Now X.K H1 (.str x) v = Rep X.K H1 (.str x) v from rfl, rep_str] at n; subst n
    have e2' : (if x.length ≤ sizeLine then some ((x.length : Int) != 0) else none) = some k := e2
    split at e2'
    · cases e2'; exact ⟨by assumption, rfl⟩
    · cases e2'
  | tup xs =>
    rw [show Now X.K H1 (.tup xs) v = Rep X.K H1 (.tup xs) v from rfl, rep_tup] at n
    obtain ⟨a, vs, rfl, h1, h2⟩ := n
    cases e2
    exact .inr (.inl ⟨vs, h1, by rw [isEmpty_reps h2]⟩)
  | lst xs =>
    obtain ⟨a, vs, rfl, h1, h2⟩ := n
    cases e2
    exact .inl ⟨vs, h1, by rw [isEmpty_reps h2]⟩
  | dct _ => cases e2
def wAndV (ta tb : WE) : WE := fun ρ Q => ta ρ fun r ρ1 => ∃ c, r = .val (.bl c) ∧ if c = true then tb ρ1 Q else Q (.val (.bl false)) ρ1
def wOrV (ta tb : WE) : WE := fun ρ Q => ta ρ fun r ρ1 => ∃ c, r = .val (.bl c) ∧ if c = true then Q (.val (.bl true)) ρ1 else tb ρ1 Q
theorem RepR.fresh {K : W.Frag} {ρ : Ev} {σ : L2.St} {H H1 H2 : Hp} {r : R} {v : V} {O O1 : Addr → Prop} (S : Stp O H O1 H1) (p : RepR K ρ σ H1 H2 r v) : RepR K ρ σ H H2 r v := by
  cases r with
  | val t => exact p
  | own xs =>
    obtain ⟨p, ws, e1, e2, e3, e4, e5⟩ := p
    exact ⟨p, ws, e1, e2, e3, e4, S.fresh e5⟩
  | bor i => exact p
theorem d_one {op} (h : DE X a ta) : DE X (.BoolOp op [a] pos) ta := fun pins s σ H ρ Q I E q => BoolOp_one (h pins s σ H ρ Q I E q)
theorem d_and (ha : DE X a ta) (hb : DE X (.BoolOp .And (b :: rest) pos) tb) : DE X (.BoolOp .And (a :: b :: rest) pos) (wAndV ta tb) := by
  refine DE.of (pe_and ha.pe hb.pe) fun σ H ρ Q E q => ⟨ρ, _, E, q, fun v H1 r ρ1 E1 S1 p1 q1 => ?_⟩
  obtain ⟨c, rfl, q1⟩ := q1
  have p1' : Rep X.K H1 (.bl c) v := p1
  rw [rep_bl] at p1'; subst p1'
  refine ⟨c, rfl, ?_⟩
  cases c with
  | true => exact ⟨ρ1, Q, E1, q1, fun v H2 r ρ2 E2 S2 p2 q2 => ⟨r, ρ2, E2, S1.trans S2, p2.fresh S1, q2⟩⟩
  | false => exact ⟨_, ρ1, E1, S1, p1, q1⟩
theorem d_or (ha : DE X a ta) (hb : DE X (.BoolOp .Or (b :: rest) pos) tb) : DE X (.BoolOp .Or (a :: b :: rest) pos) (wOrV ta tb) := by
  refine DE.of (pe_or ha.pe hb.pe) fun σ H ρ Q E q => ⟨ρ, _, E, q, fun v H1 r ρ1 E1 S1 p1 q1 => ?_⟩
  obtain ⟨c, rfl, q1⟩ := q1
  have p1' : Rep X.K H1 (.bl c) v := p1
  rw [rep_bl] at p1'; subst p1'
  refine ⟨c, rfl, ?_⟩
  cases c with
  | false => exact ⟨ρ1, Q, E1, q1, fun v H2 r ρ2 E2 S2 p2 q2 => ⟨r, ρ2, E2, S1.trans S2, p2.fresh S1, q2⟩⟩
  | true => exact ⟨_, ρ1, E1, S1, p1, q1⟩
end
def Fix (fx : List Nat) (σ σ' : L2.St) : Prop := ∀ j ∈ fx, σ'[j]? = σ[j]?
theorem Fix.refl {fx : List Nat} {σ : L2.St} : Fix fx σ σ := fun _ _ => rfl
theorem Fix.trans {fx : List Nat} {σ σ1 σ2 : L2.St} (a : Fix fx σ σ1) (b : Fix fx σ1 σ2) : Fix fx σ σ2 := fun j h => (b j h).trans (a j h)
structure UpD (K : W.Frag) (fx : List Nat) (D : WD) (D' : Ends) (ρ : Ev) (σ : L2.St) (H : Hp) : Prop where
  nx : ∀ σ' H' ρ', EvOk K ρ' σ' H' → Stp (Own ρ σ) H (Own ρ' σ') H' → Fix fx σ σ' → D.nx ρ' → D'.nx σ' H'
  rt : ∀ v σ' H' r ρ', EvOk K ρ' σ' H' → Stp (Own ρ σ) H (Own ρ' σ') H' → Fix fx σ σ' → RepR K ρ' σ' H H' r v → D.rt r ρ' → D'.rt v H'
  bk : ∀ σ' H' ρ', EvOk K ρ' σ' H' → Stp (Own ρ σ) H (Own ρ' σ') H' → Fix fx σ σ' → D.bk ρ' → D'.bk σ' H'
  ct : ∀ σ' H' ρ', EvOk K ρ' σ' H' → Stp (Own ρ σ) H (Own ρ' σ') H' → Fix fx σ σ' → D.ct ρ' → D'.ct σ' H'
theorem UpD.later {K : W.Frag} {fx : List Nat} {D : WD} {D' : Ends} {ρ ρ1 : Ev} {σ σ1 : L2.St} {H H1 : Hp} (u : UpD K fx D D' ρ σ H) (S : Stp (Own ρ σ) H (Own ρ1 σ1) H1) (F : Fix fx σ σ1) : UpD K fx D D' ρ1 σ1 H1 where
  nx := fun σ' H' ρ' E S' F' q => u.nx σ' H' ρ' E (S.trans S') (F.trans F') q
  rt := fun v σ' H' r ρ' E S' F' p q => u.rt v σ' H' r ρ' E (S.trans S') (F.trans F') (p.fresh S) q
  bk := fun σ' H' ρ' E S' F' q => u.bk σ' H' ρ' E (S.trans S') (F.trans F') q
  ct := fun σ' H' ρ' E S' F' q => u.ct σ' H' ρ' E (S.trans S') (F.trans F') q
theorem UpD.nxt {K : W.Frag} {fx : List Nat} {D : WD} {D' : Ends} {ρ : Ev} {σ : L2.St} {H : Hp} {n : Ev → Prop} {n' : L2.St → Hp → Prop} (u : UpD K fx D D' ρ σ H) (h : ∀ σ' H' ρ', EvOk K ρ' σ' H' → Stp (Own ρ σ) H (Own ρ' σ') H' → Fix fx σ σ' → n ρ' → n' σ' H') :
    UpD K fx { D with nx := n } { D' with nx := n' } ρ σ H := ⟨h, u.rt, u.bk, u.ct⟩
def upS (K : W.Frag) (fx : List Nat) (t : WS) : TS := fun D' σ H => ∃ ρ D, EvOk K ρ σ H ∧ t D ρ ∧ UpD K fx D D' ρ σ H
def DS (X : Cx) (fx : List Nat) (st : Stmt) (t : WS) : Prop := PS X st (upS X.K fx t)
def DSs (X : Cx) (fx : List Nat) (st : List Stmt) (t : WS) : Prop := PSs X st (upS X.K fx t)
theorem PS.mono {X : Cx} {st : Stmt} {t t' : TS} (h : PS X st t) (k : ∀ D σ H, t' D σ H → t D σ H) : PS X st t' := fun pins s σ H D I q => h pins s σ H D I (k D σ H q)
theorem PSs.mono {X : Cx} {st : List Stmt} {t t' : TS} (h : PSs X st t) (k : ∀ D σ H, t' D σ H → t D σ H) : PSs X st t' := fun pins s σ H D I q => h pins s σ H D I (k D σ H q)
section
variable {X : Cx} {fx : List Nat} {st : Stmt} {rest body els : List Stmt} {t u : WS} {e : Expr} {te : WE} {pos : Pos}
def wNext : WS := fun D ρ => D.nx ρ
def wSeq (t u : WS) : WS := fun D ρ => t { D with nx := u D } ρ
theorem s_nil : DSs X fx [] wNext := PSs.mono pss_nil fun D' σ H ⟨ρ, D, E, q, k⟩ => k.nx σ H ρ E .refl .refl q
theorem s_cons (h1 : DS X fx st t) (h2 : DSs X fx rest u) : DSs X fx (st :: rest) (wSeq t u) :=
  PSs.mono (pss_cons h1 h2) fun D' σ H ⟨ρ, D, E, q, k⟩ => ⟨ρ, _, E, q, k.nxt fun σ' H' ρ' E' S' F' q' => ⟨ρ', D, E', q', k.later S' F'⟩⟩
theorem s_one (h1 : DS X fx st t) : DSs X fx [st] t := pss_one h1
def wDrop (te : WE) : WS := fun D ρ => te ρ fun _ ρ1 => D.nx ρ1
theorem s_expr (he : DE X e te) (hs : swapsWith e none pos.line X.env = pure false := by rfl) : DS X fx (.Expr e pos) (wDrop te) :=
  PS.mono (ps_expr he.pe hs) fun D' σ H ⟨ρ, D, E, q, k⟩ => ⟨ρ, _, E, q, fun v H1 r ρ1 E1 S1 p1 q1 => k.nx σ H1 ρ1 E1 S1 .refl q1⟩
def wRet (te : WE) : WS := fun D ρ => te ρ fun r ρ1 => D.rt r ρ1
theorem s_ret (he : DE X e te) : DS X fx (.Return (some e) pos) (wRet te) :=
  PS.mono (ps_ret he.pe) fun D' σ H ⟨ρ, D, E, q, k⟩ => ⟨ρ, _, E, q, fun v H1 r ρ1 E1 S1 p1 q1 => k.rt v σ H1 r ρ1 E1 S1 .refl p1 q1⟩
def wIfS (c : WT) (t u : WS) : WS := fun D ρ => c ρ fun b ρ1 => if b = true then t D ρ1 else u D ρ1
theorem s_if {c : Expr} {tc : WT} (hc : DT X c tc) (ha : DSs X fx body t) (hb : DSs X fx els u) : DS X fx (.If c body els pos) (wIfS tc t u) := by
  refine PS.mono (ps_if hc.pt ha hb) fun D' σ H ⟨ρ, D, E, q, k⟩ => ⟨ρ, _, E, q, fun b H1 ρ1 E1 S1 q1 => ?_⟩
  cases b with
  | true => exact ⟨ρ1, D, E1, q1, k.later S1 .refl⟩
  | false => exact ⟨ρ1, D, E1, q1, k.later S1 .refl⟩
theorem own_set {ρ : Ev} {σ : L2.St} {i : Nat} {t : T} {v : V} {b : Addr} (h : Own (ρ.set i (.val t)) (σ.set i (some v)) b) : Own ρ σ b := by
  obtain ⟨j, xs, h1, h2⟩ := h
  by_cases hj : j = i
  · subst hj
    by_cases hl : j < ρ.length
    · rw [List.getElem?_set_self hl] at h1; cases h1
    · rw [List.set_eq_of_length_le (by omega)] at h1
      exact absurd (List.getElem?_eq_some_iff.mp h1).1 hl
  · rw [List.getElem?_set_ne (Ne.symm hj)] at h1 h2
    exact ⟨j, xs, h1, h2⟩
theorem evok_set {K : W.Frag} {ρ : Ev} {σ : L2.St} {H : Hp} {i : Nat} {t : T} {v : V} (E : EvOk K ρ σ H) (r : Rep K H t v) : EvOk K (ρ.set i (.val t)) (σ.set i (some v)) H := by
  by_cases hl : i < ρ.length
  · have hl2 : i < σ.length := by rw [← E.len]; exact hl
    refine ⟨by simp [E.len], fun j x g => ?_, fun j xs g => ?_, fun j k xs ys p g1 g2 g3 g4 => ?_⟩
    · by_cases hj : j = i
      · subst hj
        rw [List.getElem?_set_self hl] at g; cases g
        exact ⟨v, List.getElem?_set_self hl2, r⟩
      · rw [List.getElem?_set_ne (Ne.symm hj)] at g ⊢
        exact E.val j x g
    · by_cases hj : j = i
      · subst hj; rw [List.getElem?_set_self hl] at g; cases g
      · rw [List.getElem?_set_ne (Ne.symm hj)] at g ⊢
        exact E.own j xs g
    · by_cases hj : j = i
      · subst hj; rw [List.getElem?_set_self hl] at g1; cases g1
      · by_cases hk : k = i
        · subst hk; rw [List.getElem?_set_self hl] at g2; cases g2
        · rw [List.getElem?_set_ne (Ne.symm hj)] at g1 g3
          rw [List.getElem?_set_ne (Ne.symm hk)] at g2 g4
          exact E.inj j k xs ys p g1 g2 g3 g4
  · rw [List.set_eq_of_length_le (by omega), List.set_eq_of_length_le (by rw [← E.len]; omega)]
    exact E
theorem evok_own {K : W.Frag} {ρ : Ev} {σ : L2.St} {H : Hp} {i : Nat} {xs : List T} {p : Addr} {vs : List V} (E : EvOk K ρ σ H) (h : H p = some (.lst vs)) (r : Reps K H xs vs) (n : ¬ Own ρ σ p) : EvOk K (ρ.set i (.own xs)) (σ.set i (some (.ref p))) H := by
  by_cases hl : i < ρ.length
  · have hl2 : i < σ.length := by rw [← E.len]; exact hl
    refine ⟨by simp [E.len], fun j x g => ?_, fun j ys g => ?_, fun j k ys zs q g1 g2 g3 g4 => ?_⟩
    · by_cases hj : j = i
      · subst hj; rw [List.getElem?_set_self hl] at g; cases g
      · rw [List.getElem?_set_ne (Ne.symm hj)] at g ⊢
        exact E.val j x g
    · by_cases hj : j = i
      · subst hj
        rw [List.getElem?_set_self hl] at g; cases g
        exact ⟨p, vs, List.getElem?_set_self hl2, h, r⟩
      · rw [List.getElem?_set_ne (Ne.symm hj)] at g ⊢
        exact E.own j ys g
    · by_cases hj : j = i
      · by_cases hk : k = i
        · rw [hj, hk]
        · subst hj
          rw [List.getElem?_set_self hl2] at g3; cases g3
          rw [List.getElem?_set_ne (Ne.symm hk)] at g2 g4
          exact absurd ⟨k, zs, g2, g4⟩ n
      · rw [List.getElem?_set_ne (Ne.symm hj)] at g1 g3
        by_cases hk : k = i
        · subst hk
          rw [List.getElem?_set_self hl2] at g4; cases g4
          exact absurd ⟨j, ys, g1, g3⟩ n
        · rw [List.getElem?_set_ne (Ne.symm hk)] at g2 g4
          exact E.inj j k ys zs q g1 g2 g3 g4
  · rw [List.set_eq_of_length_le (by omega), List.set_eq_of_length_le (by rw [← E.len]; omega)]
    exact E
theorem own_own {ρ : Ev} {σ : L2.St} {i : Nat} {xs : List T} {p b : Addr} (h : Own (ρ.set i (.own xs)) (σ.set i (some (.ref p))) b) : b = p ∨ Own ρ σ b := by
  obtain ⟨j, ys, h1, h2⟩ := h
  by_cases hj : j = i
  · subst hj
    by_cases hl : j < σ.length
    · rw [List.getElem?_set_self hl] at h2; cases h2; exact .inl rfl
    · rw [List.set_eq_of_length_le (by omega)] at h2
      exact absurd (List.getElem?_eq_some_iff.mp h2).1 hl
  · rw [List.getElem?_set_ne (Ne.symm hj)] at h1 h2
    exact .inr ⟨j, ys, h1, h2⟩
theorem fix_set {σ : L2.St} {i : Nat} {v : Option V} (h : i ∉ fx) : Fix fx σ (σ.set i v) := fun j hj => by
  have : i ≠ j := fun z => h (z ▸ hj)
  exact List.getElem?_set_ne this
def valR : R → Option T
  | .val t => some t
  | _ => none
def ownR : R → Option (List T)
  | .own xs => some xs
  | _ => none
@[simp] theorem valR_val {t : T} : valR (.val t) = some t := rfl
@[simp] theorem ownR_own {xs : List T} : ownR (.own xs) = some xs := rfl
def wSet (i : Nat) (te : WE) : WS := fun D ρ => te ρ fun r ρ1 => bO (valR r) fun t => D.nx (ρ1.set i (.val t))
def wOwn (i : Nat) (te : WE) : WS := fun D ρ => te ρ fun r ρ1 => bO (ownR r) fun xs => D.nx (ρ1.set i (.own xs))
theorem s_set (i : Nat) {x : Str} {pos' : Pos} (hN : X.N.Nodup) (he : DE X e te) (hi : X.N[i]? = some x := by rfl) (hx : Loc X.env.scope x := by first | exact Or.inl rfl | exact Or.inr rfl) (hs : swapsWith e (some (.Name x pos')) pos.line X.env = pure false := by rfl)
    (hf : X.fn x = true ∨ X.env.scope.names.lookup x = some .local := by first | exact .inl rfl | exact .inr rfl) (hfx : i ∉ fx := by decide) : DS X fx (.Assign [.Name x pos'] e pos) (wSet i te) := by
  refine PS.mono (ps_set hN hi hx he.pe hs hf) fun D' σ H ⟨ρ, D, E, q, k⟩ => ⟨ρ, _, E, q, fun v H1 r ρ1 E1 S1 p1 q1 => ?_⟩
  obtain ⟨t, e1, q1⟩ := bO_iff.mp q1
  cases r with
  | val t' =>
    cases e1
    exact k.nx _ H1 _ (evok_set E1 p1) (S1.weak fun b z => own_set z) (fix_set hfx) q1
  | own xs => cases e1
  | bor i => cases e1
theorem s_own (i : Nat) {x : Str} {pos' : Pos} (hN : X.N.Nodup) (he : DE X e te) (hi : X.N[i]? = some x := by rfl) (hx : Loc X.env.scope x := by first | exact Or.inl rfl | exact Or.inr rfl) (hs : swapsWith e (some (.Name x pos')) pos.line X.env = pure false := by rfl)
    (hf : X.fn x = true ∨ X.env.scope.names.lookup x = some .local := by first | exact .inl rfl | exact .inr rfl) (hfx : i ∉ fx := by decide) : DS X fx (.Assign [.Name x pos'] e pos) (wOwn i te) := by
  refine PS.mono (ps_set hN hi hx he.pe hs hf) fun D' σ H ⟨ρ, D, E, q, k⟩ => ⟨ρ, _, E, q, fun v H1 r ρ1 E1 S1 p1 q1 => ?_⟩
  obtain ⟨xs, e1, q1⟩ := bO_iff.mp q1
  cases r with
  | own ys =>
    cases e1
    obtain ⟨p, vs, rfl, h2, h3, h4, h5⟩ := p1
    refine k.nx _ H1 _ (evok_own E1 h2 h3 h4) ⟨S1.pers, S1.keep, fun b z => ?_, S1.there⟩ (fix_set hfx) q1
    rcases own_own z with rfl | z
    · exact .inr h5
    · exact S1.own b z
  | val t => cases e1
  | bor i => cases e1
def setsT : List Nat → List T → Ev → Option Ev
  | [], [], ρ => some ρ
  | i :: is, t :: ts, ρ => setsT is ts (ρ.set i (.val t))
  | _, _, _ => none
def DG (X : Cx) (fx : List Nat) (tg : Expr) (g : T → Ev → Option Ev) : Prop :=
  ∀ (pins : List (Addr × Obj)) (s : Shared) (σ : L2.St) (H : Hp) (v : V) (u : Value) (t : T) (ρ ρ' : Ev), Inv X pins σ H s → RelV v u → Rep X.K H t v → EvOk X.K ρ σ H → g t ρ = some ρ' →
    wpAny (model X.prog X.w) X.A (assign tg X.env u) (fun _ s' => ∃ σ', Inv X pins σ' H s' ∧ EvOk X.K ρ' σ' H ∧ Stp (Own ρ σ) H (Own ρ' σ') H ∧ Fix fx σ σ') X.xe s
theorem dg_name (i : Nat) {x : Str} {pos' : Pos} (hN : X.N.Nodup) (hi : X.N[i]? = some x := by rfl) (hx : Loc X.env.scope x := by first | exact Or.inl rfl | exact Or.inr rfl)
    (hf : X.fn x = true ∨ X.env.scope.names.lookup x = some .local := by first | exact .inl rfl | exact .inr rfl) (hfx : i ∉ fx := by decide) : DG X fx (.Name x pos') (fun t ρ => some (ρ.set i (.val t))) := by
  intro pins s σ H v u t ρ ρ' I r p E e
  cases e
  exact thn (pg_name hN hi hx hf pins s σ H v u (fun σ' H' => σ' = σ.set i (some v) ∧ H' = H) I r ⟨rfl, rfl⟩) fun _ s' ⟨σ', H', I', h1, h2⟩ => by
    subst h1; subst h2
    exact ⟨_, I', evok_set E p, Stp.refl.weak fun b z => own_set z, fix_set hfx⟩
def DGs (X : Cx) (fx : List Nat) (tgs : List Expr) (g : List T → Ev → Option Ev) : Prop :=
  ∀ (pins : List (Addr × Obj)) (s : Shared) (σ : L2.St) (H : Hp) (vs : List V) (us : List Value) (ts : List T) (ρ ρ' : Ev), Inv X pins σ H s → Vals vs us → Reps X.K H ts vs → EvOk X.K ρ σ H → g ts ρ = some ρ' →
    wpAny (model X.prog X.w) X.A (assignInOrder ((assignEach tgs X.env).map (·.2)) us) (fun _ s' => ∃ σ', Inv X pins σ' H s' ∧ EvOk X.K ρ' σ' H ∧ Stp (Own ρ σ) H (Own ρ' σ') H ∧ Fix fx σ σ') X.xe s
theorem dgs_nil : DGs X fx [] (setsT []) := by
  intro pins s σ H vs us ts ρ ρ' I r p E e
  cases ts with
  | nil =>
    cases e
    rw [reps_nil] at p; subst p
    cases r
    exact assignInOrder_nil ⟨σ, I, E, .refl, .refl⟩
  | cons t ts => cases e
theorem dgs_cons {tg : Expr} {tgs : List Expr} {i : Nat} {is : List Nat} (h1 : DG X fx tg (fun t ρ => some (ρ.set i (.val t)))) (h2 : DGs X fx tgs (setsT is))
    (hs : (assignEach (tg :: tgs) X.env).map (·.2) = assign tg X.env :: (assignEach tgs X.env).map (·.2) := by rfl) : DGs X fx (tg :: tgs) (setsT (i :: is)) := by
  intro pins s σ H vs us ts ρ ρ' I r p E e
  cases ts with
  | nil => cases e
  | cons t ts =>
    rw [reps_cons] at p
    obtain ⟨v, vr, rfl, p1, p2⟩ := p
    cases r with
    | cons r rr =>
      rw [hs]
      refine assignInOrder_cons (thn (h1 pins s σ H v _ t ρ _ I r p1 E rfl) fun _ s1 ⟨σ1, I1, E1, S1, F1⟩ => ?_)
      exact thn (h2 pins s1 σ1 H vr _ ts _ ρ' I1 rr p2 E1 e) fun _ s2 ⟨σ2, I2, E2, S2, F2⟩ => ⟨σ2, I2, E2, S1.trans S2, F1.trans F2⟩
def unpT (is : List Nat) : T → Ev → Option Ev
  | .tup ts, ρ => setsT is ts ρ
  | _, _ => none
theorem setsT_len : ∀ {is : List Nat} {ts : List T} {ρ ρ' : Ev}, setsT is ts ρ = some ρ' → ts.length = is.length
  | [], [], _, _, _ => rfl
  | [], _ :: _, _, _, h => by cases h
  | _ :: _, [], _, _, h => by cases h
  | _ :: is, _ :: ts, _, _, h => by simp [setsT_len (is := is) (ts := ts) h]
theorem dg_tup {es : List Expr} {k : Nat} {is : List Nat} (hc : X.calm = true) (h : DGs X fx es (setsT is)) (hn : (assignEach es X.env).length = is.length := by rfl) (hst : (assignEach es X.env).findIdx? (·.1) = none := by rfl) : DG X fx (.Tuple es k pos) (unpT is) := by
  intro pins s σ H v u t ρ ρ' I r p E e
  cases t with
  | tup ts =>
    rw [rep_tup] at p
    obtain ⟨a, vs, rfl, hq, p⟩ := p
    cases r
    obtain ⟨its, rv, ht, hz⟩ := I.tuple hq
    have hl := setsT_len e
    refine assign_Tuple_tuple (I.ok.hd hc) ht (by have := p.length; have := rv.length; simp [hn]; omega) hst fun h' hx => ?_
    have I1 : Inv X pins σ H { s with heap := h' } := I.kept (t' := s.toks) fun b o e => hx b o (Nat.ne_of_lt (Heap.lt_size e)) e
    exact h pins _ σ H vs _ ts ρ ρ' I1 (by simpa using rv) p E e
  | _ => cases e
def wAsg (te : WE) (g : T → Ev → Option Ev) : WS := fun D ρ => te ρ fun r ρ1 => bO (valR r) fun t => bO (g t ρ1) fun ρ2 => D.nx ρ2
theorem s_asg {tg : Expr} {g : T → Ev → Option Ev} (he : DE X e te) (hg : DG X fx tg g) (hs : swapsWithSole [tg] e pos.line X.env = pure false := by rfl) (hw : swappedStores [tg] e X.env = pure none := by rfl)
    (h1 : (assignEach [tg] X.env).map (·.2) = [assign tg X.env] := by rfl) : DS X fx (.Assign [tg] e pos) (wAsg te g) := by
  intro pins s σ H D' I ⟨ρ, D, E, q, k⟩
  refine wpAny_Assign_stores (thn (he pins s σ H ρ _ I E q) fun v s1 ⟨x, H1, r, ρ1, I1, r1, E1, S1, p1, q1⟩ => ?_) hs hw
  obtain ⟨t, e1, q2⟩ := bO_iff.mp q1
  obtain ⟨ρ2, e2, q3⟩ := bO_iff.mp q2
  rw [h1]
  cases r with
  | val t' =>
    cases e1
    exact thn (hg pins s1 σ H1 x v t ρ1 ρ2 I1 r1 p1 E1 e2) fun _ s2 ⟨σ2, I2, E2, S2, F2⟩ => ⟨σ2, H1, I2, k.nx σ2 H1 ρ2 E2 (S1.trans S2) F2 q3⟩
  | own xs => cases e1
  | bor i => cases e1
end
end FW
namespace FW
open PySem PySem.Spec PyProof.Rows L2
variable [Tabs]
def ownAt (ρ : Ev) (i : Nat) : Option (List T) := match ρ[i]? with
  | some (.own xs) => some xs
  | _ => none
theorem ownAt_some {ρ : Ev} {i : Nat} {xs : List T} (h : ownAt ρ i = some xs) : ρ[i]? = some (.own xs) := by
  have h' : (match ρ[i]? with | some (Slot.own xs) => some xs | _ => none) = some xs := h
  cases q : ρ[i]? with
  | none => rw [q] at h'; cases h'
  | some sl =>
    cases sl with
    | un => rw [q] at h'; cases h'
    | val t => rw [q] at h'; cases h'
    | own ys => rw [q] at h'; cases h'; rfl
theorem pers_mut {H : Hp} {p : Addr} {vs ws : List V} (h : H p = some (.lst vs)) : Pers H (upd H p (.lst ws)) := by
  have hne : ∀ b o, H b = some o → (∀ xs, o ≠ .lst xs) → b ≠ p := fun b o e1 e2 z => by subst z; rw [h] at e1; cases e1; exact e2 _ rfl
  exact ⟨fun b xs q => by rw [upd_ne (hne b _ q (fun _ z => nomatch z))]; exact q, fun b o u q => by rw [upd_ne (hne b _ q (fun _ z => nomatch z))]; exact q⟩
theorem evok_mut {K : W.Frag} {ρ : Ev} {σ : L2.St} {H : Hp} {i : Nat} {xs ys : List T} {p : Addr} {vs ws : List V} (E : EvOk K ρ σ H) (h1 : ρ[i]? = some (.own xs)) (h2 : σ[i]? = some (some (.ref p))) (h3 : H p = some (.lst vs)) (r : Reps K H ys ws) :
    EvOk K (ρ.set i (.own ys)) σ (upd H p (.lst ws)) ∧ Stp (Own ρ σ) H (Own (ρ.set i (.own ys)) σ) (upd H p (.lst ws)) := by
  have P : Pers H (upd H p (.lst ws)) := pers_mut h3
  have hl : i < ρ.length := (List.getElem?_eq_some_iff.mp h1).1
  have own' : ∀ b, Own (ρ.set i (.own ys)) σ b → Own ρ σ b := fun b ⟨j, zs, g1, g2⟩ => by
    by_cases hj : j = i
    · subst hj; rw [h2] at g2; cases g2; exact ⟨j, xs, h1, h2⟩
    · rw [List.getElem?_set_ne (Ne.symm hj)] at g1; exact ⟨j, zs, g1, g2⟩
  refine ⟨⟨by simp [E.len], fun j x g => ?_, fun j zs g => ?_, fun j k zs us q g1 g2 g3 g4 => ?_⟩, ⟨P, fun b o q _ n => ?_, fun b z => .inl (own' b z), fun b o q => ?_⟩⟩
  · by_cases hj : j = i
    · subst hj; rw [List.getElem?_set_self hl] at g; cases g
    · rw [List.getElem?_set_ne (Ne.symm hj)] at g
      obtain ⟨v, g1, g2⟩ := E.val j x g
      exact ⟨v, g1, Rep.pers P x v g2⟩
  · by_cases hj : j = i
    · subst hj
      rw [List.getElem?_set_self hl] at g; cases g
      exact ⟨p, ws, h2, upd_same, Reps.pers P ys ws r⟩
    · rw [List.getElem?_set_ne (Ne.symm hj)] at g
      obtain ⟨q, us, g1, g2, g3⟩ := E.own j zs g
      refine ⟨q, us, g1, ?_, Reps.pers P zs us g3⟩
      rw [upd_ne (fun (z : q = p) => hj (E.inj j i zs xs p g h1 (by rw [← z]; exact g1) h2))]; exact g2
  · have key : ∀ {j : Nat} {zs : List T}, (ρ.set i (.own ys))[j]? = some (.own zs) → ∃ us, ρ[j]? = some (.own us) := fun {j zs} g => by
      by_cases hj : j = i
      · subst hj; exact ⟨xs, h1⟩
      · rw [List.getElem?_set_ne (Ne.symm hj)] at g; exact ⟨zs, g⟩
    obtain ⟨_, g1⟩ := key g1
    obtain ⟨_, g2⟩ := key g2
    exact E.inj j k _ _ q g1 g2 g3 g4
  · rw [upd_ne (fun (z : b = p) => n ⟨i, xs, h1, by rw [z]; exact h2⟩)]; exact q
  · by_cases hb : b = p
    · subst hb; exact ⟨_, upd_same⟩
    · exact ⟨o, by rw [upd_ne hb]; exact q⟩
def intR (ρ : Ev) (r : R) : Option Int := match rdR ρ r with
  | some (.int i) => some i
  | _ => none
theorem intR_some {ρ : Ev} {r : R} {k : Int} (h : intR ρ r = some k) : rdR ρ r = some (.int k) := by
  unfold intR at h
  split at h
  · cases h; assumption
  · cases h
theorem RepR.int {K : W.Frag} {ρ : Ev} {σ : L2.St} {H H' : Hp} {r : R} {v : V} {k : Int} (E : EvOk K ρ σ H') (p : RepR K ρ σ H H' r v) (h : intR ρ r = some k) : v = .int k := by
  have n := p.now E (intR_some h)
  rw [show Now K H' (.int k) v = Rep K H' (.int k) v from rfl, rep_int] at n
  exact n
section
variable {X : Cx} {fx : List Nat} {e ix : Expr} {te tk : WE} {pos : Pos} {body : List Stmt}
def wSetI (i : Nat) (te tk : WE) : WS := fun D ρ => te ρ fun r ρ1 => bO (valR r) fun t => bO (ownAt ρ1 i) fun _ => tk ρ1 fun rk ρ2 => bO (intR ρ2 rk) fun k => bO (ownAt ρ2 i) fun xs => bO (ixN xs.length k) fun j => D.nx (ρ2.set i (.own (xs.set j t)))
theorem s_seti (i : Nat) {x : Str} {px ps : Pos} (he : DE X e te) (hk : DE X ix tk) (hN : X.N[i]? = some x := by rfl) (hv : Vis X.env.scope x := by first | exact Or.inl rfl | exact Or.inr (Or.inl rfl) | exact Or.inr (Or.inr rfl)) (hd : (x == ("__debug__" : Str)) = false := by decide)
    (hcd : (x == ("__classdict__" : Str)) = false := by decide)
    (ha : ∀ v, assign (.Subscript (.Name x px) ix ps) X.env v = (do
      let ov ← holding [v] (eval (.Name x px) X.env)
      let iv ← holding [v, ov] (eval ix X.env)
      standAt ps
      holding [v, ov, iv] (setItem ov iv v)
      release [v, ov, iv] []) := by intro _; rfl)
    (hs : swapsWithSole [.Subscript (.Name x px) ix ps] e pos.line X.env = pure false := by rfl) (hw : swappedStores [.Subscript (.Name x px) ix ps] e X.env = pure none := by rfl)
    (h1 : (assignEach [.Subscript (.Name x px) ix ps] X.env).map (·.2) = [assign (.Subscript (.Name x px) ix ps) X.env] := by rfl) : DS X fx (.Assign [.Subscript (.Name x px) ix ps] e pos) (wSetI i te tk) := by
  refine PS.mono (ps_asg he.pe (pg_sub (pe_var hN hv hd hcd) hk.pe set_list ha) hs hw h1) fun D' σ H ⟨ρ, D, E, q, k⟩ => ⟨ρ, _, E, q, fun v H1 r ρ1 E1 S1 p1 q1 => ?_⟩
  obtain ⟨t, e1, q2⟩ := bO_iff.mp q1
  obtain ⟨xs, e2, q3⟩ := bO_iff.mp q2
  have o1 := ownAt_some e2
  obtain ⟨p, vs, o2, o3, o4⟩ := E1.own i xs o1
  refine ⟨_, o2, ρ1, _, E1, q3, fun y H2 rk ρ2 E2 S2 p2 q4 => ?_⟩
  obtain ⟨kk, e3, q5⟩ := bO_iff.mp q4
  obtain ⟨ys, e4, q6⟩ := bO_iff.mp q5
  obtain ⟨j, e5, q7⟩ := bO_iff.mp q6
  have hy := p2.int E2 e3
  subst hy
  have g1 := ownAt_some e4
  obtain ⟨p', ws, g2, g3, g4⟩ := E2.own i ys g1
  rw [o2] at g2; cases g2
  cases r with
  | val t' =>
    cases e1
    have rt : Rep X.K H2 t v := Rep.pers S2.pers t v p1
    refine ⟨p, ws, kk, j, rfl, rfl, g3, by rw [← g4.length]; exact e5, ?_⟩
    obtain ⟨E3, S3⟩ := evok_mut (ys := ys.set j t) (ws := ws.set j v) E2 g1 o2 g3 (g4.set j rt)
    exact k.nx σ _ _ E3 ((S1.trans S2).trans S3) .refl q7
  | own _ => cases e1
  | bor _ => cases e1
def rMu (K : W.Frag) (g : List T → List T → Option (List T × T)) : V → List V → Hp → VK → Prop := fun x as H Q => ∃ p vs ts us ts' r, x = .ref p ∧ H p = some (.lst vs) ∧ Reps K H ts vs ∧ Reps K H us as ∧ g ts us = some (ts', r) ∧
  ∀ z vs', Reps K H ts' vs' → Rep K H r z → Q z (upd H p (.lst vs'))
def wMut (i : Nat) (g : List T → List T → Option (List T × T)) (ta : WA) : WE := fun ρ Q => bO (ownAt ρ i) fun _ => ta ρ fun rs ρ1 => bO (valsR rs) fun us => bO (ownAt ρ1 i) fun xs => bO (g xs us) fun y => Q (.val y.2) (ρ1.set i (.own y.1))
theorem d_mut (i : Nat) {x name : Str} {px apos : Pos} {id : String} {a : Expr} {as : List Expr} {ta : WA} {g : List T → List T → Option (List T × T)} (hm : MtR X id (rMu X.K g)) (slot : PySem.Slot "list" name id) (hty : typeOf (.builtin id) = pure (.type "method_descriptor")) (ha : DA X (a :: as) ta)
    (hN : X.N[i]? = some x := by rfl) (hv : Vis X.env.scope x := by first | exact Or.inl rfl | exact Or.inr (Or.inl rfl) | exact Or.inr (Or.inr rfl)) (hd : (x == ("__debug__" : Str)) = false := by decide) (hcd : (x == ("__classdict__" : Str)) = false := by decide)
    (hbase : attributeBase (.Name x px) name X.env (eval (.Name x px) X.env) = eval (.Name x px) X.env := by rfl)
    (hfew : ((backTo pos (starEach (a :: as) X.env)).all (fun x => !x.1) && (backToKw pos (keywordEach [] X.env)).all (fun x => x.1.isSome)
      && decide ((a :: as).length + ([] : List Keyword).length + (if ([] : List Keyword).isEmpty then 0 else 1) < 30)) = true := by rfl)
    (hline : (apos.endLine == pos.line) = true := by rfl) (hs : starEach (a :: as) X.env = (false, eval a X.env) :: starEach as X.env := by rfl) (hplain : (backTo pos (starEach as X.env)).any (·.1) = false := by rfl) :
    DE X (.Call (.Attribute (.Name x px) name apos) (a :: as) [] pos) (wMut i g ta) := by
  refine DE.of (pe_bm PySem.F.plainAttrs_list slot hty hm (pe_var hN hv hd hcd) ha hbase hfew hline hs hplain) fun σ H ρ Q E q => ?_
  obtain ⟨xs, e1, q1⟩ := bO_iff.mp q
  have o1 := ownAt_some e1
  obtain ⟨p, vs, o2, o3, o4⟩ := E.own i xs o1
  refine ⟨_, o2, .inl ⟨rfl, _, .of o3⟩, ρ, _, E, q1, fun as' H1 rs ρ1 E1 S1 p1 q2 => ?_⟩
  obtain ⟨us, e2, q3⟩ := bO_iff.mp q2
  obtain ⟨ys, e3, q4⟩ := bO_iff.mp q3
  obtain ⟨y, e4, q5⟩ := bO_iff.mp q4
  have g1 := ownAt_some e3
  obtain ⟨p', ws, g2, g3, g4⟩ := E1.own i ys g1
  rw [o2] at g2; cases g2
  refine ⟨p, ws, ys, us, y.1, y.2, rfl, g3, g4, valsR_reps p1 e2, e4, fun z vs' r1 r2 => ?_⟩
  obtain ⟨E3, S3⟩ := evok_mut (ys := y.1) (ws := vs') E1 g1 o2 g3 r1
  exact ⟨.val y.2, _, E3, S1.trans S3, Rep.pers S3.pers _ _ r2, q5⟩
def gAppend : List T → List T → Option (List T × T)
  | xs, [t] => if xs.length < sizeLine then some (xs ++ [t], .non) else none
  | _, _ => none
theorem mu_append : MtR X "list.append" (rMu X.K gAppend) := by
  intro pins s σ H x as v us Q I rx ra h
  obtain ⟨p, vs, ts, bs, ts', r, rfl, h1, h2, h3, h4, q⟩ := h
  cases bs with
  | nil => cases h4
  | cons b bs =>
    cases bs with
    | cons _ _ => cases h4
    | nil =>
      rw [reps_cons] at h3
      obtain ⟨y, r', rfl, h5, h6⟩ := h3
      rw [reps_nil] at h6; subst h6
      have h4' : (if ts.length < sizeLine then some (ts ++ [b], T.non) else none) = some (ts', r) := h4
      split at h4'
      · cases h4'
        exact mt_append pins s σ H (.ref p) [y] v us Q I rx ra ⟨p, vs, y, rfl, rfl, h1, by rw [← h2.length]; assumption, q .non _ (h2.append (.one h5)) (by simp)⟩
      · cases h4'
def wAug (i : Nat) (f : Int → Int → Int) (te : WE) : WS := fun D ρ => bO (ρ[i]?) fun s => ∃ a, s = .val (.int a) ∧ te ρ fun r ρ1 => bO (intR ρ1 r) fun b => D.nx (ρ1.set i (.val (.int (f a b))))
structure Wk (K : W.Frag) (J : It) (ts : List T) (H0 : Hp) : Prop where
  go : ∀ (i : Nat) (H : Hp) (t : T), Pers H0 H → ts[i]? = some t → J.go i H ∧ ∀ x H', J.yld i H x H' → Ext H H' ∧ Rep K H' t x
  stop : ∀ (H : Hp), Pers H0 H → J.stop ts.length H
abbrev WI := Ev → (List T → Ev → Prop) → Prop
def upI (K : W.Frag) (t : WI) : TI := fun σ H R => ∃ ρ Q, EvOk K ρ σ H ∧ t ρ Q ∧ ∀ J H' ts ρ', EvOk K ρ' σ H' → Stp (Own ρ σ) H (Own ρ' σ) H' → Wk K J ts H' → Q ts ρ' → R J H'
def DI (X : Cx) (tg iter : Expr) (t : WI) : Prop := PI X tg iter (upI X.K t)
theorem PI.mono {tg iter : Expr} {t t' : TI} (h : PI X tg iter t) (k : ∀ σ H R, t' σ H R → t σ H R) : PI X tg iter t' := fun pins s σ H R I q => h pins s σ H R I (k σ H R q)
def forW (g : T → Ev → Option Ev) (tb : WS) (D : WD) : List T → Ev → Prop
  | [], ρ => D.nx ρ
  | t :: ts, ρ => bO (g t ρ) fun ρ1 => tb { D with nx := forW g tb D ts, ct := forW g tb D ts, bk := D.nx } ρ1
def wFor (ti : WI) (g : T → Ev → Option Ev) (tb : WS) : WS := fun D ρ => ti ρ fun ts ρ1 => forW g tb D ts ρ1
theorem s_for {tg iter : Expr} {ti : WI} {g : T → Ev → Option Ev} {tb : WS} (hp : PassesOwn (model X.prog X.w) X.A X.env X.xe) (hc : X.calm = true) (hi : DI X tg iter ti) (hg : DG X fx tg g) (hb : DSs X fx body tb)
    (hs : ∀ x, foldedSetIterable iter X.env x = pure x := by intro _; rfl) : DS X fx (.For tg iter body [] pos) (wFor ti g tb) := by
  intro pins s σ H D' I ⟨ρ, D, E, q, k⟩
  refine ps_for (g := fun v σ1 H1 Q => ∃ t ρ1 ρ2, Rep X.K H1 t v ∧ EvOk X.K ρ1 σ1 H1 ∧ g t ρ1 = some ρ2 ∧ ∀ σ2, EvOk X.K ρ2 σ2 H1 → Stp (Own ρ1 σ1) H1 (Own ρ2 σ2) H1 → Fix fx σ1 σ2 → Q σ2 H1) hp hc hi ?_ hb hs pins s σ H D' I ?_
  · intro pins s σ H v u Q I r ⟨t, ρ1, ρ2, p, E, e, h⟩
    exact thn (hg pins s σ H v u t ρ1 ρ2 I r p E e) fun _ s' ⟨σ', I', E', S', F'⟩ => ⟨σ', H, I', h σ' E' S' F'⟩
  refine ⟨ρ, _, E, q, fun J H1 ts ρ1 E1 S1 wk q1 => ?_⟩
  refine ⟨fun i m σ' H' => m = ts.length - i ∧ i ≤ ts.length ∧ ∃ ρ', EvOk X.K ρ' σ' H' ∧ Stp (Own ρ1 σ) H1 (Own ρ' σ') H' ∧ Fix fx σ σ' ∧ forW g tb D (ts.drop i) ρ', ⟨ts.length, by simp, Nat.zero_le _, ρ1, E1, .refl, .refl, by simpa using q1⟩, ?_⟩
  rintro i m σ2 H2 ⟨rfl, hi2, ρ2, E2, S2, F2, q2⟩
  by_cases hlt : i < ts.length
  · rw [List.drop_eq_getElem_cons hlt] at q2
    obtain ⟨ρ3, e3, q3⟩ := bO_iff.mp (show bO (g ts[i] ρ2) _ from q2)
    obtain ⟨w1, w2⟩ := wk.go i H2 ts[i] S2.pers (List.getElem?_eq_getElem hlt)
    refine .inr ⟨w1, fun σ' H' => ∃ ρ', EvOk X.K ρ' σ' H' ∧ Stp (Own ρ1 σ) H1 (Own ρ' σ') H' ∧ Fix fx σ σ' ∧ forW g tb D (ts.drop (i + 1)) ρ', fun σ' H' h => ⟨ts.length - (i + 1), by omega, rfl, hlt, h⟩, fun x H3 y => ?_⟩
    obtain ⟨x1, x2⟩ := w2 x H3 y
    have S3 : Stp (Own ρ1 σ) H1 (Own ρ2 σ2) H3 := S2.trans x1.stp
    refine ⟨ts[i], ρ2, ρ3, x2, E2.ext x1, e3, fun σ4 E4 S4 F4 => ⟨ρ3, _, E4, q3, ?_⟩⟩
    have S5 := S3.trans S4
    have kk := k.later (S1.trans S5) (F2.trans F4)
    exact ⟨fun σ' H' ρ' E' S' F' q' => ⟨ρ', E', S5.trans S', (F2.trans F4).trans F', q'⟩, kk.rt, kk.nx, fun σ' H' ρ' E' S' F' q' => ⟨ρ', E', S5.trans S', (F2.trans F4).trans F', q'⟩⟩
  · have e : i = ts.length := by omega
    subst e
    rw [List.drop_length] at q2
    exact .inl ⟨wk.stop H2 S2.pers, k.nx σ2 H2 ρ2 E2 (S1.trans S2) F2 q2⟩
end
section
variable {X : Cx} {tg e a b : Expr} {te ta tb : WE} {pos p : Pos}
def wkList {K : W.Frag} {H : Hp} {ad : Addr} {ts : List T} {vs : List V} (h : LstAt K H ad vs) (r : Reps K H ts vs) : Wk K (Itl K ad) ts H where
  go := fun i H' t P e => by
    obtain ⟨v, ev, rv⟩ := r.get e
    exact ⟨⟨vs, v, (P.lstAt h).sq, ev⟩, fun x H2 y => by
      obtain ⟨rfl, y⟩ := y
      have := y vs (P.lstAt h).sq
      rw [ev] at this; cases this
      exact ⟨.refl _, Rep.pers P t v rv⟩⟩
  stop := fun H' P => ⟨vs, (P.lstAt h).sq, by rw [r.length]; exact Nat.le_refl _⟩
def wkTup {K : W.Frag} {H : Hp} {ad : Addr} {ts : List T} {vs : List V} (h : SqT K H ad vs) (r : Reps K H ts vs) : Wk K (Itt K ad) ts H where
  go := fun i H' t P e => by
    obtain ⟨v, ev, rv⟩ := r.get e
    exact ⟨⟨vs, v, P.sqT h, ev⟩, fun x H2 y => by
      obtain ⟨rfl, y⟩ := y
      have := y vs (P.sqT h)
      rw [ev] at this; cases this
      exact ⟨.refl _, Rep.pers P t v rv⟩⟩
  stop := fun H' P => ⟨vs, P.sqT h, by rw [r.length]; exact Nat.le_refl _⟩
def rngT (lo : Int) (n : Nat) : List T := (List.range n).map fun (k : Nat) => T.int (lo + k)
def wkRng {K : W.Frag} {H : Hp} (lo : Int) (n : Nat) : Wk K (Itr lo n) (rngT lo n) H where
  go := fun i H' t P e => by
    have hi : i < n := by
      have := (List.getElem?_eq_some_iff.mp e).1
      simpa [rngT] using this
    have ht : t = .int (lo + i) := by
      have : (rngT lo n)[i]? = some (.int (lo + i)) := by simp [rngT, hi]
      rw [this] at e; cases e; rfl
    subst ht
    exact ⟨hi, fun x H2 y => by
      obtain ⟨rfl, rfl⟩ := y
      exact ⟨.refl _, by simp⟩⟩
  stop := fun H' P => by show n ≤ _; simp [rngT]
def itemsT : T → Option (List T)
  | .lst xs => some xs
  | .tup xs => some xs
  | _ => none
def wItS (te : WE) : WI := fun ρ Q => te ρ fun r ρ1 => bO (valR r) fun t => bO (itemsT t) fun ts => Q ts ρ1
theorem di_seq (h : DE X e te) : DI X tg e (wItS te) := by
  intro pins s σ H R I ⟨ρ, Q, E, q, k⟩
  refine thn (h pins s σ H ρ _ I E q) fun u s1 ⟨v, H1, r, ρ1, I1, rv, E1, S1, p1, q1⟩ => ?_
  obtain ⟨t, e1, q2⟩ := bO_iff.mp q1
  obtain ⟨ts, e2, q3⟩ := bO_iff.mp q2
  cases r with
  | val t' =>
    cases e1
    cases t with
    | lst xs =>
      cases e2
      have p1' : Rep X.K H1 (.lst ts) v := p1
      rw [rep_lst] at p1'
      obtain ⟨a, vs, rfl, hq, rr⟩ := p1'
      cases rv
      obtain ⟨its, rv, pl, hz⟩ := I1.list hq.sq
      refine wpAny_pyIter_list pl.isList ?_
      refine ⟨s1.heap.objs.size, [s1.heap.objs.size], _, _, H1, rfl, I1.kept (t' := s1.toks) fun b o e => Heap.get?_push_of_some _ e, turn_list a _, ⟨_, Heap.get?_push_size _ rfl, rfl, rfl⟩, fun b hb => ?_, k _ H1 ts ρ1 E1 S1 (wkList hq rr) q3⟩
      have e : b = s1.heap.objs.size := by simpa using hb
      subst e
      exact I1.fpOk (Nat.le_refl _) (I1.hok.fresh (Nat.le_refl _))
    | tup xs =>
      cases e2
      have p1' : Rep X.K H1 (.tup ts) v := p1
      rw [rep_tup] at p1'
      obtain ⟨a, vs, rfl, hq, rr⟩ := p1'
      cases rv
      obtain ⟨its, rv, pl, hz⟩ := I1.tuple hq
      refine wpAny_pyIter_tuple (show s1.heap.IsTuple a its.toArray from pl) ?_
      refine ⟨s1.heap.objs.size, [s1.heap.objs.size], _, _, H1, rfl, I1.kept (t' := s1.toks) fun b o e => Heap.get?_push_of_some _ e, turn_tuple a _, ⟨_, Heap.get?_push_size _ rfl, rfl, rfl⟩, fun b hb => ?_, k _ H1 ts ρ1 E1 S1 (wkTup hq rr) q3⟩
      have e : b = s1.heap.objs.size := by simpa using hb
      subst e
      exact I1.fpOk (Nat.le_refl _) (I1.hok.fresh (Nat.le_refl _))
    | _ => cases e2
  | own _ => cases e1
  | bor _ => cases e1
def okRng (i : Int) : Bool := decide (-(2 ^ 62) ≤ i) && decide (i < 2 ^ 62)
theorem okRng_iff {i : Int} : okRng i = true ↔ -(2 ^ 62) ≤ i ∧ i < 2 ^ 62 := by simp [okRng]
def rngR1 (ρ : Ev) : List R → Option (List T)
  | [r] => (intR ρ r).bind fun n => if okRng n then some (rngT 0 n.toNat) else none
  | _ => none
def rngR2 (ρ : Ev) : List R → Option (List T)
  | [r, r'] => (intR ρ r).bind fun lo => (intR ρ r').bind fun hi => if okRng lo && okRng hi then some (rngT lo (hi - lo).toNat) else none
  | _ => none
def wRng1 (t : WA) : WI := fun ρ Q => t ρ fun rs ρ1 => bO (rngR1 ρ1 rs) fun ts => Q ts ρ1
def wRng2 (t : WA) : WI := fun ρ Q => t ρ fun rs ρ1 => bO (rngR2 ρ1 rs) fun ts => Q ts ρ1
theorem di_range1 {t : WA} (hg : Gl X "range") (hm : X.mg "range" = none) (ha : DA X [a] t) (hs : starEach [a] X.env = [(false, eval a X.env)] := by rfl) : DI X tg (.Call (.Name "range" p) [a] [] pos) (wRng1 t) := by
  refine PI.mono (pi_range1 hg hm ha hs) fun σ H R' ⟨ρ, Q, E, q, k⟩ => ⟨ρ, _, E, q, fun vs H1 rs ρ1 E1 S1 p1 q1 => ?_⟩
  obtain ⟨ts, e1, q2⟩ := bO_iff.mp q1
  match rs, e1, p1 with
  | [r], e1, .cons p pr =>
    cases pr
    have e1' : ((intR ρ1 r).bind fun n => if okRng n then some (rngT 0 n.toNat) else none) = some ts := e1
    rw [Option.bind_eq_some_iff] at e1'
    obtain ⟨n, en, e2⟩ := e1'
    have hv := p.int E1 en
    subst hv
    split at e2
    · rename_i hn
      cases e2
      obtain ⟨h1, h2⟩ := okRng_iff.mp hn
      exact ⟨n, rfl, h1, h2, k _ H1 _ ρ1 E1 S1 (wkRng 0 n.toNat) q2⟩
    · cases e2
theorem di_range2 {t : WA} (hg : Gl X "range") (hm : X.mg "range" = none) (ha : DA X [a, b] t) (hs : starEach [a, b] X.env = [(false, eval a X.env), (false, eval b X.env)] := by rfl) (hs2 : starEach [b] X.env = [(false, eval b X.env)] := by rfl) : DI X tg (.Call (.Name "range" p) [a, b] [] pos) (wRng2 t) := by
  refine PI.mono (pi_range2 hg hm ha hs hs2) fun σ H R' ⟨ρ, Q, E, q, k⟩ => ⟨ρ, _, E, q, fun vs H1 rs ρ1 E1 S1 p1 q1 => ?_⟩
  obtain ⟨ts, e1, q2⟩ := bO_iff.mp q1
  match rs, e1, p1 with
  | [r, r'], e1, .cons p (.cons p' pr) =>
    cases pr
    have e1' : ((intR ρ1 r).bind fun lo => (intR ρ1 r').bind fun hi => if okRng lo && okRng hi then some (rngT lo (hi - lo).toNat) else none) = some ts := e1
    rw [Option.bind_eq_some_iff] at e1'
    obtain ⟨n, en, e2⟩ := e1'
    rw [Option.bind_eq_some_iff] at e2
    obtain ⟨m, em, e3⟩ := e2
    have hv := p.int E1 en
    have hw := p'.int E1 em
    subst hv; subst hw
    split at e3
    · rename_i hn
      cases e3
      rw [Bool.and_eq_true] at hn
      obtain ⟨h1, h2⟩ := okRng_iff.mp hn.1
      obtain ⟨h3, h4⟩ := okRng_iff.mp hn.2
      exact ⟨n, m, rfl, ⟨h1, h2, h3, h4⟩, k _ H1 _ ρ1 E1 S1 (wkRng n (m - n).toNat) q2⟩
    · cases e3
end
end FW
namespace FW
open PySem PySem.Spec PyProof.Rows L2
variable [Tabs]
abbrev FS := List Slot → (R → List Slot → Prop) → Prop
def nb : R → Prop
  | .bor _ => False
  | _ => True
@[simp] theorem nb_val {t : T} : nb (.val t) = True := rfl
@[simp] theorem nb_own {xs : List T} : nb (.own xs) = True := rfl
def spOf (K : W.Frag) (n : Nat) (S : FS) : Sp := fun vs H Q _ => vs.length = n ∧ ∃ as QT, EvOk K as (vs.map some) H ∧ S as QT ∧
  ∀ r as', QT r as' → nb r ∧ ∀ v H', EvOk K as' (vs.map some) H' → Stp (Own as (vs.map some)) H (Own as' (vs.map some)) H' → RepR K as' (vs.map some) H H' r v → Q v H'
def backS (io : Option Nat) (as ρ : Ev) : Ev := match io with
  | none => as
  | some j => as.set j (ρ.getD j .un)
def ioList : Option Nat → List Nat
  | none => []
  | some j => [j]
def retR (io : Option Nat) (n : Nat) (ρ : Ev) : R → Option R
  | .val t => some (.val t)
  | .own xs => some (.own xs)
  | .bor i => if n ≤ i ∧ (∀ j ∈ ioList io, (ownAt ρ j).isSome = true) then (ownAt ρ i).map R.own else none
def okArgs (io : Option Nat) (as : Ev) : Prop := ∀ (i : Nat) (xs : List T), as[i]? = some (.own xs) → i ∈ ioList io
def wFun (io : Option Nat) (n m : Nat) (t : WS) : FS := fun as Q => as.length = n ∧ okArgs io as ∧ t { nx := fun ρ => Q (.val .non) (backS io as ρ), rt := fun r ρ => bO (retR io n ρ r) fun r' => Q r' (backS io as ρ) } (as ++ List.replicate (m - n) .un)
section
variable {P : Program} {w : World} {K : W.Frag} {mg : Str → Option Value} {base : Heap}
theorem evok_start {as : Ev} {vs : List V} {H : Hp} {n : Nat} (E : EvOk K as (vs.map some) H) (N : List Str) (hn : N.length - vs.length = n) : EvOk K (as ++ List.replicate n .un) (L2.start N vs) H ∧ (∀ b, Own (as ++ List.replicate n .un) (L2.start N vs) b ↔ Own as (vs.map some) b) := by
  have hl := E.len
  rw [List.length_map] at hl
  have get1 : ∀ {i : Nat} {s : Slot}, (as ++ List.replicate n .un)[i]? = some s → s ≠ .un → as[i]? = some s ∧ (L2.start N vs)[i]? = (vs.map some)[i]? := fun {i s} h hs => by
    by_cases hi : i < as.length
    · rw [List.getElem?_append_left hi] at h
      refine ⟨h, ?_⟩
      unfold L2.start
      rw [List.getElem?_append_left (by rw [List.length_map]; omega)]
    · rw [List.getElem?_append_right (by omega), List.getElem?_replicate] at h
      split at h
      · cases h; exact absurd rfl hs
      · cases h
  have get2 : ∀ {i : Nat} {s : Slot}, as[i]? = some s → (as ++ List.replicate n .un)[i]? = some s ∧ (L2.start N vs)[i]? = (vs.map some)[i]? := fun {i s} h => by
    have hi : i < as.length := (List.getElem?_eq_some_iff.mp h).1
    rw [List.getElem?_append_left hi]
    refine ⟨h, ?_⟩
    unfold L2.start
    rw [List.getElem?_append_left (by rw [List.length_map]; omega)]
  refine ⟨⟨?_, fun i t h => ?_, fun i xs h => ?_, fun i j xs ys p h1 h2 h3 h4 => ?_⟩, fun b => ⟨fun ⟨i, xs, h1, h2⟩ => ?_, fun ⟨i, xs, h1, h2⟩ => ?_⟩⟩
  · unfold L2.start
    rw [List.length_append, List.length_append, List.length_replicate, List.length_replicate, List.length_map, hn]; omega
  · obtain ⟨g1, g2⟩ := get1 h (fun z => nomatch z)
    rw [g2]; exact E.val i t g1
  · obtain ⟨g1, g2⟩ := get1 h (fun z => nomatch z)
    rw [g2]; exact E.own i xs g1
  · obtain ⟨g1, g2⟩ := get1 h1 (fun z => nomatch z)
    obtain ⟨g3, g4⟩ := get1 h2 (fun z => nomatch z)
    rw [g2] at h3; rw [g4] at h4
    exact E.inj i j xs ys p g1 g3 h3 h4
  · obtain ⟨g1, g2⟩ := get1 h1 (fun z => nomatch z)
    rw [g2] at h2; exact ⟨i, xs, g1, h2⟩
  · obtain ⟨g1, g2⟩ := get2 h1
    exact ⟨i, xs, g1, by rw [g2]; exact h2⟩
theorem fun_ok {x qual : Str} {st : Stmt} {f : Addr} {fd : FuncData} {N ps : List Str} {k : Nat} {sp : Sp} (F : Fun K x qual st f fd) (S : FnScope N ps (defScope st)) (len : ∀ vs H Q E, sp vs H Q E → vs.length = ps.length)
    (hbody : ∀ (cdv : Value), fd.code = cdv → ∀ (A : Around) (outer : List PySem.Env) (s : Shared) (H : Hp) (vs : List V) (Q : VK) (E : XK), Room k (A.deeper (envOfC qual (defScope st) s.heap.objs.size f cdv)) → sp vs H Q E →
      ∃ t, PSs (cxOf CX0 P w K mg base N qual (defScope st) f cdv A outer s H E).nox (defBody st) t ∧ t { nx := fun _ H' => Q .non H', rt := Q } (L2.start N vs) H) : FnOk P w K mg base CX0 (k + 1) f fd ps sp := by
  obtain ⟨oc, od, kV, doc, pm, an, cdv, ct, osl, rfl, lk, hcd⟩ := F.ex
  refine fn_of lk hcd S len fun A outer s H vs Q E hr hsp => ?_
  obtain ⟨t, h, q⟩ := hbody cdv rfl A outer s H vs Q E hr hsp
  exact ⟨t, h.nox, q⟩
theorem f_ok {x qual : Str} {st : Stmt} {f : Addr} {fd : FuncData} {N ps : List Str} {k : Nat} {t : WS} {io : Option Nat} (F : Fun K x qual st f fd) (Sc : FnScope N ps (defScope st))
    (body : ∀ (cdv : Value), fd.code = cdv → ∀ (A : Around) (outer : List PySem.Env) (s : Shared) (H : Hp) (E : XK), Room k (A.deeper (envOfC qual (defScope st) s.heap.objs.size f cdv)) → DSs (cxOf CX0 P w K mg base N qual (defScope st) f cdv A outer s H E).nox (ioList io) (defBody st) t) :
    FnOk P w K mg base CX0 (k + 1) f fd ps (spOf K ps.length (wFun io ps.length N.length t)) := by
  refine fun_ok F Sc (fun vs H Q E h => h.1) fun cdv hcd A outer s H vs Q E hr h => ?_
  refine ⟨_, body cdv hcd A outer s H E hr, ?_⟩
  obtain ⟨hl, as, QT, EA, ⟨hlen, sh, q⟩, hQT⟩ := h
  have hm : N.length - vs.length = N.length - ps.length := by rw [hl]
  obtain ⟨E0, O0⟩ := evok_start EA N hm
  have hasl : as.length = vs.length := by have := EA.len; rw [List.length_map] at this; exact this
  have fin : ∀ (v : V) (σ' : L2.St) (H' : Hp) (r r' : R) (ρ' : Ev), EvOk K ρ' σ' H' → Stp (Own (as ++ List.replicate (N.length - ps.length) .un) (L2.start N vs)) H (Own ρ' σ') H' → Fix (ioList io) (L2.start N vs) σ' → RepR K ρ' σ' H H' r v → retR io ps.length ρ' r = some r' →
      QT r' (backS io as ρ') → Q v H' := by
    intro v σ' H' r r' ρ' E' S' F' p' er hqt
    obtain ⟨hnb, hq⟩ := hQT _ _ hqt
    have at_io : ∀ j ∈ ioList io, j < vs.length → σ'[j]? = (vs.map some)[j]? := fun j hj hlt => by
      rw [F' j hj]; unfold L2.start
      rw [List.getElem?_append_left (by rw [List.length_map]; exact hlt)]
    have bk : ∀ (i : Nat) (s : Slot), (backS io as ρ')[i]? = some s → s ≠ .un → (i ∈ ioList io ∧ ρ'[i]? = some s ∧ i < vs.length) ∨ (i ∉ ioList io ∧ as[i]? = some s) := fun i s h hs => by
      cases io with
      | none => exact .inr ⟨by simp [ioList], h⟩
      | some j =>
        have h' : (as.set j (ρ'.getD j .un))[i]? = some s := h
        by_cases hj : j = i
        · subst hj
          have hjl : j < as.length := by
            have := (List.getElem?_eq_some_iff.mp h').1
            rwa [List.length_set] at this
          rw [List.getElem?_set_self hjl] at h'
          have h2 : ρ'.getD j .un = s := Option.some.inj h'
          refine .inl ⟨by simp [ioList], ?_, by omega⟩
          rw [List.getD_eq_getElem?_getD] at h2
          cases q : ρ'[j]? with
          | none => rw [q] at h2; exact absurd h2.symm hs
          | some s' => rw [q] at h2; exact congrArg some h2
        · rw [List.getElem?_set_ne hj] at h'
          exact .inr ⟨by simp only [ioList, List.mem_singleton]; exact fun z => hj z.symm, h'⟩
    have ownB : ∀ b, Own (backS io as ρ') (vs.map some) b → Own ρ' σ' b ∧ ∃ j ∈ ioList io, ∃ xs, ρ'[j]? = some (.own xs) ∧ σ'[j]? = some (some (.ref b)) := fun b ⟨i, xs, h1, h2⟩ => by
      rcases bk i _ h1 (fun z => nomatch z) with ⟨g1, g2, g3⟩ | ⟨g1, g2⟩
      · have h3 : σ'[i]? = some (some (.ref b)) := by rw [at_io i g1 g3]; exact h2
        exact ⟨⟨i, xs, g2, h3⟩, i, g1, xs, g2, h3⟩
      · exact absurd (sh i xs g2) g1
    have EB : EvOk K (backS io as ρ') (vs.map some) H' := by
      refine ⟨?_, fun i t h => ?_, fun i xs h => ?_, fun i j xs ys p h1 h2 h3 h4 => ?_⟩
      · rw [List.length_map]
        cases io with
        | none => exact hasl
        | some j => show (as.set j _).length = _; rw [List.length_set]; exact hasl
      · rcases bk i _ h (fun z => nomatch z) with ⟨g1, g2, g3⟩ | ⟨g1, g2⟩
        · obtain ⟨v, e1, e2⟩ := E'.val i t g2
          exact ⟨v, by rw [← at_io i g1 g3]; exact e1, e2⟩
        · obtain ⟨v, e1, e2⟩ := EA.val i t g2
          exact ⟨v, e1, Rep.pers S'.pers t v e2⟩
      · rcases bk i _ h (fun z => nomatch z) with ⟨g1, g2, g3⟩ | ⟨g1, g2⟩
        · obtain ⟨p, ws, e1, e2, e3⟩ := E'.own i xs g2
          exact ⟨p, ws, by rw [← at_io i g1 g3]; exact e1, e2, e3⟩
        · exact absurd (sh i xs g2) g1
      · rcases bk i _ h1 (fun z => nomatch z) with ⟨g1, _, _⟩ | ⟨g1, g2⟩
        · rcases bk j _ h2 (fun z => nomatch z) with ⟨g3, _, _⟩ | ⟨g3, g4⟩
          · cases io with
            | none => simp [ioList] at g1
            | some m =>
              simp only [ioList, List.mem_singleton] at g1 g3
              rw [g1, g3]
          · exact absurd (sh j ys g4) g3
        · exact absurd (sh i xs g2) g1
    refine hq v H' EB ⟨S'.pers, fun b o h t n => S'.keep b o h t fun z => n ((O0 b).mp z), fun b z => ?_, S'.there⟩ ?_
    · rcases S'.own b (ownB b z).1 with z | z
      · exact .inl ((O0 b).mp z)
      · exact .inr z
    · cases r with
      | val t => cases er; exact p'
      | own xs =>
        cases er
        obtain ⟨p, ws, e1, e2, e3, e4, e5⟩ := p'
        exact ⟨p, ws, e1, e2, e3, fun z => e4 (ownB p z).1, e5⟩
      | bor i =>
        obtain ⟨xs, g1, g2⟩ := p'
        have er' : (if ps.length ≤ i ∧ (∀ j ∈ ioList io, (ownAt ρ' j).isSome = true) then (ownAt ρ' i).map R.own else none) = some r' := er
        split at er'
        · rename_i hc
          obtain ⟨hi, hio⟩ := hc
          have oa : ownAt ρ' i = some xs := by unfold ownAt; rw [g1]
          rw [oa] at er'; cases er'
          obtain ⟨p, ws, e1, e2, e3⟩ := E'.own i xs g1
          rw [g2] at e1; cases e1
          have nope : ∀ j ∈ ioList io, j < vs.length → σ'[j]? = some (some (.ref p)) → False := fun j hj hlt hs => by
            obtain ⟨ys, hy⟩ := Option.isSome_iff_exists.mp (hio j hj)
            have := E'.inj j i ys xs p (ownAt_some hy) g1 hs g2
            omega
          refine ⟨p, ws, rfl, e2, e3, fun z => ?_, ?_⟩
          · obtain ⟨_, j, hj, zs, h1, h2⟩ := ownB p z
            have := E'.inj j i zs xs p h1 g1 h2 g2
            obtain ⟨i', ys, k1, k2⟩ := z
            rcases bk i' _ k1 (fun z => nomatch z) with ⟨q1, q2, q3⟩ | ⟨q1, q2⟩
            · exact nope i' q1 q3 (by rw [at_io i' q1 q3]; exact k2)
            · exact absurd (sh i' ys q2) q1
          · rcases S'.own p ⟨i, xs, g1, g2⟩ with z | z
            · obtain ⟨j, ys, k1, k2⟩ := (O0 p).mp z
              have hj := sh j ys k1
              have hlt : j < vs.length := by rw [← hasl]; exact (List.getElem?_eq_some_iff.mp k1).1
              exact (nope j hj hlt (by rw [at_io j hj hlt]; exact k2)).elim
            · exact z
        · cases er'
  refine ⟨_, _, E0, q, ⟨fun σ' H' ρ' E' S' F' q' => ?_, fun v σ' H' r ρ' E' S' F' p' q' => ?_, fun _ _ _ _ _ _ z => z, fun _ _ _ _ _ _ z => z⟩⟩
  · exact fin .non σ' H' (.val .non) (.val .non) ρ' E' S' F' (by show Rep K H' .non .non; simp) rfl q'
  · obtain ⟨r', er, q'⟩ := bO_iff.mp q'
    exact fin v σ' H' r r' ρ' E' S' F' p' er q'
def argIn (ρ : Ev) : R → Option Slot
  | .own xs => some (.own xs)
  | .bor i => (ownAt ρ i).map Slot.own
  | .val _ => none
def argVal : R → Option Slot
  | .val t => some (.val t)
  | _ => none
def argS (io : Option Nat) (ρ : Ev) (k : Nat) (r : R) : Option Slot := if k ∈ ioList io then argIn ρ r else argVal r
def argsS (io : Option Nat) (ρ : Ev) : Nat → List R → Option (List Slot)
  | _, [] => some []
  | k, r :: rs => (argsS io ρ (k + 1) rs).bind fun as => (argS io ρ k r).map (· :: as)
theorem argsS_cons {io : Option Nat} {ρ : Ev} {k : Nat} {r : R} {rs : List R} {as : List Slot} (h : argsS io ρ k (r :: rs) = some as) : ∃ s bs, as = s :: bs ∧ argsS io ρ (k + 1) rs = some bs ∧ argS io ρ k r = some s := by
  have h' : ((argsS io ρ (k + 1) rs).bind fun as => (argS io ρ k r).map (· :: as)) = some as := h
  rw [Option.bind_eq_some_iff] at h'
  obtain ⟨bs, hb, h2⟩ := h'
  rw [Option.map_eq_some_iff] at h2
  obtain ⟨s, hs, rfl⟩ := h2
  exact ⟨s, bs, rfl, hb, hs⟩
def outS (io : Option Nat) (rs : List R) (as' ρ : Ev) : Ev := match io with
  | none => ρ
  | some j => match rs[j]? with
    | some (.bor i) => ρ.set i (as'.getD j .un)
    | _ => ρ
def wCall (io : Option Nat) (S : FS) (ta : WA) : WE := fun ρ Q => ta ρ fun rs ρ1 => bO (argsS io ρ1 0 rs) fun as => S as fun r as' => nb r ∧ Q r (outS io rs as' ρ1)
theorem argsS_len {io : Option Nat} {ρ : Ev} : ∀ {rs : List R} {k : Nat} {as : List Slot}, argsS io ρ k rs = some as → as.length = rs.length
  | [], _, _, h => by cases h; rfl
  | r :: rs, k, as, h => by
    obtain ⟨s, bs, rfl, hb, hs⟩ := argsS_cons h
    simp [argsS_len hb]
theorem argsS_at {io : Option Nat} {ρ : Ev} : ∀ {rs : List R} {k : Nat} {as : List Slot} {i : Nat} {r : R}, argsS io ρ k rs = some as → rs[i]? = some r →
    (k + i ∉ ioList io ∧ ∃ t, r = .val t ∧ as[i]? = some (.val t)) ∨ (k + i ∈ ioList io ∧ ((∃ xs, r = .own xs ∧ as[i]? = some (.own xs)) ∨ ∃ m xs, r = .bor m ∧ ρ[m]? = some (.own xs) ∧ as[i]? = some (.own xs)))
  | [], _, _, _, _, _, h => by simp at h
  | r :: rs, k, as, i, r', h, hi => by
    obtain ⟨s, bs, rfl, hb, h2⟩ := argsS_cons h
    cases i with
    | zero =>
      have hr : r = r' := by simpa using hi
      subst hr
      unfold argS at h2
      split at h2
      · rename_i hk
        refine .inr ⟨hk, ?_⟩
        cases r with
        | own xs => cases h2; exact .inl ⟨xs, rfl, rfl⟩
        | bor m =>
          have h3 : (ownAt ρ m).map Slot.own = some s := h2
          rw [Option.map_eq_some_iff] at h3; obtain ⟨xs, hx, rfl⟩ := h3; exact .inr ⟨m, xs, rfl, ownAt_some hx, rfl⟩
        | val t => cases h2
      · rename_i hk
        refine .inl ⟨hk, ?_⟩
        cases r with
        | val t => cases h2; exact ⟨t, rfl, rfl⟩
        | own xs => cases h2
        | bor m => cases h2
    | succ i =>
      have hi' : rs[i]? = some r' := by simpa using hi
      have ih := argsS_at hb hi'
      rw [List.getElem?_cons_succ]
      have e : k + 1 + i = k + (i + 1) := by omega
      rw [e] at ih
      exact ih
theorem paired_get {α β : Type} {F : α → β → Prop} : ∀ {l : List α} {m : List β} {i : Nat} {a : α}, Paired F l m → l[i]? = some a → ∃ b, m[i]? = some b ∧ F a b
  | _, _, _, _, .nil, h => by simp at h
  | _, _, 0, _, .cons r t, h => by simp at h; subst h; exact ⟨_, rfl, r⟩
  | _, _, i + 1, _, .cons r t, h => by
    obtain ⟨b, h1, h2⟩ := paired_get (i := i) t (by simpa using h)
    exact ⟨b, by simpa using h1, h2⟩
theorem call_go {X : Cx} {io : Option Nat} {S : FS} {n : Nat} {ta : WA} {σ : L2.St} {H : Hp} {ρ : Ev} {Q : R → Ev → Prop} (E : EvOk X.K ρ σ H) (q : wCall io S ta ρ Q) (hn : ∀ as Q, S as Q → as.length = n) :
    tCall (spOf X.K n S) [] E0 (upA X.K ta) σ H fun v H' => ∃ r ρ', EvOk X.K ρ' σ H' ∧ Stp (Own ρ σ) H (Own ρ' σ) H' ∧ RepR X.K ρ' σ H H' r v ∧ Q r ρ' := by
  refine ⟨ρ, _, E, q, fun vs H1 rs ρ1 E1 S1 p1 q1 => ?_⟩
  obtain ⟨as, ea, q2⟩ := bO_iff.mp q1
  rw [List.append_nil]
  have hl1 := argsS_len ea
  have hl2 : rs.length = vs.length := Paired.length p1
  have at' : ∀ {i : Nat} {s : Slot}, as[i]? = some s → ∃ r v, rs[i]? = some r ∧ vs[i]? = some v ∧ RepR X.K ρ1 σ H H1 r v ∧ ((i ∉ ioList io ∧ ∃ t, r = .val t ∧ s = .val t) ∨ (i ∈ ioList io ∧ ((∃ xs, r = .own xs ∧ s = .own xs) ∨ ∃ m xs, r = .bor m ∧ ρ1[m]? = some (.own xs) ∧ s = .own xs))) := fun {i s} h => by
    have hi : i < rs.length := by rw [← hl1]; exact (List.getElem?_eq_some_iff.mp h).1
    obtain ⟨v, hv, pv⟩ := paired_get p1 (List.getElem?_eq_getElem hi)
    have := argsS_at ea (List.getElem?_eq_getElem hi)
    rw [Nat.zero_add, h] at this
    refine ⟨_, v, List.getElem?_eq_getElem hi, hv, pv, ?_⟩
    rcases this with ⟨a, t, b, c⟩ | ⟨a, ⟨xs, b, c⟩ | ⟨m, xs, b, c, d⟩⟩
    · exact .inl ⟨a, t, b, Option.some.inj c⟩
    · exact .inr ⟨a, .inl ⟨xs, b, Option.some.inj c⟩⟩
    · exact .inr ⟨a, .inr ⟨m, xs, b, c, Option.some.inj d⟩⟩
  have EA : EvOk X.K as (vs.map some) H1 := by
    refine ⟨by rw [List.length_map]; omega, fun i t h => ?_, fun i xs h => ?_, fun i j xs ys p h1 h2 h3 h4 => ?_⟩
    · obtain ⟨r, v, hr, hv, pv, c⟩ := at' h
      refine ⟨v, by rw [List.getElem?_map, hv]; rfl, ?_⟩
      rcases c with ⟨_, t', rfl, hs⟩ | ⟨_, ⟨xs, rfl, hs⟩ | ⟨m, xs, rfl, _, hs⟩⟩
      · cases hs; exact pv
      · cases hs
      · cases hs
    · obtain ⟨r, v, hr, hv, pv, c⟩ := at' h
      rcases c with ⟨_, t', rfl, hs⟩ | ⟨_, ⟨ys, rfl, hs⟩ | ⟨m, ys, rfl, hm, hs⟩⟩
      · cases hs
      · cases hs
        obtain ⟨p, ws, rfl, e2, e3, _⟩ := pv
        exact ⟨p, ws, by rw [List.getElem?_map, hv]; rfl, e2, e3⟩
      · cases hs
        obtain ⟨p, ws, g1, g2, g3⟩ := E1.own m xs hm
        obtain ⟨_, _, g4⟩ := pv
        rw [g1] at g4; cases g4
        exact ⟨p, ws, by rw [List.getElem?_map, hv]; rfl, g2, g3⟩
    · obtain ⟨_, _, _, _, _, c⟩ := at' h1
      obtain ⟨_, _, _, _, _, c'⟩ := at' h2
      have m1 : i ∈ ioList io := by
        rcases c with ⟨_, t', _, hs⟩ | ⟨m, _⟩
        · cases hs
        · exact m
      have m2 : j ∈ ioList io := by
        rcases c' with ⟨_, t', _, hs⟩ | ⟨m, _⟩
        · cases hs
        · exact m
      cases io with
      | none => simp [ioList] at m1
      | some k => simp only [ioList, List.mem_singleton] at m1 m2; rw [m1, m2]
  refine ⟨by rw [← hl2, ← hl1]; exact hn _ _ q2, as, _, EA, q2, ?_⟩
  have fin : ∀ (r : R) (as' : List Slot), Q r (outS io rs as' ρ1) → nb r → ∀ v H', EvOk X.K as' (vs.map some) H' → Stp (Own as (vs.map some)) H1 (Own as' (vs.map some)) H' → RepR X.K as' (vs.map some) H1 H' r v →
      ∃ r ρ', EvOk X.K ρ' σ H' ∧ Stp (Own ρ σ) H (Own ρ' σ) H' ∧ RepR X.K ρ' σ H H' r v ∧ Q r ρ' := by
    intro r as' qq hnb v H' E' S' p'
    have ownA : ∀ b, Own as (vs.map some) b → Own ρ1 σ b ∨ H b = none := fun b ⟨i, xs, h1, h2⟩ => by
      obtain ⟨r, v, hr, hv, pv, c⟩ := at' h1
      rw [List.getElem?_map, hv] at h2
      have hv2 : v = .ref b := by simpa using h2
      subst hv2
      rcases c with ⟨_, t', rfl, hs⟩ | ⟨_, ⟨ys, rfl, hs⟩ | ⟨m, ys, rfl, hm, hs⟩⟩
      · cases hs
      · obtain ⟨p, ws, e1, _, _, _, e5⟩ := pv
        cases e1
        exact .inr e5
      · obtain ⟨_, _, g4⟩ := pv
        exact .inl ⟨m, ys, hm, g4⟩
    have keep0 : ∀ b o, H b = some o → (∀ ps, o ≠ .tbl ps) → ¬ Own ρ σ b → H' b = some o := fun b o h t n => by
      have h1 := S1.keep b o h t n
      refine S'.keep b o h1 t fun z => ?_
      rcases ownA b z with z | z
      · rcases S1.own b z with z | z
        · exact n z
        · rw [h] at z; cases z
      · rw [h] at z; cases z
    have there0 : ∀ b o, H b = some o → ∃ o', H' b = some o' := fun b o h => let ⟨o1, h1⟩ := S1.there b o h; S'.there b o1 h1
    have mk : ∀ ρ', EvOk X.K ρ' σ H' → (∀ b, Own ρ' σ b → Own ρ1 σ b) → Q r ρ' → ∃ r ρ', EvOk X.K ρ' σ H' ∧ Stp (Own ρ σ) H (Own ρ' σ) H' ∧ RepR X.K ρ' σ H H' r v ∧ Q r ρ' := fun ρ' E2 ho q2 => by
      refine ⟨r, ρ', E2, ⟨S1.pers.trans S'.pers, keep0, fun b z => S1.own b (ho b z), there0⟩, ?_, q2⟩
      cases r with
      | val t => exact p'
      | own xs =>
        obtain ⟨p, ws, e1, e2, e3, e4, e5⟩ := p'
        refine ⟨p, ws, e1, e2, e3, fun z => ?_, S1.fresh e5⟩
        obtain ⟨us, q⟩ := E1.noOwn (ho p z)
        rw [e5] at q; cases q
      | bor i => exact hnb.elim
    have stay : ∀ (m : Nat) (xs : List T) (p : Addr), ρ1[m]? = some (.own xs) → σ[m]? = some (some (.ref p)) → (∀ i, i ∈ ioList io → rs[i]? ≠ some (.bor m)) → H' p = H1 p := fun m xs p h1 h2 h3 => by
      obtain ⟨q, ws, g1, g2, g3⟩ := E1.own m xs h1
      rw [h2] at g1; cases g1
      rw [g2]
      refine S'.keep p _ g2 (fun _ z => nomatch z) fun ⟨i, ys, k1, k2⟩ => ?_
      obtain ⟨r, v, hr, hv, pv, c⟩ := at' k1
      rw [List.getElem?_map, hv] at k2
      have hv2 : v = .ref p := by simpa using k2
      subst hv2
      rcases c with ⟨_, t', rfl, hs⟩ | ⟨hi, ⟨zs, rfl, hs⟩ | ⟨m', zs, rfl, hm, hs⟩⟩
      · cases hs
      · obtain ⟨p', us, e1, _, _, e4, _⟩ := pv
        cases e1
        exact e4 ⟨m, xs, h1, h2⟩
      · obtain ⟨_, _, g4⟩ := pv
        have := E1.inj m' m zs xs p hm h1 g4 h2
        subst this
        exact h3 i hi hr
    by_cases hb : ∃ j m, io = some j ∧ rs[j]? = some (.bor m)
    · obtain ⟨j, m, rfl, hj⟩ := hb
      have ho : outS (some j) rs as' ρ1 = ρ1.set m (as'.getD j .un) := by unfold outS; simp only [hj]
      rw [ho] at qq
      have hjl : j < rs.length := (List.getElem?_eq_some_iff.mp hj).1
      obtain ⟨v0, hv0, pv0⟩ := paired_get p1 hj
      obtain ⟨xs0, hm, hs0⟩ := pv0
      obtain ⟨p, ws, g1, g2, g3⟩ := E1.own m xs0 hm
      rw [g1] at hs0; cases hs0
      have hml : m < ρ1.length := (List.getElem?_eq_some_iff.mp hm).1
      have vj : (vs.map some)[j]? = some (some (.ref p)) := by rw [List.getElem?_map, hv0]; rfl
      have oth : ∀ (i : Nat) (xs : List T) (p' : Addr), i ≠ m → ρ1[i]? = some (.own xs) → σ[i]? = some (some (.ref p')) → H' p' = H1 p' := fun i xs p' hi h1 h2 =>
        stay i xs p' h1 h2 fun j' hj' z => by
          simp only [ioList, List.mem_singleton] at hj'
          subst hj'
          rw [hj] at z; cases z; exact hi rfl
      have getm : ∀ {s : Slot}, (ρ1.set m (as'.getD j .un))[m]? = some s → s ≠ .un → as'[j]? = some s := fun {s} h hs => by
        rw [List.getElem?_set_self hml] at h
        have h2 : as'.getD j .un = s := Option.some.inj h
        rw [List.getD_eq_getElem?_getD] at h2
        cases q : as'[j]? with
        | none => rw [q] at h2; exact absurd h2.symm hs
        | some s' => rw [q] at h2; exact congrArg some h2
      refine mk _ ⟨by rw [List.length_set]; exact E1.len, fun i t h => ?_, fun i xs h => ?_, fun i k xs ys q h1 h2 h3 h4 => ?_⟩ (fun b ⟨i, xs, h1, h2⟩ => ?_) qq
      · by_cases hi : i = m
        · subst hi
          obtain ⟨v, e1, e2⟩ := E'.val j t (getm h (fun z => nomatch z))
          rw [vj] at e1; cases e1
          exact ⟨_, g1, e2⟩
        · rw [List.getElem?_set_ne (Ne.symm hi)] at h
          obtain ⟨v, e1, e2⟩ := E1.val i t h
          exact ⟨v, e1, Rep.pers S'.pers t v e2⟩
      · by_cases hi : i = m
        · subst hi
          obtain ⟨p', us, e1, e2, e3⟩ := E'.own j xs (getm h (fun z => nomatch z))
          rw [vj] at e1; cases e1
          exact ⟨p, us, g1, e2, e3⟩
        · rw [List.getElem?_set_ne (Ne.symm hi)] at h
          obtain ⟨p', us, e1, e2, e3⟩ := E1.own i xs h
          exact ⟨p', us, e1, by rw [oth i xs p' hi h e1]; exact e2, Reps.pers S'.pers xs us e3⟩
      · have key : ∀ {i : Nat} {xs : List T}, (ρ1.set m (as'.getD j .un))[i]? = some (.own xs) → ∃ ys, ρ1[i]? = some (.own ys) := fun {i xs} h => by
          by_cases hi : i = m
          · subst hi; exact ⟨xs0, hm⟩
          · rw [List.getElem?_set_ne (Ne.symm hi)] at h; exact ⟨xs, h⟩
        obtain ⟨_, h1⟩ := key h1
        obtain ⟨_, h2⟩ := key h2
        exact E1.inj i k _ _ q h1 h2 h3 h4
      · by_cases hi : i = m
        · subst hi; exact ⟨i, xs0, hm, h2⟩
        · rw [List.getElem?_set_ne (Ne.symm hi)] at h1; exact ⟨i, xs, h1, h2⟩
    · have ho : outS io rs as' ρ1 = ρ1 := by
        cases io with
        | none => rfl
        | some j =>
          cases q : rs[j]? with
          | none => simp only [outS, q]
          | some r' =>
            cases r' with
            | bor m => exact absurd ⟨j, m, rfl, q⟩ hb
            | val _ => simp only [outS, q]
            | own _ => simp only [outS, q]
      rw [ho] at qq
      refine mk ρ1 (E1.kept S'.pers fun b ⟨i, xs, h1, h2⟩ => stay i xs b h1 h2 fun j hj z => ?_) (fun b z => z) qq
      cases io with
      | none => simp [ioList] at hj
      | some k =>
        simp only [ioList, List.mem_singleton] at hj
        subst hj
        exact hb ⟨j, i, rfl, z⟩
  exact fun r as' ⟨h1, h2⟩ => ⟨h1, fin r as' h2 h1⟩
theorem d_call {X : Cx} {io : Option Nat} {S : FS} {ta : WA} {k : Nat} {f : Addr} {fd : FuncData} {ps : List Str} {x : Str} {p pos : Pos} {e : Expr} {es : List Expr} (F : FnOk X.prog X.w X.K X.mg X.base CX0 k f fd ps (spOf X.K ps.length S)) (hS : ∀ as Q, S as Q → as.length = ps.length) (hr : Room k X.A) (hg : Gl X x) (hm : X.mg x = some (.ref f)) (hk : W.keepIn X.K (.ref f) = true) (hb : Binds X.K fd ps [])
    (ha : DA X (e :: es) ta) (hdb : (x == ("__debug__" : Str)) = false := by decide) (he : starEach (e :: es) X.env = (false, eval e X.env) :: starEach es X.env := by rfl) (hpl : (backTo pos (starEach es X.env)).any (·.1) = false := by rfl) :
    DE X (.Call (.Name x p) (e :: es) [] pos) (wCall io S ta) :=
  DE.of (pe_call F hr hg hm hk hb .nil pass0 ha hdb he hpl) fun σ H ρ Q E q => call_go E q hS
end
end FW
namespace FW
open PySem PySem.Spec PyProof.Rows L2
variable [Tabs]
def clOf (env : PySem.Env) : List (Str × NameKind) → List (Str × Addr) → List (Str × Addr)
  | [], cs => cs
  | (n, k) :: r, cs => clOf env r (if k == .free then (n, (env.cells.lookup n).getD 0) :: cs else cs)
theorem closureFor_eq {scope : Scope} {env : PySem.Env} (h : ∀ y ∈ scope.names, y.2 = .free → ∃ c, env.cells.lookup y.1 = some c) : closureFor scope env = pure (clOf env scope.names []) := by
  have go : ∀ (l : List (Str × NameKind)) (cs : List (Str × Addr)), (∀ y ∈ l, y.2 = .free → ∃ c, env.cells.lookup y.1 = some c) →
      (forIn l cs fun x r => do
        let cs := r
        match x with
        | (name, kind) => if (kind == NameKind.free) = true then do
            let __do_lift ← cellOf env name
            pure (ForInStep.yield ((name, __do_lift) :: cs)) else pure (ForInStep.yield cs) : Sem (List (Str × Addr))) = pure (clOf env l cs) := by
    intro l
    induction l with
    | nil => intro cs _; rfl
    | cons x r ih =>
      intro cs h
      obtain ⟨n, k⟩ := x
      have ih' := fun cs => ih cs fun y hy => h y (List.mem_cons_of_mem _ hy)
      rw [List.forIn_cons]
      by_cases hk : k = .free
      · subst hk
        obtain ⟨c, hc⟩ := h (n, .free) List.mem_cons_self rfl
        have hc' : cellOf env n = pure c := by unfold cellOf; rw [show env.cells.lookup n = some c from hc]
        simp only [beq_self_eq_true, if_true, hc', pure_bind]
        rw [ih' ((n, c) :: cs)]
        show pure _ = pure (clOf env r (if (NameKind.free == NameKind.free) = true then _ else _))
        rw [if_pos (beq_self_eq_true NameKind.free), show env.cells.lookup n = some c from hc]; rfl
      · have hb : (k == NameKind.free) = false := by simpa using hk
        simp only [hb, Bool.false_eq_true, if_false, pure_bind]
        rw [ih' cs]
        show pure _ = pure (clOf env r (if (k == NameKind.free) = true then _ else _))
        rw [if_neg (by rw [hb]; exact Bool.false_ne_true)]
  unfold closureFor
  have := go scope.names [] h
  simp only [bind_pure] at this ⊢
  exact this
theorem clOf_mem {env : PySem.Env} {x : Str} {c : Addr} : ∀ {l : List (Str × NameKind)} {cs : List (Str × Addr)}, (∀ y ∈ l, y.2 = .free → ∃ c, env.cells.lookup y.1 = some c) → (∀ x c, cs.lookup x = some c → env.cells.lookup x = some c) →
    (clOf env l cs).lookup x = some c → env.cells.lookup x = some c
  | [], cs, _, h, e => h x c e
  | (n, k) :: r, cs, h0, h, e => by
    refine clOf_mem (l := r) (fun y hy => h0 y (List.mem_cons_of_mem _ hy)) (fun y d q => ?_) e
    split at q
    · rename_i hk
      obtain ⟨c', hc'⟩ := h0 (n, k) List.mem_cons_self (by simpa using hk)
      rw [List.lookup_cons] at q
      split at q
      · rename_i hyn
        have : y = n := by simpa using hyn
        subst this
        rw [show env.cells.lookup y = some c' from hc'] at q ⊢
        exact q
      · exact h y d q
    · exact h y d q
theorem clOf_has {env : PySem.Env} {x : Str} : ∀ {l : List (Str × NameKind)} {cs : List (Str × Addr)}, ((∃ y ∈ l, y.1 = x ∧ y.2 = .free) ∨ ∃ c, cs.lookup x = some c) → ∃ c, (clOf env l cs).lookup x = some c
  | [], cs, h => by
    rcases h with ⟨y, hy, _⟩ | h
    · simp at hy
    · exact h
  | (n, k) :: r, cs, h => by
    refine clOf_has (l := r) ?_
    rcases h with ⟨y, hy, h1, h2⟩ | ⟨c, h⟩
    · rcases List.mem_cons.mp hy with rfl | hy
      · refine .inr ⟨(env.cells.lookup n).getD 0, ?_⟩
        have h2' : k = .free := h2
        have h1' : n = x := h1
        subst h2' h1'
        rw [if_pos (beq_self_eq_true NameKind.free), List.lookup_cons, beq_self_eq_true]
      · exact .inl ⟨y, hy, h1, h2⟩
    · refine .inr ?_
      split
      · rw [List.lookup_cons]
        split
        · exact ⟨_, rfl⟩
        · exact ⟨c, h⟩
      · exact ⟨c, h⟩
theorem lookup_relabel {env : PySem.Env} (x : Str) : ∀ (names : List (Str × NameKind)), ((names.map fun (n, k) => if (k == NameKind.free && env.scope.kind == .function && env.kindOf n == some .cell) then (n, NameKind.cell) else (n, k)).lookup x) =
    match names.lookup x with
    | some .free => if env.scope.kind == .function && env.kindOf x == some .cell then some .cell else some .free
    | o => o
  | [] => rfl
  | (n, k) :: r => by
    have ih := lookup_relabel (env := env) x r
    rw [List.map_cons]
    by_cases hx : x = n
    · subst hx
      have e1 : List.lookup x ((x, k) :: r) = some k := by simp [List.lookup_cons]
      rw [e1]
      by_cases hk : k = .free
      · subst hk
        show List.lookup x ((if (NameKind.free == NameKind.free && env.scope.kind == .function && env.kindOf x == some .cell) = true then (x, NameKind.cell) else (x, NameKind.free)) :: _) = _
        rw [beq_self_eq_true, Bool.true_and]
        split <;> simp_all [List.lookup_cons]
      · have hb : (k == NameKind.free) = false := by simpa using hk
        show List.lookup x ((if (k == NameKind.free && env.scope.kind == .function && env.kindOf x == some .cell) = true then (x, NameKind.cell) else (x, k)) :: _) = _
        rw [hb, Bool.false_and, Bool.false_and, if_neg Bool.false_ne_true, List.lookup_cons, beq_self_eq_true]
        cases k <;> first | rfl | exact absurd rfl hk
    · have hb : (x == n) = false := by simpa using hx
      have e1 : List.lookup x ((n, k) :: r) = List.lookup x r := by rw [List.lookup_cons, hb]
      rw [e1, ← ih]
      show List.lookup x ((if (k == NameKind.free && env.scope.kind == .function && env.kindOf n == some .cell) = true then (n, NameKind.cell) else (n, k)) :: _) = _
      split <;> rw [List.lookup_cons, hb]
def FreeOk (X : Cx) (scope : Scope) : List Str → List (Option Nat) → Prop
  | [], [] => True
  | x :: xs, none :: ms => (scope.names.lookup x = some .local ∨ scope.names.lookup x = some .cell) ∧ FreeOk X scope xs ms
  | x :: xs, some j :: ms => scope.names.lookup x = some .free ∧ X.N[j]? = some x ∧ (X.env.kindOf x = some .cell ∨ X.env.kindOf x = some .free) ∧ FreeOk X scope xs ms
  | _, _ => False
theorem FreeOk.len {X : Cx} {scope : Scope} : ∀ {N : List Str} {mp : List (Option Nat)}, FreeOk X scope N mp → N.length = mp.length
  | [], [], _ => rfl
  | [], _ :: _, h => h.elim
  | _ :: _, [], h => h.elim
  | _ :: _, none :: _, h => by simp [FreeOk.len h.2]
  | _ :: _, some _ :: _, h => by simp [FreeOk.len h.2.2.2]
theorem FreeOk.at {X : Cx} {scope : Scope} : ∀ {N : List Str} {mp : List (Option Nat)} {i : Nat} {x : Str}, FreeOk X scope N mp → N[i]? = some x →
    (mp[i]? = some none ∧ (scope.names.lookup x = some .local ∨ scope.names.lookup x = some .cell)) ∨ ∃ j, mp[i]? = some (some j) ∧ scope.names.lookup x = some .free ∧ X.N[j]? = some x ∧ (X.env.kindOf x = some .cell ∨ X.env.kindOf x = some .free)
  | [], [], _, _, _, e => by simp at e
  | [], _ :: _, _, _, h, _ => h.elim
  | _ :: _, [], _, _, h, _ => h.elim
  | x :: xs, none :: ms, 0, _, h, e => by simp at e; subst e; exact .inl ⟨rfl, h.1⟩
  | x :: xs, none :: ms, i + 1, _, h, e => by
    have := FreeOk.at (i := i) h.2 (by simpa using e)
    simpa using this
  | x :: xs, some j :: ms, 0, _, h, e => by simp at e; subst e; exact .inr ⟨j, rfl, h.1, h.2.1, h.2.2.1⟩
  | x :: xs, some j :: ms, i + 1, _, h, e => by
    have := FreeOk.at (i := i) h.2.2.2 (by simpa using e)
    simpa using this
structure Blk (X : Cx) (scope : Scope) (N : List Str) (mp : List (Option Nat)) : Prop where
  kind : scope.kind = .function
  cl : ∀ y ∈ scope.names, y.2 = .cell → scope.names.lookup y.1 = some .cell
  lk : ∀ y ∈ scope.names, y.2 = .local → scope.names.lookup y.1 = some .local
  fr : ∀ y ∈ scope.names, y.2 = .free → y.1 ∈ N ∧ scope.names.lookup y.1 = some .free
  nd : N.Nodup
  free : FreeOk X scope N mp
def blkCx (X : Cx) (scope : Scope) (N : List Str) (s₀ : Shared) (H₀ : Hp) (fp : List Addr) : Cx :=
  { X with N := N, s₀ := s₀, H₀ := H₀, env := compEnvC scope (cellsFrom (s₀.heap.objs.size + 1) scope.names (clOf X.env scope.names [])) s₀.heap.objs.size X.env, outer := X.stack, stack := X.stack, ex := fp, fn := fun x => scope.names.lookup x == some .cell, pn := [] }
def blkSt (σ : L2.St) (mp : List (Option Nat)) : L2.St := mp.map fun o => o.bind fun j => (σ[j]?).join
theorem Blk.cells {X : Cx} {scope : Scope} {N : List Str} {mp : List (Option Nat)} {pins : List (Addr × Obj)} {σ : L2.St} {H : Hp} {s : Shared} (B : Blk X scope N mp) (I : Inv X pins σ H s) : ∀ y ∈ scope.names, y.2 = .free → ∃ c, X.env.cells.lookup y.1 = some c := fun y hy hf => by
  obtain ⟨hm, hl0⟩ := B.fr y hy hf
  obtain ⟨i, hi, e⟩ := List.getElem_of_mem hm
  have e' : N[i]? = some y.1 := by rw [List.getElem?_eq_getElem hi, e]
  rcases B.free.at e' with ⟨_, hl⟩ | ⟨j, _, hl, hN, hk⟩
  · rcases hl with hl | hl <;> (rw [hl0] at hl; cases hl)
  · exact I.ok.has y.1 hk
theorem mem_of_lookup' {x : Str} {k : NameKind} : ∀ {l : List (Str × NameKind)}, l.lookup x = some k → (x, k) ∈ l := fun h => PySem.mem_of_lookup h
theorem kind_blk {X : Cx} {scope : Scope} {N : List Str} {s₀ : Shared} {H₀ : Hp} {fp : List Addr} (x : Str) : (blkCx X scope N s₀ H₀ fp).env.scope.names.lookup x = match scope.names.lookup x with
    | some .free => if X.env.scope.kind == .function && X.env.kindOf x == some .cell then some .cell else some .free
    | o => o := lookup_relabel x scope.names
theorem blkSt_get {σ : L2.St} {mp : List (Option Nat)} {i : Nat} {v : V} (h : (blkSt σ mp)[i]? = some (some v)) : ∃ j, mp[i]? = some (some j) ∧ σ[j]? = some (some v) := by
  unfold blkSt at h
  rw [List.getElem?_map] at h
  cases q : mp[i]? with
  | none => rw [q] at h; cases h
  | some o =>
    rw [q] at h
    have h' : o.bind (fun j => (σ[j]?).join) = some v := by simpa using h
    cases o with
    | none => cases h'
    | some j =>
      refine ⟨j, rfl, ?_⟩
      have h2 : (σ[j]?).join = some v := h'
      cases q2 : σ[j]? with
      | none => rw [q2] at h2; cases h2
      | some w => rw [q2] at h2; cases w with
        | none => cases h2
        | some u => cases h2; rfl
theorem cellsFrom_app : ∀ (names : List (Str × NameKind)) (n : Nat) (xs acc : List (Str × Addr)), cellsFrom n names (xs ++ acc) = cellsFrom n names xs ++ acc
  | [], _, _, _ => rfl
  | (name, kind) :: r, n, xs, acc => by
    unfold cellsFrom
    split
    · exact cellsFrom_app r (n + 1) ((name, n) :: xs) acc
    · exact cellsFrom_app r n xs acc
theorem cellsFrom_acc {names : List (Str × NameKind)} {n : Nat} {acc : List (Str × Addr)} : cellsFrom n names acc = cellsFrom n names [] ++ acc := cellsFrom_app names n [] acc
theorem cellsFrom_kind : ∀ {names : List (Str × NameKind)} {n : Nat} {xs : List (Str × Addr)} {y : Str} {c : Addr}, (y, c) ∈ cellsFrom n names xs → (y, NameKind.cell) ∈ names ∨ (y, c) ∈ xs
  | [], _, _, _, _, h => .inr h
  | (name, kind) :: r, n, xs, y, c, h => by
    unfold cellsFrom at h
    split at h
    · rename_i hk
      rcases cellsFrom_kind h with z | z
      · exact .inl (.tail _ z)
      · rcases List.mem_cons.mp z with z | z
        · cases z
          have : kind = .cell := by simpa using hk
          subst this; exact .inl (.head _)
        · exact .inr z
    · rcases cellsFrom_kind h with z | z
      · exact .inl (.tail _ z)
      · exact .inr z
theorem cellsFrom_keep : ∀ {names : List (Str × NameKind)} {n : Nat} {xs : List (Str × Addr)} {p : Str × Addr}, p ∈ xs → p ∈ cellsFrom n names xs
  | [], _, _, _, h => h
  | (name, kind) :: r, n, xs, p, h => by
    unfold cellsFrom
    split
    · exact cellsFrom_keep (.tail _ h)
    · exact cellsFrom_keep h
theorem cellsFrom_has : ∀ {names : List (Str × NameKind)} {n : Nat} {xs : List (Str × Addr)} {y : Str}, (y, NameKind.cell) ∈ names → ∃ c, (y, c) ∈ cellsFrom n names xs
  | (name, kind) :: r, n, xs, y, h => by
    unfold cellsFrom
    rcases List.mem_cons.mp h with z | z
    · cases z
      rw [if_pos (show (NameKind.cell == NameKind.cell) = true from rfl)]
      exact ⟨n, cellsFrom_keep (.head _)⟩
    · split
      · exact cellsFrom_has z
      · exact cellsFrom_has z
theorem lookup_of_mem {α : Type} : ∀ {l : List (Str × α)} {n : Str} {c : α}, (n, c) ∈ l → ∃ d, l.lookup n = some d
  | (k, v) :: r, n, c, h => by
    rw [List.lookup_cons]
    cases hb : n == k with
    | true => exact ⟨v, rfl⟩
    | false =>
      rcases List.mem_cons.mp h with e | h
      · cases e; simp at hb
      · exact lookup_of_mem h
theorem lookup_app {α : Type} : ∀ {l m : List (Str × α)} {n : Str}, (l ++ m).lookup n = match l.lookup n with
    | some c => some c
    | none => m.lookup n
  | [], m, n => rfl
  | (k, v) :: r, m, n => by
    rw [List.cons_append, List.lookup_cons, List.lookup_cons]
    cases n == k with
    | true => rfl
    | false => exact lookup_app
theorem inv_blk {X : Cx} {scope : Scope} {N : List Str} {mp : List (Option Nat)} {pins : List (Addr × Obj)} {σ : L2.St} {H : Hp} {s : Shared} {fp : List Addr} {h' : Heap} {tk : Nat} {m : Str → Option Value} (B : Blk X scope N mp) (I : Inv X pins σ H s)
    (hf : ∀ b ∈ fp, FpOk X pins H b) (hfs : ∀ b ∈ fp, b < s.heap.objs.size) (hn : h'.Ns s.heap.objs.size m) (hk : ∀ b o, s.heap.get? b = some o → h'.get? b = some o) (hcl : CellsOk h' (s.heap.objs.size + 1) (cellsFrom (s.heap.objs.size + 1) scope.names [])) :
    Inv (blkCx X scope N s H fp) [] (blkSt σ mp) H { s with heap := h', toks := tk } := by
  have cel := B.cells I
  have sub : ∀ x c, (clOf X.env scope.names []).lookup x = some c → X.env.cells.lookup x = some c := fun x c h => clOf_mem cel (fun _ _ h => by cases h) h
  have clt : ∀ x c, X.env.cells.lookup x = some c → c < s.heap.objs.size := fun x c h => let ⟨v, q⟩ := I.cell x c h; q.lt
  have two : ∀ x c, (cellsFrom (s.heap.objs.size + 1) scope.names (clOf X.env scope.names [])).lookup x = some c → ((x, c) ∈ cellsFrom (s.heap.objs.size + 1) scope.names []) ∨ X.env.cells.lookup x = some c := fun x c h => by
    rw [cellsFrom_acc, lookup_app] at h
    cases q : (cellsFrom (s.heap.objs.size + 1) scope.names []).lookup x with
    | some d => rw [q] at h; cases h; exact .inl (PySem.mem_of_lookup q)
    | none => rw [q] at h; exact .inr (sub x c h)
  have new : ∀ x c, (x, c) ∈ cellsFrom (s.heap.objs.size + 1) scope.names [] → s.heap.objs.size < c ∧ h'.IsCell c none := fun x c h => ⟨(hcl.empty x c h).2, (hcl.empty x c h).1⟩
  have own : ∀ x, scope.names.lookup x = some .cell → ∃ c, (cellsFrom (s.heap.objs.size + 1) scope.names []).lookup x = some c := fun x h => by
    obtain ⟨c, hc⟩ := cellsFrom_has (n := s.heap.objs.size + 1) (xs := []) (mem_of_lookup' h)
    exact lookup_of_mem hc
  have kd : ∀ x, (blkCx X scope N s H fp).env.kindOf x = some .cell ∨ (blkCx X scope N s H fp).env.kindOf x = some .free → scope.names.lookup x = some .free ∨ scope.names.lookup x = some .cell := fun x h => by
    have e := kind_blk (X := X) (scope := scope) (N := N) (s₀ := s) (H₀ := H) (fp := fp) x
    cases q : scope.names.lookup x with
    | none => rw [q] at e; rcases h with h | h <;> (rw [show (blkCx X scope N s H fp).env.kindOf x = (blkCx X scope N s H fp).env.scope.names.lookup x from rfl, e] at h; cases h)
    | some k =>
      rw [q] at e
      cases k with
      | free => exact .inl rfl
      | cell => exact .inr rfl
      | _ => rcases h with h | h <;> (rw [show (blkCx X scope N s H fp).env.kindOf x = (blkCx X scope N s H fp).env.scope.names.lookup x from rfl, e] at h; cases h)
  have fsub : ∀ b ∈ frs X.stack, b ∈ X.env.locals :: X.fs := I.stkSub
  refine ⟨⟨I.ok.mod, ?kd0, I.ok.glob, I.ok.blt, Nat.le_refl _, fun x y c h1 h2 => ?inj, fun x h => ?has, fun x c h h2 => ?cab, I.ok.hd, I.ok.frames, .inl rfl, fun b hb => ⟨Nat.ne_of_lt (hfs b hb), fun x c h z => ?exf⟩, I.bs, Nat.le_trans I.ok.bsz I.sz, fun b o e hb => ?nox, fun b hb hs => ?nofs, I.stack, I.stkFree, I.tab⟩,
    rfl, I.bare, Un.kept hk, ⟨m, hn, fun i x v e1 e2 hv => ?look⟩, fun x c h => ?cell, I.hok.fresh (Nat.le_refl _), fun x c h => ?frc, fun p hp => absurd (show p ∈ ([] : List (Addr × Obj)) from hp) (by simp), I.hok.kept hk, ?len⟩
  case kd0 => exact B.kind
  case inj =>
    rcases two x c h1 with a1 | a1 <;> rcases two y c h2 with a2 | a2
    · exact name_of_addr hcl.apart a1 a2
    · exact absurd (Nat.lt_trans (new x c a1).1 (clt y c a2)) (Nat.lt_irrefl _)
    · exact absurd (Nat.lt_trans (new y c a2).1 (clt x c a1)) (Nat.lt_irrefl _)
    · exact I.ok.inj x y c a1 a2
  case has =>
    show ∃ c, (cellsFrom (s.heap.objs.size + 1) scope.names (clOf X.env scope.names [])).lookup x = some c
    rw [cellsFrom_acc, lookup_app]
    cases q : (cellsFrom (s.heap.objs.size + 1) scope.names []).lookup x with
    | some d => exact ⟨d, rfl⟩
    | none =>
      rcases kd x h with z | z
      · exact clOf_has (.inl ⟨_, mem_of_lookup' z, rfl, rfl⟩)
      · obtain ⟨c, hc⟩ := own x z
        rw [hc] at q; cases q
  case cab =>
    have h' : scope.names.lookup x = some .cell := by simpa using (show (scope.names.lookup x == some NameKind.cell) = true from h)
    obtain ⟨d, hd⟩ := own x h'
    have h2' : (cellsFrom (s.heap.objs.size + 1) scope.names (clOf X.env scope.names [])).lookup x = some c := h2
    rw [cellsFrom_acc, lookup_app, hd] at h2'
    cases h2'
    exact Nat.le_of_lt (new x _ (PySem.mem_of_lookup hd)).1
  case exf =>
    rcases two x c h with a | a
    · exact Nat.lt_irrefl _ (Nat.lt_trans (z ▸ hfs b hb : c < s.heap.objs.size) (new x c a).1)
    · exact (hf b hb).2.2.2.2.1 x c a z
  case nox =>
    rcases (hf b hb).2.2.2.1 with z | z
    · exact I.ok.noex b o e z
    · exact absurd (Nat.lt_of_lt_of_le (Heap.lt_size e) (Nat.le_trans I.ok.bsz z)) (Nat.lt_irrefl _)
  case nofs =>
    rcases List.mem_cons.mp (fsub b hs) with z | z
    · exact (hf b hb).2.1 z
    · exact (hf b hb).2.2.1 z
  case look =>
    obtain ⟨j, ej, es⟩ := blkSt_get e2
    rcases B.free.at e1 with ⟨z, _⟩ | ⟨j', ej', hl, hN, hkind⟩
    · rw [ej] at z; cases z
    · rw [ej] at ej'; cases ej'
      obtain ⟨m0, hn0, hl0⟩ := I.loc
      have vis : Vis X.env.scope x := by rcases hkind with z | z; exact .inr (.inl z); exact .inr (.inr z)
      obtain ⟨u, ru, lk⟩ := hl0 j x v hN es vis
      refine ⟨u, ru, .inr ⟨?_, ?_⟩⟩
      · have e := kind_blk (X := X) (scope := scope) (N := N) (s₀ := s) (H₀ := H) (fp := fp) x
        rw [hl] at e
        show (blkCx X scope N s H fp).env.scope.names.lookup x = _ ∨ (blkCx X scope N s H fp).env.scope.names.lookup x = _
        rw [e]
        show (if (X.env.scope.kind == .function && X.env.kindOf x == some .cell) = true then some NameKind.cell else some NameKind.free) = _ ∨ _
        split
        · exact .inl rfl
        · exact .inr rfl
      · rcases lk with ⟨k1, _⟩ | ⟨_, c, hc, hcell⟩
        · rcases hkind with z | z <;> (rw [k1] at z; cases z)
        · obtain ⟨c', hc'⟩ := clOf_has (env := X.env) (x := x) (cs := []) (.inl ⟨_, mem_of_lookup' hl, rfl, rfl⟩)
          have := sub x c' hc'
          rw [hc] at this; cases this
          obtain ⟨o, ho, hd⟩ := hcell
          refine ⟨c, ?_, o, hk c o ho, hd⟩
          show (cellsFrom (s.heap.objs.size + 1) scope.names (clOf X.env scope.names [])).lookup x = some c
          rw [cellsFrom_acc, lookup_app]
          cases q : (cellsFrom (s.heap.objs.size + 1) scope.names []).lookup x with
          | none => exact hc'
          | some d =>
            rcases cellsFrom_kind (PySem.mem_of_lookup q) with z | z
            · have := B.cl _ z rfl
              rw [hl] at this; cases this
            · cases z
  case cell =>
    rcases two x c h with a | a
    · exact ⟨none, (new x c a).2⟩
    · obtain ⟨v, o, ho, hd⟩ := I.cell x c a
      exact ⟨v, o, hk c o ho, hd⟩
  case frc =>
    rcases two x c h with a | a
    · exact I.hok.fresh (Nat.le_of_lt (new x c a).1)
    · exact I.freeC x c a
  case len =>
    show (blkSt σ mp).length = N.length
    unfold blkSt
    rw [List.length_map, B.free.len]
end FW
namespace FW
open PySem PySem.Spec PyProof.Rows L2
variable [Tabs]
def entE (mp : List (Option Nat)) (ρ : Ev) : Ev := mp.map fun o => match o with
  | none => Slot.un
  | some j => ρ.getD j .un
def levE : List (Option Nat) → Ev → Ev → Ev
  | some j :: ms, s :: ρ', ρ => levE ms ρ' (ρ.set j s)
  | none :: ms, _ :: ρ', ρ => levE ms ρ' ρ
  | _, _, ρ => ρ
def Agree (mp : List (Option Nat)) (σ σ' : L2.St) : Prop := σ'.length = mp.length ∧ ∀ (i j : Nat), mp[i]? = some (some j) → σ'[i]? = some ((σ[j]?).join)
theorem agree_start {mp : List (Option Nat)} {σ : L2.St} : Agree mp σ (blkSt σ mp) := ⟨by simp [blkSt], fun i j h => by simp [blkSt, h]⟩
def Inj (mp : List (Option Nat)) : Prop := ∀ (i i' j : Nat), mp[i]? = some (some j) → mp[i']? = some (some j) → i = i'
theorem lev_len : ∀ (mp : List (Option Nat)) (ρ' ρ : Ev), (levE mp ρ' ρ).length = ρ.length
  | [], _, _ => by simp [levE]
  | none :: ms, [], _ => by simp [levE]
  | some _ :: ms, [], _ => by simp [levE]
  | none :: ms, _ :: ρ', ρ => by simp [levE, lev_len ms ρ' ρ]
  | some j :: ms, s :: ρ', ρ => by simp [levE, lev_len ms ρ' (ρ.set j s)]
theorem lev_get : ∀ (mp : List (Option Nat)) (ρ' ρ : Ev) (j : Nat), Inj mp → mp.length = ρ'.length → j < ρ.length → (∃ (i : Nat), mp[i]? = some (some j) ∧ (levE mp ρ' ρ)[j]? = ρ'[i]?) ∨ ((∀ (i : Nat), mp[i]? ≠ some (some j)) ∧ (levE mp ρ' ρ)[j]? = ρ[j]?)
  | [], _, ρ, j, _, _, _ => .inr ⟨fun i => by simp, by simp [levE]⟩
  | _ :: _, [], _, _, _, h, _ => by simp at h
  | none :: ms, s :: ρ', ρ, j, hi, hl, hj => by
    have hi' : Inj ms := fun a b c h1 h2 => by have := hi (a + 1) (b + 1) c (by simpa using h1) (by simpa using h2); omega
    rcases lev_get ms ρ' ρ j hi' (by simpa using hl) hj with ⟨i, h1, h2⟩ | ⟨h1, h2⟩
    · exact .inl ⟨i + 1, by simpa using h1, by simpa [levE] using h2⟩
    · refine .inr ⟨fun i => ?_, by simpa [levE] using h2⟩
      cases i with
      | zero => simp
      | succ i => simpa using h1 i
  | some k :: ms, s :: ρ', ρ, j, hi, hl, hj => by
    have hi' : Inj ms := fun a b c h1 h2 => by have := hi (a + 1) (b + 1) c (by simpa using h1) (by simpa using h2); omega
    rcases lev_get ms ρ' (ρ.set k s) j hi' (by simpa using hl) (by simpa using hj) with ⟨i, h1, h2⟩ | ⟨h1, h2⟩
    · exact .inl ⟨i + 1, by simpa using h1, by simpa [levE] using h2⟩
    · by_cases hk : k = j
      · subst hk
        exact .inl ⟨0, rfl, by rw [show levE (some k :: ms) (s :: ρ') ρ = levE ms ρ' (ρ.set k s) from rfl, h2, List.getElem?_set_self hj]; rfl⟩
      · refine .inr ⟨fun i => ?_, by rw [show levE (some k :: ms) (s :: ρ') ρ = levE ms ρ' (ρ.set k s) from rfl, h2, List.getElem?_set_ne hk]⟩
        cases i with
        | zero => simpa using hk
        | succ i => simpa using h1 i
theorem ent_get {mp : List (Option Nat)} {ρ : Ev} {i : Nat} {s : Slot} (h : (entE mp ρ)[i]? = some s) (hs : s ≠ .un) : ∃ j, mp[i]? = some (some j) ∧ ρ[j]? = some s := by
  unfold entE at h
  rw [List.getElem?_map] at h
  cases q : mp[i]? with
  | none => rw [q] at h; cases h
  | some o =>
    rw [q] at h
    cases o with
    | none => exact absurd (Option.some.inj h).symm hs
    | some j =>
      refine ⟨j, rfl, ?_⟩
      have h' : ρ.getD j .un = s := Option.some.inj h
      rw [List.getD_eq_getElem?_getD] at h'
      cases q2 : ρ[j]? with
      | none => rw [q2] at h'; exact absurd h'.symm hs
      | some u => rw [q2] at h'; exact congrArg some h'
section
variable {K : W.Frag} {mp : List (Option Nat)} {ρ ρ' : Ev} {σ σ' σ0 : L2.St} {H H' : Hp}
theorem blk_own (A : Agree mp σ σ') {b : Addr} (h : Own (entE mp ρ) σ' b) : ∃ (i j : Nat) (xs : List T), mp[i]? = some (some j) ∧ ρ[j]? = some (.own xs) ∧ σ[j]? = some (some (.ref b)) := by
  obtain ⟨i, xs, h1, h2⟩ := h
  obtain ⟨j, h3, h4⟩ := ent_get h1 (fun z => nomatch z)
  have h5 := A.2 i j h3
  rw [h2] at h5
  refine ⟨i, j, xs, h3, h4, ?_⟩
  have h6 : (σ[j]?).join = some (.ref b) := (Option.some.inj h5).symm
  cases q : σ[j]? with
  | none => rw [q] at h6; cases h6
  | some o => rw [q] at h6; cases o with
    | none => cases h6
    | some v => cases h6; rfl
theorem blk_own' (A : Agree mp σ σ') {b : Addr} (h : Own (entE mp ρ) σ' b) : Own ρ σ b := let ⟨_, j, xs, _, h1, h2⟩ := blk_own A h; ⟨j, xs, h1, h2⟩
theorem blk_in (E : EvOk K ρ σ H) (A : Agree mp σ σ') (hi : Inj mp) : EvOk K (entE mp ρ) σ' H := by
  have at' : ∀ {i j : Nat} {v : V}, mp[i]? = some (some j) → σ[j]? = some (some v) → σ'[i]? = some (some v) := fun h1 h2 => by rw [A.2 _ _ h1, h2]; rfl
  refine ⟨by simp [entE, A.1], fun i t h => ?_, fun i xs h => ?_, fun i k xs ys p h1 h2 h3 h4 => ?_⟩
  · obtain ⟨j, h3, h4⟩ := ent_get h (fun z => nomatch z)
    obtain ⟨v, h5, h6⟩ := E.val j t h4
    exact ⟨v, at' h3 h5, h6⟩
  · obtain ⟨j, h3, h4⟩ := ent_get h (fun z => nomatch z)
    obtain ⟨p, vs, h5, h6, h7⟩ := E.own j xs h4
    exact ⟨p, vs, at' h3 h5, h6, h7⟩
  · obtain ⟨j, g1, g2⟩ := ent_get h1 (fun z => nomatch z)
    obtain ⟨m, g3, g4⟩ := ent_get h2 (fun z => nomatch z)
    obtain ⟨q, _, g5, _⟩ := E.own j xs g2
    obtain ⟨q', _, g6, _⟩ := E.own m ys g4
    have e1 := at' g1 g5
    have e2 := at' g3 g6
    rw [h3] at e1; rw [h4] at e2
    cases e1; cases e2
    have := E.inj j m xs ys p g2 g4 g5 g6
    subst this
    exact hi i k j g1 g3
theorem blk_out (E : EvOk K ρ σ H) (E' : EvOk K ρ' σ' H') (A0 : Agree mp σ σ0) (A : Agree mp σ σ') (hi : Inj mp) (S : Stp (Own (entE mp ρ) σ0) H (Own ρ' σ') H') :
    EvOk K (levE mp ρ' ρ) σ H' ∧ Stp (Own ρ σ) H (Own (levE mp ρ' ρ) σ) H' := by
  have hl : mp.length = ρ'.length := by rw [E'.len, A.1]
  have back : ∀ {i j : Nat} {v : V}, mp[i]? = some (some j) → σ'[i]? = some (some v) → σ[j]? = some (some v) := fun {i j v} h1 h2 => by
    have h3 := A.2 i j h1
    rw [h2] at h3
    have h6 : (σ[j]?).join = some v := (Option.some.inj h3).symm
    cases q : σ[j]? with
    | none => rw [q] at h6; cases h6
    | some o => rw [q] at h6; cases o with
      | none => cases h6
      | some v => cases h6; rfl
  have get : ∀ {j : Nat} {s : Slot}, (levE mp ρ' ρ)[j]? = some s → (∃ (i : Nat), mp[i]? = some (some j) ∧ ρ'[i]? = some s) ∨ ((∀ (i : Nat), mp[i]? ≠ some (some j)) ∧ ρ[j]? = some s) := fun {j s} h => by
    have hj : j < ρ.length := by rw [← lev_len mp ρ' ρ]; exact (List.getElem?_eq_some_iff.mp h).1
    rcases lev_get mp ρ' ρ j hi hl hj with ⟨i, h1, h2⟩ | ⟨h1, h2⟩
    · exact .inl ⟨i, h1, by rw [← h2]; exact h⟩
    · exact .inr ⟨h1, by rw [← h2]; exact h⟩
  have nout : ∀ {j : Nat} {xs : List T} {p : Addr}, (∀ (i : Nat), mp[i]? ≠ some (some j)) → ρ[j]? = some (.own xs) → σ[j]? = some (some (.ref p)) → ¬ Own (entE mp ρ) σ0 p := fun {j xs p} h1 h2 h3 z => by
    obtain ⟨i, j', ys, g1, g2, g3⟩ := blk_own A0 z
    have := E.inj j' j ys xs p g2 h2 g3 h3
    subst this
    exact h1 i g1
  have ownO : ∀ b, Own (levE mp ρ' ρ) σ b → Own ρ σ b ∨ H b = none := fun b ⟨j, xs, h1, h2⟩ => by
    rcases get h1 with ⟨i, g1, g2⟩ | ⟨g1, g2⟩
    · obtain ⟨p, _, g3, _⟩ := E'.own i xs g2
      have g4 := back g1 g3
      rw [h2] at g4; cases g4
      rcases S.own b ⟨i, xs, g2, g3⟩ with z | z
      · exact .inl (blk_own' A0 z)
      · exact .inr z
    · exact .inl ⟨j, xs, g2, h2⟩
  refine ⟨⟨by rw [lev_len]; exact E.len, fun j t h => ?_, fun j xs h => ?_, fun j k xs ys p h1 h2 h3 h4 => ?_⟩, ⟨S.pers, fun b o h t n => S.keep b o h t fun z => n (blk_own' A0 z), ownO, S.there⟩⟩
  · rcases get h with ⟨i, g1, g2⟩ | ⟨g1, g2⟩
    · obtain ⟨v, g3, g4⟩ := E'.val i t g2
      exact ⟨v, back g1 g3, g4⟩
    · obtain ⟨v, g3, g4⟩ := E.val j t g2
      exact ⟨v, g3, Rep.pers S.pers t v g4⟩
  · rcases get h with ⟨i, g1, g2⟩ | ⟨g1, g2⟩
    · obtain ⟨p, vs, g3, g4, g5⟩ := E'.own i xs g2
      exact ⟨p, vs, back g1 g3, g4, g5⟩
    · obtain ⟨p, vs, g3, g4, g5⟩ := E.own j xs g2
      exact ⟨p, vs, g3, S.keep p _ g4 (fun _ z => nomatch z) (nout g1 g2 g3), Reps.pers S.pers xs vs g5⟩
  · rcases get h1 with ⟨i, g1, g2⟩ | ⟨g1, g2⟩
    · obtain ⟨q, _, g3, _⟩ := E'.own i xs g2
      have g4 := back g1 g3
      rw [h3] at g4; cases g4
      rcases get h2 with ⟨i', g5, g6⟩ | ⟨g5, g6⟩
      · obtain ⟨q', _, g7, _⟩ := E'.own i' ys g6
        have g8 := back g5 g7
        rw [h4] at g8; cases g8
        have := E'.inj i i' xs ys p g2 g6 g3 g7
        subst this
        rw [g1] at g5; cases g5; rfl
      · obtain ⟨_, vs, g7, g8, _⟩ := E.own k ys g6
        rw [h4] at g7; cases g7
        rcases S.own p ⟨i, xs, g2, g3⟩ with z | z
        · exact absurd z (nout g5 g6 h4)
        · rw [g8] at z; cases z
    · rcases get h2 with ⟨i', g5, g6⟩ | ⟨g5, g6⟩
      · obtain ⟨q', _, g7, _⟩ := E'.own i' ys g6
        have g8 := back g5 g7
        rw [h4] at g8; cases g8
        obtain ⟨_, vs, g9, g10, _⟩ := E.own j xs g2
        rw [h3] at g9; cases g9
        rcases S.own p ⟨i', ys, g6, g7⟩ with z | z
        · exact absurd z (nout g1 g2 h3)
        · rw [g10] at z; cases z
      · exact E.inj j k xs ys p g2 g6 h3 h4
end
theorem Blk.inj {X : Cx} {scope : Scope} {N : List Str} {mp : List (Option Nat)} (B : Blk X scope N mp) : Inj mp := fun i i' j h1 h2 => by
  have hl := B.free.len
  have hi : i < N.length := by rw [hl]; exact (List.getElem?_eq_some_iff.mp h1).1
  have hi' : i' < N.length := by rw [hl]; exact (List.getElem?_eq_some_iff.mp h2).1
  rcases B.free.at (List.getElem?_eq_getElem hi) with ⟨z, _⟩ | ⟨k, e1, _, e2, _⟩
  · rw [h1] at z; cases z
  · rcases B.free.at (List.getElem?_eq_getElem hi') with ⟨z, _⟩ | ⟨k', e3, _, e4, _⟩
    · rw [h2] at z; cases z
    · rw [h1] at e1; cases e1
      rw [h2] at e3; cases e3
      rw [e2] at e4
      exact (List.getElem_inj B.nd).mp (Option.some.inj e4)
section
variable {prog : Program} {w : World} {A : Around} {R : Result → Shared → Prop} {s : Shared}
theorem comp_turns {elt target iter : Expr} {ifs : List Expr} {scope : Scope} {pos : Pos} {it acc : Value} {env : PySem.Env} (J : Nat → Shared → Prop)
    (turn : ∀ n s, J n s → wpAny (model prog w) A (pyNext it) (fun r s₁ => match r with
      | none => R (.ok .next) s₁
      | some v => wpAny (model prog w) A (letOwnedTupleGo target it v) (fun _ s₁ => wpAny (model prog w) A (assign target env v) (fun _ s₂ =>
          wpAny (model prog w) A (forIn ifs true fun c r => if r = true then do let ok ← isTrue c env (eval c env); pure (ForInStep.yield ok) else pure (ForInStep.yield r)) (fun ok s₃ =>
            if ok = true then wpAny (model prog w) A (eval elt env) (fun x s₄ => wpAny (model prog w) A (call (.builtin "list.append") [acc, x]) (fun _ s₅ => ∃ m, m < n ∧ J m s₅) (fun _ _ => False) s₄) (fun _ _ => False) s₃
            else ∃ m, m < n ∧ J m s₃) (fun _ _ => False) s₂) (fun _ _ => False) s₁) (fun _ _ => False) s₁) (fun _ _ => False) s)
    (n : Nat) (h : J n s) : codeAny (model prog w) A (.compLoop (.ListComp elt [⟨target, iter, ifs, 0⟩] scope pos) 0 it acc env) R s := by
  refine codeAny_loop rfl J (fun n s hI => ?_) n h
  show wpAny _ A ((compTurn (.ListComp elt [⟨target, iter, ifs, 0⟩] scope pos) 0 it acc env).onRaise (fun x => do noteFrame x env; theTreesLotGoes x)) _ _ s
  refine wpAny_noted ?_
  rw [compTurn_list]
  refine wpAny_bind (wpAny_standAt (wpAny_bind (wpAny_mono (turn n s hI) (fun r s₁ h₁ => ?_) fun _ _ z => z.elim)))
  cases r with
  | none => exact wpAny_pure h₁
  | some v =>
    refine wpAny_bind (wpAny_mono h₁ (fun _ s₂ h₂ => wpAny_bind (wpAny_mono h₂ (fun _ s₃ h₃ => wpAny_bind (wpAny_mono h₃ (fun ok s₄ h₄ => ?_) fun _ _ z => z.elim)) fun _ _ z => z.elim)) fun _ _ z => z.elim)
    cases ok with
    | false => exact wpAny_pure ⟨rfl, h₄⟩
    | true =>
      exact wpAny_bind (wpAny_bind (wpAny_mono h₄ (fun x s₅ h₅ => wpAny_bind (wpAny_mono h₅ (fun _ s₆ h₆ => wpAny_pure (wpAny_pure ⟨rfl, h₆⟩)) fun _ _ z => z.elim)) fun _ _ z => z.elim))
end
def wTrue : WT := fun ρ Q => Q true ρ
def DIf (X : Cx) (ifs : List Expr) (t : WT) : Prop :=
  ∀ (pins : List (Addr × Obj)) (s : Shared) (σ : L2.St) (H : Hp) (ρ : Ev) (Q : Bool → Ev → Prop), Inv X pins σ H s → EvOk X.K ρ σ H → t ρ Q →
    wpAny (model X.prog X.w) X.A (forIn ifs true fun c r => if r = true then do let ok ← isTrue c X.env (eval c X.env); pure (ForInStep.yield ok) else pure (ForInStep.yield r))
      (fun b s' => ∃ H' ρ', Inv X pins σ H' s' ∧ EvOk X.K ρ' σ H' ∧ Stp (Own ρ σ) H (Own ρ' σ) H' ∧ Q b ρ') X.xe s
theorem dif_nil {X : Cx} : DIf X [] wTrue := fun pins s σ H ρ Q I E q => wpAny_pure ⟨H, ρ, I, E, .refl, q⟩
theorem dif_one {X : Cx} {c : Expr} {t : WT} (h : DT X c t) : DIf X [c] t := fun pins s σ H ρ Q I E q => by
  rw [List.forIn_cons]
  refine wpAny_bind ?_
  rw [if_pos rfl]
  refine wpAny_bind (thn (h pins s σ H ρ Q I E q) fun b s' q' => wpAny_pure ?_)
  exact wpAny_pure q'
def compW (mp : List (Option Nat)) (g : T → Ev → Option Ev) (tif : WT) (te : WE) (K : List T → Ev → Prop) : List T → List T → Ev → Prop
  | [], acc, ρ => K acc ρ
  | t :: ts, acc, ρ => bO (g t (entE mp ρ)) fun ρ1 => tif ρ1 fun b ρ2 => if b = true then te ρ2 fun r ρ3 => bO (valR r) fun y => acc.length < sizeLine ∧ compW mp g tif te K ts (acc ++ [y]) (levE mp ρ3 ρ) else compW mp g tif te K ts acc (levE mp ρ2 ρ)
def compG (mp : List (Option Nat)) (g : T → Ev → Option Ev) (tif : WT) (te : WE) (K : List T → Ev → Prop) (G : Ev → Prop) : List T → List T → Ev → Prop
  | [], acc, ρ => G ρ ∧ K acc ρ
  | t :: ts, acc, ρ => G ρ ∧ bO (g t (entE mp ρ)) fun ρ1 => tif ρ1 fun b ρ2 => if b = true then te ρ2 fun r ρ3 => bO (valR r) fun y => acc.length < sizeLine ∧ compG mp g tif te K G ts (acc ++ [y]) (levE mp ρ3 ρ) else compG mp g tif te K G ts acc (levE mp ρ2 ρ)
abbrev WIG := Ev → (List T → (Ev → Prop) → Ev → Prop) → Prop
structure WkG (K : W.Frag) (J : It) (ts : List T) (H0 : Hp) (C : Hp → Prop) : Prop where
  go : ∀ (i : Nat) (H : Hp) (t : T), Pers H0 H → C H → ts[i]? = some t → J.go i H ∧ ∀ x H', J.yld i H x H' → Ext H H' ∧ Rep K H' t x
  stop : ∀ (H : Hp), Pers H0 H → C H → J.stop ts.length H
def upIG (K : W.Frag) (t : WIG) : TI := fun σ H R => ∃ ρ Q, EvOk K ρ σ H ∧ t ρ Q ∧ ∀ J H' ts G ρ', EvOk K ρ' σ H' → Stp (Own ρ σ) H (Own ρ' σ) H' → WkG K J ts H' (fun H => ∃ ρ, EvOk K ρ σ H ∧ G ρ) → Q ts G ρ' → R J H'
def DIG (X : Cx) (tg iter : Expr) (t : WIG) : Prop := PI X tg iter (upIG X.K t)
def upg (ti : WI) : WIG := fun ρ Q => ti ρ fun ts ρ1 => Q ts (fun _ => True) ρ1
theorem DI.g {X : Cx} {tg iter : Expr} {ti : WI} (h : DI X tg iter ti) : DIG X tg iter (upg ti) := PI.mono h fun σ H R ⟨ρ, Q, E, q, k⟩ => ⟨ρ, _, E, q, fun J H' ts ρ' E' S' w' q' => k J H' ts _ ρ' E' S' ⟨fun i H t p _ e => w'.go i H t p e, fun H p _ => w'.stop H p⟩ q'⟩
def wCompG (mp : List (Option Nat)) (ti : WIG) (g : T → Ev → Option Ev) (tif : WT) (te : WE) : WE := fun ρ Q => ti ρ fun ts G ρ1 => compG mp g tif te (fun ys ρ2 => Q (.own ys) ρ2) G ts [] ρ1
def wComp (mp : List (Option Nat)) (ti : WI) (g : T → Ev → Option Ev) (tif : WT) (te : WE) : WE := fun ρ Q => ti ρ fun ts ρ1 => compW mp g tif te (fun ys ρ2 => Q (.own ys) ρ2) ts [] ρ1
theorem comp_same (mp : List (Option Nat)) (g : T → Ev → Option Ev) (tif : WT) (te : WE) (K : List T → Ev → Prop) : compG mp g tif te K (fun _ => True) = compW mp g tif te K := by
  funext ts
  induction ts with
  | nil => funext acc ρ; exact propext ⟨fun h => h.2, fun h => ⟨trivial, h⟩⟩
  | cons t ts ih => funext acc ρ; show (True ∧ _) = _; rw [ih, true_and]; rfl
theorem wComp_g (mp : List (Option Nat)) (ti : WI) (g : T → Ev → Option Ev) (tif : WT) (te : WE) : wComp mp ti g tif te = wCompG mp (upg ti) g tif te := by
  funext ρ Q
  show ti ρ _ = ti ρ _
  congr 1
  funext ts ρ1
  exact (congrFun (congrFun (congrFun (comp_same mp g tif te _) ts) []) ρ1).symm
def fxOf (mp : List (Option Nat)) : List Nat := (List.range mp.length).filter fun i => match mp[i]? with
  | some (some _) => true
  | _ => false
theorem mem_fxOf {mp : List (Option Nat)} {i j : Nat} (h : mp[i]? = some (some j)) : i ∈ fxOf mp := by
  unfold fxOf
  rw [List.mem_filter, List.mem_range]
  exact ⟨(List.getElem?_eq_some_iff.mp h).1, by rw [h]⟩
theorem newEnv_blk {M : Model} {A : Around} {E : Value → Shared → Prop} {s : Shared} {scope : Scope} {globals : Addr} {cl : List (Str × Addr)} {qual : Str} {env : PySem.Env} {Q : PySem.Env → Shared → Prop}
    (h : ∀ h' : Heap, h'.Ns s.heap.objs.size (fun _ => none) → (∀ b o, s.heap.get? b = some o → h'.get? b = some o) → CellsOk h' (s.heap.objs.size + 1) (cellsFrom (s.heap.objs.size + 1) scope.names []) →
      Q (newEnv scope s.heap.objs.size globals (cellsFrom (s.heap.objs.size + 1) scope.names cl) qual none .none (some env) builtinsNs) { s with heap := h' }) :
    wpAny M A (newFunctionEnv scope globals cl [] qual none .none (some env)) Q E s := by
  simp only [newFunctionEnv, Option.isSome_some, if_true]
  refine wpAny_bind (wpAny_alloc ?_)
  refine wpAny_bind (wpAny_layCells _ (fun name kind cells => by cases hkc : kind == NameKind.cell <;> simp [hkc]) _ _ _ _ ?_)
  have ok := cellsFrom_ok scope.names (s.heap.push { cls := .type "dict", data := .dict #[] }) (s.heap.objs.size + 1) [] ⟨fun _ _ hm => (nomatch hm), List.Pairwise.nil⟩ (by rw [Heap.size_push]; exact Nat.le_refl _)
  rw [Heap.size_push] at ok
  rw [show ({ s with heap := s.heap.push { cls := .type "dict", data := .dict #[] } } : Shared).heap.objs.size = s.heap.objs.size + 1 from Heap.size_push ..]
  rw [List.forIn_nil]
  exact wpAny_bind (wpAny_pure (wpAny_pure (h _ ((Heap.Ns.new s.heap (.type "dict")).keeps (pushCells_keeps _ _)) (fun b o e => pushCells_keeps _ _ b o (Heap.get?_push_of_some _ e)) ok)))
theorem comp_core {X : Cx} {tg iter elt : Expr} {ifs : List Expr} {scope : Scope} {pos : Pos} {N : List Str} {mp : List (Option Nat)} {ti : WIG} {g : T → Ev → Option Ev} {tif : WT} {te : WE} (hx : ∀ v s, ¬ X.xe v s) (hc : X.calm = true) (B : Blk X scope N mp) (hi : DIG X tg iter ti)
    (hg : ∀ s₀ H₀ fp, DG (blkCx X scope N s₀ H₀ fp) (fxOf mp) tg g) (hif : ∀ s₀ H₀ fp, DIf (blkCx X scope N s₀ H₀ fp) ifs tif) (he : ∀ s₀ H₀ fp, DE (blkCx X scope N s₀ H₀ fp) elt te)
    (hs : ∀ x, foldedSetIterable iter X.env x = pure x) {pins : List (Addr × Obj)} {s : Shared} {σ : L2.St} {H : Hp} {ρ : Ev} {Q : R → Ev → Prop} {use : Option (Value → Sem Unit)} {QQ : Value → Shared → Prop} {ipos : Pos} (I : Inv X pins σ H s) (E : EvOk X.K ρ σ H) (q : wCompG mp ti g tif te ρ Q)
    (hend : ∀ (s5 : Shared) (H5 : Hp) (ρ5 : Ev) (D C : Addr) (acc : List T) (m : Str → Option Value), Inv X pins σ H5 s5 → s5.heap.Ns C m → FpOk X pins H5 C → EvOk X.K ρ5 σ H5 → Stp (Own ρ σ) H (Own ρ5 σ) H5 → RepR X.K ρ5 σ H H5 (.own acc) (.ref D) → Q (.own acc) ρ5 →
      compPost (model X.prog X.w) X.A X.xe use QQ (.ref D) C (.ok .next) s5) : wpAny (model X.prog X.w) X.A (comprehension (.ListComp elt [⟨tg, iter, ifs, 0⟩] scope pos) scope X.env ipos (newList []) false (eval iter X.env) use) QQ X.xe s := by
  refine wpAny_comprehension_free (use := use) rfl hs (closureFor_eq (B.cells I)) B.kind B.lk ?_
  refine thn (hi pins s σ H (fun J H' => ∃ ts G ρ1, EvOk X.K ρ1 σ H' ∧ Stp (Own ρ σ) H (Own ρ1 σ) H' ∧ WkG X.K J ts H' (fun H => ∃ ρ, EvOk X.K ρ σ H ∧ G ρ) ∧ compG mp g tif te (fun ys ρ2 => Q (.own ys) ρ2) G ts [] ρ1) I ⟨ρ, _, E, q, fun J H' ts G ρ' E' S' w' q' => ⟨ts, G, ρ', E', S', w', q'⟩⟩) fun v s1 h1 => thn h1 fun itv s2 h2 => ?_
  obtain ⟨it, fp, tn, J, H2, rfl, I2, Tn, st2, f2, ts, G, ρ1, E1, S1, wk, q1⟩ := h2
  refine wpAny_newObj_type (newEnv_blk fun h₁ hns₁ hkp₁ hcl₁ => ?_)
  have I3 : Inv X pins σ (upd H2 s2.heap.objs.size (.lst [])) { s2 with heap := s2.heap.push { cls := .type "list", dict := none, data := .seq ([] : List Value).toArray }, toks := s2.toks } := I2.lnew (its := []) .nil (Nat.zero_le _)
  have fD : H2 s2.heap.objs.size = none := I2.fresh
  have ltf : ∀ b ∈ fp, b < s2.heap.objs.size := fun b hb => let ⟨o, e, _⟩ := Tn.obj 0 _ st2 b hb; Heap.lt_size e
  have f3 : ∀ b ∈ fp, FpOk X pins (upd H2 s2.heap.objs.size (.lst [])) b := fun b hb => ⟨by rw [upd_ne (Nat.ne_of_lt (ltf b hb))]; exact (f2 b hb).1, (f2 b hb).2⟩
  have x3 : Ext H2 (upd H2 s2.heap.objs.size (.lst [])) := Ext.new fD _
  have keep1 : ∀ b o, (s2.heap.push { cls := .type "list", dict := none, data := .seq ([] : List Value).toArray }).get? b = some o → h₁.get? b = some o := hkp₁
  have I4 := inv_blk (tk := s2.toks) B I3 f3 (fun b hb => by show b < (s2.heap.push _).objs.size; rw [Heap.size_push]; exact Nat.lt_succ_of_lt (ltf b hb)) hns₁ keep1 hcl₁
  generalize hX : blkCx X scope N { s2 with heap := s2.heap.push { cls := .type "list", dict := none, data := .seq ([] : List Value).toArray }, toks := s2.toks } (upd H2 s2.heap.objs.size (.lst [])) fp = X' at I4
  have hg' : DG X' (fxOf mp) tg g := by rw [← hX]; exact hg _ _ _
  have hif' : DIf X' ifs tif := by rw [← hX]; exact hif _ _ _
  have he' : DE X' elt te := by rw [← hX]; exact he _ _ _
  have hK : X'.K = X.K := by rw [← hX]; rfl
  have hP : X'.prog = X.prog := by rw [← hX]; rfl
  have hw : X'.w = X.w := by rw [← hX]; rfl
  have hA : X'.A = X.A := by rw [← hX]; rfl
  have hxe : X'.xe = X.xe := by rw [← hX]; rfl
  have hcm : X'.calm = true := by rw [← hX]; exact hc
  have henv : X'.env = compEnvC scope (cellsFrom ((s2.heap.push { cls := .type "list", dict := none, data := .seq ([] : List Value).toArray }).objs.size + 1) scope.names (clOf X.env scope.names [])) (s2.heap.push { cls := .type "list", dict := none, data := .seq ([] : List Value).toArray }).objs.size X.env := by rw [← hX]; rfl
  have hex : X'.ex = fp := by rw [← hX]; rfl
  have hfs : X'.fs = frs X.stack := by rw [← hX]; rfl
  have hN : X'.N = N := by rw [← hX]; rfl
  have hpn : X'.pn = [] := by rw [← hX]; rfl
  have hs0 : X'.s₀ = { s2 with heap := s2.heap.push { cls := .type "list", dict := none, data := .seq ([] : List Value).toArray }, toks := s2.toks } := by rw [← hX]; rfl
  have hH0 : X'.H₀ = upd H2 s2.heap.objs.size (.lst []) := by rw [← hX]; rfl
  have stat : ∀ {H' : Hp}, (∀ b ∈ fp, H' b = none) → ∀ b ∈ fp, FpOk X' [] H' b := fun {H'} hn b hb => by
    refine ⟨hn b hb, ?_, ?_, .inl (by rw [hex]; exact hb), fun x c h z => ?_, fun p hp => ?_⟩
    · rw [henv]; show b ≠ (s2.heap.push _).objs.size; rw [Heap.size_push]; exact Nat.ne_of_lt (Nat.lt_succ_of_lt (ltf b hb))
    · rw [hfs]; exact fun hm => by
        rcases List.mem_cons.mp (I2.stkSub b hm) with z | z
        · exact (f2 b hb).2.1 z
        · exact (f2 b hb).2.2.1 z
    · exact (I4.ok.exf b (by rw [hex]; exact hb)).2 x c h z
    · rw [hpn] at hp; exact absurd (show p ∈ ([] : List (Addr × Obj)) from hp) (by simp)
  have D0 : ¬ Own ρ1 σ s2.heap.objs.size := fun z => by
    obtain ⟨vs, e⟩ := E1.noOwn z
    rw [fD] at e; cases e
  let Jn : Nat → Shared → Prop := fun n s' => ∃ (i : Nat) (σ' : L2.St) (H' : Hp) (ρ' : Ev) (acc : List T) (vs : List V), Inv X' [] σ' H' s' ∧ tn i s'.heap ∧ (∀ b ∈ fp, H' b = none) ∧ Agree mp σ σ' ∧ EvOk X.K ρ' σ H' ∧
    Stp (Own ρ1 σ) H2 (Own ρ' σ) H' ∧ ¬ Own ρ' σ s2.heap.objs.size ∧ H' s2.heap.objs.size = some (.lst vs) ∧ Reps X.K H' acc vs ∧ n = ts.length - i ∧ i ≤ ts.length ∧ compG mp g tif te (fun ys ρ2 => Q (.own ys) ρ2) G (ts.drop i) acc ρ'
  have st4 : tn 0 h₁ := Tn.keep _ _ _ st2 fun b hb o e => keep1 b o (Heap.get?_push_of_some _ e)
  have start : Jn ts.length { s2 with heap := h₁, toks := s2.toks } :=
    ⟨0, blkSt σ mp, _, ρ1, [], [], I4, st4, fun b hb => (f3 b hb).1, agree_start, E1.ext x3, x3.stp, D0, upd_same, .nil, by simp, Nat.zero_le _, by simpa using q1⟩
  have loop : ∀ s3 : Shared, Jn ts.length s3 → codeAny (model X.prog X.w) X.A (.compLoop (.ListComp elt [⟨tg, iter, ifs, 0⟩] scope pos) 0 (.ref it) (.ref s2.heap.objs.size) X'.env)
      (compPost (model X.prog X.w) X.A X.xe use QQ (.ref s2.heap.objs.size) X'.env.locals) s3 := by
    intro s3 h3
    refine comp_turns Jn (fun n s4 h4 => ?_) ts.length h3
    obtain ⟨i, σ4, H4, ρ4, acc, vs, I4, t4, fr4, A4, E4, S4, Dn, hD4, rp4, hn4, hi4, q4⟩ := h4
    have noxe : ∀ v s, ¬ X'.xe v s := fun v s z => hx v s (by rw [← hxe]; exact z)
    by_cases hlt : i < ts.length
    · rw [List.drop_eq_getElem_cons hlt] at q4
      obtain ⟨g4, q4'⟩ := (show G ρ4 ∧ bO (g ts[i] (entE mp ρ4)) _ from q4)
      obtain ⟨ρ5, e5, q5⟩ := bO_iff.mp q4'
      obtain ⟨w1, w2⟩ := wk.go i H4 ts[i] S4.pers ⟨ρ4, E4, g4⟩ (List.getElem?_eq_getElem hlt)
      have hit := Tn.item X' hP hw hK hcm i [] s4 σ4 H4 (fun _ _ => False) I4 (stat fr4) t4 w1
      rw [hA] at hit
      refine thn hit fun r s5 ⟨u, hr, h5⟩ => ?_
      subst hr
      refine thn h5 fun _ s6 ⟨x, H6, I6, r6, y6, t6, fr6⟩ => ?_
      obtain ⟨x6, p6⟩ := w2 x H6 y6
      have I6' := I6.pinned (stat fr6) (Tn.obj _ _ t6)
      have E6 : EvOk X.K ρ4 σ H6 := E4.ext x6
      have B6 : EvOk X'.K (entE mp ρ4) σ4 H6 := by rw [hK]; exact blk_in E6 A4 B.inj
      have asg := hg' _ s6 σ4 H6 x u ts[i] (entE mp ρ4) ρ5 I6' r6 (by rw [hK]; exact p6) B6 e5
      rw [hP, hw, hA] at asg
      refine wpAny_mono asg (fun _ s7 ⟨σ7, I7, E7, S7, F7⟩ => ?_) fun v s z => noxe v s z
      have A7 : Agree mp σ σ7 := ⟨by rw [I7.len, hN, B.free.len], fun k j hk => by rw [F7 k (mem_fxOf hk)]; exact A4.2 k j hk⟩
      have tst := hif' _ s7 σ7 H6 ρ5 _ I7 E7 q5
      rw [hP, hw, hA] at tst
      refine wpAny_mono tst (fun b s8 ⟨H8, ρ8, I8, E8, S8, q8⟩ => ?_) fun v s z => noxe v s z
      have itr : ∀ {σ9 : L2.St} {H9 : Hp} {s9 : Shared}, Inv X' (([] : List (Addr × Obj)) ++ pinsAt fp s6.heap) σ9 H9 s9 → Inv X' [] σ9 H9 s9 ∧ tn (i + 1) s9.heap ∧ ∀ b ∈ fp, H9 b = none := fun {σ9 H9 s9} I9 => by
        refine ⟨I9.unpinned, Tn.keep _ _ _ t6 fun b hb o e => (I9.pin (b, o) (List.mem_append_right _ (List.mem_append_right _ (mem_pinsAt hb e)))).1, fun b hb => ?_⟩
        obtain ⟨o, e, d⟩ := Tn.obj _ _ t6 b hb
        exact (I9.pin (b, o) (List.mem_append_right _ (List.mem_append_right _ (mem_pinsAt hb e)))).2.1
      have S67 : Stp (Own (entE mp ρ4) σ4) H6 (Own ρ8 σ7) H8 := S7.trans S8
      have S46 : Stp (Own ρ1 σ) H2 (Own ρ4 σ) H6 := S4.trans x6.stp
      have Dn10 : ∀ {ρ' : Ev} {H' : Hp}, Stp (Own ρ4 σ) H6 (Own ρ' σ) H' → ¬ Own ρ' σ s2.heap.objs.size := fun S z => by
        rcases S.own _ z with z | z
        · exact Dn z
        · rw [x6 _ _ hD4] at z; cases z
      cases b with
      | false =>
        obtain ⟨I9, t9, fr9⟩ := itr I8
        obtain ⟨E10, S10⟩ := blk_out E6 (by rw [hK] at E8; exact E8) A4 A7 B.inj S67
        refine ⟨ts.length - (i + 1), by omega, i + 1, σ7, H8, levE mp ρ8 ρ4, acc, vs, I9, t9, fr9, A7, E10, S46.trans S10, Dn10 S10, S10.keep _ _ (x6 _ _ hD4) (fun _ z => nomatch z) Dn, Reps.pers (x6.pers.trans S10.pers) acc vs rp4, rfl, hlt, q8⟩
      | true =>
        have ev := he' _ s8 σ7 H8 ρ8 _ I8 E8 q8
        rw [hP, hw, hA] at ev
        refine wpAny_mono ev (fun u9 s9 ⟨v9, H9, r9, ρ9, I9, rv9, E9, S9, p9, q9⟩ => ?_) fun v s z => noxe v s z
        obtain ⟨y, ey, hz, q10⟩ := bO_iff.mp q9
        have S69 := S67.trans S9
        obtain ⟨E10, S10⟩ := blk_out E6 (by rw [hK] at E9; exact E9) A4 A7 B.inj S69
        have hD9 : H9 s2.heap.objs.size = some (.lst vs) := S10.keep _ _ (x6 _ _ hD4) (fun _ z => nomatch z) Dn
        have rp9 : Reps X.K H9 acc vs := Reps.pers (x6.pers.trans S10.pers) acc vs rp4
        have ry : Rep X.K H9 y v9 := by
          cases r9 with
          | val t => cases ey; rw [hK] at p9; exact p9
          | own _ => cases ey
          | bor _ => cases ey
        have app := mt_append (X := X') _ s9 σ7 H9 (.ref s2.heap.objs.size) [v9] (.ref s2.heap.objs.size) [u9] (fun z H' => z = .non ∧ H' = upd H9 s2.heap.objs.size (.lst (vs ++ [v9]))) I9 rfl (.cons rv9 .nil) ⟨_, vs, v9, rfl, rfl, hD9, by rw [← rp9.length]; exact hz, rfl, rfl⟩
        rw [hP, hw, hA] at app
        refine wpAny_mono app (fun _ s11 ⟨z, H11, I11, _, hz1, hz2⟩ => ?_) fun v s z => noxe v s z
        subst hz2
        obtain ⟨I12, t12, fr12⟩ := itr I11
        have P11 : Pers H9 (upd H9 s2.heap.objs.size (.lst (vs ++ [v9]))) := pers_mut hD9
        refine ⟨ts.length - (i + 1), by omega, i + 1, σ7, _, levE mp ρ9 ρ4, acc ++ [y], vs ++ [v9], I12, t12, fr12, A7, E10.kept P11 fun b ob => upd_ne (fun z => Dn10 S10 (z ▸ ob)), ⟨(S46.trans S10).pers.trans P11, fun b o e t n => ?_, (S46.trans S10).own, fun b o e => ?_⟩, Dn10 S10, upd_same, (Reps.pers P11 acc vs rp9).append (.one (Rep.pers P11 y v9 ry)), rfl, hlt, q10⟩
        · rw [upd_ne (ne_of_none e fD)]; exact (S46.trans S10).keep b o e t n
        · rw [upd_ne (ne_of_none e fD)]; exact (S46.trans S10).there b o e
    · have e : i = ts.length := by omega
      subst e
      rw [List.drop_length] at q4
      obtain ⟨g4, q4⟩ := q4
      have hdn := Tn.done X' hP hw hK hcm ts.length [] s4 σ4 H4 (fun _ _ => False) I4 (stat fr4) t4 (wk.stop H4 S4.pers ⟨ρ4, E4, g4⟩)
      rw [hA] at hdn
      refine thn hdn fun r s5 ⟨hr, I5⟩ => ?_
      subst hr
      obtain ⟨m5, hm5, _⟩ := id I5.loc
      have un : Un (frs X.stack) fp (upd H2 s2.heap.objs.size (.lst [])) H4 (s2.heap.push { cls := .type "list", dict := none, data := .seq ([] : List Value).toArray }) s5.heap := by
        have u0 := I5.base
        rw [hfs, hex, hH0, hs0] at u0
        exact u0
      have os5 : s5.os = s2.os := by have := I5.os; rw [hs0] at this; exact this
      have hok : HOk X.prog X.w H4 s5.heap := by
        have := I5.hok
        rw [hP, hw] at this
        exact this
      have I6 : Inv X pins σ H4 s5 := I3.call' (s' := s5) os5 un hok I5.bare fun b hb => ⟨(f2 b hb).2.2.2.1, (f2 b hb).2.1, (f2 b hb).2.2.2.2.1, (f2 b hb).2.2.2.2.2⟩
      refine hend s5 H4 ρ4 s2.heap.objs.size X'.env.locals acc m5 I6 hm5 (I3.fpOk (by rw [henv]; exact Nat.le_refl _) I5.free) E4 (S1.trans S4) ⟨_, vs, rfl, hD4, rp4, Dn, S1.fresh fD⟩ q4
  have fin := codeAny_compStart_list (loop _ start) (Tn.self X.A 0 _ _ _ st4 (loop _ start))
  rw [henv] at fin
  exact fin
theorem inv_sameBut {X : Cx} {pins : List (Addr × Obj)} {σ : L2.St} {H : Hp} {s : Shared} {C : Addr} {h' : Heap} (I : Inv X pins σ H s) (f : FpOk X pins H C) (hs : Heap.SameBut C s.heap h') : Inv X pins σ H { s with heap := h' } :=
  I.turned (t' := s.toks) (it := C) (fun b o hb e => (hs.2 b hb).trans e) f.1 f.2.1 f.2.2.2.1 f.2.2.2.2.1 f.2.2.2.2.2
theorem d_compG {X : Cx} {tg iter elt : Expr} {ifs : List Expr} {scope : Scope} {pos : Pos} {N : List Str} {mp : List (Option Nat)} {ti : WIG} {g : T → Ev → Option Ev} {tif : WT} {te : WE} (hx : ∀ v s, ¬ X.xe v s) (hc : X.calm = true) (B : Blk X scope N mp) (hi : DIG X tg iter ti)
    (hg : ∀ s₀ H₀ fp, DG (blkCx X scope N s₀ H₀ fp) (fxOf mp) tg g) (hif : ∀ s₀ H₀ fp, DIf (blkCx X scope N s₀ H₀ fp) ifs tif) (he : ∀ s₀ H₀ fp, DE (blkCx X scope N s₀ H₀ fp) elt te)
    (hs : ∀ x, foldedSetIterable iter X.env x = pure x := by intro _; rfl) : DE X (.ListComp elt [⟨tg, iter, ifs, 0⟩] scope pos) (wCompG mp ti g tif te) := by
  intro pins s σ H ρ Q I E q
  rw [eval_ListComp]
  refine comp_core hx hc B hi hg hif he hs I E q fun s5 H5 ρ5 D C acc m I5 n5 f5 E5 S5 p5 q5 => ?_
  exact ⟨m, n5, fun h' hs' => ⟨.ref D, H5, .own acc, ρ5, inv_sameBut I5 f5 hs', rfl, E5, S5, p5, q5⟩⟩
theorem d_comp {X : Cx} {tg iter elt : Expr} {ifs : List Expr} {scope : Scope} {pos : Pos} {N : List Str} {mp : List (Option Nat)} {ti : WI} {g : T → Ev → Option Ev} {tif : WT} {te : WE} (hx : ∀ v s, ¬ X.xe v s) (hc : X.calm = true) (B : Blk X scope N mp) (hi : DI X tg iter ti)
    (hg : ∀ s₀ H₀ fp, DG (blkCx X scope N s₀ H₀ fp) (fxOf mp) tg g) (hif : ∀ s₀ H₀ fp, DIf (blkCx X scope N s₀ H₀ fp) ifs tif) (he : ∀ s₀ H₀ fp, DE (blkCx X scope N s₀ H₀ fp) elt te)
    (hs : ∀ x, foldedSetIterable iter X.env x = pure x := by intro _; rfl) : DE X (.ListComp elt [⟨tg, iter, ifs, 0⟩] scope pos) (wComp mp ti g tif te) := by
  rw [wComp_g]
  exact d_compG hx hc B hi.g hg hif he hs
end FW
namespace FW
open PySem PySem.Spec PyProof.Rows L2
variable [Tabs]
section
variable {X : Cx} {K : W.Frag} {H H' : Hp}
@[simp] theorem now_non {v : V} : Now K H .non v ↔ v = .non := by show Rep K H .non v ↔ _; simp
@[simp] theorem now_bl {b : Bool} {v : V} : Now K H (.bl b) v ↔ v = .bl b := by show Rep K H (.bl b) v ↔ _; simp
@[simp] theorem now_int {i : Int} {v : V} : Now K H (.int i) v ↔ v = .int i := by show Rep K H (.int i) v ↔ _; simp
@[simp] theorem now_str {x : Str} {v : V} : Now K H (.str x) v ↔ v = .str x := by show Rep K H (.str x) v ↔ _; simp
theorem now_tup {ts : List T} {v : V} : Now K H (.tup ts) v ↔ ∃ a vs, v = .ref a ∧ SqT K H a vs ∧ Reps K H ts vs := rep_tup
theorem newR_val {t : T} {v : V} (h : Rep K H t v) : NewR K H H (.val t) v := ⟨.refl H, h⟩
theorem newR_own {xs : List T} {vs : List V} {p : Addr} (hp : H p = none) (h : Reps K H xs vs) : NewR K H (upd H p (.lst vs)) (.own xs) (.ref p) :=
  ⟨Ext.new hp _, p, vs, rfl, upd_same, Reps.pers (Ext.new hp _).pers xs vs h, hp⟩
theorem newR_tup {xs : List T} {vs : List V} {p : Addr} (hp : H p = none) (h : Reps K H xs vs) : NewR K H (upd H p (.tup vs)) (.val (.tup xs)) (.ref p) :=
  ⟨Ext.new hp _, by show Rep K _ (.tup xs) _; rw [rep_tup]; exact ⟨p, vs, rfl, .of upd_same, Reps.pers (Ext.new hp _).pers xs vs h⟩⟩
theorem cat_any (l : Addr) (us : Array Value) (n : Nat) (b : Addr) (ws : Array Value) (m : Nat) (sl sl' : Array (Option Value)) (z : us.size + ws.size ≤ sizeLine) :
    Meets (Builtin.«list.__add__» ⟨[.ref l, .ref b], []⟩) (fun _ R s => s.heap.get? l = some { cls := .type "list", dict := none, data := .seq us n, slots := sl } ∧
      s.heap.get? b = some { cls := .type "list", dict := none, data := .seq ws m, slots := sl' } ∧ R (.ok (.ret (Value.ref s.heap.objs.size))) { s with heap := s.heap.push { cls := Value.type "list", data := Data.seq (us ++ ws) }, toks := s.toks }) :=
  .of_wp fun prog w A R s h => by
    obtain ⟨hp, ge, dr, tk, so⟩ := s
    obtain ⟨hl, hb, h⟩ := h
    have k1 := AutoSeq1.idx_int
    have k2 := AutoSeq1.sub_tuple_tuple
    have k3 := AutoSeq1.sub_list_list
    have k4 := AutoSeq1.sub_tuple_list
    have k5 := AutoSeq1.sub_list_tuple
    wp_walk using AutoSeq1.wpAny_loadPart' hl, AutoSeq1.wpAny_loadPart' hb
    exact ⟨_, rfl, h⟩
theorem add_any {l b : Addr} {us ws : List Value} {n m : Nat} {sl sl' : Array (Option Value)} {s : Shared} {prog : Program} {w : World} {A : Around} {E : Value → Shared → Prop} {Q : Value → Shared → Prop}
    (hl : s.heap.get? l = some { cls := .type "list", dict := none, data := .seq us.toArray n, slots := sl }) (hb : s.heap.get? b = some { cls := .type "list", dict := none, data := .seq ws.toArray m, slots := sl' })
    (h : Q (.ref s.heap.objs.size) { s with heap := s.heap.push { cls := .type "list", data := .seq (us ++ ws).toArray } }) (hz : us.length + ws.length ≤ sizeLine) : wpAny (model prog w) A (binaryOp .Add (.ref l) (.ref b)) Q E s := by
  have z3 := hz
  refine concat_meets ⟨_, hl, rfl⟩ ⟨_, hb, rfl⟩ noFill_list_add seq_list_add F.slot_list_add F.entry_list_add (F.args_list_add_2 _ _) (cat_any l us.toArray n b ws.toArray m sl sl' (by simpa using hz)) ⟨hl, hb, ?_⟩
  have ea : us.toArray ++ ws.toArray = (us ++ ws).toArray := by simp
  rw [ea]
  exact h
def gAdd : T → T → Option R
  | .int i, .int j => some (.val (.int (i + j)))
  | .str x, .str y => if x.length + y.length ≤ sizeLine then some (.val (.str (x ++ y))) else none
  | .lst xs, .lst ys => if xs.length + ys.length ≤ sizeLine then some (.own (xs ++ ys)) else none
  | .tup xs, .tup ys => if xs.isEmpty = false ∧ xs.length + ys.length ≤ sizeLine then some (.val (.tup (xs ++ ys))) else none
  | _, _ => none
theorem o_add : OpT X (binaryOp .Add) gAdd := by
  intro pins s σ H x y u v t1 t2 r Q I rx ry n1 n2 e q
  unfold gAdd at e
  split at e
  · cases e
    rw [now_int] at n1 n2; subst n1; subst n2
    exact op_add pins s σ H _ _ u v Q I rx ry ⟨_, _, rfl, rfl, q _ _ (newR_val (by simp))⟩
  · rw [now_str] at n1 n2; subst n1; subst n2
    split at e
    · cases e
      exact op_add_str pins s σ H _ _ u v Q I rx ry ⟨_, _, rfl, rfl, by assumption, q _ _ (newR_val (by simp))⟩
    · cases e
  · rename_i xs ys
    split at e
    · rename_i hz
      cases e
      obtain ⟨a, vs, rfl, h1, h2⟩ := n1
      obtain ⟨b, ws, rfl, h3, h4⟩ := n2
      cases rx; cases ry
      obtain ⟨its, r1, ⟨⟨oc, od, odt, osl⟩, n, e1, c1, c2, c3⟩, z1⟩ := I.list h1
      obtain ⟨its2, r2, ⟨⟨oc', od', odt', osl'⟩, m, e2, c4, c5, c6⟩, z2⟩ := I.list h3
      simp only at c1 c2 c3 c4 c5 c6
      subst c1 c2 c3 c4 c5 c6
      have l1 := r1.length
      have l2 := r2.length
      have l3 := h2.length
      have l4 := h4.length
      refine add_any e1 e2 ⟨.ref _, _, I.lnew (t' := s.toks) (r1.append r2) (by rw [List.length_append]; omega), rfl, q _ _ (newR_own I.fresh (h2.append h4))⟩ (by omega)
    · cases e
  · rename_i xs ys
    split at e
    · rename_i hz
      cases e
      rw [now_tup] at n1 n2
      obtain ⟨a, vs, rfl, h1, h2⟩ := n1
      obtain ⟨b, ws, rfl, h3, h4⟩ := n2
      have l3 := h2.length
      have l4 := h4.length
      have hne : vs ≠ [] := fun z => by subst z; have := hz.1; cases xs with
        | nil => cases this
        | cons _ _ => simp at l3
      refine op_catT pins s σ H _ _ u v Q I rx ry ⟨a, b, vs, ws, rfl, rfl, h1, h3, hne, by omega, fun z => ?_, fun _ p hp => q _ _ (newR_tup hp (h2.append h4))⟩
      subst z
      have : ys = [] := by cases ys with
        | nil => rfl
        | cons _ _ => simp at l4
      subst this
      rw [List.append_nil] at q
      exact q _ _ (newR_val (by rw [rep_tup]; exact ⟨a, vs, rfl, h1, h2⟩))
    · cases e
  · cases e
def gInt (f : Int → Int → Option Int) : T → T → Option R
  | .int i, .int j => (f i j).map fun k => .val (.int k)
  | _, _ => none
theorem o_int {op : Value → Value → Sem Value} {C : Int → Int → Prop} {g : Int → Int → V} {f : Int → Int → Option Int} (ho : OpR X op (rI C g)) (h : ∀ i j k, f i j = some k → C i j ∧ g i j = .int k) : OpT X op (gInt f) := by
  intro pins s σ H x y u v t1 t2 r Q I rx ry n1 n2 e q
  unfold gInt at e
  split at e
  · rw [now_int] at n1 n2; subst n1; subst n2
    rw [Option.map_eq_some_iff] at e
    obtain ⟨k, e1, rfl⟩ := e
    obtain ⟨c, e2⟩ := h _ _ _ e1
    exact ho pins s σ H _ _ u v Q I rx ry ⟨_, _, rfl, rfl, c, by rw [e2]; exact q _ _ (newR_val (by simp))⟩
  · cases e
theorem rI_true {f : Value → Value → Sem Value} {g : Int → Int → V} (h : OpR X f (rI0 g)) : OpR X f (rI (fun _ _ => True) g) := fun pins s σ H x y u v Q I rx ry ⟨i, j, e1, e2, _, q⟩ => h pins s σ H x y u v Q I rx ry ⟨i, j, e1, e2, q⟩
def fSub (i j : Int) : Option Int := some (i - j)
def fMul (i j : Int) : Option Int := if (-(2 ^ 64) < i ∧ i < 2 ^ 64) ∨ (-(2 ^ 64) < j ∧ j < 2 ^ 64) then some (i * j) else none
def fMod (i j : Int) : Option Int := if 0 < j then some (i % j) else none
def fDiv (i j : Int) : Option Int := if 0 < j ∧ j < 1073741824 then some (i / j) else none
def fPow (i j : Int) : Option Int := if 0 ≤ j ∧ j ≤ 1000000 ∧ i.natAbs < 2 ^ 64 then some (i ^ j.toNat) else none
theorem o_sub : OpT X (binaryOp .Sub) (gInt fSub) := o_int (rI_true op_sub) fun i j k e => by cases e; exact ⟨trivial, rfl⟩
theorem o_mul : OpT X (binaryOp .Mult) (gInt fMul) := o_int op_mul fun i j k e => by
  unfold fMul at e; split at e
  · cases e; exact ⟨by assumption, rfl⟩
  · cases e
theorem o_mod : OpT X (binaryOp .Mod) (gInt fMod) := o_int op_mod fun i j k e => by
  unfold fMod at e; split at e
  · cases e; exact ⟨by assumption, rfl⟩
  · cases e
theorem o_div : OpT X (binaryOp .FloorDiv) (gInt fDiv) := o_int op_fdiv fun i j k e => by
  unfold fDiv at e; split at e
  · cases e; exact ⟨by assumption, rfl⟩
  · cases e
theorem o_pow : OpT X (binaryOp .Pow) (gInt fPow) := o_int op_pow fun i j k e => by
  unfold fPow at e; split at e
  · cases e; exact ⟨by assumption, rfl⟩
  · cases e
def gCmp (f : Int → Int → Bool) : T → T → Option R
  | .int i, .int j => some (.val (.bl (f i j)))
  | _, _ => none
theorem o_cmp {op : Value → Value → Sem Value} {f : Int → Int → Bool} (ho : OpR X op (rI0 fun i j => .bl (f i j))) : OpT X op (gCmp f) := by
  intro pins s σ H x y u v t1 t2 r Q I rx ry n1 n2 e q
  unfold gCmp at e
  split at e
  · rw [now_int] at n1 n2; subst n1; subst n2
    cases e
    exact ho pins s σ H _ _ u v Q I rx ry ⟨_, _, rfl, rfl, q _ _ (newR_val (by simp))⟩
  · cases e
def cLt (i j : Int) : Bool := decide (i < j)
def cLe (i j : Int) : Bool := decide (i ≤ j)
def cGt (i j : Int) : Bool := decide (j < i)
def cGe (i j : Int) : Bool := decide (j ≤ i)
theorem o_lt : OpT X (compareOp .Lt) (gCmp cLt) := o_cmp op_lt
theorem o_le : OpT X (compareOp .LtE) (gCmp cLe) := o_cmp op_le
theorem o_gt : OpT X (compareOp .Gt) (gCmp cGt) := o_cmp op_gt
theorem o_ge : OpT X (compareOp .GtE) (gCmp cGe) := o_cmp op_ge
def gIsN (neg : Bool) : T → T → Option R
  | t, .non => some (.val (.bl ((match t with | .non => true | _ => false) != neg)))
  | _, _ => none
def eqF : T → T → Bool
  | .non, .non => true
  | .bl a, .bl b => a == b
  | .bl a, .int b => (if a then 1 else 0) == b
  | .int a, .bl b => a == (if b then 1 else 0)
  | .int a, .int b => a == b
  | .str a, .str b => a == b
  | _, _ => false
mutual
def eqT : T → T → Bool
  | .tup xs, .tup ys => eqTs xs ys
  | .lst xs, .lst ys => eqTs xs ys
  | a, b => eqF a b
def eqTs : List T → List T → Bool
  | [], [] => true
  | x :: xs, y :: ys => eqT x y && eqTs xs ys
  | _, _ => false
end
/- no dict in it, at most so deep -/
mutual
def okT : Nat → T → Bool
  | _, .dct _ => false
  | 0, .tup _ => false
  | 0, .lst _ => false
  | n + 1, .tup xs => okTs n xs
  | n + 1, .lst xs => okTs n xs
  | _, _ => true
def okTs : Nat → List T → Bool
  | _, [] => true
  | n, x :: xs => okT n x && okTs n xs
end
section
variable {X : Cx} {pins : List (Addr × Obj)} {σ : L2.St} {H : Hp} {s : Shared}
theorem not_both {a : Addr} {vs ws : List V} (I : Inv X pins σ H s) (h1 : SqL X.K H a vs) (h2 : SqT X.K H a ws) : False := by
  obtain ⟨its, _, ⟨o, n, e, c, _, _⟩, _⟩ := I.list h1
  obtain ⟨its2, _, ⟨o2, e2, c2, _⟩, _⟩ := I.tuple h2
  rw [e] at e2; cases e2
  rw [c] at c2
  exact absurd c2 (by decide)
mutual
theorem same_eq (I : Inv X pins σ H s) : ∀ (n : Nat) (t t' : T) (v : V), okT n t = true → okT n t' = true → Now X.K H t v → Now X.K H t' v → eqT t t' = true
  | _, .dct _, _, _, h, _, _, _ => by simp [okT] at h
  | _, _, .dct _, _, _, h, _, _ => by simp [okT] at h
  | n, .non, t', v, _, _, h1, h2 => by
    rw [now_non] at h1; subst h1
    cases t' with
    | non => rfl
    | bl _ => rw [now_bl] at h2; cases h2
    | int _ => rw [now_int] at h2; cases h2
    | str _ => rw [now_str] at h2; cases h2
    | tup _ => rw [now_tup] at h2; obtain ⟨_, _, z, _⟩ := h2; cases z
    | lst _ => obtain ⟨_, _, z, _⟩ := h2; cases z
    | dct _ => simp [okT] at *
  | n, .bl b, t', v, _, _, h1, h2 => by
    rw [now_bl] at h1; subst h1
    cases t' with
    | non => rw [now_non] at h2; cases h2
    | bl _ => rw [now_bl] at h2; cases h2; simp [eqT, eqF]
    | int _ => rw [now_int] at h2; cases h2
    | str _ => rw [now_str] at h2; cases h2
    | tup _ => rw [now_tup] at h2; obtain ⟨_, _, z, _⟩ := h2; cases z
    | lst _ => obtain ⟨_, _, z, _⟩ := h2; cases z
    | dct _ => simp [okT] at *
  | n, .int i, t', v, _, _, h1, h2 => by
    rw [now_int] at h1; subst h1
    cases t' with
    | non => rw [now_non] at h2; cases h2
    | bl _ => rw [now_bl] at h2; cases h2
    | int _ => rw [now_int] at h2; cases h2; simp [eqT, eqF]
    | str _ => rw [now_str] at h2; cases h2
    | tup _ => rw [now_tup] at h2; obtain ⟨_, _, z, _⟩ := h2; cases z
    | lst _ => obtain ⟨_, _, z, _⟩ := h2; cases z
    | dct _ => simp [okT] at *
  | n, .str x, t', v, _, _, h1, h2 => by
    rw [now_str] at h1; subst h1
    cases t' with
    | non => rw [now_non] at h2; cases h2
    | bl _ => rw [now_bl] at h2; cases h2
    | int _ => rw [now_int] at h2; cases h2
    | str _ => rw [now_str] at h2; cases h2; simp [eqT, eqF]
    | tup _ => rw [now_tup] at h2; obtain ⟨_, _, z, _⟩ := h2; cases z
    | lst _ => obtain ⟨_, _, z, _⟩ := h2; cases z
    | dct _ => simp [okT] at *
  | 0, .tup _, _, _, h, _, _, _ => by simp [okT] at h
  | 0, .lst _, _, _, h, _, _, _ => by simp [okT] at h
  | n + 1, .tup xs, t', v, k1, k2, h1, h2 => by
    rw [now_tup] at h1
    obtain ⟨a, vs, rfl, q1, r1⟩ := h1
    cases t' with
    | non => rw [now_non] at h2; cases h2
    | bl _ => rw [now_bl] at h2; cases h2
    | int _ => rw [now_int] at h2; cases h2
    | str _ => rw [now_str] at h2; cases h2
    | tup ys =>
      rw [now_tup] at h2
      obtain ⟨b, ws, z, q2, r2⟩ := h2
      cases z
      have := I.tuple_inj q1 q2
      subst this
      unfold eqT
      exact same_eqs I n xs ys vs (by simpa [okT] using k1) (by simpa [okT] using k2) r1 r2
    | lst ys =>
      obtain ⟨b, ws, z, q2, r2⟩ := h2
      cases z
      exact (not_both I q2 q1).elim
    | dct _ => simp [okT] at *
  | n + 1, .lst xs, t', v, k1, k2, h1, h2 => by
    obtain ⟨a, vs, rfl, q1, r1⟩ := h1
    cases t' with
    | non => rw [now_non] at h2; cases h2
    | bl _ => rw [now_bl] at h2; cases h2
    | int _ => rw [now_int] at h2; cases h2
    | str _ => rw [now_str] at h2; cases h2
    | lst ys =>
      obtain ⟨b, ws, z, q2, r2⟩ := h2
      cases z
      have := I.list_inj q1 q2
      subst this
      unfold eqT
      exact same_eqs I n xs ys vs (by simpa [okT] using k1) (by simpa [okT] using k2) r1 r2
    | tup ys =>
      rw [now_tup] at h2
      obtain ⟨b, ws, z, q2, r2⟩ := h2
      cases z
      exact (not_both I q1 q2).elim
    | dct _ => simp [okT] at *
theorem same_eqs (I : Inv X pins σ H s) : ∀ (n : Nat) (ts ts' : List T) (vs : List V), okTs n ts = true → okTs n ts' = true → Reps X.K H ts vs → Reps X.K H ts' vs → eqTs ts ts' = true
  | _, [], [], _, _, _, _, _ => by simp [eqTs]
  | _, [], _ :: _, _, _, _, h1, h2 => by
    rw [reps_nil] at h1; subst h1
    rw [reps_cons] at h2; obtain ⟨_, _, z, _⟩ := h2; cases z
  | _, _ :: _, [], _, _, _, h1, h2 => by
    rw [reps_nil] at h2; subst h2
    rw [reps_cons] at h1; obtain ⟨_, _, z, _⟩ := h1; cases z
  | n, t :: ts, t' :: ts', _, k1, k2, h1, h2 => by
    rw [reps_cons] at h1 h2
    obtain ⟨v, r, rfl, p1, p2⟩ := h1
    obtain ⟨v', r', z, p3, p4⟩ := h2
    cases z
    simp only [okTs, Bool.and_eq_true] at k1 k2
    unfold eqTs
    rw [same_eq I n t t' v k1.1 k2.1 p1.now p3.now, same_eqs I n ts ts' r k1.2 k2.2 p2 p4]
    rfl
end
end
end
end FW
namespace FW
open PySem PySem.Spec PyProof.Rows L2
variable [Tabs]
open PySem.SeqAt
section
variable {X : Cx} {pins : List (Addr × Obj)} {σ : L2.St} {H : Hp} {s : Shared}
theorem flat_eq {t1 t2 : T} {x y : V} {u v : Value} {A : Around} (n1 : Now X.K H t1 x) (n2 : Now X.K H t2 y) (rx : RelV x u) (ry : RelV y v) (f1 : flatV x = true) (f2 : flatV y = true) : EqAt A s u v (eqF t1 t2) ∧ (eqT t1 t2 = eqF t1 t2) := by
  have sc : ∀ {t : T} {x : V}, Now X.K H t x → flatV x = true → (t = .non ∧ x = .non) ∨ (∃ b, t = .bl b ∧ x = .bl b) ∨ (∃ i, t = .int i ∧ x = .int i) ∨ ∃ z, t = .str z ∧ x = .str z := fun {t x} n f => by
    cases t with
    | non => rw [now_non] at n; exact .inl ⟨rfl, n⟩
    | bl b => rw [now_bl] at n; exact .inr (.inl ⟨b, rfl, n⟩)
    | int i => rw [now_int] at n; exact .inr (.inr (.inl ⟨i, rfl, n⟩))
    | str z => rw [now_str] at n; exact .inr (.inr (.inr ⟨z, rfl, n⟩))
    | tup _ => rw [now_tup] at n; obtain ⟨_, _, z, _⟩ := n; subst z; cases f
    | lst _ => obtain ⟨_, _, z, _⟩ := n; subst z; cases f
    | dct _ =>
      have n' : Rep X.K H (.dct _) x := n
      unfold Rep at n'
      obtain ⟨_, _, z, _⟩ := n'; subst z; cases f
  have e := eqAt_V (A := A) (s := s) rx ry f1 f2
  have k : eqV x y = eqF t1 t2 ∧ eqT t1 t2 = eqF t1 t2 := by
    rcases sc n1 f1 with ⟨rfl, rfl⟩ | ⟨b, rfl, rfl⟩ | ⟨i, rfl, rfl⟩ | ⟨z, rfl, rfl⟩ <;> rcases sc n2 f2 with ⟨rfl, rfl⟩ | ⟨b', rfl, rfl⟩ | ⟨i', rfl, rfl⟩ | ⟨z', rfl, rfl⟩ <;> exact ⟨rfl, by simp [eqT, eqF]⟩
  rw [k.1] at e
  exact ⟨e, k.2⟩
theorem eqT_tup (xs ys : List T) : eqT (.tup xs) (.tup ys) = eqTs xs ys := by conv => lhs; unfold eqT
theorem eqT_lst (xs ys : List T) : eqT (.lst xs) (.lst ys) = eqTs xs ys := by conv => lhs; unfold eqT
def eqJ (xs ys : List T) (j : Nat) : Bool := match xs[j]?, ys[j]? with
  | some a, some b => eqT a b
  | _, _ => true
theorem eqTs_range : ∀ (xs ys : List T), xs.length = ys.length → eqTs xs ys = (List.range xs.length).all (eqJ xs ys)
  | [], [], _ => by simp [eqTs]
  | [], _ :: _, h => by simp at h
  | _ :: _, [], h => by simp at h
  | x :: xs, y :: ys, h => by
    unfold eqTs
    rw [eqTs_range xs ys (by simpa using h), List.length_cons, List.range_succ_eq_map, List.all_cons, List.all_map]
    rfl
theorem eqTs_len : ∀ (xs ys : List T), xs.length ≠ ys.length → eqTs xs ys = false
  | [], [], h => absurd rfl h
  | [], _ :: _, _ => by simp [eqTs]
  | _ :: _, [], _ => by simp [eqTs]
  | x :: xs, y :: ys, h => by
    unfold eqTs
    rw [eqTs_len xs ys (by simpa using h), Bool.and_false]
theorem okTs_get : ∀ {n : Nat} {ts : List T} {j : Nat} {t : T}, okTs n ts = true → ts[j]? = some t → okT n t = true
  | _, [], _, _, _, h => by simp at h
  | n, t :: ts, 0, _, k, h => by simp at h; subst h; simp only [okTs, Bool.and_eq_true] at k; exact k.1
  | n, t :: ts, j + 1, _, k, h => by simp only [okTs, Bool.and_eq_true] at k; exact okTs_get k.2 (by simpa using h)
inductive Sh (I : Inv X pins σ H s) : T → Value → Prop where
  | fl {t : T} {x : V} {u : Value} (n : Now X.K H t x) (r : RelV x u) (f : flatV x = true) : Sh I t u
  | tp {ts : List T} {a : Addr} {vs : List V} (q : SqT X.K H a vs) (r : Reps X.K H ts vs) : Sh I (.tup ts) (.ref a)
  | ls {ts : List T} {a : Addr} {vs : List V} (q : SqL X.K H a vs) (r : Reps X.K H ts vs) : Sh I (.lst ts) (.ref a)
theorem Sh.of (I : Inv X pins σ H s) {n : Nat} {t : T} {x : V} {u : Value} (k : okT n t = true) (h : Now X.K H t x) (r : RelV x u) : Sh I t u := by
  cases t with
  | non => rw [now_non] at h; subst h; exact .fl (x := .non) (by simp) r rfl
  | bl b => rw [now_bl] at h; subst h; exact .fl (x := .bl b) (by simp) r rfl
  | int i => rw [now_int] at h; subst h; exact .fl (x := .int i) (by simp) r rfl
  | str z => rw [now_str] at h; subst h; exact .fl (x := .str z) (by simp) r rfl
  | tup ts => rw [now_tup] at h; obtain ⟨a, vs, rfl, h1, h2⟩ := h; cases r; exact .tp h1 h2
  | lst ts => obtain ⟨a, vs, rfl, h1, h2⟩ := h; cases r; exact .ls h1 h2
  | dct _ => simp [okT] at k
theorem flat_tup {t : T} {x : V} {u : Value} {a : Addr} {ts : List T} {vs : List V} {A : Around} (I : Inv X pins σ H s) (hu : A.units < cLine) (n : Now X.K H t x) (r : RelV x u) (f : flatV x = true) (q : SqT X.K H a vs) :
    (EqAt A s u (.ref a) false ∧ RcAt A s u (.ref a) false) ∧ (EqAt A s (.ref a) u false ∧ RcAt A s (.ref a) u false) ∧ eqT t (.tup ts) = false ∧ eqT (.tup ts) t = false := by
  obtain ⟨its, _, p, _⟩ := I.tuple q
  have p' : s.heap.IsTuple a its.toArray := p
  cases x with
  | non =>
    cases r
    cases t with
    | non => exact ⟨⟨.none_tuple p' hu, .none_tuple p' hu⟩, ⟨.tuple_none p' hu, .tuple_none p' hu⟩, by simp [eqT, eqF], by simp [eqT, eqF]⟩
    | _ => first | (rw [now_bl] at n; cases n) | (rw [now_int] at n; cases n) | (rw [now_str] at n; cases n) | (rw [now_tup] at n; obtain ⟨_, _, z, _⟩ := n; cases z) | (obtain ⟨_, _, z, _⟩ := n; cases z) | (have n' : Rep X.K H (.dct _) _ := n; unfold Rep at n'; obtain ⟨_, _, z, _⟩ := n'; cases z)
  | bl b =>
    cases r
    cases t with
    | bl _ => exact ⟨⟨.bool_tuple b p' hu, .bool_tuple b p' hu⟩, ⟨.tuple_bool b p' hu, .tuple_bool b p' hu⟩, by simp [eqT, eqF], by simp [eqT, eqF]⟩
    | _ => first | (rw [now_non] at n; cases n) | (rw [now_int] at n; cases n) | (rw [now_str] at n; cases n) | (rw [now_tup] at n; obtain ⟨_, _, z, _⟩ := n; cases z) | (obtain ⟨_, _, z, _⟩ := n; cases z) | (have n' : Rep X.K H (.dct _) _ := n; unfold Rep at n'; obtain ⟨_, _, z, _⟩ := n'; cases z)
  | int i =>
    obtain ⟨tk, rfl⟩ := r
    cases t with
    | int _ => exact ⟨⟨.int_tuple i tk p' hu, .int_tuple i tk p' hu⟩, ⟨.tuple_int i tk p' hu, .tuple_int i tk p' hu⟩, by simp [eqT, eqF], by simp [eqT, eqF]⟩
    | _ => first | (rw [now_non] at n; cases n) | (rw [now_bl] at n; cases n) | (rw [now_str] at n; cases n) | (rw [now_tup] at n; obtain ⟨_, _, z, _⟩ := n; cases z) | (obtain ⟨_, _, z, _⟩ := n; cases z) | (have n' : Rep X.K H (.dct _) _ := n; unfold Rep at n'; obtain ⟨_, _, z, _⟩ := n'; cases z)
  | str z =>
    obtain ⟨tk, rfl⟩ := r
    cases t with
    | str _ => exact ⟨⟨.str_tuple z tk p' hu, .str_tuple z tk p' hu⟩, ⟨.tuple_str z tk p' hu, .tuple_str z tk p' hu⟩, by simp [eqT, eqF], by simp [eqT, eqF]⟩
    | _ => first | (rw [now_non] at n; cases n) | (rw [now_bl] at n; cases n) | (rw [now_int] at n; cases n) | (rw [now_tup] at n; obtain ⟨_, _, z, _⟩ := n; cases z) | (obtain ⟨_, _, z, _⟩ := n; cases z) | (have n' : Rep X.K H (.dct _) _ := n; unfold Rep at n'; obtain ⟨_, _, z, _⟩ := n'; cases z)
  | _ => cases f
theorem flat_lst {t : T} {x : V} {u : Value} {a : Addr} {ts : List T} {vs : List V} {A : Around} (I : Inv X pins σ H s) (hu : A.units < cLine) (n : Now X.K H t x) (r : RelV x u) (f : flatV x = true) (q : SqL X.K H a vs) :
    (EqAt A s u (.ref a) false ∧ RcAt A s u (.ref a) false) ∧ (EqAt A s (.ref a) u false ∧ RcAt A s (.ref a) u false) ∧ eqT t (.lst ts) = false ∧ eqT (.lst ts) t = false := by
  obtain ⟨its, _, p, _⟩ := I.list q
  have p' := p.isList
  cases x with
  | non =>
    cases r
    cases t with
    | non => exact ⟨⟨.none_list p' hu, .none_list p' hu⟩, ⟨.list_none p' hu, .list_none p' hu⟩, by simp [eqT, eqF], by simp [eqT, eqF]⟩
    | _ => first | (rw [now_bl] at n; cases n) | (rw [now_int] at n; cases n) | (rw [now_str] at n; cases n) | (rw [now_tup] at n; obtain ⟨_, _, z, _⟩ := n; cases z) | (obtain ⟨_, _, z, _⟩ := n; cases z) | (have n' : Rep X.K H (.dct _) _ := n; unfold Rep at n'; obtain ⟨_, _, z, _⟩ := n'; cases z)
  | bl b =>
    cases r
    cases t with
    | bl _ => exact ⟨⟨.bool_list b p' hu, .bool_list b p' hu⟩, ⟨.list_bool b p' hu, .list_bool b p' hu⟩, by simp [eqT, eqF], by simp [eqT, eqF]⟩
    | _ => first | (rw [now_non] at n; cases n) | (rw [now_int] at n; cases n) | (rw [now_str] at n; cases n) | (rw [now_tup] at n; obtain ⟨_, _, z, _⟩ := n; cases z) | (obtain ⟨_, _, z, _⟩ := n; cases z) | (have n' : Rep X.K H (.dct _) _ := n; unfold Rep at n'; obtain ⟨_, _, z, _⟩ := n'; cases z)
  | int i =>
    obtain ⟨tk, rfl⟩ := r
    cases t with
    | int _ => exact ⟨⟨.int_list i tk p' hu, .int_list i tk p' hu⟩, ⟨.list_int i tk p' hu, .list_int i tk p' hu⟩, by simp [eqT, eqF], by simp [eqT, eqF]⟩
    | _ => first | (rw [now_non] at n; cases n) | (rw [now_bl] at n; cases n) | (rw [now_str] at n; cases n) | (rw [now_tup] at n; obtain ⟨_, _, z, _⟩ := n; cases z) | (obtain ⟨_, _, z, _⟩ := n; cases z) | (have n' : Rep X.K H (.dct _) _ := n; unfold Rep at n'; obtain ⟨_, _, z, _⟩ := n'; cases z)
  | str z =>
    obtain ⟨tk, rfl⟩ := r
    cases t with
    | str _ => exact ⟨⟨.str_list z tk p' hu, .str_list z tk p' hu⟩, ⟨.list_str z tk p' hu, .list_str z tk p' hu⟩, by simp [eqT, eqF], by simp [eqT, eqF]⟩
    | _ => first | (rw [now_non] at n; cases n) | (rw [now_bl] at n; cases n) | (rw [now_int] at n; cases n) | (rw [now_tup] at n; obtain ⟨_, _, z, _⟩ := n; cases z) | (obtain ⟨_, _, z, _⟩ := n; cases z) | (have n' : Rep X.K H (.dct _) _ := n; unfold Rep at n'; obtain ⟨_, _, z, _⟩ := n'; cases z)
  | _ => cases f
theorem vals_item {vs : List V} {its : List Value} (r : Vals vs its) {j : Nat} (h : j < its.length) : ∃ x, vs[j]? = some x ∧ RelV x its[j] := by
  have hl := r.length
  obtain ⟨u, hu, ru⟩ := r.get (List.getElem?_eq_getElem (by omega : j < vs.length))
  rw [List.getElem?_eq_getElem h] at hu
  cases hu
  exact ⟨_, List.getElem?_eq_getElem _, ru⟩
theorem rcAt_T (I : Inv X pins σ H s) : ∀ (n : Nat) (t1 t2 : T) (u v : Value) (A : Around), okT n t1 = true → okT n t2 = true → A.units + n < cLine → Sh I t1 u → Sh I t2 v →
    EqAt A s u v (eqT t1 t2) ∧ (∀ a b, u = .ref a → v = .ref b → RcAt A s u v (eqT t1 t2))
  | 0, t1, t2, u, v, A, k1, k2, hA, h1, h2 => by
    cases h1 with
    | fl n1 r1 f1 =>
      cases h2 with
      | fl n2 r2 f2 =>
        obtain ⟨e, e'⟩ := flat_eq (A := A) (s := s) n1 n2 r1 r2 f1 f2
        exact ⟨by rw [e']; exact e, fun a b z _ => by subst z; exact absurd f1 (by have := RelV.abs r1; simp [absV] at this; subst this; simp [flatV])⟩
      | tp _ _ => simp [okT] at k2
      | ls _ _ => simp [okT] at k2
    | tp _ _ => simp [okT] at k1
    | ls _ _ => simp [okT] at k1
  | n + 1, t1, t2, u, v, A, k1, k2, hA, h1, h2 => by
    have hu : A.units < cLine := by omega
    have noref : ∀ {x : V} {a : Addr}, RelV x (.ref a) → flatV x = true → False := fun r f => by have := RelV.abs r; simp [absV] at this; subst this; simp [flatV] at f
    have items : ∀ {xs ys : List T} {vs ws : List V} {us us' : List Value}, okTs n xs = true → okTs n ys = true → Reps X.K H xs vs → Reps X.K H ys ws → Vals vs us → Vals ws us' →
        ∀ j (h1 : j < us.toArray.size) (h2 : j < us'.toArray.size), EqAt A.in1 s us.toArray[j] us'.toArray[j] (eqJ xs ys j) := fun {xs ys vs ws us us'} ko1 ko2 r1 r2 v1 v2 j g1 g2 => by
      obtain ⟨x, ex, rx⟩ := vals_item v1 (j := j) (by simpa using g1)
      obtain ⟨y, ey, ry⟩ := vals_item v2 (j := j) (by simpa using g2)
      obtain ⟨a, ea, ra⟩ := r1.getV ex
      obtain ⟨b, eb, rb⟩ := r2.getV ey
      rw [show eqJ xs ys j = eqT a b by unfold eqJ; rw [ea, eb]]
      exact (rcAt_T I n a b _ _ A.in1 (okTs_get ko1 ea) (okTs_get ko2 eb) (by show A.units + 1 + n < cLine; omega) (Sh.of I (okTs_get ko1 ea) ra.now rx) (Sh.of I (okTs_get ko2 eb) rb.now ry)).1
    cases h1 with
    | fl n1 r1 f1 =>
      cases h2 with
      | fl n2 r2 f2 =>
        obtain ⟨e, e'⟩ := flat_eq (A := A) (s := s) n1 n2 r1 r2 f1 f2
        exact ⟨by rw [e']; exact e, fun a b z _ => by subst z; exact (noref r1 f1).elim⟩
      | @tp ts a vs q r =>
        obtain ⟨⟨e1, _⟩, _, e3, _⟩ := flat_tup (ts := ts) I hu n1 r1 f1 q
        exact ⟨by rw [e3]; exact e1, fun a b z _ => by subst z; exact (noref r1 f1).elim⟩
      | @ls ts a vs q r =>
        obtain ⟨⟨e1, _⟩, _, e3, _⟩ := flat_lst (ts := ts) I hu n1 r1 f1 q
        exact ⟨by rw [e3]; exact e1, fun a b z _ => by subst z; exact (noref r1 f1).elim⟩
    | @tp ts a vs q r =>
      cases h2 with
      | fl n2 r2 f2 =>
        obtain ⟨_, ⟨e1, _⟩, _, e3⟩ := flat_tup (ts := ts) I hu n2 r2 f2 q
        exact ⟨by rw [e3]; exact e1, fun a b _ z => by subst z; exact (noref r2 f2).elim⟩
      | @tp ts' b ws q' r' =>
        obtain ⟨its, v1, p1, _⟩ := I.tuple q
        obtain ⟨its', v2, p2, _⟩ := I.tuple q'
        have ko1 : okTs n ts = true := by simpa [okT] using k1
        have ko2 : okTs n ts' = true := by simpa [okT] using k2
        have l1 := v1.length
        have l2 := v2.length
        have l3 := r.length
        have l4 := r'.length
        have rc : RcAt A s (.ref a) (.ref b) (eqT (.tup ts) (.tup ts')) := by
          have z := RcAt.tuples (s := s) (A := A) (show s.heap.IsTuple a its.toArray from p1) (show s.heap.IsTuple b its'.toArray from p2) hu (items ko1 ko2 r r' v1 v2)
          by_cases hl : ts.length = ts'.length
          · have e : eqT (.tup ts) (.tup ts') = ((List.range (min its.toArray.size its'.toArray.size)).all (eqJ ts ts') && its.toArray.size == its'.toArray.size) := by
              rw [eqT_tup, eqTs_range ts ts' hl, List.size_toArray, List.size_toArray, show min its.length its'.length = ts.length by omega, show its.length = its'.length by omega, beq_self_eq_true, Bool.and_true]
            rw [e]; exact z
          · have e : eqT (.tup ts) (.tup ts') = ((List.range (min its.toArray.size its'.toArray.size)).all (eqJ ts ts') && its.toArray.size == its'.toArray.size) := by
              rw [eqT_tup, eqTs_len ts ts' hl, show (its.toArray.size == its'.toArray.size) = false by simp; omega, Bool.and_false]
            rw [e]; exact z
        refine ⟨?_, fun _ _ _ _ => rc⟩
        by_cases hab : a = b
        · subst hab
          have := I.tuple_inj q q'
          subst this
          have e : eqT (.tup ts) (.tup ts') = true := by unfold eqT; exact same_eqs I n ts ts' vs ko1 ko2 r r'
          rw [e]; exact EqAt.same _
        · exact EqAt.of_refs hab rc
      | @ls ts' b ws q' r' =>
        obtain ⟨its, v1, p1, _⟩ := I.tuple q
        obtain ⟨its', v2, p2, _⟩ := I.list q'
        have e : eqT (.tup ts) (.lst ts') = false := by simp [eqT, eqF]
        rw [e]
        exact ⟨EqAt.tuple_list (show s.heap.IsTuple a its.toArray from p1) p2.isList hu, fun _ _ _ _ => RcAt.tuple_list (show s.heap.IsTuple a its.toArray from p1) p2.isList hu⟩
    | @ls ts a vs q r =>
      cases h2 with
      | fl n2 r2 f2 =>
        obtain ⟨_, ⟨e1, _⟩, _, e3⟩ := flat_lst (ts := ts) I hu n2 r2 f2 q
        exact ⟨by rw [e3]; exact e1, fun a b _ z => by subst z; exact (noref r2 f2).elim⟩
      | @tp ts' b ws q' r' =>
        obtain ⟨its, v1, p1, _⟩ := I.list q
        obtain ⟨its', v2, p2, _⟩ := I.tuple q'
        have e : eqT (.lst ts) (.tup ts') = false := by simp [eqT, eqF]
        rw [e]
        exact ⟨EqAt.list_tuple p1.isList (show s.heap.IsTuple b its'.toArray from p2) hu, fun _ _ _ _ => RcAt.list_tuple p1.isList (show s.heap.IsTuple b its'.toArray from p2) hu⟩
      | @ls ts' b ws q' r' =>
        obtain ⟨its, v1, p1, _⟩ := I.list q
        obtain ⟨its', v2, p2, _⟩ := I.list q'
        have ko1 : okTs n ts = true := by simpa [okT] using k1
        have ko2 : okTs n ts' = true := by simpa [okT] using k2
        have l1 := v1.length
        have l2 := v2.length
        have l3 := r.length
        have l4 := r'.length
        have rc : RcAt A s (.ref a) (.ref b) (eqT (.lst ts) (.lst ts')) := by
          by_cases hl : ts.length = ts'.length
          · have z := RcAt.lists (s := s) (A := A) p1.isList p2.isList (by simp; omega) hu (items ko1 ko2 r r' v1 v2)
            have e : eqT (.lst ts) (.lst ts') = (List.range its.toArray.size).all (eqJ ts ts') := by
              rw [eqT_lst, eqTs_range ts ts' hl, List.size_toArray, show its.length = ts.length by omega]
            rw [e]; exact z
          · have z := RcAt.lists_lengths (s := s) (A := A) p1.isList p2.isList (by simp; omega) hu
            have e : eqT (.lst ts) (.lst ts') = false := by unfold eqT; exact eqTs_len ts ts' hl
            rw [e]; exact z
        refine ⟨?_, fun _ _ _ _ => rc⟩
        by_cases hab : a = b
        · subst hab
          have := I.list_inj q q'
          subst this
          have e : eqT (.lst ts) (.lst ts') = true := by unfold eqT; exact same_eqs I n ts ts' vs ko1 ko2 r r'
          rw [e]; exact EqAt.same _
        · exact EqAt.of_refs hab rc
def gEq (neg : Bool) (t1 t2 : T) : Option R := if okT 100 t1 && okT 100 t2 then some (.val (.bl (eqT t1 t2 != neg))) else none
end
end FW
namespace FW
open PySem PySem.Spec PyProof.Rows L2
variable [Tabs]
open PySem.SeqAt
theorem flat_rc {A : Around} {s : Shared} {x y : V} {u v : Value} (rx : RelV x u) (ry : RelV y v) (f1 : flatV x = true) (f2 : flatV y = true) : RcAt A s u v (eqV x y) := by
  cases x with
  | non =>
    cases rx
    cases y with
    | non => cases ry; exact RcAt.none_none
    | bl b => cases ry; exact RcAt.none_bool b
    | int b => obtain ⟨t', rfl⟩ := ry; exact RcAt.none_int b t'
    | str b => obtain ⟨t', rfl⟩ := ry; exact RcAt.none_str b t'
    | _ => exact absurd (show false = true from f2) Bool.false_ne_true
  | bl a =>
    cases rx
    cases y with
    | non => cases ry; exact RcAt.bool_none a
    | bl b => cases ry; exact RcAt.bool_bool a b
    | int b => obtain ⟨t', rfl⟩ := ry; exact RcAt.bool_int a b t'
    | str b => obtain ⟨t', rfl⟩ := ry; exact RcAt.bool_str a b t'
    | _ => exact absurd (show false = true from f2) Bool.false_ne_true
  | int a =>
    obtain ⟨t, rfl⟩ := rx
    cases y with
    | non => cases ry; exact RcAt.int_none a t
    | bl b => cases ry; exact RcAt.int_bool a t b
    | int b => obtain ⟨t', rfl⟩ := ry; exact RcAt.int_int a t b t'
    | str b => obtain ⟨t', rfl⟩ := ry; exact RcAt.int_str a t b t'
    | _ => exact absurd (show false = true from f2) Bool.false_ne_true
  | str a =>
    obtain ⟨t, rfl⟩ := rx
    cases y with
    | non => cases ry; exact RcAt.str_none a t
    | bl b => cases ry; exact RcAt.str_bool a t b
    | int b => obtain ⟨t', rfl⟩ := ry; exact RcAt.str_int a t b t'
    | str b => obtain ⟨t', rfl⟩ := ry; exact RcAt.str_str a t b t'
    | _ => exact absurd (show false = true from f2) Bool.false_ne_true
  | _ => exact absurd (show false = true from f1) Bool.false_ne_true
theorem flat_ne {A : Around} {s : Shared} {x y : V} {u v : Value} (rx : RelV x u) (ry : RelV y v) (f1 : flatV x = true) (f2 : flatV y = true) : RcNeAt A s u v (!eqV x y) := by
  cases x with
  | non =>
    cases rx
    cases y with
    | non => cases ry; exact RcNeAt.none_none
    | bl b => cases ry; exact RcNeAt.none_bool b
    | int b => obtain ⟨t', rfl⟩ := ry; exact RcNeAt.none_int b t'
    | str b => obtain ⟨t', rfl⟩ := ry; exact RcNeAt.none_str b t'
    | _ => exact absurd (show false = true from f2) Bool.false_ne_true
  | bl a =>
    cases rx
    cases y with
    | non => cases ry; exact RcNeAt.bool_none a
    | bl b => cases ry; exact RcNeAt.bool_bool a b
    | int b => obtain ⟨t', rfl⟩ := ry; exact RcNeAt.bool_int a b t'
    | str b => obtain ⟨t', rfl⟩ := ry; exact RcNeAt.bool_str a b t'
    | _ => exact absurd (show false = true from f2) Bool.false_ne_true
  | int a =>
    obtain ⟨t, rfl⟩ := rx
    cases y with
    | non => cases ry; exact RcNeAt.int_none a t
    | bl b => cases ry; exact RcNeAt.int_bool a t b
    | int b => obtain ⟨t', rfl⟩ := ry; exact RcNeAt.int_int a t b t'
    | str b => obtain ⟨t', rfl⟩ := ry; exact RcNeAt.int_str a t b t'
    | _ => exact absurd (show false = true from f2) Bool.false_ne_true
  | str a =>
    obtain ⟨t, rfl⟩ := rx
    cases y with
    | non => cases ry; exact RcNeAt.str_none a t
    | bl b => cases ry; exact RcNeAt.str_bool a t b
    | int b => obtain ⟨t', rfl⟩ := ry; exact RcNeAt.str_int a t b t'
    | str b => obtain ⟨t', rfl⟩ := ry; exact RcNeAt.str_str a t b t'
    | _ => exact absurd (show false = true from f2) Bool.false_ne_true
  | _ => exact absurd (show false = true from f1) Bool.false_ne_true
theorem flat_T {X : Cx} {pins : List (Addr × Obj)} {σ : L2.St} {H : Hp} {s : Shared} {t1 t2 : T} {x y : V} {u v : Value} (n1 : Now X.K H t1 x) (n2 : Now X.K H t2 y) (rx : RelV x u) (ry : RelV y v) (f1 : flatV x = true) (f2 : flatV y = true) : eqT t1 t2 = eqV x y := by
  have sc : ∀ {t : T} {x : V}, Now X.K H t x → flatV x = true → (t = .non ∧ x = .non) ∨ (∃ b, t = .bl b ∧ x = .bl b) ∨ (∃ i, t = .int i ∧ x = .int i) ∨ ∃ z, t = .str z ∧ x = .str z := fun {t x} n f => by
    cases t with
    | non => rw [now_non] at n; exact .inl ⟨rfl, n⟩
    | bl b => rw [now_bl] at n; exact .inr (.inl ⟨b, rfl, n⟩)
    | int i => rw [now_int] at n; exact .inr (.inr (.inl ⟨i, rfl, n⟩))
    | str z => rw [now_str] at n; exact .inr (.inr (.inr ⟨z, rfl, n⟩))
    | tup _ => rw [now_tup] at n; obtain ⟨_, _, z, _⟩ := n; subst z; cases f
    | lst _ => obtain ⟨_, _, z, _⟩ := n; subst z; cases f
    | dct _ =>
      have n' : Rep X.K H (.dct _) x := n
      unfold Rep at n'
      obtain ⟨_, _, z, _⟩ := n'; subst z; cases f
  rcases sc n1 f1 with ⟨rfl, rfl⟩ | ⟨b, rfl, rfl⟩ | ⟨i, rfl, rfl⟩ | ⟨z, rfl, rfl⟩ <;> rcases sc n2 f2 with ⟨rfl, rfl⟩ | ⟨b', rfl, rfl⟩ | ⟨i', rfl, rfl⟩ | ⟨z', rfl, rfl⟩ <;> simp [eqT, eqF, eqV]
theorem ne_seq {X : Cx} {pins : List (Addr × Obj)} {σ : L2.St} {H : Hp} {s : Shared} (I : Inv X pins σ H s) {t1 t2 : T} {u v : Value} {A : Around} {n : Nat} (k1 : okT (n + 1) t1 = true) (k2 : okT (n + 1) t2 = true) (hA : A.units + (n + 1) < cLine) (h1 : Sh I t1 u) (h2 : Sh I t2 v) {x y : V} (rx : RelV x u) (ry : RelV y v) :
    RcNeAt A s u v (!eqT t1 t2) := by
  have hu : A.units < cLine := by omega
  have items : ∀ {xs ys : List T} {vs ws : List V} {us us' : List Value}, okTs n xs = true → okTs n ys = true → Reps X.K H xs vs → Reps X.K H ys ws → Vals vs us → Vals ws us' →
      ∀ j (h1 : j < us.toArray.size) (h2 : j < us'.toArray.size), EqAt A.in1 s us.toArray[j] us'.toArray[j] (eqJ xs ys j) := fun {xs ys vs ws us us'} ko1 ko2 r1 r2 v1 v2 j g1 g2 => by
    obtain ⟨x, ex, rx⟩ := vals_item v1 (j := j) (by simpa using g1)
    obtain ⟨y, ey, ry⟩ := vals_item v2 (j := j) (by simpa using g2)
    obtain ⟨a, ea, ra⟩ := r1.getV ex
    obtain ⟨b, eb, rb⟩ := r2.getV ey
    rw [show eqJ xs ys j = eqT a b by unfold eqJ; rw [ea, eb]]
    exact (rcAt_T I n a b _ _ A.in1 (okTs_get ko1 ea) (okTs_get ko2 eb) (by show A.units + 1 + n < cLine; omega) (Sh.of I (okTs_get ko1 ea) ra.now rx) (Sh.of I (okTs_get ko2 eb) rb.now ry)).1
  cases h1 with
  | fl n1 r1 f1 =>
    have := rx.inj r1; subst this
    cases h2 with
    | fl n2 r2 f2 =>
      have := ry.inj r2; subst this
      rw [flat_T (pins := pins) (σ := σ) (s := s) n1 n2 rx ry f1 f2]
      exact flat_ne rx ry f1 f2
    | @tp ts a vs q r =>
      obtain ⟨its, _, p, _⟩ := I.tuple q
      have p' : s.heap.IsTuple a its.toArray := p
      have e : eqT t1 (.tup ts) = false := (flat_tup I hu n1 r1 f1 q).2.2.1
      rw [e]
      cases x with
      | non => cases rx; exact RcNeAt.none_tuple p' hu
      | bl b => cases rx; exact RcNeAt.bool_tuple b p' hu
      | int i => obtain ⟨t, rfl⟩ := rx; exact RcNeAt.int_tuple i t p' hu
      | str z => obtain ⟨t, rfl⟩ := rx; exact RcNeAt.str_tuple z t p' hu
      | _ => cases f1
    | @ls ts a vs q r =>
      obtain ⟨its, _, p, _⟩ := I.list q
      have e : eqT t1 (.lst ts) = false := (flat_lst I hu n1 r1 f1 q).2.2.1
      rw [e]
      cases x with
      | non => cases rx; exact RcNeAt.none_list p.isList hu
      | bl b => cases rx; exact RcNeAt.bool_list b p.isList hu
      | int i => obtain ⟨t, rfl⟩ := rx; exact RcNeAt.int_list i t p.isList hu
      | str z => obtain ⟨t, rfl⟩ := rx; exact RcNeAt.str_list z t p.isList hu
      | _ => cases f1
  | @tp ts a vs q r =>
    obtain ⟨its, v1, p1, _⟩ := I.tuple q
    have p1' : s.heap.IsTuple a its.toArray := p1
    cases h2 with
    | fl n2 r2 f2 =>
      have := ry.inj r2; subst this
      have e : eqT (.tup ts) t2 = false := (flat_tup I hu n2 r2 f2 q).2.2.2
      rw [e]
      cases y with
      | non => cases ry; exact RcNeAt.tuple_none p1' hu
      | bl b => cases ry; exact RcNeAt.tuple_bool b p1' hu
      | int i => obtain ⟨t, rfl⟩ := ry; exact RcNeAt.tuple_int i t p1' hu
      | str z => obtain ⟨t, rfl⟩ := ry; exact RcNeAt.tuple_str z t p1' hu
      | _ => cases f2
    | @tp ts' b ws q' r' =>
      obtain ⟨its', v2, p2, _⟩ := I.tuple q'
      have ko1 : okTs n ts = true := by simpa [okT] using k1
      have ko2 : okTs n ts' = true := by simpa [okT] using k2
      have l1 := v1.length
      have l2 := v2.length
      have l3 := r.length
      have l4 := r'.length
      have z := RcNeAt.tuples (s := s) (A := A) p1' (show s.heap.IsTuple b its'.toArray from p2) hu (items ko1 ko2 r r' v1 v2)
      have e : eqT (.tup ts) (.tup ts') = ((List.range (min its.toArray.size its'.toArray.size)).all (eqJ ts ts') && its.toArray.size == its'.toArray.size) := by
        by_cases hl : ts.length = ts'.length
        · rw [eqT_tup, eqTs_range ts ts' hl, List.size_toArray, List.size_toArray, show min its.length its'.length = ts.length by omega, show its.length = its'.length by omega, beq_self_eq_true, Bool.and_true]
        · rw [eqT_tup, eqTs_len ts ts' hl, show (its.toArray.size == its'.toArray.size) = false by simp; omega, Bool.and_false]
      rw [e]; exact z
    | @ls ts' b ws q' r' =>
      obtain ⟨its', v2, p2, _⟩ := I.list q'
      have e : eqT (.tup ts) (.lst ts') = false := by simp [eqT, eqF]
      rw [e]
      exact RcNeAt.tuple_list p1' p2.isList hu
  | @ls ts a vs q r =>
    obtain ⟨its, v1, p1, _⟩ := I.list q
    cases h2 with
    | fl n2 r2 f2 =>
      have := ry.inj r2; subst this
      have e : eqT (.lst ts) t2 = false := (flat_lst I hu n2 r2 f2 q).2.2.2
      rw [e]
      cases y with
      | non => cases ry; exact RcNeAt.list_none p1.isList hu
      | bl b => cases ry; exact RcNeAt.list_bool b p1.isList hu
      | int i => obtain ⟨t, rfl⟩ := ry; exact RcNeAt.list_int i t p1.isList hu
      | str z => obtain ⟨t, rfl⟩ := ry; exact RcNeAt.list_str z t p1.isList hu
      | _ => cases f2
    | @tp ts' b ws q' r' =>
      obtain ⟨its', v2, p2, _⟩ := I.tuple q'
      have e : eqT (.lst ts) (.tup ts') = false := by simp [eqT, eqF]
      rw [e]
      exact RcNeAt.list_tuple p1.isList (show s.heap.IsTuple b its'.toArray from p2) hu
    | @ls ts' b ws q' r' =>
      obtain ⟨its', v2, p2, _⟩ := I.list q'
      have ko1 : okTs n ts = true := by simpa [okT] using k1
      have ko2 : okTs n ts' = true := by simpa [okT] using k2
      have l1 := v1.length
      have l2 := v2.length
      have l3 := r.length
      have l4 := r'.length
      by_cases hl : ts.length = ts'.length
      · have z := RcNeAt.lists (s := s) (A := A) p1.isList p2.isList (by simp; omega) hu (items ko1 ko2 r r' v1 v2)
        have e : eqT (.lst ts) (.lst ts') = (List.range its.toArray.size).all (eqJ ts ts') := by
          rw [eqT_lst, eqTs_range ts ts' hl, List.size_toArray, show its.length = ts.length by omega]
        rw [e]; exact z
      · have z := RcNeAt.lists_lengths (s := s) (A := A) p1.isList p2.isList (by simp; omega) hu
        have e : eqT (.lst ts) (.lst ts') = false := by rw [eqT_lst]; exact eqTs_len ts ts' hl
        rw [e]; exact z
theorem rc_seq {X : Cx} {pins : List (Addr × Obj)} {σ : L2.St} {H : Hp} {s : Shared} (I : Inv X pins σ H s) {t1 t2 : T} {u v : Value} {A : Around} {n : Nat} (k1 : okT n t1 = true) (k2 : okT n t2 = true) (hA : A.units + n < cLine) (h1 : Sh I t1 u) (h2 : Sh I t2 v) {x y : V} (rx : RelV x u) (ry : RelV y v) :
    RcAt A s u v (eqT t1 t2) := by
  have hu : A.units < cLine := by omega
  have key := fun a b h h' => (rcAt_T I n t1 t2 u v A k1 k2 hA h1 h2).2 a b h h'
  cases h1 with
  | fl n1 r1 f1 =>
    have := rx.inj r1; subst this
    cases h2 with
    | fl n2 r2 f2 =>
      have := ry.inj r2; subst this
      rw [flat_T (pins := pins) (σ := σ) (s := s) n1 n2 rx ry f1 f2]
      exact flat_rc rx ry f1 f2
    | @tp ts a vs q r =>
      obtain ⟨⟨_, e1⟩, _, e3, _⟩ := flat_tup (ts := ts) I hu n1 r1 f1 q
      rw [e3]; exact e1
    | @ls ts a vs q r =>
      obtain ⟨⟨_, e1⟩, _, e3, _⟩ := flat_lst (ts := ts) I hu n1 r1 f1 q
      rw [e3]; exact e1
  | @tp ts a vs q r =>
    cases h2 with
    | fl n2 r2 f2 =>
      obtain ⟨_, ⟨_, e1⟩, _, e3⟩ := flat_tup (ts := ts) I hu n2 r2 f2 q
      rw [e3]; exact e1
    | tp _ _ => exact key _ _ rfl rfl
    | ls _ _ => exact key _ _ rfl rfl
  | @ls ts a vs q r =>
    cases h2 with
    | fl n2 r2 f2 =>
      obtain ⟨_, ⟨_, e1⟩, _, e3⟩ := flat_lst (ts := ts) I hu n2 r2 f2 q
      rw [e3]; exact e1
    | tp _ _ => exact key _ _ rfl rfl
    | ls _ _ => exact key _ _ rfl rfl
end FW
namespace FW
open PySem PySem.Spec PyProof.Rows L2
variable [Tabs]
open PySem.SeqAt
section
variable {X : Cx}
theorem o_eq (hr : X.A.units + 100 < cLine) : OpT X (compareOp .Eq) (gEq false) := by
  intro pins s σ H x y u v t1 t2 r Q I rx ry n1 n2 e q
  unfold gEq at e
  split at e
  · rename_i k
    cases e
    rw [Bool.and_eq_true] at k
    have fin : Q (.bl (eqT t1 t2)) H := by
      have := q (.bl (eqT t1 t2 != false)) H (newR_val (by simp))
      simpa using this
    exact rc_seq (n := 100) I k.1 k.2 hr (Sh.of I k.1 n1 rx) (Sh.of I k.2 n2 ry) rx ry X.prog X.w X.xe _ ⟨.bl (eqT t1 t2), H, I, rfl, fin⟩
  · cases e
theorem o_ne (hr : X.A.units + 100 < cLine) : OpT X (compareOp .NotEq) (gEq true) := by
  intro pins s σ H x y u v t1 t2 r Q I rx ry n1 n2 e q
  unfold gEq at e
  split at e
  · rename_i k
    cases e
    rw [Bool.and_eq_true] at k
    have fin : Q (.bl (!eqT t1 t2)) H := by
      have := q (.bl (eqT t1 t2 != true)) H (newR_val (by simp))
      simpa using this
    exact ne_seq (n := 99) I k.1 k.2 hr (Sh.of I k.1 n1 rx) (Sh.of I k.2 n2 ry) rx ry X.prog X.w X.xe _ ⟨.bl (!eqT t1 t2), H, I, rfl, fin⟩
  · cases e
def flatT : T → Bool
  | .non => true
  | .bl _ => true
  | .int _ => true
  | .str _ => true
  | _ => false
def gIn (neg : Bool) : T → T → Option R
  | t, .lst xs => if flatT t && xs.all flatT then some (.val (.bl ((xs.any fun y => eqF y t) != neg))) else none
  | t, .tup xs => if flatT t && xs.all flatT then some (.val (.bl ((xs.any fun y => eqF y t) != neg))) else none
  | .str x, .str y => some (.val (.bl ((!(Builtin.Str.occurrences y x 0 y.length 1).isEmpty) != neg)))
  | _, _ => none
theorem flat_rep {K : W.Frag} {H : Hp} {t : T} {v : V} (f : flatT t = true) (h : Rep K H t v) : flatV v = true ∧ (∀ (t' : T) (v' : V), flatT t' = true → Rep K H t' v' → eqV v v' = eqF t t') := by
  cases t with
  | non => rw [rep_non] at h; subst h; exact ⟨rfl, fun t' v' f' h' => by cases t' <;> first | (rw [rep_non] at h'; subst h'; rfl) | (rw [rep_bl] at h'; subst h'; rfl) | (rw [rep_int] at h'; subst h'; rfl) | (rw [rep_str] at h'; subst h'; rfl) | cases f'⟩
  | bl b => rw [rep_bl] at h; subst h; exact ⟨rfl, fun t' v' f' h' => by cases t' <;> first | (rw [rep_non] at h'; subst h'; rfl) | (rw [rep_bl] at h'; subst h'; rfl) | (rw [rep_int] at h'; subst h'; rfl) | (rw [rep_str] at h'; subst h'; rfl) | cases f'⟩
  | int b => rw [rep_int] at h; subst h; exact ⟨rfl, fun t' v' f' h' => by cases t' <;> first | (rw [rep_non] at h'; subst h'; rfl) | (rw [rep_bl] at h'; subst h'; rfl) | (rw [rep_int] at h'; subst h'; rfl) | (rw [rep_str] at h'; subst h'; rfl) | cases f'⟩
  | str b => rw [rep_str] at h; subst h; exact ⟨rfl, fun t' v' f' h' => by cases t' <;> first | (rw [rep_non] at h'; subst h'; rfl) | (rw [rep_bl] at h'; subst h'; rfl) | (rw [rep_int] at h'; subst h'; rfl) | (rw [rep_str] at h'; subst h'; rfl) | cases f'⟩
  | _ => cases f
theorem flat_reps {K : W.Frag} {H : Hp} {t : T} {v : V} (f : flatT t = true) (h : Rep K H t v) : ∀ {ts : List T} {vs : List V}, Reps K H ts vs → ts.all flatT = true → vs.all flatV = true ∧ inV v vs = ts.any fun y => eqF y t
  | [], _, r, _ => by rw [reps_nil] at r; subst r; exact ⟨rfl, rfl⟩
  | y :: ts, _, r, k => by
    rw [reps_cons] at r
    obtain ⟨w, ws, rfl, r1, r2⟩ := r
    rw [List.all_cons, Bool.and_eq_true] at k
    obtain ⟨a, b⟩ := flat_rep k.1 r1
    obtain ⟨c, d⟩ := flat_reps f h r2 k.2
    refine ⟨by rw [List.all_cons, a, c]; rfl, ?_⟩
    show (w :: ws).any (fun z => eqV z v) = _
    rw [List.any_cons, List.any_cons, b t v f h, ← d]
    rfl
theorem now_flat {K : W.Frag} {H : Hp} {t : T} {v : V} (f : flatT t = true) (h : Now K H t v) : Rep K H t v := by
  cases t <;> first | exact h | cases f
theorem o_in : OpT X (compareOp .In) (gIn false) := by
  intro pins s σ H x y u v t1 t2 r Q I rx ry n1 n2 e q
  unfold gIn at e
  split at e
  · split at e
    · rename_i xs k
      cases e
      rw [Bool.and_eq_true] at k
      obtain ⟨a, vs, rfl, h1, h2⟩ := n2
      have n1' := now_flat k.1 n1
      obtain ⟨g1, g2⟩ := flat_reps k.1 n1' h2 k.2
      refine op_in_seq pins s σ H x _ u v Q I rx ry ⟨a, vs, rfl, .inl h1, (flat_rep k.1 n1').1, g1, ?_⟩
      have := q (.bl ((xs.any fun y => eqF y t1) != false)) H (newR_val (by simp))
      rw [g2]; simpa using this
    · cases e
  · split at e
    · rename_i xs k
      cases e
      rw [Bool.and_eq_true] at k
      rw [now_tup] at n2
      obtain ⟨a, vs, rfl, h1, h2⟩ := n2
      have n1' := now_flat k.1 n1
      obtain ⟨g1, g2⟩ := flat_reps k.1 n1' h2 k.2
      refine op_in_seq pins s σ H x _ u v Q I rx ry ⟨a, vs, rfl, .inr h1, (flat_rep k.1 n1').1, g1, ?_⟩
      have := q (.bl ((xs.any fun y => eqF y t1) != false)) H (newR_val (by simp))
      rw [g2]; simpa using this
    · cases e
  · cases e
    rw [now_str] at n1 n2; subst n1; subst n2
    refine op_in_str pins s σ H _ _ u v Q I rx ry ⟨_, _, rfl, rfl, ?_⟩
    generalize (!(Builtin.Str.occurrences _ _ 0 _ 1).isEmpty) = b at q ⊢
    have h := q (.bl (b != false)) H (newR_val (by simp))
    rw [Bool.bne_false] at h
    exact h
  · cases e
end
end FW
namespace FW
open PySem PySem.Spec PyProof.Rows L2
variable [Tabs]
section
variable {X : Cx} {a b : Expr} {ta tb : WE} {pos : Pos}
theorem atI_map {α β : Type} {F : α → β → Prop} {xs : List α} {ys : List β} (hl : xs.length = ys.length) (hg : ∀ (j : Nat) x, xs[j]? = some x → ∃ y, ys[j]? = some y ∧ F x y) {i : Int} {x : α} (h : atI xs i = some x) : ∃ y, atI ys i = some y ∧ F x y := by
  unfold atI at h ⊢
  rw [Option.bind_eq_some_iff] at h
  obtain ⟨j, h1, h2⟩ := h
  obtain ⟨y, h3, h4⟩ := hg j x h2
  exact ⟨y, by rw [← hl, h1]; exact h3, h4⟩
def gIx : T → T → Option R
  | .lst xs, .int i => (atI xs i).map R.val
  | .tup xs, .int i => (atI xs i).map R.val
  | .str x, .int i => if x.length ≤ sizeLine then (atI x.cps.toList i).map fun c => R.val (.str ⟨#[c]⟩) else none
  | _, _ => none
theorem o_ix (hs : PlainIx b) : OpT X (subscriptTail a b) gIx := by
  intro pins s σ H x y u v t1 t2 r Q I rx ry n1 n2 e q
  have hs' : subscripted b false u v = operate [u, v] (getItem u v) := hs u v
  unfold gIx at e
  split at e
  · rename_i xs i
    rw [now_int] at n2; subst n2
    obtain ⟨p, vs, rfl, h1, h2⟩ := n1
    rw [Option.map_eq_some_iff] at e
    obtain ⟨t, e1, rfl⟩ := e
    obtain ⟨w, e2, r2⟩ := atI_map h2.length (fun j x h => h2.get h) e1
    exact ix_list a b pins s σ H _ _ u v Q I rx ry ⟨p, vs, i, w, rfl, rfl, h1, e2, q _ _ (newR_val r2)⟩ hs'
  · rename_i xs i
    rw [now_int] at n2; subst n2
    rw [now_tup] at n1
    obtain ⟨p, vs, rfl, h1, h2⟩ := n1
    rw [Option.map_eq_some_iff] at e
    obtain ⟨t, e1, rfl⟩ := e
    obtain ⟨w, e2, r2⟩ := atI_map h2.length (fun j x h => h2.get h) e1
    exact ix_tup a b pins s σ H _ _ u v Q I rx ry ⟨p, vs, i, w, rfl, rfl, h1, e2, q _ _ (newR_val r2)⟩ hs'
  · rename_i z i
    rw [now_int] at n2; subst n2
    rw [now_str] at n1; subst n1
    split at e
    · rename_i hz
      rw [Option.map_eq_some_iff] at e
      obtain ⟨c, e1, rfl⟩ := e
      exact ix_str a b pins s σ H _ _ u v Q I rx ry ⟨z, i, c, rfl, rfl, hz, e1, q _ _ (newR_val (by simp))⟩ hs'
    · cases e
  · cases e
theorem d_ix (ha : DE X a ta) (hb : DE X b tb) (hs : PlainIx b := by intro _ _; rfl) : DE X (.Subscript a b pos) (wBin gIx ta tb) := fun pins s σ H ρ Q I E q => Subscript_ (bin_post (o_ix hs) ha hb I E q)
def gLen : List T → Option R
  | [.lst xs] => some (.val (.int xs.length))
  | [.tup xs] => some (.val (.int xs.length))
  | [.str x] => if x.length ≤ sizeLine then some (.val (.int x.length)) else none
  | _ => none
theorem c_len : CallT X (.builtin "len") gLen := by
  intro pins s σ H vs us ts r Q I rv n e q
  unfold gLen at e
  split at e
  · cases e
    cases n with
    | cons n1 n2 =>
      cases n2
      obtain ⟨p, ws, rfl, h1, h2⟩ := n1
      refine call_len_seq pins s σ H _ us Q I rv ⟨p, ws, rfl, .inl h1, ?_⟩
      rw [← h2.length]
      exact q _ _ (newR_val (by simp))
  · cases e
    cases n with
    | cons n1 n2 =>
      cases n2
      rw [now_tup] at n1
      obtain ⟨p, ws, rfl, h1, h2⟩ := n1
      refine call_len_seq pins s σ H _ us Q I rv ⟨p, ws, rfl, .inr h1, ?_⟩
      rw [← h2.length]
      exact q _ _ (newR_val (by simp))
  · split at e
    · rename_i hz
      cases e
      cases n with
      | cons n1 n2 =>
        cases n2
        rw [now_str] at n1; subst n1
        exact call_len_str pins s σ H _ us Q I rv ⟨_, rfl, hz, q _ _ (newR_val (by simp))⟩
    · cases e
  · cases e
def gList : List T → Option R
  | [.lst xs] => some (.own xs)
  | [.tup xs] => some (.own xs)
  | _ => none
theorem c_list : CallT X (.type "list") gList := by
  intro pins s σ H vs us ts r Q I rv n e q
  unfold gList at e
  split at e
  · cases e
    cases n with
    | cons n1 n2 =>
      cases n2
      obtain ⟨p, ws, rfl, h1, h2⟩ := n1
      exact call_list_of pins s σ H _ us Q I rv ⟨p, ws, rfl, .inl h1, fun l hl => q _ _ (newR_own hl h2)⟩
  · cases e
    cases n with
    | cons n1 n2 =>
      cases n2
      rw [now_tup] at n1
      obtain ⟨p, ws, rfl, h1, h2⟩ := n1
      exact call_list_of pins s σ H _ us Q I rv ⟨p, ws, rfl, .inr h1, fun l hl => q _ _ (newR_own hl h2)⟩
  · cases e
def gTuple : List T → Option R
  | [.lst xs] => some (.val (.tup xs))
  | [.tup xs] => some (.val (.tup xs))
  | _ => none
theorem c_tuple : CallT X (.type "tuple") gTuple := by
  intro pins s σ H vs us ts r Q I rv n e q
  unfold gTuple at e
  split at e
  · cases e
    cases n with
    | cons n1 n2 =>
      cases n2
      obtain ⟨p, ws, rfl, h1, h2⟩ := n1
      exact call_tuple_of pins s σ H _ us Q I rv ⟨p, ws, rfl, .inl ⟨h1, fun l hl => q _ _ (newR_tup hl h2)⟩⟩
  · cases e
    cases n with
    | cons n1 n2 =>
      cases n2
      rw [now_tup] at n1
      obtain ⟨p, ws, rfl, h1, h2⟩ := n1
      exact call_tuple_of pins s σ H _ us Q I rv ⟨p, ws, rfl, .inr ⟨h1, q _ _ (newR_val (by rw [rep_tup]; exact ⟨p, ws, rfl, h1, h2⟩))⟩⟩
  · cases e
def gMin : List T → Option R
  | [.int i, .int j] => some (.val (.int (if j < i then j else i)))
  | _ => none
theorem c_min (hc : X.calm = true) : CallT X (.builtin "min") gMin := by
  intro pins s σ H vs us ts r Q I rv n e q
  unfold gMin at e
  split at e
  · cases e
    cases n with
    | cons n1 n2 =>
      cases n2 with
      | cons n2 n3 =>
        cases n3
        rw [now_int] at n1 n2; subst n1; subst n2
        exact call_min2 hc pins s σ H _ us Q I rv ⟨_, _, rfl, q _ _ (newR_val (by simp))⟩
  · cases e
def tyT : T → String
  | .non => "NoneType"
  | .bl _ => "bool"
  | .int _ => "int"
  | .str _ => "str"
  | .tup _ => "tuple"
  | .lst _ => "list"
  | .dct _ => "dict"
def isT (C : String) (t : T) : Bool := tyT t == C || (C == "int" && tyT t == "bool")
end
end FW
namespace FW
open PySem PySem.Spec PyProof.Rows L2
variable [Tabs]
section
variable {X : Cx} {a b : Expr} {ta tb : WE} {pos : Pos}
theorem kit_T (K : W.Frag) (t : T) (C : String) (hC : C = "str" ∨ C = "tuple" ∨ C = "list" ∨ C = "int" ∨ C = "bool" ∨ C = "dict") : W.kitOne K (.type (tyT t)) (.type C) = some (isT C t) := by
  rcases hC with rfl | rfl | rfl | rfl | rfl | rfl <;> cases t <;> with_unfolding_all rfl
theorem isi_ok {pins : List (Addr × Obj)} {σ : L2.St} {H : Hp} {s : Shared} {t : T} {x : V} {u : Value} {C : String} {A : Around} {E : Value → Shared → Prop} {Q : Value → Shared → Prop} (I : Inv X pins σ H s) (rx : RelV x u) (n : Now X.K H t x) (hC : C = "str" ∨ C = "tuple" ∨ C = "list" ∨ C = "int" ∨ C = "bool" ∨ C = "dict")
    (h : ∀ tk, Q (.bool (isT C t)) { s with toks := tk }) : wpAny (model X.prog X.w) A (call (.builtin "isinstance") [u, .type C]) Q E s := by
  have e := kit_T X.K t C hC
  cases t with
  | non => rw [now_non] at n; subst n; cases rx; exact W.kia_one W.kitx_none I.kIn True.intro e (fun z => nomatch z) h
  | bl b => rw [now_bl] at n; subst n; cases rx; exact W.kia_one W.kitx_bool I.kIn True.intro e (fun z => nomatch z) h
  | int i => rw [now_int] at n; subst n; obtain ⟨tk, rfl⟩ := rx; exact W.kia_one W.kitx_int I.kIn True.intro e (fun z => nomatch z) h
  | str z => rw [now_str] at n; subst n; obtain ⟨tk, rfl⟩ := rx; exact W.kia_one W.kitx_str I.kIn True.intro e (fun z => nomatch z) h
  | tup ts =>
    rw [now_tup] at n
    obtain ⟨p, vs, rfl, h1, _⟩ := n
    cases rx
    obtain ⟨its, _, ⟨o, e1, e2, _⟩, _⟩ := I.tuple h1
    exact W.kia_one W.kitx_tuple I.kIn ⟨o, e1, e2⟩ e (fun z => nomatch z) h
  | lst ts =>
    obtain ⟨p, vs, rfl, h1, _⟩ := n
    cases rx
    obtain ⟨its, _, ⟨o, _, e1, e2, _⟩, _⟩ := I.list h1
    exact W.kia_one W.kitx_list I.kIn ⟨o, e1, e2⟩ e (fun z => nomatch z) h
  | dct kvs =>
    have n' : Rep X.K H (.dct kvs) x := n
    unfold Rep at n'
    obtain ⟨p, ks, rfl, ⟨o, h1⟩, _⟩ := n'
    cases rx
    obtain ⟨e1, _, _, vs, _, o', es, ep, e2, e3, _⟩ := I.hok p _ h1
    rw [e1] at e2; cases e2
    exact W.kia_one W.kitx_dict I.kIn ⟨o, e1, e3.1⟩ e (fun z => nomatch z) h
def wIsi (C : String) (ta : WE) : WE := fun ρ Q => ta ρ fun r ρ1 => bO (rdR ρ1 r) fun t => Q (.val (.bl (isT C t))) ρ1
theorem d_isi {C : String} {x : Str} {p pc : Pos} (hC : C = "str" ∨ C = "tuple" ∨ C = "list" ∨ C = "int" ∨ C = "bool" ∨ C = "dict") (hg : Gl X "isinstance") (hm : X.mg "isinstance" = none) (hg2 : Gl X x) (hm2 : X.mg x = none) (hv2 : bootBuiltins x = some (.type C)) (ha : DE X a ta)
    (hv : bootBuiltins "isinstance" = some (.builtin "isinstance")) (hn2 : x ≠ "__name__" := by decide) (hd2 : (x == ("__debug__" : Str)) = false := by decide)
    (he : starEach [a, .Name x pc] X.env = (false, eval a X.env) :: starEach [.Name x pc] X.env := by rfl) (he2 : starEach [.Name x pc] X.env = (false, eval (.Name x pc) X.env) :: starEach [] X.env := by rfl) (hpl : (backTo pos (starEach [.Name x pc] X.env)).any (·.1) = false := by rfl) :
    DE X (.Call (.Name "isinstance" p) [a, .Name x pc] [] pos) (wIsi C ta) := by
  have hc : CallR X (.builtin "isinstance") (fun vs H Q => ∃ y t, vs = [y, .ty C] ∧ Now X.K H t y ∧ Q (.bl (isT C t)) H) := by
    intro pins s σ H vs us Q I rv ⟨y, t, hvs, n, q⟩
    subst hvs
    obtain ⟨u, w, rfl, r1, r2⟩ := vals2 rv
    have r2' : w = .type C := r2
    subst r2'
    exact isi_ok I r1 n hC fun tk => ⟨.bl (isT C t), H, I.tok tk, rfl, q⟩
  refine DE.of (pe_callB hc hg hm hv (pa_cons ha.pe (pa_cons (pe_bltn (v := .ty C) hg2 hm2 hv2 rfl hn2 hd2) pa_nil he2) he) (by decide) (by decide) he hpl) fun σ H ρ Q E q => ⟨ρ, _, E, q, fun v H1 r ρ1 E1 S1 p1 q1 => ?_⟩
  obtain ⟨t, e1, q2⟩ := bO_iff.mp q1
  exact ⟨v, t, rfl, p1.now E1 e1, .val (.bl (isT C t)), ρ1, E1, S1, (by show Rep X.K H1 _ _; simp), q2⟩
abbrev WO := Ev → (Option Int → Ev → Prop) → Prop
def upO (K : W.Frag) (t : WO) : TO := fun σ H Q' => ∃ ρ Q, EvOk K ρ σ H ∧ t ρ Q ∧ ∀ o H' ρ', EvOk K ρ' σ H' → Stp (Own ρ σ) H (Own ρ' σ) H' → Q o ρ' → Q' o H'
def wNo : WO := fun ρ Q => Q none ρ
def wSo (t : WE) : WO := fun ρ Q => t ρ fun r ρ1 => bO (intR ρ1 r) fun i => Q (some i) ρ1
def DO (X : Cx) (e : Option Expr) (t : WO) : Prop := PO X e (upO X.K t)
theorem do_none : DO X none wNo := fun pins s σ H Q' I ⟨ρ, Q, E, q, k⟩ => po_none pins s σ H Q' I (k none H ρ E .refl q)
theorem do_some {e : Expr} {te : WE} (h : DE X e te) : DO X (some e) (wSo te) := fun pins s σ H Q' I ⟨ρ, Q, E, q, k⟩ =>
  po_some h.pe pins s σ H Q' I ⟨ρ, _, E, q, fun v H1 r ρ1 E1 S1 p1 q1 => by
    obtain ⟨i, e1, q2⟩ := bO_iff.mp q1
    have := p1.int E1 e1
    exact ⟨i, this, k (some i) H1 ρ1 E1 S1 q2⟩⟩
def cutT {α : Type} (xs : List α) (lo hi : Option Int) : List α := (xs.drop (HT.sIx xs.length 0 lo)).take (HT.sIx xs.length xs.length hi - HT.sIx xs.length 0 lo)
def gSl (t : T) (lo hi : Option Int) : Option R := match t with
  | .lst xs => some (.own (cutT xs lo hi))
  | .tup xs => if HT.sIx xs.length 0 lo = 0 ∧ HT.sIx xs.length xs.length hi = xs.length then none else some (.val (.tup (cutT xs lo hi)))
  | _ => none
theorem cut_reps {K : W.Frag} {H : Hp} {xs : List T} {vs : List V} (h : Reps K H xs vs) (lo hi : Option Int) : Reps K H (cutT xs lo hi) (cutV vs lo hi) := by
  unfold cutT cutV
  rw [h.length]
  exact (h.drop _).take _
def wSl (te : WE) (tl th : WO) : WE := fun ρ Q => te ρ fun r ρ1 => tl ρ1 fun lo ρ2 => th ρ2 fun hi ρ3 => bO (rdR ρ3 r) fun t => bO (gSl t lo hi) fun r' => Q r' ρ3
end
def strsT : List T → Option (List Str)
  | [] => some []
  | .str x :: ts => (strsT ts).map (x :: ·)
  | _ => none
def joinR (x : Str) : T → Option R
  | .lst xs => (strsT xs).bind fun ys => if (ys.map (·.length)).sum + ys.length * x.length ≤ 16777216 then some (.val (.str (Txt.join x ys))) else none
  | .tup xs => (strsT xs).bind fun ys => if (ys.map (·.length)).sum + ys.length * x.length ≤ 16777216 then some (.val (.str (Txt.join x ys))) else none
  | _ => none
theorem strs_are {K : W.Frag} {H : Hp} : ∀ {ts : List T} {ys : List Str} {vs : List V} {us : List Value}, strsT ts = some ys → Reps K H ts vs → Vals vs us → StrsAre us ys
  | [], _, _, _, e, r, v => by cases e; rw [reps_nil] at r; subst r; cases v; exact .nil
  | t :: ts, ys, _, _, e, r, v => by
    rw [reps_cons] at r
    obtain ⟨w, ws, rfl, r1, r2⟩ := r
    cases v with
    | cons v1 v2 =>
      cases t with
      | str x =>
        have e' : (strsT ts).map (x :: ·) = some ys := e
        rw [Option.map_eq_some_iff] at e'
        obtain ⟨zs, e1, rfl⟩ := e'
        rw [rep_str] at r1; subst r1
        obtain ⟨tk, rfl⟩ := v1
        exact .cons x tk (strs_are e1 r2 v2)
      | _ => cases e
section
variable {X : Cx} {a e : Expr} {ta : WE} {pos : Pos}
def wJoin (x : Str) (ta : WA) : WE := fun ρ Q => ta ρ fun rs ρ1 => bO (rdRs ρ1 rs) fun ts => match ts with
  | [t] => bO (joinR x t) fun r => Q r ρ1
  | _ => False
theorem d_join {x : Str} {k : Nat} {p apos : Pos} {ta : WA} (ha : DA X [e] ta)
    (hbase : attributeBase (.Constant (.str x) k p) "join" X.env (eval (.Constant (.str x) k p) X.env) = eval (.Constant (.str x) k p) X.env := by rfl)
    (hfew : ((backTo pos (starEach [e] X.env)).all (fun x => !x.1) && (backToKw pos (keywordEach [] X.env)).all (fun x => x.1.isSome)
      && decide ([e].length + ([] : List Keyword).length + (if ([] : List Keyword).isEmpty then 0 else 1) < 30)) = true := by rfl)
    (hline : (apos.endLine == pos.line) = true := by rfl) (hs : starEach [e] X.env = (false, eval e X.env) :: starEach [] X.env := by rfl) (hplain : (backTo pos (starEach [] X.env)).any (·.1) = false := by rfl) :
    DE X (.Call (.Attribute (.Constant (.str x) k p) "join" apos) [e] [] pos) (wJoin x ta) := by
  have hm : MtR X "str.join" (fun y vs H Q => ∃ w t r, y = .str x ∧ vs = [w] ∧ Now X.K H t w ∧ joinR x t = some r ∧ ∀ z, NewR X.K H H r z → Q z H) := by
    intro pins s σ H y vs v us Q I rx rv ⟨w, t, r, hy, hvs, n, hj, q⟩
    subst hy; subst hvs
    obtain ⟨tk, rfl⟩ := rx
    obtain ⟨u, rfl, ru⟩ := vals1 rv
    unfold joinR at hj
    split at hj
    · rw [Option.bind_eq_some_iff] at hj
      obtain ⟨ys, e1, e2⟩ := hj
      split at e2
      · rename_i hz
        cases e2
        obtain ⟨p, ws, rfl, h1, h2⟩ := n
        cases ru
        obtain ⟨its, r', pl, _⟩ := I.list h1
        exact join_list pl.isList (by simpa using strs_are e1 h2 r') hz fun t' k => ⟨.str _, H, I.tok k, ⟨_, rfl⟩, q _ (newR_val (by simp))⟩
      · cases e2
    · rw [Option.bind_eq_some_iff] at hj
      obtain ⟨ys, e1, e2⟩ := hj
      split at e2
      · rename_i hz
        cases e2
        rw [now_tup] at n
        obtain ⟨p, ws, rfl, h1, h2⟩ := n
        cases ru
        obtain ⟨its, r', pl, _⟩ := I.tuple h1
        exact join_tuple pl (by simpa using strs_are e1 h2 r') hz fun t' k => ⟨.str _, H, I.tok k, ⟨_, rfl⟩, q _ (newR_val (by simp))⟩
      · cases e2
    · cases hj
  refine DE.of (pe_bm PySem.F.plainAttrs_str PySem.F.slot_str_join PySem.F.type_str_join hm pe_str ha hbase hfew hline hs hplain) fun σ H ρ Q E q => ⟨rfl, ρ, _, E, q, fun vs H1 rs ρ1 E1 S1 p1 q1 => ?_⟩
  obtain ⟨ts, e1, q2⟩ := bO_iff.mp q1
  have n := rdRs_now E1 p1 e1
  match ts, q2, n with
  | [t], q2, .cons n1 n2 =>
    cases n2
    obtain ⟨r, e2, q3⟩ := bO_iff.mp q2
    exact ⟨_, t, r, rfl, rfl, n1, e2, fun z nr => ⟨r, ρ1, E1.ext nr.1, S1.trans nr.1.stp, nr.rep E1 S1, q3⟩⟩
end
end FW
namespace FW
open PySem PySem.Spec PyProof.Rows L2
variable [Tabs]
theorem fm_map {α β : Type} {f : α → Option β} {g : α → β} : ∀ {l : List α}, (∀ a ∈ l, f a = some (g a)) → l.filterMap f = l.map g
  | [], _ => rfl
  | a :: l, h => by
    rw [List.filterMap_cons, h a List.mem_cons_self, List.map_cons, fm_map fun b hb => h b (List.mem_cons_of_mem _ hb)]
theorem pick_rev (its : List Value) : slicePick its.toArray none none (some (-1)) = its.reverse.toArray := by
  unfold slicePick
  have hb : sliceBounds none none (some (-1)) its.toArray.size = ((its.length : Int) - 1, -1, -1) := by
    unfold sliceBounds; simp
  rw [hb]
  congr 1
  dsimp only
  have hr : sliceRange ((its.length : Int) - 1) (-1) (-1) = (List.range its.length).map fun k => its.length - 1 - k := by
    unfold sliceRange
    dsimp only
    have hc : (if (-1 : Int) > 0 then (if (its.length : Int) - 1 < -1 then (-1 - ((its.length : Int) - 1) + -1 - 1) / -1 else 0) else (if (its.length : Int) - 1 > -1 then ((its.length : Int) - 1 - -1 - -1 - 1) / (- -1) else 0)).toNat = its.length := by
      rw [if_neg (by decide)]
      split
      · rw [show (- -1 : Int) = 1 by decide, Int.ediv_one]; omega
      · omega
    rw [hc]
    apply List.map_congr_left
    intro k _
    omega
  rw [hr, List.filterMap_map]
  apply List.ext_getElem?
  intro i
  by_cases hi : i < its.length
  · have e : ((fun x => its.toArray[x]?) ∘ fun k => its.length - 1 - k) = fun k => its[its.length - 1 - k]? := by funext k; simp
    rw [e]
    have hall : List.filterMap (fun k => its[its.length - 1 - k]?) (List.range its.length) = (List.range its.length).map fun k => its.getD (its.length - 1 - k) .none := by
      refine fm_map fun k hk => ?_
      have : its.length - 1 - k < its.length := by have := List.mem_range.mp hk; omega
      simp [this]
    rw [hall, List.getElem?_map, List.getElem?_range hi, List.getElem?_reverse hi]
    have : its.length - 1 - i < its.length := by omega
    simp [this]
  · have h1 : (List.filterMap ((fun x => its.toArray[x]?) ∘ fun k => its.length - 1 - k) (List.range its.length)).length ≤ its.length := by
      have := List.length_filterMap_le ((fun x => its.toArray[x]?) ∘ fun k => its.length - 1 - k) (List.range its.length)
      simpa using this
    rw [List.getElem?_eq_none (by omega), List.getElem?_eq_none (by simp; omega)]
def lstT : T → Option (List T)
  | .lst xs => some xs
  | _ => none
def wRvl (te : WE) : WE := fun ρ Q => te ρ fun r ρ1 => bO (rdR ρ1 r) fun t => bO (lstT t) fun xs => Q (.own xs.reverse) ρ1
section
variable {X : Cx} {a : Expr} {ta : WE} {pos p2 p3 p4 : Pos} {k : Nat}
theorem d_rev (ha : DE X a ta) : DE X (.Subscript a (.Slice none none (some (.UnaryOp .USub (.Constant (.int 1) k p3) p4)) p2) pos) (wRvl ta) := by
  intro pins s σ H ρ Q I E q
  refine Subscript_ (thn (ha pins s σ H ρ _ I E q) fun v s1 ⟨x, H1, r, ρ1, I1, r1, E1, S1, p1, q1⟩ => ?_)
  obtain ⟨t, e1, q2⟩ := bO_iff.mp q1
  obtain ⟨xs, e2, q3⟩ := bO_iff.mp q2
  have n := p1.now E1 e1
  refine wpAny_Slice ?_
  rw [evalPart_none]
  refine wpAny_pure (wpAny_pure ?_)
  rw [evalPart_some]
  refine UnaryOp_ (wpAny_Constant_int (neg_int ?_))
  cases t with
  | lst ys =>
    cases e2
    obtain ⟨p, vs, rfl, h1, h2⟩ := n
    cases r1
    generalize hst : (Value.int (-1) _ : Value) = st
    have I2 : Inv X pins σ H1 { s1 with heap := s1.heap.push { cls := .type "slice", data := .fields #[.none, .none, st] }, toks := s1.toks + 1 + 1 } := I1.kept fun b ob q => Heap.get?_push_of_some _ q
    obtain ⟨its, r', pl, hz⟩ := I2.list h1
    have hlen := r'.length
    show wpAny (model X.prog X.w) X.A (subscriptTail a _ (.ref p) (.ref s1.heap.objs.size)) _ X.xe { s1 with heap := s1.heap.push { cls := .type "slice", data := .fields #[.none, .none, st] }, toks := s1.toks + 1 + 1 }
    refine tail_any (ops := [.ref p, .ref s1.heap.objs.size]) pl.isList.typeIs slot_list_getitem.lookup ?_ (by with_unfolding_all rfl)
    refine wpAny_getItem_list_slice (st := some (-1)) pl.isList (Heap.IsSliceOf.new ..) .none .none (by rw [← hst]; exact .int _ _) (by decide) ?_ (by rw [List.size_toArray]; omega)
    rw [pick_rev]
    have nr := newR_own I2.fresh h2.reverse
    have I3 := I2.lnew (t' := s1.toks + 1 + 1) (ys := vs.reverse) (its := its.reverse) r'.reverse (by rw [List.length_reverse]; exact hz)
    exact ⟨.ref _, _, .own xs.reverse, ρ1, I3, rfl, E1.ext nr.1, S1.trans nr.1.stp, nr.rep E1 S1, q3⟩
  | _ => cases e2
end
end FW
namespace FW
open PySem PySem.Spec PyProof.Rows L2
variable [Tabs]
theorem rm {k : Nat} {A : Around} (r : Room k A) : A.units + 100 < cLine := by have := r.un; omega
section
variable {ρ : Ev} {t t1 t2 : T} {xs ys : List T} {i j : Nat}
theorem rdR_val : rdR ρ (.val t) = some t := rfl
theorem rdR_own : rdR ρ (.own xs) = some (.lst xs) := rfl
theorem rdR_bor' : rdR ρ (.bor i) = (ownAt ρ i).map T.lst := by
  show (match ρ[i]? with | some (Slot.own xs) => some (T.lst xs) | _ => none) = _
  unfold ownAt
  rcases q : ρ[i]? with _ | s
  · simp only [Option.map_none]
  · cases s <;> simp only [Option.map_none, Option.map_some]
theorem frz_val : frz ρ (.val t) = some (t, ρ) := rfl
theorem frz_own : frz ρ (.own xs) = some (.lst xs, ρ) := rfl
theorem frz_bor' : frz ρ (.bor i) = (ownAt ρ i).map fun xs => (.lst xs, ρ.set i (.val (.lst xs))) := by
  show (match ρ[i]? with | some (Slot.own xs) => some (T.lst xs, ρ.set i (.val (.lst xs))) | _ => none) = _
  unfold ownAt
  rcases q : ρ[i]? with _ | s
  · simp only [Option.map_none]
  · cases s <;> simp only [Option.map_none, Option.map_some]
theorem rdV_val : rdV i (.val t) = some (.val t) := rfl
theorem rdV_own : rdV i (.own xs) = some (.bor i) := rfl
theorem own_z1 : ownAt (.own xs :: ρ) 0 = some xs := by unfold ownAt; simp
theorem own_z2 : ownAt (.val t :: ρ) 0 = none := by unfold ownAt; simp
theorem own_succ {s : Slot} : ownAt (s :: ρ) (i + 1) = ownAt ρ i := by unfold ownAt; simp
theorem retR_val {io : Option Nat} {n : Nat} : retR io n ρ (.val t) = some (.val t) := rfl
theorem retR_own {io : Option Nat} {n : Nat} : retR io n ρ (.own xs) = some (.own xs) := rfl
theorem okR_bor : okR ρ (.bor i) = ((ownAt ρ i).isSome = true) := by
  unfold okR; rw [rdR_bor']; simp
theorem rdRs_nil : rdRs ρ [] = some [] := rfl
theorem rdRs_cons {r : R} {rs : List R} : rdRs ρ (r :: rs) = (rdR ρ r).bind fun t => (rdRs ρ rs).map (t :: ·) := rfl
theorem intR_val {k : Int} : intR ρ (.val (.int k)) = some k := rfl
theorem argsS_nil {io : Option Nat} {k : Nat} : argsS io ρ k [] = some [] := rfl
theorem argsS_c {io : Option Nat} {k : Nat} {r : R} {rs : List R} : argsS io ρ k (r :: rs) = (argsS io ρ (k + 1) rs).bind fun as => (argS io ρ k r).map (· :: as) := rfl
theorem argS_no {k : Nat} {r : R} : argS none ρ k r = argVal r := by unfold argS ioList; simp
theorem argS_io {k : Nat} {r : R} : argS (some k) ρ k r = argIn ρ r := by unfold argS ioList; simp
theorem argS_ne {k m : Nat} {r : R} (h : (k == m) = false) : argS (some m) ρ k r = argVal r := by
  unfold argS ioList
  have : k ≠ m := by simpa using h
  simp [this]
theorem argVal_val : argVal (.val t) = some (.val t) := rfl
theorem argIn_own : argIn ρ (.own xs) = some (.own xs) := rfl
theorem argIn_bor : argIn ρ (.bor i) = (ownAt ρ i).map Slot.own := rfl
theorem outS_no {rs : List R} {as' : List Slot} : outS none rs as' ρ = ρ := rfl
theorem backS_no {as : List Slot} : backS none as ρ = as := rfl
theorem backS_io {as : List Slot} {k : Nat} : backS (some k) as ρ = as.set k (ρ.getD k .un) := rfl
theorem tst_val {b : Bool} {P : Bool → Prop} : (∃ c, R.val (T.bl b) = R.val (T.bl c) ∧ P c) ↔ P b := ⟨fun ⟨c, e, p⟩ => by cases e; exact p, fun p => ⟨b, rfl, p⟩⟩
theorem addI {a b : Int} : gAdd (.int a) (.int b) = some (.val (.int (a + b))) := rfl
theorem addS {a b : Str} (h : a.length + b.length ≤ sizeLine) : gAdd (.str a) (.str b) = some (.val (.str (a ++ b))) := by unfold gAdd; simp only [h, if_true]
theorem addL (h : xs.length + ys.length ≤ sizeLine) : gAdd (.lst xs) (.lst ys) = some (.own (xs ++ ys)) := by unfold gAdd; simp only [h, if_true]
theorem gI {f : Int → Int → Option Int} {a b : Int} : gInt f (.int a) (.int b) = (f a b).map fun k => .val (.int k) := rfl
theorem subI {a b : Int} : fSub a b = some (a - b) := rfl
theorem mulR {a b : Int} (h : -(2 ^ 64) < b) (h' : b < 2 ^ 64) : fMul a b = some (a * b) := by unfold fMul; rw [if_pos (.inr ⟨h, h'⟩)]
theorem mulL {a b : Int} (h : -(2 ^ 64) < a) (h' : a < 2 ^ 64) : fMul a b = some (a * b) := by unfold fMul; rw [if_pos (.inl ⟨h, h'⟩)]
theorem modI {a b : Int} (h : 0 < b) : fMod a b = some (a % b) := by unfold fMod; rw [if_pos h]
theorem divI {a b : Int} (h : 0 < b) (h' : b < 1073741824) : fDiv a b = some (a / b) := by unfold fDiv; rw [if_pos ⟨h, h'⟩]
theorem powI {a b : Int} (h : 0 ≤ b) (h' : b ≤ 1000000) (h'' : a.natAbs < 2 ^ 64) : fPow a b = some (a ^ b.toNat) := by unfold fPow; rw [if_pos ⟨h, h', h''⟩]
theorem gC {f : Int → Int → Bool} {a b : Int} : gCmp f (.int a) (.int b) = some (.val (.bl (f a b))) := rfl
theorem lenL : gLen [.lst xs] = some (.val (.int xs.length)) := rfl
theorem lenT : gLen [.tup xs] = some (.val (.int xs.length)) := rfl
theorem lenS {x : Str} (h : x.length ≤ sizeLine) : gLen [.str x] = some (.val (.int x.length)) := by unfold gLen; simp only [h, if_true]
theorem ixL {k : Int} : gIx (.lst xs) (.int k) = (atI xs k).map R.val := rfl
theorem ixT {k : Int} : gIx (.tup xs) (.int k) = (atI xs k).map R.val := rfl
theorem ixS {x : Str} {k : Int} (h : x.length ≤ sizeLine) : gIx (.str x) (.int k) = (atI x.cps.toList k).map fun c => R.val (.str ⟨#[c]⟩) := by unfold gIx; simp only [h, if_true]
theorem at0 {α : Type} {x : α} {l : List α} : atI (x :: l) 0 = some x := atI_nat (j := 0) rfl
theorem at1 {α : Type} {x y : α} {l : List α} : atI (x :: y :: l) 1 = some y := atI_nat (j := 1) rfl
theorem at2 {α : Type} {x y z : α} {l : List α} : atI (x :: y :: z :: l) 2 = some z := atI_nat (j := 2) rfl
theorem at_get {α : Type} {l : List α} {k : Int} (h0 : 0 ≤ k) (h : k < l.length) : ∃ x, x ∈ l ∧ atI l k = some x := by
  have hk : k.toNat < l.length := by omega
  have hx : l[k.toNat]? = some l[k.toNat] := List.getElem?_eq_getElem hk
  have := atI_nat hx
  rw [show ((k.toNat : Nat) : Int) = k by omega] at this
  exact ⟨_, List.getElem_mem hk, this⟩
end
end FW
namespace FW
open PySem PySem.Spec PyProof.Rows L2
variable [Tabs]
def leapN (mask : Nat) : Nat → Nat → Nat → Nat × Nat
  | 0, i, p => (i, p)
  | n + 1, i, p => leapN mask n (SetTable.leap mask i p).1 (SetTable.leap mask i p).2
theorem leapN_add (mask : Nat) : ∀ (a b i p : Nat), leapN mask (a + b) i p = leapN mask b (leapN mask a i p).1 (leapN mask a i p).2
  | 0, b, i, p => by rw [Nat.zero_add]; rfl
  | a + 1, b, i, p => by rw [Nat.add_right_comm]; exact leapN_add mask a b _ _
theorem leapN_pert (mask : Nat) : ∀ (n i p : Nat), (leapN mask n i p).2 = p / 32 ^ n
  | 0, i, p => by simp [leapN]
  | n + 1, i, p => by
    show (leapN mask n _ _).2 = _
    rw [leapN_pert mask n]
    show p / 32 / 32 ^ n = _
    rw [Nat.div_div_eq_div_mul, Nat.pow_succ, Nat.mul_comm]
theorem leapN_le {mask : Nat} : ∀ (n : Nat) {i p : Nat}, i ≤ mask → (leapN mask n i p).1 ≤ mask
  | 0, _, _, h => h
  | n + 1, i, p, _ => leapN_le n (Nat.le_of_lt_succ (Nat.mod_lt _ (Nat.succ_pos mask)))
def cyc (mask : Nat) : Nat → Nat → Nat
  | 0, i => i
  | n + 1, i => cyc mask n ((i * 5 + 1) % (mask + 1))
theorem leapN_zero (mask : Nat) : ∀ (n i : Nat), (leapN mask n i 0).1 = cyc mask n i
  | 0, i => rfl
  | n + 1, i => by
    show (leapN mask n ((i * 5 + 1 + 0 / 32) % (mask + 1)) (0 / 32)).1 = cyc mask n ((i * 5 + 1) % (mask + 1))
    rw [show (0 : Nat) / 32 = 0 by rfl, Nat.add_zero]
    exact leapN_zero mask n _
theorem cover7 : ∀ i : Fin 8, ∀ e : Fin 8, ∃ n : Fin 8, cyc 7 n.val i.val = e.val := by decide +kernel
theorem cover31 : ∀ i : Fin 32, ∀ e : Fin 32, ∃ n : Fin 32, cyc 31 n.val i.val = e.val := by decide +kernel
theorem leap_cover {mask i p e : Nat} (hm : mask = 7 ∨ mask = 31) (hi : i ≤ mask) (hp : p < 2 ^ 64) (he : e ≤ mask) : ∃ n, 13 ≤ n ∧ n < mask + 14 ∧ (leapN mask n i p).1 = e := by
  have hz : (leapN mask 13 i p).2 = 0 := by
    rw [leapN_pert]
    exact Nat.div_eq_of_lt (Nat.lt_of_lt_of_le hp (by decide))
  have hl := leapN_le (mask := mask) 13 (p := p) hi
  have key : ∃ n, n ≤ mask ∧ cyc mask n (leapN mask 13 i p).1 = e := by
    rcases hm with rfl | rfl
    · obtain ⟨n, hn⟩ := cover7 ⟨_, Nat.lt_succ_of_le hl⟩ ⟨e, Nat.lt_succ_of_le he⟩
      exact ⟨n.val, Nat.le_of_lt_succ n.isLt, hn⟩
    · obtain ⟨n, hn⟩ := cover31 ⟨_, Nat.lt_succ_of_le hl⟩ ⟨e, Nat.lt_succ_of_le he⟩
      exact ⟨n.val, Nat.le_of_lt_succ n.isLt, hn⟩
  obtain ⟨n, h1, h2⟩ := key
  refine ⟨13 + n, by omega, by omega, ?_⟩
  rw [leapN_add, hz, leapN_zero]
  exact h2
def advN (t : SetTable) : Nat → SetTable.Probe → SetTable.Probe
  | 0, p => p
  | n + 1, p => advN t n (t.advance p)
theorem advN_add (t : SetTable) : ∀ (a b : Nat) (p : SetTable.Probe), advN t (a + b) p = advN t b (advN t a p)
  | 0, b, p => by rw [Nat.zero_add]; rfl
  | a + 1, b, p => by rw [Nat.add_right_comm]; exact advN_add t a b _
theorem adv_more {t : SetTable} {p : SetTable.Probe} (h : 0 < p.more) : t.advance p = { p with j := p.j + 1, more := p.more - 1 } := by unfold SetTable.advance; rw [if_pos h]
theorem adv_leap0 {t : SetTable} {p : SetTable.Probe} (h : p.more = 0) : t.advance p = { p with j := (SetTable.leap t.mask p.i p.perturb).1, more := SetTable.runEnd t.mask (SetTable.leap t.mask p.i p.perturb).1 - (SetTable.leap t.mask p.i p.perturb).1, i := (SetTable.leap t.mask p.i p.perturb).1, perturb := (SetTable.leap t.mask p.i p.perturb).2 } := by
  unfold SetTable.advance; rw [if_neg (by omega)]
theorem run_le (mask i : Nat) : SetTable.runEnd mask i - i ≤ 9 := by unfold SetTable.runEnd; split <;> omega
theorem adv_run {t : SetTable} : ∀ (m : Nat) (p : SetTable.Probe), p.more = m → (advN t (m + 1) p).j = (SetTable.leap t.mask p.i p.perturb).1 ∧ (advN t (m + 1) p).i = (SetTable.leap t.mask p.i p.perturb).1 ∧ (advN t (m + 1) p).perturb = (SetTable.leap t.mask p.i p.perturb).2 ∧ (advN t (m + 1) p).more ≤ 9
  | 0, p, h => by
    show (t.advance p).j = _ ∧ (t.advance p).i = _ ∧ (t.advance p).perturb = _ ∧ (t.advance p).more ≤ 9
    rw [adv_leap0 h]
    exact ⟨rfl, rfl, rfl, run_le _ _⟩
  | m + 1, p, h => by
    show (advN t (m + 1) (t.advance p)).j = _ ∧ (advN t (m + 1) (t.advance p)).i = _ ∧ (advN t (m + 1) (t.advance p)).perturb = _ ∧ (advN t (m + 1) (t.advance p)).more ≤ 9
    rw [adv_more (by omega)]
    exact adv_run m { p with j := p.j + 1, more := p.more - 1 } (by show p.more - 1 = m; omega)
theorem adv_leaps {t : SetTable} : ∀ (k : Nat) (p : SetTable.Probe), ∃ n, n ≤ p.more + 1 + 10 * k ∧ (advN t n p).j = (leapN t.mask (k + 1) p.i p.perturb).1
  | 0, p => ⟨p.more + 1, by omega, (adv_run p.more p rfl).1⟩
  | k + 1, p => by
    obtain ⟨h1, h2, h3, h4⟩ := adv_run (t := t) p.more p rfl
    obtain ⟨n, hn, e⟩ := adv_leaps k (advN t (p.more + 1) p)
    refine ⟨p.more + 1 + n, by omega, ?_⟩
    rw [advN_add, e, h2, h3]
    rfl
theorem missing : ∀ (n : Nat) (l : List Nat), (∀ e, e < n → e ∈ l) → n ≤ l.length
  | 0, _, _ => Nat.zero_le _
  | n + 1, l, h => by
    have h1 := missing n (l.erase n) fun e he => (List.mem_erase_of_ne (Nat.ne_of_lt he)).mpr (h e (Nat.lt_succ_of_lt he))
    rw [List.length_erase_of_mem (h n (Nat.lt_succ_self n))] at h1
    have h2 : 0 < l.length := List.length_pos_of_mem (h n (Nat.lt_succ_self n))
    omega
theorem slot_empty {t : SetTable} {j : Nat} (hd : t.dummies = #[]) (h : j ∉ t.place.toList) : t.slot j = .empty := by
  unfold SetTable.slot
  have h1 : (t.place[SetTable.below t.place j]? == some j) = false := by
    cases q : t.place[SetTable.below t.place j]? with
    | none => rfl
    | some x =>
      have hx : x ∈ t.place.toList := by
        rw [← Array.getElem?_toList] at q
        exact List.mem_of_getElem? q
      have : x ≠ j := fun e => h (e ▸ hx)
      simpa using this
  have h2 : SetTable.has t.dummies j = false := by rw [hd]; simp [SetTable.has]
  simp only [h1, h2, Bool.false_eq_true, if_false]
theorem slot_live {t : SetTable} {j i : Nat} (h : t.slot j = .live i) : i < t.place.size ∧ t.place[i]? = some j := by
  unfold SetTable.slot at h
  by_cases h1 : (t.place[SetTable.below t.place j]? == some j) = true
  · simp only [h1, if_true] at h
    cases h
    have := eq_of_beq h1
    exact ⟨(Array.getElem?_eq_some_iff.mp this).1, this⟩
  · simp only [h1] at h
    by_cases h2 : SetTable.has t.dummies j = true
    · simp only [h2, if_true] at h; cases h
    · simp only [h2] at h; cases h
theorem no_dummy {t : SetTable} {j : Nat} (hd : t.dummies = #[]) : t.slot j ≠ .dummy := by
  have h2 : SetTable.has t.dummies j = false := by rw [hd]; simp [SetTable.has]
  unfold SetTable.slot
  simp only [h2, Bool.false_eq_true, if_false]
  split <;> intro h <;> cases h
theorem meets {t : SetTable} (hm : t.mask = 7 ∨ t.mask = 31) (hd : t.dummies = #[]) (hs : t.place.size ≤ t.mask) {p : SetTable.Probe} (h1 : p.more ≤ 9) (h2 : p.i ≤ t.mask) (h3 : p.perturb < 2 ^ 64) :
    ∃ n, n < 10 * SetTable.turns t.mask ∧ t.slot (advN t n p).j = .empty := by
  have hx : ∃ e, e ≤ t.mask ∧ e ∉ t.place.toList := by
    refine Classical.byContradiction fun hc => ?_
    have := missing (t.mask + 1) t.place.toList fun e he => Classical.byContradiction fun hn => hc ⟨e, Nat.le_of_lt_succ he, hn⟩
    rw [Array.length_toList] at this
    omega
  obtain ⟨e, he, hne⟩ := hx
  obtain ⟨k, hk1, hk2, hk3⟩ := leap_cover hm h2 h3 he
  obtain ⟨k', rfl⟩ : ∃ k', k = k' + 1 := ⟨k - 1, by omega⟩
  obtain ⟨n, hn, hj⟩ := adv_leaps (t := t) k' p
  refine ⟨n, ?_, ?_⟩
  · unfold SetTable.turns; omega
  · rw [hj, hk3]; exact slot_empty hd hne
theorem adv_dummy {t : SetTable} {p : SetTable.Probe} : (t.advance p).dummy = p.dummy := by
  unfold SetTable.advance; split <;> rfl
theorem go_spec {t : SetTable} {f : Nat → Int} {h : Int} (hd : t.dummies = #[]) : ∀ (n : Nat) (p : SetTable.Probe) (fuel : Nat), n < fuel → t.slot (advN t n p).j = .empty → p.dummy = none →
    (∃ m, m ≤ n ∧ t.slot (advN t m p).j = .empty ∧ (∀ l, l < m → ∃ i, t.slot (advN t l p).j = .live i ∧ f i ≠ h) ∧ SetTable.probe.go t f h fuel p = some (.empty (advN t m p).j none)) ∨
    (∃ m i, m < n ∧ t.slot (advN t m p).j = .live i ∧ f i = h ∧ (advN t (m + 1) p).dummy = none ∧ (∀ l, l < m → ∃ i, t.slot (advN t l p).j = .live i ∧ f i ≠ h) ∧ SetTable.probe.go t f h fuel p = some (.candidate (advN t m p).j i (advN t (m + 1) p)))
  | n, p, 0, hf, _, _ => absurd hf (Nat.not_lt_zero _)
  | n, p, fuel + 1, hf, he, hp => by
    unfold SetTable.probe.go
    cases q : t.slot p.j with
    | empty => exact .inl ⟨0, Nat.zero_le _, q, fun l hl => absurd hl (Nat.not_lt_zero _), by simp only [hp]; rfl⟩
    | dummy => exact absurd q (no_dummy hd)
    | live i =>
      have hn : n ≠ 0 := fun e => by subst e; have he' : t.slot p.j = .empty := he; rw [q] at he'; cases he'
      obtain ⟨n', rfl⟩ : ∃ n', n = n' + 1 := ⟨n - 1, by omega⟩
      by_cases hh : (f i == h) = true
      · refine .inr ⟨0, i, by omega, q, eq_of_beq hh, adv_dummy.trans hp, fun l hl => absurd hl (Nat.not_lt_zero _), ?_⟩
        simp only [hh, if_true]; rfl
      · simp only [hh, if_false]
        have first : ∀ m, (∀ l, l < m → ∃ i, t.slot (advN t l (t.advance p)).j = .live i ∧ f i ≠ h) → ∀ l, l < m + 1 → ∃ i, t.slot (advN t l p).j = .live i ∧ f i ≠ h := fun m hm l hl => by
          cases l with
          | zero => exact ⟨i, q, fun e => hh (by rw [e]; exact beq_self_eq_true h)⟩
          | succ l => exact hm l (by omega)
        rcases go_spec hd n' (t.advance p) fuel (by omega) he (adv_dummy.trans hp) with ⟨m, a1, a2, a6, a3⟩ | ⟨m, i', a1, a2, a3, a4, a6, a5⟩
        · exact .inl ⟨m + 1, by omega, a2, first m a6, a3⟩
        · exact .inr ⟨m + 1, i', by omega, a2, a3, a4, first m a6, a5⟩
theorem start_ok {t : SetTable} (h : Int) : (t.probeStart h).more ≤ 9 ∧ (t.probeStart h).i ≤ t.mask ∧ (t.probeStart h).perturb < 2 ^ 64 ∧ (t.probeStart h).dummy = none := by
  refine ⟨run_le _ _, Nat.le_of_lt_succ (Nat.mod_lt _ (Nat.succ_pos _)), ?_, rfl⟩
  show (h % (2 ^ 64 : Int)).toNat < 2 ^ 64
  have h1 := Int.emod_lt_of_pos h (show (0 : Int) < 2 ^ 64 by decide)
  have h2 := Int.emod_nonneg h (show (2 ^ 64 : Int) ≠ 0 by decide)
  omega
end FW
namespace FW
open PySem PySem.Spec PyProof.Rows L2
variable [Tabs]
section
variable {prog : Program} {w : World} {A : Around} {E : Value → Shared → Prop} {s : Shared}
abbrev TK (prog : Program) (w : World) := IsTupleKey (strKind prog w)
theorem class_val (n : Nat) {v : Value} (h : carriedByValue v = true) : ofAClassStatement n v = pure false := by
  cases v <;> first | (simp [carriedByValue] at h; done) | (unfold ofAClassStatement; rfl) | (cases n <;> rfl)
theorem class_tup {ks : List Str} {a : Addr} {Q : Bool → Shared → Prop} (hk : TK prog w s.heap ks a) (h : Q false s) : wpAny (model prog w) A (ofAClassStatement 8 (.ref a)) Q E s := by
  have hT := hk.typeIs
  obtain ⟨o, items, n, ho, _, hd, hi⟩ := hk
  unfold ofAClassStatement
  refine wpAny_bind (wpAny_typeOf hT ?_)
  show wpAny _ _ (do
    let underTuple ← if ("tuple" == "tuple") = true then pure true else isSubtype (.type "tuple") (.type "tuple")
    _) _ _ _
  rw [if_pos (by decide)]
  refine wpAny_bind (wpAny_pure ?_)
  simp only [Bool.not_true, Bool.false_eq_true, if_false]
  refine wpAny_bind (wpAny_seqItems ho hd ?_)
  refine wpAny_bind ?_
  show wpAny _ _ (forIn items _ _) _ _ s
  rw [← Array.forIn_toList]
  refine wpAny_forIn_list _ (fun rest r s' => r.1 = none ∧ s' = s ∧ ∀ v ∈ rest, carriedByValue v = true) _ ?_ ?_ _ _ ⟨rfl, rfl, hi.byValue⟩
  · rintro v rest r s' ⟨hr, rfl, hall⟩
    rw [class_val _ (hall v List.mem_cons_self)]
    refine wpAny_bind (wpAny_pure ?_)
    simp only [Bool.false_eq_true, if_false]
    exact wpAny_pure ⟨rfl, rfl, fun u hu' => hall u (List.mem_cons_of_mem _ hu')⟩
  · rintro ⟨r1, r2⟩ s' ⟨hr, rfl, _⟩
    simp only at hr
    subst hr
    exact wpAny_pure h
theorem seen_no {ks : List Str} {a : Addr} {stored : List Value} {Q : Bool → Shared → Prop} (hk : TK prog w s.heap ks a) (hs : ∀ y ∈ stored, ∃ ks b, y = .ref b ∧ TK prog w s.heap ks b) (h : Q false s) :
    wpAny (model prog w) A (searchCouldBeSeen (.ref a) stored) Q E s := by
  unfold searchCouldBeSeen
  refine wpAny_bind ?_
  refine wpAny_forIn_list _ (fun rest r s' => r.1 = none ∧ s' = s ∧ ∀ y ∈ rest, ∃ ks b, y = .ref b ∧ TK prog w s.heap ks b) _ ?_ ?_ _ _ ⟨rfl, rfl, hs⟩
  · rintro v rest r s' ⟨hr, rfl, hall⟩
    obtain ⟨ks', b, rfl, hb⟩ := hall v List.mem_cons_self
    have hrest : ∀ y ∈ rest, ∃ ks b, y = .ref b ∧ TK prog w s'.heap ks b := fun u hu' => hall u (List.mem_cons_of_mem _ hu')
    dsimp only
    by_cases hab : (a == b) = true
    · rw [if_pos (by simp [hab])]
      exact wpAny_pure ⟨rfl, rfl, hrest⟩
    · rw [if_neg (by simp only [hab, carriedByValue]; simp)]
      refine wpAny_bind (wpAny_eqIsQuiet_tuple hk ?_)
      simp only [Bool.not_true, Bool.false_eq_true, if_false]
      refine wpAny_bind (wpAny_eqIsQuiet_tuple hb ?_)
      simp only [Bool.not_true, Bool.false_eq_true, if_false]
      refine wpAny_bind (class_tup hk ?_)
      simp only [Bool.false_eq_true, if_false]
      refine wpAny_bind (class_tup hb ?_)
      simp only [Bool.false_eq_true, if_false]
      exact wpAny_pure ⟨rfl, rfl, hrest⟩
  · rintro ⟨r1, r2⟩ s' ⟨hr, rfl, _⟩
    simp only at hr
    subst hr
    exact wpAny_pure h
theorem same_ref {a : Addr} {Q : Bool → Shared → Prop} (h : Q true s) : wpAny (model prog w) A (isSame (.ref a) (.ref a)) Q E s := by
  unfold isSame
  simp only [beq_self_eq_true, if_true]
  exact wpAny_pure h
def Ents (prog : Program) (w : World) (h : Heap) (es : Array (Int × Value)) : Prop := ∀ e ∈ es.toList, ∃ ks b, e = (tupleKeyHash (strKind prog w) ks, .ref b) ∧ TK prog w h ks b
structure Tab (t : SetTable) (n : Nat) : Prop where
  mask : t.mask = 7 ∨ t.mask = 31
  dum : t.dummies = #[]
  size : t.place.size = n
  room : n * 5 < t.mask * 3
theorem Tab.fits {t : SetTable} {n : Nat} (h : Tab t n) : t.fits n = true := by
  have := h.room
  unfold SetTable.fits SetTable.fill
  rw [h.dum]
  simp only [h.size, beq_self_eq_true, Bool.true_and, decide_eq_true_eq]
  show n + 0 ≤ t.mask
  omega
theorem Tab.odd {t : SetTable} {n : Nat} (h : Tab t n) : t.gaveWay = false := by
  unfold SetTable.gaveWay
  rcases h.mask with e | e <;> rw [e] <;> rfl
def Reach (t : SetTable) (es : Array (Int × Value)) : Prop := ∀ (i : Nat) (h : Int) (x : Value), es[i]? = some (h, x) → ∃ n, t.slot (advN t n (t.probeStart h)).j = .live i ∧ ∀ m, m < n → t.slot (advN t m (t.probeStart h)).j ≠ .empty
theorem search_ok {S a : Addr} {o : Obj} {es : Array (Int × Value)} {ep : Nat} {t : SetTable} {ks : List Str} {h : Int} {Q : SetFound → Shared → Prop} (hu : A.units < cLine) (ho : s.heap.get? S = some o) (hd : o.data = .set es ep t) (ht : Tab t es.size) (he : Ents prog w s.heap es)
    (hr : Reach t es) (hh : h = tupleKeyHash (strKind prog w) ks)
    (hk : TK prog w s.heap ks a) (q1 : (∃ e ∈ es.toList, ∃ b, e.2 = .ref b ∧ TK prog w s.heap ks b) → Q (.there none) s)
    (q2 : ∀ m, t.slot (advN t m (t.probeStart h)).j = .empty → (∀ l, l < m → t.slot (advN t l (t.probeStart h)).j ≠ .empty) → (∀ e ∈ es.toList, ∀ b ks', e.2 = .ref b → TK prog w s.heap ks' b → ks' ≠ ks) → Q (.free (advN t m (t.probeStart h)).j false) s) :
    ∀ (n n0 : Nat) (fuel : Nat) (st : Option SetTable.Probe), n < fuel → n < 10 * SetTable.turns t.mask → st.getD (t.probeStart h) = advN t n0 (t.probeStart h) →
    (∀ l, l < n0 → ∃ i, t.slot (advN t l (t.probeStart h)).j = .live i ∧ ∀ e, es[i]? = some e → ∀ b ks', e.2 = .ref b → TK prog w s.heap ks' b → ks' ≠ ks) → t.slot (advN t n (advN t n0 (t.probeStart h))).j = .empty → (advN t n0 (t.probeStart h)).dummy = none →
    wpAny (model prog w) A (setSearchFrom S (.ref a) h true fuel st) Q E s := by
  intro n
  induction n using Nat.strongRecOn with
  | ind n ih =>
    intro n0 fuel st hf hn hst hp hx hm
    obtain ⟨fuel, rfl⟩ : ∃ f, fuel = f + 1 := ⟨fuel - 1, by omega⟩
    unfold setSearchFrom
    refine wpAny_bind (wpAny_setState_of ho hd ht.fits ?_)
    dsimp only
    rw [ht.odd, hst]
    simp only [Bool.false_eq_true, if_false]
    unfold SetTable.probe
    have off : ∀ {i : Nat} {e : Int × Value}, es[i]? = some e → e.1 ≠ h → ∀ b ks', e.2 = .ref b → TK prog w s.heap ks' b → ks' ≠ ks := fun {i e} hie hne b ks' hb hkb hc => by
      have hmem : e ∈ es.toList := by rw [← Array.getElem?_toList] at hie; exact List.mem_of_getElem? hie
      obtain ⟨ks2, b2, rfl, h2⟩ := he e hmem
      cases hb
      rw [h2.inj hkb, hc] at hne
      exact hne hh.symm
    rcases go_spec (f := _) (h := h) ht.dum n _ (10 * SetTable.turns t.mask) hn hx hm with ⟨m, a1, a2, a6, a3⟩ | ⟨m, i, a1, a2, a3, a4, a6, a5⟩
    · rw [a3]
      dsimp only
      have a2' := a2
      rw [← advN_add] at a2' ⊢
      have path : ∀ l, l < n0 + m → ∃ i, t.slot (advN t l (t.probeStart h)).j = .live i ∧ ∀ e, es[i]? = some e → ∀ b ks', e.2 = .ref b → TK prog w s.heap ks' b → ks' ≠ ks := fun l hl => by
        by_cases hl0 : l < n0
        · exact hp l hl0
        · obtain ⟨i, b1, b2⟩ := a6 (l - n0) (by omega)
          rw [← advN_add, show n0 + (l - n0) = l by omega] at b1
          refine ⟨i, b1, fun e hie => off hie fun hc => b2 ?_⟩
          show (es[i]?.map (·.1)).getD 0 = h
          rw [hie]; exact hc
      refine wpAny_pure (q2 (n0 + m) a2' (fun l hl hc => ?_) fun e hmem b ks' hb hkb hc => ?_)
      · obtain ⟨i, b1, _⟩ := path l hl
        rw [b1] at hc; cases hc
      · obtain ⟨i, hi⟩ := List.mem_iff_getElem?.mp hmem
        rw [Array.getElem?_toList] at hi
        obtain ⟨ks2, b2, rfl, h2⟩ := he e hmem
        cases hb
        obtain rfl := h2.inj hkb
        subst hc
        obtain ⟨n1, c1, c2⟩ := hr i _ _ hi
        rw [← hh] at c1 c2
        have hlt : n1 < n0 + m := by
          rcases Nat.lt_or_ge n1 (n0 + m) with c | c
          · exact c
          · rcases Nat.lt_or_ge (n0 + m) n1 with c' | c'
            · exact absurd a2' (c2 _ c')
            · have : n1 = n0 + m := by omega
              rw [this, a2'] at c1; cases c1
        obtain ⟨i', b1, b2⟩ := path n1 hlt
        rw [c1] at b1; cases b1
        exact b2 _ hi _ _ rfl hkb rfl
    · rw [a5]
      dsimp only
      have hi : i < es.size := by rw [← ht.size]; exact (slot_live a2).1
      have hei : es[i]? = some es[i] := Array.getElem?_eq_getElem hi
      have hmem : es[i] ∈ es.toList := Array.getElem_mem_toList hi
      obtain ⟨ks', b, e1, e2⟩ := he es[i] hmem
      have tail : wpAny (model prog w) A (do
          let some (_, y) := es[i]? | unsupported "internal:set-entry"
          let equal ← holding [y] (eqBool y (.ref a))
          let (es', _, t') ← setState S
          if true && equal then return .there none
          let some same := t'.sameMemory t.moves t.mask | unsupported "set.changed-during-lookup:is-the-new-block-at-the-old-address"
          let still ← match (if same then t'.slot (advN t m (advN t n0 (t.probeStart h))).j else .empty) with
            | .live i' => match es'[i']? with
              | some (_, y') => do pure (if ← isSame y' y then some i' else none)
              | none => pure none
            | _ => pure none
          match still with
          | none => rule "set.search.anew"; setSearchFrom S (.ref a) h true fuel none
          | some i' => if equal then return .there (some i') else setSearchFrom S (.ref a) h true fuel (some (advN t (m + 1) (advN t n0 (t.probeStart h))))) Q E s := by
        rw [hei, e1]
        dsimp only
        refine wpAny_bind (wpAny_holding (wpAny_eqBool_tuple hu e2 hk ?_))
        refine wpAny_bind (wpAny_setState_of ho hd ht.fits ?_)
        dsimp only
        cases hq : decide (ks' = ks) with
        | true =>
          simp only [Bool.and_self, if_true]
          have hq' := of_decide_eq_true hq
          subst hq'
          exact wpAny_pure (q1 ⟨_, hmem, b, by rw [e1], e2⟩)
        | false =>
          have hq' := of_decide_eq_false hq
          simp only [Bool.and_false, Bool.false_eq_true, if_false]
          have hsm : t.sameMemory t.moves t.mask = some true := by unfold SetTable.sameMemory; simp
          rw [hsm]
          dsimp only
          simp only [if_true, a2, hei, e1]
          refine wpAny_bind (same_ref (wpAny_bind (wpAny_pure ?_)))
          simp only [if_true]
          refine ih (n - (m + 1)) (by omega) (n0 + (m + 1)) fuel (some _) (by omega) (by omega) (show advN t (m + 1) (advN t n0 (t.probeStart h)) = advN t (n0 + (m + 1)) (t.probeStart h) from (advN_add t n0 (m + 1) _).symm) (fun l hl => ?_) ?_ ((congrArg SetTable.Probe.dummy (advN_add t n0 (m + 1) _)).trans a4)
          · by_cases hl0 : l < n0
            · exact hp l hl0
            · by_cases hl1 : l < n0 + m
              · obtain ⟨i', b1, b2⟩ := a6 (l - n0) (by omega)
                rw [← advN_add, show n0 + (l - n0) = l by omega] at b1
                refine ⟨i', b1, fun e hie => off hie fun hc => b2 ?_⟩
                show (es[i']?.map (·.1)).getD 0 = h
                rw [hie]; exact hc
              · have : l = n0 + m := by omega
                subst this
                refine ⟨i, by rw [advN_add]; exact a2, fun e hie b' ks2 hb hkb hc => ?_⟩
                rw [hei] at hie; cases hie
                rw [e1] at hb; cases hb
                exact hq' ((e2.inj hkb).trans hc)
          · rw [advN_add t n0 (m + 1), ← advN_add t (m + 1), show m + 1 + (n - (m + 1)) = n by omega]
            exact hx
      cases hl : t.led with
      | true =>
        simp only [Bool.not_true, Bool.false_eq_true, if_false]
        exact tail
      | false =>
        simp only [Bool.not_false, if_true]
        refine wpAny_bind (seen_no hk (fun y hy => ?_) ?_)
        · obtain ⟨e, h1, rfl⟩ := List.mem_map.mp hy
          have h2 : e ∈ es.toList := by
            have := Array.mem_toList_iff.mp h1
            exact Array.mem_toList_iff.mpr (Array.mem_filter.mp this).1
          obtain ⟨ks2, b2, rfl, hb2⟩ := he e h2
          exact ⟨ks2, b2, rfl, hb2⟩
        · simp only [Bool.false_eq_true, if_false]
          exact tail
end
end FW
namespace FW
open PySem PySem.Spec PyProof.Rows L2
variable [Tabs]
def Rise (xs : Array Nat) : Prop := ∀ (i k a b : Nat), i < k → xs[i]? = some a → xs[k]? = some b → a < b
theorem below_go {xs : Array Nat} {j : Nat} (hr : Rise xs) : ∀ (fuel lo hi : Nat), hi - lo ≤ fuel → lo ≤ hi → hi ≤ xs.size → (∀ i a, i < lo → xs[i]? = some a → a < j) → (∀ i a, hi ≤ i → xs[i]? = some a → j ≤ a) →
    SetTable.below.go xs j fuel lo hi ≤ xs.size ∧ (∀ i a, i < SetTable.below.go xs j fuel lo hi → xs[i]? = some a → a < j) ∧ (∀ i a, SetTable.below.go xs j fuel lo hi ≤ i → xs[i]? = some a → j ≤ a)
  | 0, lo, hi, hf, hl, hh, h1, h2 => by
    have : lo = hi := by omega
    subst this
    exact ⟨hh, h1, h2⟩
  | fuel + 1, lo, hi, hf, hl, hh, h1, h2 => by
    unfold SetTable.below.go
    by_cases hlt : lo < hi
    · simp only [hlt, if_true]
      have hm : (lo + hi) / 2 < xs.size := by omega
      have hg : xs[(lo + hi) / 2]? = some (xs.getD ((lo + hi) / 2) j) := by simp [Array.getD, hm]
      by_cases hc : xs.getD ((lo + hi) / 2) j < j
      · simp only [hc, if_true]
        refine below_go hr fuel _ _ (by omega) (by omega) hh (fun i a hi' he => ?_) h2
        rcases Nat.lt_or_ge i ((lo + hi) / 2) with c | c
        · exact Nat.lt_trans (hr i _ _ _ c he hg) hc
        · have : i = (lo + hi) / 2 := by omega
          subst this
          rw [hg] at he; cases he; exact hc
      · simp only [hc, if_false]
        refine below_go hr fuel _ _ (by omega) (by omega) (by omega) h1 (fun i a hi' he => ?_)
        rcases Nat.lt_or_ge ((lo + hi) / 2) i with c | c
        · exact Nat.le_trans (Nat.le_of_not_lt hc) (Nat.le_of_lt (hr _ i _ _ c hg he))
        · have : i = (lo + hi) / 2 := by omega
          subst this
          rw [hg] at he; cases he; exact Nat.le_of_not_lt hc
    · simp only [hlt, if_false]
      have : lo = hi := by omega
      subst this
      exact ⟨hh, h1, h2⟩
theorem below_spec {xs : Array Nat} (hr : Rise xs) (j : Nat) : SetTable.below xs j ≤ xs.size ∧ (∀ i a, i < SetTable.below xs j → xs[i]? = some a → a < j) ∧ (∀ i a, SetTable.below xs j ≤ i → xs[i]? = some a → j ≤ a) :=
  below_go hr xs.size 0 xs.size (by omega) (Nat.zero_le _) (Nat.le_refl _) (fun i a h => absurd h (Nat.not_lt_zero _)) fun i a h e => by
    have := (Array.getElem?_eq_some_iff.mp e).1
    omega
theorem below_at {xs : Array Nat} (hr : Rise xs) {i j : Nat} (h : xs[i]? = some j) : SetTable.below xs j = i := by
  obtain ⟨h1, h2, h3⟩ := below_spec hr j
  rcases Nat.lt_trichotomy (SetTable.below xs j) i with c | c | c
  · have hb : SetTable.below xs j < xs.size := Nat.lt_trans c (Array.getElem?_eq_some_iff.mp h).1
    have e : xs[SetTable.below xs j]? = some xs[SetTable.below xs j] := Array.getElem?_eq_getElem hb
    have l1 := hr _ _ _ _ c e h
    have l2 := h3 _ _ (Nat.le_refl _) e
    omega
  · exact c
  · have := h2 i j c h
    omega
theorem slot_of {t : SetTable} (hr : Rise t.place) {i j : Nat} (h : t.place[i]? = some j) : t.slot j = .live i := by
  unfold SetTable.slot
  rw [below_at hr h]
  show (if (t.place[i]? == some j) = true then SetTable.Slot.live i else _) = _
  rw [h, if_pos (beq_self_eq_true _)]
theorem ins_list {α : Type} (xs : Array α) (p : Nat) (x : α) : (SetTable.insertAt xs p x).toList = xs.toList.take p ++ x :: xs.toList.drop p := by
  unfold SetTable.insertAt
  simp
  exact List.take_of_length_le (by simp)
theorem ins_get {α : Type} {xs : Array α} {p : Nat} {x : α} (hp : p ≤ xs.size) (i : Nat) : (SetTable.insertAt xs p x)[i]? = if i < p then xs[i]? else if i = p then some x else xs[i - 1]? := by
  rw [← Array.getElem?_toList, ins_list]
  have hl : (xs.toList.take p).length = p := by rw [List.length_take, Array.length_toList]; omega
  by_cases h1 : i < p
  · rw [if_pos h1, List.getElem?_append_left (by rw [hl]; exact h1), List.getElem?_take, if_pos h1, Array.getElem?_toList]
  · rw [if_neg h1, List.getElem?_append_right (by rw [hl]; omega), hl]
    by_cases h2 : i = p
    · subst h2; simp
    · rw [if_neg h2, show i - p = (i - p - 1) + 1 by omega, List.getElem?_cons_succ, List.getElem?_drop, Array.getElem?_toList]
      congr 1; omega
theorem ins_size {α : Type} {xs : Array α} {p : Nat} {x : α} : (SetTable.insertAt xs p x).size = xs.size + 1 := by
  rw [← Array.length_toList, ins_list, List.length_append, List.length_cons, List.length_take, List.length_drop, Array.length_toList]
  omega
theorem rise_ins {xs : Array Nat} {j : Nat} (hr : Rise xs) (hj : j ∉ xs.toList) : Rise (SetTable.insertAt xs (SetTable.below xs j) j) := by
  obtain ⟨h1, h2, h3⟩ := below_spec hr j
  intro i k a b hik ha hb
  rw [ins_get h1] at ha hb
  have ne : ∀ {i a : Nat}, xs[i]? = some a → a ≠ j := fun e hc => hj (by
    rw [← Array.getElem?_toList] at e; rw [← hc]; exact List.mem_of_getElem? e)
  by_cases c1 : i < SetTable.below xs j
  · rw [if_pos c1] at ha
    by_cases c2 : k < SetTable.below xs j
    · rw [if_pos c2] at hb; exact hr i k a b hik ha hb
    · rw [if_neg c2] at hb
      by_cases c3 : k = SetTable.below xs j
      · rw [if_pos c3] at hb; cases hb; exact h2 i a c1 ha
      · rw [if_neg c3] at hb
        exact hr i (k - 1) a b (by omega) ha hb
  · rw [if_neg c1] at ha
    by_cases c2 : k < SetTable.below xs j
    · omega
    · rw [if_neg c2] at hb
      by_cases c3 : i = SetTable.below xs j
      · rw [if_pos c3] at ha; cases ha
        rw [if_neg (by omega)] at hb
        have := h3 (k - 1) b (by omega) hb
        have := ne hb
        omega
      · rw [if_neg c3] at ha
        rw [if_neg (by omega)] at hb
        exact hr (i - 1) (k - 1) a b (by omega) ha hb
theorem adv_mask {t t' : SetTable} (h : t.mask = t'.mask) (p : SetTable.Probe) : t.advance p = t'.advance p := by unfold SetTable.advance; rw [h]
theorem advN_mask {t t' : SetTable} (h : t.mask = t'.mask) : ∀ (n : Nat) (p : SetTable.Probe), advN t n p = advN t' n p
  | 0, _ => rfl
  | n + 1, p => by
    show advN t n (t.advance p) = advN t' n (t'.advance p)
    rw [adv_mask h, advN_mask h n]
theorem start_mask {t t' : SetTable} (h : t.mask = t'.mask) (x : Int) : t.probeStart x = t'.probeStart x := by unfold SetTable.probeStart; rw [h]
theorem put_ok {t t' : SetTable} {es : Array (Int × Value)} {h : Int} {x : Value} {m : Nat} (hd : t.dummies = #[]) (hs : t.place.size = es.size) (hr : Rise t.place) (hR : Reach t es) (he : t.slot (advN t m (t.probeStart h)).j = .empty) (hl : ∀ l, l < m → t.slot (advN t l (t.probeStart h)).j ≠ .empty)
    (hm : t.mask = t'.mask) (hp : t'.place = SetTable.insertAt t.place (SetTable.below t.place (advN t m (t.probeStart h)).j) (advN t m (t.probeStart h)).j) :
    Rise t'.place ∧ Reach t' (SetTable.insertAt es (SetTable.below t.place (advN t m (t.probeStart h)).j) (h, x)) := by
  have hj : (advN t m (t.probeStart h)).j ∉ t.place.toList := fun hc => by
    obtain ⟨i, hi⟩ := List.mem_iff_getElem?.mp hc
    rw [Array.getElem?_toList] at hi
    rw [slot_of hr hi] at he; cases he
  generalize hjj : (advN t m (t.probeStart h)).j = j at *
  have hr' : Rise t'.place := by rw [hp]; exact rise_ins hr hj
  obtain ⟨h1, h2, h3⟩ := below_spec hr j
  generalize hpp : SetTable.below t.place j = p at *
  have hnew : t'.slot j = .live p := slot_of hr' (by rw [hp, ins_get h1, if_neg (Nat.lt_irrefl _), if_pos rfl])
  have hold : ∀ {i jj : Nat}, t.slot jj = .live i → t'.slot jj = .live (if i < p then i else i + 1) := fun {i jj} hi => by
    have hpl := (slot_live hi).2
    refine slot_of hr' ?_
    rw [hp, ins_get h1]
    by_cases c : i < p
    · rw [if_pos c, if_pos c]; exact hpl
    · rw [if_neg c, if_neg (by omega), if_neg (by omega)]; exact hpl
  have hnon : ∀ {jj : Nat}, t.slot jj ≠ .empty → t'.slot jj ≠ .empty := fun {jj} hne => by
    cases q : t.slot jj with
    | empty => exact absurd q hne
    | dummy => exact absurd q (no_dummy hd)
    | live i => rw [hold q]; intro hc; cases hc
  refine ⟨hr', fun i h' x' hi => ?_⟩
  rw [ins_get (by rw [← hs]; exact h1)] at hi
  by_cases c1 : i < p
  · rw [if_pos c1] at hi
    obtain ⟨n, a1, a2⟩ := hR i h' x' hi
    refine ⟨n, ?_, fun m' hm' => ?_⟩
    · rw [← start_mask hm, ← advN_mask hm, hold a1, if_pos c1]
    · rw [← start_mask hm, ← advN_mask hm]; exact hnon (a2 m' hm')
  · rw [if_neg c1] at hi
    by_cases c2 : i = p
    · rw [if_pos c2] at hi
      cases hi
      refine ⟨m, ?_, fun m' hm' => ?_⟩
      · rw [← start_mask hm, ← advN_mask hm, hjj, hnew, c2]
      · rw [← start_mask hm, ← advN_mask hm]; exact hnon (hl m' hm')
    · rw [if_neg c2] at hi
      obtain ⟨n, a1, a2⟩ := hR (i - 1) h' x' hi
      refine ⟨n, ?_, fun m' hm' => ?_⟩
      · rw [← start_mask hm, ← advN_mask hm, hold a1, if_neg (by omega), show i - 1 + 1 = i by omega]
      · rw [← start_mask hm, ← advN_mask hm]; exact hnon (a2 m' hm')
end FW
namespace FW
open PySem PySem.Spec PyProof.Rows L2
variable [Tabs]
theorem adv_in {t : SetTable} : ∀ (k : Nat) (p : SetTable.Probe), k ≤ p.more → (advN t k p).j = p.j + k
  | 0, p, _ => rfl
  | k + 1, p, h => by
    show (advN t k (t.advance p)).j = _
    rw [adv_more (by omega), adv_in k _ (by show k ≤ p.more - 1; omega)]
    show p.j + 1 + k = _
    omega
theorem adv_next {t : SetTable} : ∀ (m : Nat) (p : SetTable.Probe), p.more = m → advN t (m + 1) p = { p with j := (SetTable.leap t.mask p.i p.perturb).1, more := SetTable.runEnd t.mask (SetTable.leap t.mask p.i p.perturb).1 - (SetTable.leap t.mask p.i p.perturb).1, i := (SetTable.leap t.mask p.i p.perturb).1, perturb := (SetTable.leap t.mask p.i p.perturb).2 }
  | 0, p, h => adv_leap0 h
  | m + 1, p, h => by
    show advN t (m + 1) (t.advance p) = _
    rw [adv_more (by omega), adv_next m _ (by show p.more - 1 = m; omega)]
theorem run_mask {mask i : Nat} (h : i ≤ mask) : i ≤ SetTable.runEnd mask i ∧ SetTable.runEnd mask i ≤ mask := by unfold SetTable.runEnd; split <;> omega
theorem leap_le {mask i p : Nat} : (SetTable.leap mask i p).1 ≤ mask := Nat.le_of_lt_succ (Nat.mod_lt _ (Nat.succ_pos mask))
section
variable {mask : Nat} {owner : Array (Option Nat)}
theorem free_ok {t : SetTable} (hm : t.mask = mask) (hs : owner.size = mask + 1) : ∀ (fuel : Nat) (p : SetTable.Probe) (j : Nat), p.i ≤ mask → p.j = p.i → p.more = SetTable.runEnd mask p.i - p.i → SetTable.layClean.free mask owner fuel p.i p.perturb = some j →
    ∃ n, (advN t n p).j = j ∧ owner[j]? = some none ∧ ∀ m, m < n → ∃ v, owner[(advN t m p).j]? = some (some v)
  | 0, p, j, _, _, _, h => by unfold SetTable.layClean.free at h; cases h
  | fuel + 1, p, j, hi, hj, hr, h => by
    unfold SetTable.layClean.free at h
    have ⟨r1, r2⟩ := run_mask hi
    have occ : ∀ k, p.i + k ≤ mask → (owner.getD (p.i + k) (some 0)).isNone = false → ∃ v, owner[p.i + k]? = some (some v) := fun k hk hn => by
      have hb : p.i + k < owner.size := by omega
      have e : owner.getD (p.i + k) (some 0) = owner[p.i + k] := by simp [Array.getD, hb]
      rw [e] at hn
      rw [Array.getElem?_eq_getElem hb]
      cases q : owner[p.i + k] with
      | none => rw [q] at hn; cases hn
      | some v => exact ⟨v, rfl⟩
    cases q : (List.range (SetTable.runEnd mask p.i + 1 - p.i)).find? fun k => (owner.getD (p.i + k) (some 0)).isNone with
    | some k =>
      rw [q] at h
      cases h
      rw [List.find?_range_eq_some] at q
      obtain ⟨q1, q2, q3⟩ := q
      have hk := List.mem_range.mp q2
      refine ⟨k, by rw [adv_in k p (by omega), hj], ?_, fun m hm' => ?_⟩
      · have hb : p.i + k < owner.size := by omega
        have e : owner.getD (p.i + k) (some 0) = owner[p.i + k] := by simp [Array.getD, hb]
        rw [e] at q1
        rw [Array.getElem?_eq_getElem hb]
        cases q : owner[p.i + k] with
        | none => rfl
        | some v => rw [q] at q1; cases q1
      · rw [adv_in m p (by omega), hj]
        have := q3 m hm'
        exact occ m (by omega) (by simpa using this)
    | none =>
      rw [q] at h
      rw [List.find?_range_eq_none] at q
      have hn := adv_next (t := t) p.more p rfl
      rw [hm] at hn
      obtain ⟨n, a1, a2, a3⟩ := free_ok hm hs fuel (advN t (p.more + 1) p) j (by rw [hn]; exact leap_le) (by rw [hn]) (by rw [hn]) (by rw [hn]; exact h)
      refine ⟨p.more + 1 + n, by rw [advN_add]; exact a1, a2, fun m hm' => ?_⟩
      by_cases c : m < p.more + 1
      · rw [adv_in m p (by omega), hj]
        have := q m (by omega)
        exact occ m (by omega) (by simpa using this)
      · have e : m = p.more + 1 + (m - (p.more + 1)) := by omega
        rw [e, advN_add]
        exact a3 _ (by omega)
theorem free_some (hs : owner.size = mask + 1) : ∀ (fuel i p k : Nat), i ≤ mask → k < fuel → owner[(leapN mask k i p).1]? = some none → ∃ j, SetTable.layClean.free mask owner fuel i p = some j
  | 0, _, _, _, _, h, _ => absurd h (Nat.not_lt_zero _)
  | fuel + 1, i, p, k, hi, hk, he => by
    unfold SetTable.layClean.free
    cases q : (List.range (SetTable.runEnd mask i + 1 - i)).find? fun k => (owner.getD (i + k) (some 0)).isNone with
    | some k => exact ⟨_, rfl⟩
    | none =>
      cases k with
      | zero =>
        rw [List.find?_range_eq_none] at q
        have := q 0 (by have := (run_mask hi).1; omega)
        have he' : owner[i]? = some none := he
        have hb : i < owner.size := by omega
        have e : owner.getD (i + 0) (some 0) = none := by
          rw [Array.getElem?_eq_getElem hb] at he'
          have e1 : owner[i] = none := Option.some.inj he'
          simp [Array.getD, hb, e1]
        rw [e] at this
        cases this
      | succ k => exact free_some hs fuel _ _ k leap_le (by omega) he
end
structure Laid (t : SetTable) (owner : Array (Option Nat)) (hs : List Int) : Prop where
  size : owner.size = t.mask + 1
  at_ : ∃ P : List Nat, P.length = hs.length ∧ ∀ (v j : Nat), P[v]? = some j ↔ owner[j]? = some (some v)
  reach : ∀ (v : Nat) (h : Int), hs[v]? = some h → ∃ n, owner[(advN t n (t.probeStart h)).j]? = some (some v) ∧ ∀ m, m < n → ∃ v', owner[(advN t m (t.probeStart h)).j]? = some (some v')
def layStep (mask : Nat) (acc : Option (Array (Option Nat) × Nat)) (h : Int) : Option (Array (Option Nat) × Nat) := do
  let (owner, k) ← acc
  let j ← SetTable.layClean.free mask owner (SetTable.turns mask) (SetTable.bits h % (mask + 1)) (SetTable.bits h)
  pure (owner.setIfInBounds j (some k), k + 1)
theorem laid_step {t : SetTable} {owner : Array (Option Nat)} {hs : List Int} {h : Int} (hm : t.mask = 7 ∨ t.mask = 31) (L : Laid t owner hs) (hl : hs.length ≤ t.mask) : ∃ owner', layStep t.mask (some (owner, hs.length)) h = some (owner', (hs ++ [h]).length) ∧ Laid t owner' (hs ++ [h]) := by
  obtain ⟨P, hP, hPo⟩ := L.at_
  have hx : ∃ e, e ≤ t.mask ∧ e ∉ P := by
    refine Classical.byContradiction fun hc => ?_
    have := missing (t.mask + 1) P fun e he => Classical.byContradiction fun hn => hc ⟨e, Nat.le_of_lt_succ he, hn⟩
    omega
  obtain ⟨e, he, hne⟩ := hx
  have hoe : owner[e]? = some none := by
    have hb : e < owner.size := by rw [L.size]; omega
    rw [Array.getElem?_eq_getElem hb]
    cases q : owner[e] with
    | none => rfl
    | some v =>
      have := (hPo v e).mpr (by rw [Array.getElem?_eq_getElem hb, q])
      exact absurd (List.mem_of_getElem? this) hne
  obtain ⟨s1, s2, s3, s4⟩ := start_ok (t := t) h
  obtain ⟨k, hk1, hk2, hk3⟩ := leap_cover hm s2 s3 he
  obtain ⟨j, hj⟩ := free_some L.size (SetTable.turns t.mask) (t.probeStart h).i (t.probeStart h).perturb k s2 (by unfold SetTable.turns; omega) (by rw [hk3]; exact hoe)
  obtain ⟨n, a1, a2, a3⟩ := free_ok rfl L.size (SetTable.turns t.mask) (t.probeStart h) j s2 rfl rfl hj
  have hjb : j < owner.size := (Array.getElem?_eq_some_iff.mp a2).1
  refine ⟨owner.setIfInBounds j (some hs.length), ?_, ?_⟩
  · unfold layStep
    show (do let j ← SetTable.layClean.free t.mask owner (SetTable.turns t.mask) (t.probeStart h).i (t.probeStart h).perturb; pure (owner.setIfInBounds j (some hs.length), hs.length + 1)) = _
    rw [hj]
    simp
  · have hget : ∀ b, (owner.setIfInBounds j (some hs.length))[b]? = if j = b then some (some hs.length) else owner[b]? := fun b => by
      rw [Array.getElem?_setIfInBounds]
      by_cases c : j = b
      · rw [if_pos c, if_pos c, if_pos (by omega)]
      · rw [if_neg c, if_neg c]
    have hocc : ∀ {b v : Nat}, owner[b]? = some (some v) → (owner.setIfInBounds j (some hs.length))[b]? = some (some v) := fun {b v} e => by
      rw [hget, if_neg (fun c => by subst c; rw [a2] at e; cases e)]
      exact e
    refine ⟨by rw [Array.size_setIfInBounds]; exact L.size, ⟨P ++ [j], by simp [hP], fun v b => ?_⟩, fun v h' hv => ?_⟩
    · rw [hget]
      by_cases c : v < P.length
      · rw [List.getElem?_append_left c]
        constructor
        · intro e
          have := (hPo v b).mp e
          rw [if_neg (fun c' => by subst c'; rw [a2] at this; cases this)]
          exact this
        · intro e
          by_cases c' : j = b
          · rw [if_pos c'] at e; cases e; omega
          · rw [if_neg c'] at e; exact (hPo v b).mpr e
      · rw [List.getElem?_append_right (by omega)]
        constructor
        · intro e
          have hv : v = P.length := by
            cases q : v - P.length with
            | zero => omega
            | succ k => rw [q] at e; simp at e
          subst hv
          simp at e
          rw [if_pos e, hP]
        · intro e
          by_cases c' : j = b
          · rw [if_pos c'] at e; cases e
            rw [hP]; simp [c']
          · rw [if_neg c'] at e
            have := (hPo v b).mpr e
            have := (List.getElem?_eq_some_iff.mp this).1
            omega
    · by_cases c : v < hs.length
      · rw [List.getElem?_append_left c] at hv
        obtain ⟨n', b1, b2⟩ := L.reach v h' hv
        exact ⟨n', hocc b1, fun m hm' => let ⟨v', e⟩ := b2 m hm'; ⟨v', hocc e⟩⟩
      · rw [List.getElem?_append_right (by omega)] at hv
        have hv' : v = hs.length := by
          cases q : v - hs.length with
          | zero => omega
          | succ k => rw [q] at hv; simp at hv
        subst hv'
        simp at hv
        subst hv
        refine ⟨n, by rw [a1, hget, if_pos rfl], fun m hm' => ?_⟩
        obtain ⟨v', e⟩ := a3 m hm'
        exact ⟨v', hocc e⟩
theorem laid_all {t : SetTable} (hm : t.mask = 7 ∨ t.mask = 31) : ∀ (rest done : List Int) (owner : Array (Option Nat)), Laid t owner done → (done ++ rest).length ≤ t.mask → ∃ owner', rest.foldl (layStep t.mask) (some (owner, done.length)) = some (owner', (done ++ rest).length) ∧ Laid t owner' (done ++ rest)
  | [], done, owner, L, _ => ⟨owner, by simp, by simpa using L⟩
  | h :: rest, done, owner, L, hl => by
    obtain ⟨o1, e1, L1⟩ := laid_step (h := h) hm L (by simp at hl; omega)
    obtain ⟨o2, e2, L2⟩ := laid_all hm rest (done ++ [h]) o1 L1 (by simp at hl ⊢; omega)
    refine ⟨o2, ?_, by simpa using L2⟩
    rw [List.foldl_cons, e1, e2]
    simp
theorem laid_none (t : SetTable) : Laid t (Array.replicate (t.mask + 1) none) [] := by
  have hg : ∀ (j : Nat) (v : Nat), (Array.replicate (t.mask + 1) (none : Option Nat))[j]? ≠ some (some v) := fun j v h => by
    rw [Array.getElem?_replicate] at h
    split at h
    · cases h
    · cases h
  exact ⟨by simp, ⟨[], rfl, fun v j => ⟨fun h => by simp at h, fun h => absurd h (hg j v)⟩⟩, fun v h hv => by simp at hv⟩
theorem layClean_ok {t : SetTable} (hm : t.mask = 7 ∨ t.mask = 31) {hashes : Array Int} (hl : hashes.size ≤ t.mask) : ∃ owner, SetTable.layClean t.mask hashes = some owner ∧ Laid t owner hashes.toList := by
  obtain ⟨o, e, L⟩ := laid_all hm hashes.toList [] _ (laid_none t) (by simpa using hl)
  refine ⟨o, ?_, by simpa using L⟩
  unfold SetTable.layClean
  rw [← Array.foldl_toList]
  show (hashes.toList.foldl (layStep t.mask) (some (Array.replicate (t.mask + 1) none, 0))).map (·.1) = some o
  have e' : hashes.toList.foldl (layStep t.mask) (some (Array.replicate (t.mask + 1) none, 0)) = some (o, ([] ++ hashes.toList).length) := e
  rw [e']; rfl
end FW
namespace FW
open PySem PySem.Spec PyProof.Rows L2
variable [Tabs]
def liveL (mask : Nat) (owner : Array (Option Nat)) : List (Nat × Nat) := (List.range (mask + 1)).filterMap fun j => (owner.getD j none).map (j, ·)
theorem live_mem {mask : Nat} {owner : Array (Option Nat)} (hs : owner.size = mask + 1) {j v : Nat} : (j, v) ∈ liveL mask owner ↔ owner[j]? = some (some v) := by
  unfold liveL
  rw [List.mem_filterMap]
  constructor
  · rintro ⟨j', h1, h2⟩
    have hb : j' < owner.size := by rw [hs]; exact List.mem_range.mp h1
    have e : owner.getD j' none = owner[j'] := by simp [Array.getD, hb]
    rw [e] at h2
    cases q : owner[j'] with
    | none => rw [q] at h2; cases h2
    | some v' =>
      rw [q] at h2
      cases h2
      rw [Array.getElem?_eq_getElem hb, q]
  · intro h
    have hb : j < owner.size := (Array.getElem?_eq_some_iff.mp h).1
    refine ⟨j, List.mem_range.mpr (by omega), ?_⟩
    have e : owner.getD j none = owner[j] := by simp [Array.getD, hb]
    rw [Array.getElem?_eq_getElem hb] at h
    rw [e, Option.some.inj h]; rfl
theorem live_rise {mask : Nat} {owner : Array (Option Nat)} : (liveL mask owner).Pairwise fun a b => a.1 < b.1 := by
  unfold liveL
  rw [List.pairwise_filterMap]
  refine (List.pairwise_lt_range (n := mask + 1)).imp fun {a b} h x hx y hy => ?_
  cases q1 : owner.getD a none with
  | none => rw [q1] at hx; cases hx
  | some v1 =>
    cases q2 : owner.getD b none with
    | none => rw [q2] at hy; cases hy
    | some v2 =>
      rw [q1] at hx; rw [q2] at hy
      cases hx; cases hy
      exact h
theorem relaid_ok {t : SetTable} {es : Array (Int × Value)} {wanted : Nat} (hm : SetTable.sizeAbove wanted - 1 = 7 ∨ SetTable.sizeAbove wanted - 1 = 31) (hl : es.size ≤ SetTable.sizeAbove wanted - 1) :
    ∃ t' order, t.relaid (es.map (·.1)) wanted = some (t', order) ∧ t'.mask = SetTable.sizeAbove wanted - 1 ∧ t'.dummies = #[] ∧ t'.led = t.led ∧ t'.plain = t.plain ∧ t'.place.size = es.size ∧ Rise t'.place ∧
      (order.filterMap (es[·]?)).size = es.size ∧ (order.filterMap (es[·]?)).toList.Perm es.toList ∧ Reach t' (order.filterMap (es[·]?)) := by
  let t0 : SetTable := { mask := SetTable.sizeAbove wanted - 1, place := #[], dummies := #[], finger := t.finger, led := t.led, moves := t.movedTo (SetTable.sizeAbove wanted - 1), plain := t.plain }
  obtain ⟨owner, e, L⟩ := layClean_ok (t := t0) hm (hashes := es.map (·.1)) (by rw [Array.size_map]; exact hl)
  have e' : SetTable.layClean (SetTable.sizeAbove wanted - 1) (es.map (·.1)) = some owner := e
  obtain ⟨P, hP, hPo⟩ := L.at_
  have hPs : P.length = es.size := by rw [hP]; simp
  let lv := liveL (SetTable.sizeAbove wanted - 1) owner
  let t' : SetTable := { t0 with place := (lv.map (·.1)).toArray }
  have hsz : owner.size = SetTable.sizeAbove wanted - 1 + 1 := L.size
  have hmem : ∀ {j v : Nat}, (j, v) ∈ lv ↔ P[v]? = some j := fun {j v} => (live_mem hsz).trans (hPo v j).symm
  have hvlt : ∀ {p : Nat × Nat}, p ∈ lv → p.2 < es.size := fun {p} hp => by
    have := (List.getElem?_eq_some_iff.mp (hmem.mp (show (p.1, p.2) ∈ lv from hp))).1
    omega
  have hnd : (lv.map (·.2)).Nodup := by
    unfold List.Nodup
    rw [List.pairwise_map]
    refine List.Pairwise.imp_of_mem (fun {a b} ha hb h hc => ?_) live_rise
    have h1 := hmem.mp (show (a.1, a.2) ∈ lv from ha)
    have h2 := hmem.mp (show (b.1, b.2) ∈ lv from hb)
    rw [hc, h2] at h1
    have e := Option.some.inj h1
    omega
  have hperm : (lv.map (·.2)).Perm (List.range es.size) := by
    rw [List.perm_ext_iff_of_nodup hnd List.nodup_range]
    intro v
    rw [List.mem_map, List.mem_range]
    constructor
    · rintro ⟨p, hp, rfl⟩; exact hvlt hp
    · intro hv
      have : P[v]? = some P[v] := List.getElem?_eq_getElem (by omega)
      exact ⟨(P[v], v), hmem.mpr this, rfl⟩
  have hlen : lv.length = es.size := by
    have := hperm.length_eq
    rwa [List.length_map, List.length_range] at this
  have hrise : Rise t'.place := by
    intro i k a b hik ha hb
    have ha' : (lv.map (·.1))[i]? = some a := by simpa [t'] using ha
    have hb' : (lv.map (·.1))[k]? = some b := by simpa [t'] using hb
    have pw : (lv.map (·.1)).Pairwise (· < ·) := by rw [List.pairwise_map]; exact live_rise
    obtain ⟨ia, ea⟩ := List.getElem?_eq_some_iff.mp ha'
    obtain ⟨ib, eb⟩ := List.getElem?_eq_some_iff.mp hb'
    rw [← ea, ← eb]
    exact List.pairwise_iff_getElem.mp pw i k ia ib hik
  have hfm : ((lv.map (·.2)).toArray.filterMap (es[·]?)).toList = (lv.map (·.2)).map fun v => es.getD v (0, Value.none) := by
    rw [Array.toList_filterMap]
    refine fm_map fun v hv => ?_
    obtain ⟨p, hp, rfl⟩ := List.mem_map.mp hv
    have := hvlt hp
    simp [Array.getD, this]
  refine ⟨t', (lv.map (·.2)).toArray, ?_, rfl, rfl, rfl, rfl, ?_, hrise, ?_, ?_, fun r h x hr => ?_⟩
  · unfold SetTable.relaid SetTable.laid
    rw [e']
    rfl
  · show (lv.map (·.1)).toArray.size = _
    simp [hlen]
  · rw [← Array.length_toList, hfm]; simp [hlen]
  · rw [hfm]
    have h1 : ((lv.map (·.2)).map fun v => es.getD v (0, Value.none)).Perm ((List.range es.size).map fun v => es.getD v (0, Value.none)) := hperm.map _
    have h2 : ((List.range es.size).map fun v => es.getD v (0, Value.none)) = es.toList := by
      apply List.ext_getElem?
      intro i
      rw [List.getElem?_map]
      by_cases c : i < es.size
      · rw [List.getElem?_range c, Array.getElem?_toList, Array.getElem?_eq_getElem c]
        simp [Array.getD, c]
      · rw [Array.getElem?_toList (xs := es), Array.getElem?_eq_none (xs := es) (by omega), List.getElem?_eq_none (by simp; omega)]
        rfl
    rw [h2] at h1
    exact h1
  · rw [← Array.getElem?_toList, hfm, List.map_map, List.getElem?_map] at hr
    cases q : lv[r]? with
    | none => rw [q] at hr; cases hr
    | some p =>
      rw [q] at hr
      obtain ⟨j, v⟩ := p
      have hin : (j, v) ∈ lv := List.mem_of_getElem? q
      have hv := hvlt hin
      have ee : es[v] = (h, x) := by
        have : es.getD v (0, Value.none) = (h, x) := Option.some.inj hr
        rw [← this]; simp [Array.getD, hv]
      have hh : (es.map (·.1)).toList[v]? = some h := by
        rw [Array.getElem?_toList, Array.getElem?_map, Array.getElem?_eq_getElem hv, ee]; rfl
      obtain ⟨n, a1, a2⟩ := L.reach v h hh
      have hj : (advN t0 n (t0.probeStart h)).j = j := by
        have b1 := (hPo v _).mpr a1
        have b2 := hmem.mp hin
        rw [b1] at b2; exact Option.some.inj b2
      have hlive : ∀ {jj vv : Nat}, owner[jj]? = some (some vv) → ∃ i, t'.slot jj = .live i := fun {jj vv} hjj => by
        have : (jj, vv) ∈ lv := (live_mem hsz).mpr hjj
        obtain ⟨i, hi⟩ := List.mem_iff_getElem?.mp this
        refine ⟨i, slot_of hrise ?_⟩
        show (lv.map (·.1)).toArray[i]? = some jj
        simp [hi]
      refine ⟨n, ?_, fun m hm' => ?_⟩
      · show t'.slot (advN t' n (t'.probeStart h)).j = _
        rw [start_mask (show t'.mask = t0.mask from rfl), advN_mask (show t'.mask = t0.mask from rfl), hj]
        refine slot_of hrise ?_
        show (lv.map (·.1)).toArray[r]? = some j
        simp [q]
      · obtain ⟨v', e2⟩ := a2 m hm'
        rw [start_mask (show t'.mask = t0.mask from rfl), advN_mask (show t'.mask = t0.mask from rfl)]
        obtain ⟨i, hi⟩ := hlive e2
        rw [hi]; intro hc; cases hc
end FW
namespace FW
open PySem PySem.Spec PyProof.Rows L2
variable [Tabs]
section
variable {prog : Program} {w : World} {A : Around} {E : Value → Shared → Prop} {s : Shared}
abbrev KA := List Str × Addr
def entK (prog : Program) (w : World) (p : KA) : Int × Value := (tupleKeyHash (strKind prog w) p.1, .ref p.2)
structure SetIs (prog : Program) (w : World) (h : Heap) (S : Addr) (ps : List KA) (led : Bool) (es : Array (Int × Value)) (ep : Nat) (t : SetTable) : Prop where
  obj : h.get? S = some { cls := .type "set", dict := none, data := .set es ep t, slots := #[] }
  ents : es.toList = ps.map (entK prog w)
  tab : Tab t es.size
  rise : Rise t.place
  reach : Reach t es
  led : t.led = led
  plain : ps ≠ [] → t.plain = false
  nodup : (ps.map (·.1)).Nodup
  keys : ∀ p ∈ ps, TK prog w h p.1 p.2
theorem TK.same {h h' : Heap} {S : Addr} {ks : List Str} {a : Addr} {es : Array (Int × Value)} {ep : Nat} {t : SetTable} {o : Obj} (k : TK prog w h ks a) (ho : h.get? S = some o) (hd : o.data = .set es ep t) (hs : Heap.SameBut S h h') : TK prog w h' ks a := by
  obtain ⟨o', items, n, h1, h2, h3, h4⟩ := k
  refine ⟨o', items, n, ?_, h2, h3, h4⟩
  rw [hs.2 a (fun e => by subst e; rw [ho] at h1; cases h1; rw [hd] at h3; cases h3)]
  exact h1
theorem SetIs.ents' {h : Heap} {S : Addr} {ps : List KA} {led : Bool} {es : Array (Int × Value)} {ep : Nat} {t : SetTable} (I : SetIs prog w h S ps led es ep t) : Ents prog w h es := fun e he => by
  rw [I.ents] at he
  obtain ⟨p, hp, rfl⟩ := List.mem_map.mp he
  exact ⟨p.1, p.2, rfl, I.keys p hp⟩
theorem SetIs.size {h : Heap} {S : Addr} {ps : List KA} {led : Bool} {es : Array (Int × Value)} {ep : Nat} {t : SetTable} (I : SetIs prog w h S ps led es ep t) : es.size = ps.length := by
  rw [← Array.length_toList, I.ents, List.length_map]
theorem byValue_tup {ks : List Str} {a : Addr} {Q : Bool → Shared → Prop} (hk : TK prog w s.heap ks a) (hne : ks ≠ []) (h : Q false s) : wpAny (model prog w) A (hashByValue 8 (.ref a)) Q E s := by
  have hT := hk.typeIs
  obtain ⟨o, items, n, ho, _, hd, hi⟩ := hk
  unfold hashByValue
  refine wpAny_bind (wpAny_specialOf hT PySem.F.slot_tuple_hash.lookup ?_)
  dsimp only
  refine wpAny_bind (wpAny_seqItems ho hd ?_)
  refine wpAny_bind ?_
  show wpAny _ _ (forIn items _ _) _ _ s
  rw [← Array.forIn_toList]
  cases hi' : items.toList with
  | nil => rw [hi'] at hi; cases hi; exact absurd rfl hne
  | cons v vs =>
    rw [hi'] at hi
    cases hi with
    | @cons k _ ks' _ h1 _ =>
      have hv : ∃ x tk, v = .str x tk := by
        cases v with
        | str x tk => exact ⟨x, tk, rfl⟩
        | _ => exact absurd h1 (by simp [PySem.strKind, Value.isStrOf])
      obtain ⟨x, tk, rfl⟩ := hv
      rw [List.forIn_cons]
      have e : hashByValue 7 (.str x tk) = pure false := by unfold hashByValue; rfl
      refine wpAny_bind ?_
      rw [e]
      refine wpAny_bind (wpAny_pure ?_)
      simp only [Bool.not_false, if_true]
      exact wpAny_pure (wpAny_pure (wpAny_pure h))
theorem ents_perm {xs : Array (Int × Value)} {p : Nat} {e : Int × Value} : (SetTable.insertAt xs p e).toList.Perm (e :: xs.toList) := by
  rw [ins_list]
  refine List.perm_middle.trans ?_
  rw [List.take_append_drop]
theorem ents_keys {ps : List KA} : ∀ {l : List (Int × Value)}, l.Perm (ps.map (entK prog w)) → ∃ qs : List KA, l = qs.map (entK prog w) ∧ qs.Perm ps := fun {l} h => by
  obtain ⟨qs, h1, h2⟩ : ∃ qs : List KA, qs.Perm ps ∧ l = qs.map (entK prog w) := by
    have : ∀ {l m : List (Int × Value)}, l.Perm m → ∀ ps : List KA, m = ps.map (entK prog w) → ∃ qs : List KA, qs.Perm ps ∧ l = qs.map (entK prog w) := by
      intro l m hp
      induction hp with
      | nil => intro ps e; exact ⟨[], by cases ps with | nil => exact .nil | cons _ _ => simp at e, rfl⟩
      | cons x _ ih =>
        intro ps e
        cases ps with
        | nil => simp at e
        | cons p ps =>
          simp only [List.map_cons, List.cons.injEq] at e
          obtain ⟨rfl, e⟩ := e
          obtain ⟨qs, h1, rfl⟩ := ih ps e
          exact ⟨p :: qs, h1.cons p, rfl⟩
      | swap x y l =>
        intro ps e
        cases ps with
        | nil => simp at e
        | cons p ps =>
          cases ps with
          | nil => simp at e
          | cons q ps =>
            simp only [List.map_cons, List.cons.injEq] at e
            obtain ⟨rfl, rfl, rfl⟩ := e
            exact ⟨q :: p :: ps, List.Perm.swap p q ps, rfl⟩
      | trans _ _ ih1 ih2 =>
        intro ps e
        obtain ⟨qs, h1, h2⟩ := ih2 ps e
        obtain ⟨rs, h3, h4⟩ := ih1 qs h2
        exact ⟨rs, h3.trans h1, h4⟩
    exact this h ps rfl
  exact ⟨qs, h2, h1⟩
theorem relay_ok {S : Addr} {o : Obj} {es : Array (Int × Value)} {ep wanted : Nat} {t t3 : SetTable} {order : Array Nat} {Q : Unit → Shared → Prop} (ho : s.heap.get? S = some o) (hd : o.data = .set es ep t) (hf : t.fits es.size = true) (hz : SetTable.sizeAbove wanted ≤ sizeLine)
    (hr : t.relaid (es.map (·.1)) wanted = some (t3, order)) (hs : (order.filterMap (es[·]?)).size = es.size) (hs2 : es.size ≤ sizeLine) (h : Q () { s with heap := s.heap.update S (Obj.putSet (order.filterMap (es[·]?)) t3) }) :
    wpAny (model prog w) A (setRelay S wanted) Q E s := by
  unfold setRelay
  refine wpAny_bind (wpAny_setState_of ho hd hf ?_)
  dsimp only
  rw [if_neg (Nat.not_lt.mpr hz)]
  refine wpAny_bind ?_
  rw [hr]
  show wpAny _ _ (if ((order.filterMap (es[·]?)).size != es.size) = true then (unsupported "internal:set-table-lost-an-element" >>= fun _ => pure (order.filterMap (es[·]?), t3)) else pure (order.filterMap (es[·]?), t3)) _ _ _
  rw [if_neg (by rw [hs]; simp)]
  refine wpAny_pure ?_
  exact wpAny_storeSet_of ho hd h (by rw [hs]; exact hs2)
theorem add_ok {S a : Addr} {ps : List KA} {led : Bool} {es : Array (Int × Value)} {ep : Nat} {t : SetTable} {ks : List Str} {Q : Bool → Shared → Prop} (hu : A.units < cLine) (I : SetIs prog w s.heap S ps led es ep t) (hk : TK prog w s.heap ks a) (hne : ks ≠ []) (hl : ps.length + 1 ≤ 18)
    (q1 : ks ∈ ps.map (·.1) → Q false s)
    (q2 : ks ∉ ps.map (·.1) → ∀ h' ps' es' ep' t', Heap.SameBut S s.heap h' → SetIs prog w h' S ps' led es' ep' t' → ps'.Perm ((ks, a) :: ps) → Q true { s with heap := h' }) :
    wpAny (model prog w) A (setAddHashed S (.ref a) (tupleKeyHash (strKind prog w) ks)) Q E s := by
  unfold setAddHashed
  refine wpAny_holding ?_
  show wpAny _ _ (setAddHashedIn S (.ref a) (tupleKeyHash (strKind prog w) ks) (99999 + 1)) _ _ _
  unfold setAddHashedIn
  refine wpAny_bind (wpAny_setState_of I.obj rfl I.tab.fits ?_)
  dsimp only
  have hsc : byScan (.ref a) es = false := by unfold byScan Value.scannable; rfl
  rw [hsc]
  simp only [Bool.false_eq_true, if_false]
  obtain ⟨s1, s2, s3, s4⟩ := start_ok (t := t) (tupleKeyHash (strKind prog w) ks)
  obtain ⟨n, hn, hx⟩ := meets I.tab.mask I.tab.dum (by have := I.tab.room; have := I.tab.size; omega) s1 s2 s3
  have hbig : n < 100000 := by
    have : SetTable.turns t.mask ≤ 46 := by unfold SetTable.turns; rcases I.tab.mask with e | e <;> rw [e] <;> decide
    omega
  unfold setSearch
  refine wpAny_bind (search_ok hu I.obj rfl I.tab I.ents' I.reach rfl hk (fun hth => ?_) (fun m hm hml hno => ?_) n 0 100000 none hbig hn rfl (fun l hl' => absurd hl' (Nat.not_lt_zero _)) hx s4)
  · refine wpAny_pure (q1 ?_)
    obtain ⟨e, he, b, hb, hkb⟩ := hth
    rw [I.ents] at he
    obtain ⟨p, hp, rfl⟩ := List.mem_map.mp he
    cases hb
    rw [hkb.inj (I.keys p hp)]
    exact List.mem_map.mpr ⟨p, hp, rfl⟩
  · dsimp only
    have hnot : ks ∉ ps.map (·.1) := fun hc => by
      obtain ⟨p, hp, e⟩ := List.mem_map.mp hc
      exact hno (entK prog w p) (by rw [I.ents]; exact List.mem_map.mpr ⟨p, hp, rfl⟩) p.2 p.1 rfl (I.keys p hp) e
    refine wpAny_bind (wpAny_setState_of I.obj rfl I.tab.fits ?_)
    dsimp only
    generalize hj : (advN t m (t.probeStart (tupleKeyHash (strKind prog w) ks))).j = j at *
    have hdm : SetTable.has t.dummies j = false := by rw [I.tab.dum]; simp [SetTable.has]
    have hput : t.put j = ({ t with place := SetTable.insertAt t.place (SetTable.below t.place j) j }, SetTable.below t.place j) := by
      unfold SetTable.put
      simp only [hdm, Bool.false_eq_true, if_false]
    rw [hput]
    dsimp only
    have tail : ∀ t2 : SetTable, t2.mask = t.mask → t2.dummies = #[] → t2.place = SetTable.insertAt t.place (SetTable.below t.place j) j → t2.led = led → t2.plain = false →
        wpAny (model prog w) A (do
          storeSet S (SetTable.insertAt es (SetTable.below t.place j) (tupleKeyHash (strKind prog w) ks, .ref a)) t2
          if (!false && t2.tooFull) = true then setRelay S (SetTable.grown (es.size + 1))
          return true) Q E s := by
      intro t2 e1 e2 e3 e4 e5
      obtain ⟨r1, r2⟩ := put_ok (t := t) (t' := t2) (es := es) (h := tupleKeyHash (strKind prog w) ks) (x := .ref a) (m := m) I.tab.dum I.tab.size I.rise I.reach (by rw [hj]; exact hm) hml e1.symm (by rw [hj]; exact e3)
      rw [hj] at r2
      have hperm : (SetTable.insertAt es (SetTable.below t.place j) (tupleKeyHash (strKind prog w) ks, Value.ref a)).toList.Perm (((ks, a) :: ps).map (entK prog w)) := by
        refine ents_perm.trans ?_
        rw [List.map_cons, I.ents]
        exact List.Perm.refl _
      obtain ⟨qs, hq1, hq2⟩ := ents_keys hperm
      have hsz : (SetTable.insertAt es (SetTable.below t.place j) (tupleKeyHash (strKind prog w) ks, Value.ref a)).size = es.size + 1 := ins_size
      have hps : t2.place.size = es.size + 1 := by rw [e3, ins_size, I.tab.size]
      have hes := I.size
      refine wpAny_bind (wpAny_storeSet_of I.obj rfl ?_ (by rw [hsz, sizeLine_eq]; omega))
      have hob : (s.heap.update S (Obj.putSet (SetTable.insertAt es (SetTable.below t.place j) (tupleKeyHash (strKind prog w) ks, Value.ref a)) t2)).get? S = some { cls := .type "set", dict := none, data := .set (SetTable.insertAt es (SetTable.below t.place j) (tupleKeyHash (strKind prog w) ks, Value.ref a)) (ep + 1) t2, slots := #[] } :=
        Heap.get?_update_self _ I.obj rfl
      have hsb := Heap.SameBut.update s.heap S (Obj.putSet (SetTable.insertAt es (SetTable.below t.place j) (tupleKeyHash (strKind prog w) ks, Value.ref a)) t2)
      have hkeys : ∀ {h' : Heap}, Heap.SameBut S s.heap h' → ∀ {qs : List KA}, qs.Perm ((ks, a) :: ps) → ∀ p ∈ qs, TK prog w h' p.1 p.2 := fun {h'} hs {qs} hq p hp => by
        rcases List.mem_cons.mp (hq.mem_iff.mp hp) with rfl | hp
        · exact hk.same I.obj rfl hs
        · exact (I.keys p hp).same I.obj rfl hs
      have hnd : ∀ {qs : List KA}, qs.Perm ((ks, a) :: ps) → (qs.map (·.1)).Nodup := fun {qs} hq => by
        have := (hq.map (·.1)).nodup_iff.mpr (by rw [List.map_cons, List.nodup_cons]; exact ⟨hnot, I.nodup⟩)
        exact this
      simp only [Bool.not_false, Bool.true_and]
      cases hf : t2.tooFull with
      | false =>
        simp only [Bool.false_eq_true, if_false]
        refine wpAny_pure (q2 hnot _ qs _ _ t2 hsb ⟨hob, hq1, ⟨by rw [e1]; exact I.tab.mask, e2, by rw [hps, hsz], ?_⟩, r1, r2, e4, fun _ => e5, hnd hq2, hkeys hsb hq2⟩ hq2)
        rw [hsz]
        unfold SetTable.tooFull SetTable.fill at hf
        rw [e2, hps] at hf
        have := of_decide_eq_false hf
        simp only [List.size_toArray, List.length_nil, Nat.add_zero] at this
        omega
      | true =>
        simp only [if_true]
        unfold SetTable.tooFull SetTable.fill at hf
        rw [e2, hps] at hf
        have hf' := of_decide_eq_true hf
        simp only [List.size_toArray, List.length_nil, Nat.add_zero] at hf'
        have hroom := I.tab.room
        have h7 : t.mask = 7 := by
          rcases I.tab.mask with e | e
          · exact e
          · rw [e1, e] at hf'; omega
        have h5 : es.size + 1 = 5 := by rw [e1, h7] at hf'; rw [h7] at hroom; omega
        rw [h5]
        have hfit : t2.fits (SetTable.insertAt es (SetTable.below t.place j) (tupleKeyHash (strKind prog w) ks, Value.ref a)).size = true := by
          unfold SetTable.fits SetTable.fill
          rw [hsz, hps, e2, e1, h7, h5]; decide
        obtain ⟨t3, order, b1, b2, b3, b4, b5, b6, b7, b8, b9, b10⟩ := relaid_ok (t := t2) (es := SetTable.insertAt es (SetTable.below t.place j) (tupleKeyHash (strKind prog w) ks, Value.ref a)) (wanted := 20) (.inr (by decide)) (by rw [hsz, h5]; decide)
        refine wpAny_bind ?_
        refine relay_ok hob rfl hfit (by rw [sizeLine_eq]; decide) b1 b8 (by rw [hsz, h5, sizeLine_eq]; omega) ?_
        have hob2 := Heap.get?_update_self (Obj.putSet (order.filterMap ((SetTable.insertAt es (SetTable.below t.place j) (tupleKeyHash (strKind prog w) ks, Value.ref a))[·]?)) t3) hob rfl
        have hsb2 := hsb.trans (Heap.SameBut.update _ S (Obj.putSet (order.filterMap ((SetTable.insertAt es (SetTable.below t.place j) (tupleKeyHash (strKind prog w) ks, Value.ref a))[·]?)) t3))
        have hp2 : (order.filterMap ((SetTable.insertAt es (SetTable.below t.place j) (tupleKeyHash (strKind prog w) ks, Value.ref a))[·]?)).toList.Perm (((ks, a) :: ps).map (entK prog w)) := by
          exact b9.trans hperm
        obtain ⟨qs2, hq3, hq4⟩ := ents_keys hp2
        refine wpAny_pure (q2 hnot _ qs2 _ _ t3 hsb2 ⟨hob2, hq3, ⟨.inr b2, b3, by rw [b6, b8], by rw [b8, hsz, h5, b2]; decide⟩, b7, b10, b4.trans e4, fun _ => b5.trans e5, hnd hq4, hkeys hsb2 hq4⟩ hq4)
    cases hpl : t.plain with
    | true =>
      simp only [if_true]
      refine wpAny_bind (byValue_tup hk hne ?_)
      simp only [Bool.false_eq_true, if_false]
      exact tail _ rfl I.tab.dum rfl I.led rfl
    | false =>
      simp only [Bool.false_eq_true, if_false]
      refine wpAny_bind (wpAny_pure ?_)
      simp only [if_true]
      exact tail _ rfl I.tab.dum rfl I.led rfl
end
end FW
namespace FW
open PySem PySem.Spec PyProof.Rows L2
variable [Tabs]
section
variable {prog : Program} {w : World} {A : Around} {E : Value → Shared → Prop} {s : Shared}
def Cont (ka : Nat → KA) (i : Nat) (ps : List KA) : Prop := (∀ p ∈ ps, ∃ k, k < i ∧ p = ka k) ∧ ∀ k, k < i → (ka k).1 ∈ ps.map (·.1)
theorem Cont.zero {ka : Nat → KA} : Cont ka 0 [] := ⟨fun p hp => (List.not_mem_nil hp).elim, fun k hk => absurd hk (Nat.not_lt_zero k)⟩
theorem TK.moved {h h' : Heap} {ks : List Str} {a : Addr} (k : TK prog w h ks a) (hk : ∀ o, h.get? a = some o → h'.get? a = some o) : TK prog w h' ks a := by
  obtain ⟨o, items, n, h1, h2⟩ := k
  exact ⟨o, items, n, hk o h1, h2⟩
theorem SetIs.moved {h h' : Heap} {S : Addr} {ps : List KA} {led : Bool} {es : Array (Int × Value)} {ep : Nat} {t : SetTable} (I : SetIs prog w h S ps led es ep t) (hS : ∀ o, h.get? S = some o → h'.get? S = some o) (hk : ∀ p ∈ ps, ∀ o, h.get? p.2 = some o → h'.get? p.2 = some o) : SetIs prog w h' S ps led es ep t :=
  ⟨hS _ I.obj, I.ents, I.tab, I.rise, I.reach, I.led, I.plain, I.nodup, fun p hp => (I.keys p hp).moved (hk p hp)⟩
theorem Cont.len {ka : Nat → KA} {i : Nat} {ps : List KA} (c : Cont ka i ps) (hn : (ps.map (·.1)).Nodup) : ps.length ≤ i := by
  have h1 : ∀ k ∈ ps.map (·.1), k ∈ (List.range i).map fun j => (ka j).1 := fun k hk => by
    obtain ⟨p, hp, rfl⟩ := List.mem_map.mp hk
    obtain ⟨j, hj, rfl⟩ := c.1 p hp
    exact List.mem_map.mpr ⟨j, List.mem_range.mpr hj, rfl⟩
  have key : ∀ (l m : List (List Str)), l.Nodup → (∀ x ∈ l, x ∈ m) → l.length ≤ m.length := by
    intro l
    induction l with
    | nil => intro m _ _; exact Nat.zero_le _
    | cons x l ih =>
      intro m hn hs
      rw [List.nodup_cons] at hn
      have hx := hs x (.head _)
      have := ih (m.erase x) hn.2 fun y hy => (List.mem_erase_of_ne (fun e : y = x => hn.1 (e ▸ hy))).mpr (hs y (.tail _ hy))
      rw [List.length_erase_of_mem hx] at this
      have := List.length_pos_of_mem hx
      simp only [List.length_cons]
      omega
  have := key _ _ hn h1
  simpa using this
variable {R : Result → Shared → Prop} {I : Addr} {fp wr : List Addr} {G : Array GenState → Array GenState → Prop} {n : Nat} {P : Nat → Value → Prop} {St : Nat → Shared → Prop}
theorem loop_ok (hu : A.in1.units < cLine) (W : WalksS prog w A.in1 I fp wr G n P St) (S : Addr) (hSf : S ∉ fp) (led : Bool) (ka : Nat → KA) (hval : ∀ i v, P i v → v = .ref (ka i).2) (hne : ∀ i, i < n → (ka i).1 ≠ []) (hwr : ∀ i, i < n → (ka i).2 ∉ wr) (hb : n ≤ 18) :
    ∀ (k i : Nat) (s : Shared) (ps : List KA) (es : Array (Int × Value)) (ep : Nat) (t : SetTable), n - i = k → i ≤ n → St i s → SetIs prog w s.heap S ps led es ep t → Cont ka i ps → (∀ j, j < n → TK prog w s.heap (ka j).1 (ka j).2) →
      (∀ s' ps es ep t, Moved (S :: wr) G s s' → SetIs prog w s'.heap S ps led es ep t → Cont ka n ps → R (.ok (.ret .none)) s') →
      codeAny (model prog w) A (.builtin "set.update.loop" ⟨[.ref S, .ref I], []⟩) R s := by
  have hSw : S ∉ wr := fun h => hSf (W.sub _ h)
  have hsub : ∀ b ∈ wr, b ∈ S :: wr := fun b hb => List.mem_cons_of_mem _ hb
  intro k
  induction k with
  | zero =>
    intro i s ps es ep t hk hi hst hS hC hT hR
    have hin : i = n := by omega
    subst hin
    refine codeAny_builtin PyProof.Rows.F.entry_set_update_loop ?_
    rw [Around.under_plainId PyProof.Rows.F.plain_set_update_loop _]
    show wpAny _ A.in1 (pyNext (.ref I) >>= _) _ _ s
    refine wpAny_bind (W.done s _ _ hst fun s' hm => ?_)
    show wpAny _ A.in1 (ret Value.none) _ _ s'
    refine wpAny_pure (hR s' ps es ep t (hm.mono hsub) (hS.moved (fun o e => hm.heap S o hSw e) fun p hp o e => ?_) hC)
    obtain ⟨j, hj, rfl⟩ := hC.1 p hp
    exact hm.heap _ o (hwr j hj) e
  | succ k ih =>
    intro i s ps es ep t hk hi hst hS hC hT hR
    have hlt : i < n := by omega
    refine codeAny_builtin PyProof.Rows.F.entry_set_update_loop ?_
    rw [Around.under_plainId PyProof.Rows.F.plain_set_update_loop _]
    show wpAny _ A.in1 (pyNext (.ref I) >>= _) _ _ s
    refine wpAny_bind (W.item i s _ _ hlt hst fun v s' hP hst' hm => ?_)
    obtain rfl := hval i v hP
    have hS' := hS.moved (h' := s'.heap) (fun o e => hm.heap S o hSw e) fun p hp o e => by
      obtain ⟨j, hj, rfl⟩ := hC.1 p hp
      exact hm.heap _ o (hwr j (by omega)) e
    have hT' : ∀ j, j < n → TK prog w s'.heap (ka j).1 (ka j).2 := fun j hj => (hT j hj).moved fun o e => hm.heap _ o (hwr j hj) e
    show wpAny _ A.in1 (holding [Value.ref (ka i).2] (setAdd S (.ref (ka i).2)) >>= _) _ _ s'
    refine wpAny_bind (wpAny_holding ?_)
    unfold setAdd
    refine wpAny_holding ?_
    refine wpAny_bind (wpAny_pyHash_tuple hu (hT' i hlt) ?_)
    have hlen := hC.len hS.nodup
    refine add_ok (s := { s' with toks := s'.toks + ((ka i).1.length + 1) }) hu hS' (hT' i hlt) (hne i hlt) (by omega) (fun hin => ?_) fun hin h' ps' es' ep' t' hsb hS2 hp => ?_
    · refine wpAny_pure ⟨plainId_quiet PyProof.Rows.F.plain_set_update_loop _, ih (i + 1) _ ps es ep t (by omega) hlt (W.frame _ s' _ _ hst' (Nat.le_add_right s'.toks ((ka i).1.length + 1)) fun b hb o e => e) hS' ⟨fun p hp => ?_, fun j hj => ?_⟩ hT' fun s'' ps2 es2 ep2 t2 hm'' hS'' hC'' => ?_⟩
      · obtain ⟨j, hj, e⟩ := hC.1 p hp
        exact ⟨j, by omega, e⟩
      · rcases Nat.lt_or_ge j i with c | c
        · exact hC.2 j c
        · have : j = i := by omega
          subst this; exact hin
      · refine hR s'' ps2 es2 ep2 t2 (Moved.trans W.gtrans ((hm.mono hsub).then_heap (Nat.le_add_right s'.toks ((ka i).1.length + 1)) fun b o hb e => e) hm'') hS'' hC''
    · refine wpAny_pure ⟨plainId_quiet PyProof.Rows.F.plain_set_update_loop _, ih (i + 1) _ ps' es' ep' t' (by omega) hlt (W.frame _ s' _ _ hst' (Nat.le_add_right s'.toks ((ka i).1.length + 1)) fun b hb o e => ?_) hS2 ⟨fun p hp' => ?_, fun j hj => ?_⟩ (fun j hj => (hT' j hj).same hS'.obj rfl hsb) fun s'' ps2 es2 ep2 t2 hm'' hS'' hC'' => ?_⟩
      · rw [hsb.2 b (fun h : b = S => hSf (by rw [← h]; exact hb))]; exact e
      · rcases List.mem_cons.mp (hp.mem_iff.mp hp') with e | hp'
        · exact ⟨i, by omega, e⟩
        · obtain ⟨j, hj, e⟩ := hC.1 p hp'
          exact ⟨j, by omega, e⟩
      · have : ∀ x, x ∈ ps'.map (·.1) ↔ x = (ka i).1 ∨ x ∈ ps.map (·.1) := fun x => by
          have := (hp.map (·.1)).mem_iff (a := x)
          rw [this, List.map_cons, List.mem_cons]
        rw [this]
        rcases Nat.lt_or_ge j i with c | c
        · exact .inr (hC.2 j c)
        · have : j = i := by omega
          subst this; exact .inl rfl
      · refine hR s'' ps2 es2 ep2 t2 (Moved.trans W.gtrans ((hm.mono hsub).then_heap (Nat.le_add_right s'.toks ((ka i).1.length + 1)) fun b o hb e => ?_) hm'') hS'' hC''
        rw [hsb.2 b (fun h : b = S => hb (by rw [h]; exact List.mem_cons_self))]; exact e
end
end FW
namespace FW
open PySem PySem.Spec PyProof.Rows L2
variable [Tabs]
section
variable {prog : Program} {w : World} {A : Around} {E : Value → Shared → Prop} {s : Shared}
def ledOf (w : World) : Bool := !(w.params.followText "set-order")
theorem set_new (a : Value) {Q₁ : Value → Shared → Prop}
    (h : Q₁ (.ref s.heap.objs.size) { s with heap := s.heap.push { cls := .type "set", dict := none, data := .set #[] 0 (.fresh 0 0 (ledOf w)) } }) :
    codeAny (model prog w) A (.call (.builtin "set.__new__") ⟨[.type "set", a], []⟩) (wants Q₁ E) s := by
  refine codeAny_of_tree ?_
  show wpAny _ A.in1 (do checkBuiltinCall "set.__new__" ⟨[.type "set", a], []⟩; again (.builtin "set.__new__" ⟨[.type "set", a], []⟩)) _ _ s
  refine wpAny_bind (wpAny_of_eq (PySem.F.newCall_set_1 a) (wpAny_pure ⟨plainId_quiet PySem.F.plain_set_new _, codeAny_builtin PySem.F.entry_set_new ?_⟩))
  rw [Around.under_plainId PySem.F.plain_set_new _]
  unfold Builtin.«set.__new__» Builtin.Frozenset.newClass
  have hsub := PySem.sub_set_self
  obtain ⟨hp, g, d, tk, os⟩ := s
  dsimp only
  wp_walk
  refine wpAny_askSetting (wpAny_pure ?_)
  dsimp only
  simp only [newObj]
  refine wpAny_bind (wpAny_alloc (wpAny_pure ?_))
  exact wpAny_pure h
theorem tab_fresh (led : Bool) : Tab (.fresh 0 0 led) 0 := ⟨.inl rfl, rfl, rfl, show 0 * 5 < 7 * 3 by decide⟩
theorem set_fresh {h : Heap} {S : Addr} {led : Bool} (ho : h.get? S = some { cls := .type "set", dict := none, data := .set #[] 0 (.fresh 0 0 led) }) : SetIs prog w h S [] led #[] 0 (.fresh 0 0 led) :=
  ⟨ho, rfl, tab_fresh led, fun i k a b _ ha => by simp [SetTable.fresh] at ha, fun i h x hi => by simp at hi, rfl, fun h => absurd rfl h, List.nodup_nil, fun p hp => (List.not_mem_nil hp).elim⟩
set_option maxRecDepth 100000 in
set_option maxHeartbeats 3200000 in
theorem set_list {l : Addr} {items : Array Value} {ka : Nat → KA} {Q : Value → Shared → Prop} (hu : A.in1.in1.in1.units < cLine)
    (hh : A.handled = none) (hl : s.heap.IsList l items) (hi : ∀ (i : Nat) (v : Value), items[i]? = some v → v = .ref (ka i).2) (hT : ∀ i, i < items.size → TK prog w s.heap (ka i).1 (ka i).2 ∧ (ka i).1 ≠ []) (hb : items.size ≤ 18)
    (h : ∀ (h' : Heap) (tk : Nat) ps es ep t, SetIs prog w h' s.heap.objs.size ps (ledOf w) es ep t → Cont ka items.size ps →
      (∀ b o, b < s.heap.objs.size → s.heap.get? b = some o → h'.get? b = some o) → Q (.ref s.heap.objs.size) { s with heap := h', toks := tk }) :
    wpAny (model prog w) A (call (.type "set") [.ref l]) Q E s := by
  obtain ⟨c, tl, hmro⟩ := PySem.F.called_set.mro
  have hmade := PySem.F.called_set.made
  have hsub := PySem.F.called_set.sub
  refine wpAny_call (codeAny_of_tree ?_)
  show wpAny _ _ (callAny (.type "set") _) _ _ _
  refine wpAny_pure ⟨Code.quiet_builtin _ (by decide +kernel), codeAny_builtin PySem.F.entry_type_call ?_⟩
  rw [Around.under_plain (weight_type_call_type "set" [.ref l] []) rfl]
  have h1 := PySem.F.called_set.notType
  have h2 := PySem.F.called_set.canCreate
  have hct := PySem.F.typeCall_set_1 (.ref l)
  repeat (any_goals (first | assumption | wp_step))
  refine codeAny_mono (set_new (.ref l) (E := E) (Q₁ := fun obj s₁ => obj = .ref s.heap.objs.size ∧ s₁ = { s with heap := s.heap.push { cls := .type "set", dict := none, data := .set #[] 0 (.fresh 0 0 (ledOf w)) } }) ⟨rfl, rfl⟩) fun r s₁ hr => ?_
  cases r with
  | error e => exact hr
  | ok fl =>
    cases fl with
    | ret obj =>
      obtain ⟨rfl, rfl⟩ := hr
      have hS : (s.heap.push { cls := .type "set", dict := none, data := .set #[] 0 (.fresh 0 0 (ledOf w)) }).get? s.heap.objs.size = some { cls := .type "set", dict := none, data := .set #[] 0 (.fresh 0 0 (ledOf w)) } := Heap.get?_push_size _ rfl
      have hT0 : Shared.TypeIs { s with heap := s.heap.push { cls := .type "set", dict := none, data := .set #[] 0 (.fresh 0 0 (ledOf w)) } } (.ref s.heap.objs.size) "set" := ⟨_, hS, rfl⟩
      have hli := PySem.F.called_set.init.lookup
      have hbi := PySem.F.called_set.init.bind (.ref s.heap.objs.size)
      repeat (any_goals (first | assumption | wp_step))
      refine codeAny_mono (codeAny_call_builtin (R := wants (fun r s₂ => r = .none ∧ ∃ h' tk ps es ep t, s₂ = { s with heap := h', toks := tk } ∧
          SetIs prog w h' s.heap.objs.size ps (ledOf w) es ep t ∧ Cont ka items.size ps ∧
          (∀ b o, b < s.heap.objs.size → s.heap.get? b = some o → h'.get? b = some o)) E) PySem.F.called_set.init.plain PySem.F.entry_set_init (check_set_init_1 hT0 ?_)) fun r₂ s₂ hr₂ => ?_
      · obtain ⟨ol, hol, hcl, nl, hdl⟩ := hl
        obtain ⟨ocls, odict, odata, oslots⟩ := ol
        simp only at hcl hdl
        subst hcl; subst hdl
        have hol' : (s.heap.push { cls := .type "set", dict := none, data := .set #[] 0 (.fresh 0 0 (ledOf w)) }).get? l = some { cls := .type "list", dict := odict, data := .seq items nl, slots := oslots } := Heap.get?_push_of_some _ hol
        have hsls := PySem.F.sub_list_set
        have hslf := PySem.F.sub_list_frozenset
        have hne : (Value.type "list" == Value.type "dict") = false := by decide
        have hl1 : (s.heap.push { cls := .type "set", dict := none, data := .set #[] 0 (.fresh 0 0 (ledOf w)) }).IsList l items := ⟨_, hol', rfl, nl, rfl⟩
        unfold Builtin.«set.__init__» noKeywords Builtin.Frozenset.updateFrom
        generalize hPI : pyIter = PI
        wp_walk
        subst hPI
        refine wpAny_pyIter_list hl1 ?_
        refine wpAny_bind (wpAny_runValue ?_)
        have hlS : l < s.heap.objs.size := Heap.lt_size hol
        have hh3 : A.in1.in1.in1.handled = none := by simp [hh]
        have hneI : l ≠ (s.heap.push { cls := .type "set", dict := none, data := .set #[] 0 (.fresh 0 0 (ledOf w)) }).objs.size := by
          rw [Heap.size_push]; exact Nat.ne_of_lt (Nat.lt_succ_of_lt hlS)
        have hSf : s.heap.objs.size ∉ [(s.heap.push { cls := .type "set", dict := none, data := .set #[] 0 (.fresh 0 0 (ledOf w)) }).objs.size, l] := by
          rw [Heap.size_push]; simp only [List.mem_cons, List.mem_singleton, List.not_mem_nil, or_false, not_or]
          exact ⟨Nat.ne_of_lt (Nat.lt_succ_self _), Nat.ne_of_gt hlS⟩
        have hTlt : ∀ i, i < items.size → (ka i).2 < s.heap.objs.size := fun i hi' => by
          obtain ⟨o, _, _, ho, _⟩ := (hT i hi').1
          exact Heap.lt_size ho
        refine loop_ok hu ((Walks.list hh3 _ l hneI items).toS) s.heap.objs.size
          hSf (ledOf w) ka (fun i v hv => hi i v hv) (fun i hi' => (hT i hi').2) (fun i hi' hc => ?_) hb (items.size - 0) 0 _ [] _ _ _ (by omega) (Nat.zero_le _)
          ?st (set_fresh ?fr) Cont.zero (fun j hj => ?tk) ?hR
        case st => exact ⟨⟨_, Heap.get?_push_size _ rfl, rfl, rfl⟩, (hl1.push _)⟩
        case fr => exact Heap.get?_push_of_some _ hS
        case tk => exact (hT j hj).1.moved fun o e => Heap.get?_push_of_some _ (Heap.get?_push_of_some _ e)
        · have := hTlt i hi'
          rw [List.mem_singleton.mp hc, Heap.size_push] at this
          exact absurd this (Nat.not_lt.mpr (Nat.le_succ _))
        case hR =>
          intro s' ps es ep t hm hS' hC'
          obtain ⟨h', g', d', tk', os'⟩ := s'
          have eg : g' = s.gens := hm.gens
          have ed : d' = s.drawn := hm.drawn
          have eo : os' = s.os := hm.os
          subst eg; subst ed; subst eo
          show wpAny _ _ _ _ _ _
          refine wpAny_pure ?_
          show wpAny _ _ (ret Value.none) _ _ _
          refine wpAny_pure ⟨rfl, h', tk', ps, es, ep, t, rfl, hS', hC', fun b o hb e => ?_⟩
          have hb1 : b ≠ s.heap.objs.size := Nat.ne_of_lt hb
          have hb2 : b ≠ (s.heap.push { cls := .type "set", dict := none, data := .set #[] 0 (.fresh 0 0 (ledOf w)) }).objs.size := by
            rw [Heap.size_push]; exact Nat.ne_of_lt (Nat.lt_succ_of_lt hb)
          exact hm.heap b o (by simp only [List.mem_cons, List.mem_singleton, List.not_mem_nil, or_false, not_or]; exact ⟨hb1, hb2⟩) (Heap.get?_push_of_some _ (Heap.get?_push_of_some _ e))
      · cases r₂ with
        | error e => exact hr₂
        | ok fl₂ =>
          cases fl₂ with
          | ret r =>
            obtain ⟨rfl, h', tk, ps, es, ep, t, rfl, hS', hC', hk'⟩ := hr₂
            repeat (any_goals (first | assumption | wp_step))
            exact h _ _ ps es ep t hS' hC' hk'
          | _ => exact hr₂.elim
    | _ => exact hr.elim
end
end FW
namespace FW
open PySem PySem.Spec PyProof.Rows L2
variable [Tabs]
theorem slot_set_iter : PySem.Slot "set" "__iter__" "set.__iter__" :=
  .of (owner := "set") (n := "__iter__") (by rw [typeLookup_type, builtinLookup_eq_fast]; kernel_rfl) (by decide +kernel) (by decide +kernel) (by decide +kernel)
    (by first | exact .inl (by decide +kernel) | exact .inr (by decide +kernel)) (by rw [isSubtype_type]; kernel_rfl)
theorem entry_set_iter : entryFor table "set.__iter__" = some Builtin.«frozenset.__iter__» := entryFor_alias (id' := "frozenset.__iter__") (by kernel_rfl) rfl (by decide +kernel) (by kernel_rfl)
theorem slot_sit_next : PySem.Slot "set_iterator" "__next__" "set_iterator.__next__" :=
  .of (owner := "set_iterator") (n := "__next__") (by rw [typeLookup_type, builtinLookup_eq_fast]; kernel_rfl) (by decide +kernel) (by decide +kernel) (by decide +kernel)
    (by first | exact .inl (by decide +kernel) | exact .inr (by decide +kernel)) (by rw [isSubtype_type]; kernel_rfl)
theorem entry_sit_next : entryFor table "set_iterator.__next__" = some Builtin.«set_iterator.__next__» := entryFor_of_tree (by kernel_rfl)
theorem slot_sit_iter : PySem.Slot "set_iterator" "__iter__" "set_iterator.__iter__" :=
  .of (owner := "set_iterator") (n := "__iter__") (by rw [typeLookup_type, builtinLookup_eq_fast]; kernel_rfl) (by decide +kernel) (by decide +kernel) (by decide +kernel)
    (by first | exact .inl (by decide +kernel) | exact .inr (by decide +kernel)) (by rw [isSubtype_type]; kernel_rfl)
theorem entry_sit_iter : entryFor table "set_iterator.__iter__" = some Builtin.«dict_keyiterator.__iter__» := entryFor_alias (id' := "dict_keyiterator.__iter__") (by kernel_rfl) rfl (by decide +kernel) (by kernel_rfl)
theorem args_set_iter (a : Value) : argsOk "set.__iter__" ⟨[a], []⟩ := by unfold argsOk; kernel_rfl
theorem args_sit_next (a : Value) : argsOk "set_iterator.__next__" ⟨[a], []⟩ := by unfold argsOk; kernel_rfl
theorem args_sit_iter (a : Value) : argsOk "set_iterator.__iter__" ⟨[a], []⟩ := by unfold argsOk; kernel_rfl
theorem set_len : typeLookup (.type "set") "__len__" = pure (some (.builtin "set.__len__")) := by rw [typeLookup_type, builtinLookup_eq_fast]; kernel_rfl
section
variable {prog : Program} {w : World} {A : Around} {E : Value → Shared → Prop} {s : Shared}
theorem hint_set {r : Addr} {Q : Bool → Shared → Prop} (hT : s.TypeIs (.ref r) "set") (h : Q false s) : wpAny (model prog w) A (Builtin.List.listLengthHint (.ref r)) Q E s := by
  unfold Builtin.List.listLengthHint
  refine wpAny_bind (wpAny_specialOf hT set_len ?_)
  generalize hid : ("set.__len__" : String) = id0
  wp_delta
  rw [show splitId id0 = some ("set", "__len__") from by subst hid; decide +kernel]
  subst hid
  refine wpAny_bind (wpAny_isInstance (T := "set") (b := true) hT (by rw [isSubtype_type]; kernel_rfl) ?_)
  refine wpAny_ite_split (fun hab => absurd hab (by decide)) (fun _ => ?_)
  refine wpAny_ite_split (fun _ => ?_) (fun hab => absurd (by decide +kernel) hab)
  refine wpAny_bind (wpAny_typeOf hT ?_)
  exact wpAny_pure h
theorem out_perm {α : Type} : ∀ {l : List α} {i : Nat} (h : i < l.length), (l[i] :: l.eraseIdx i).Perm l
  | x :: l, 0, _ => by simp
  | x :: l, i + 1, h => by
    rw [List.getElem_cons_succ, List.eraseIdx_cons_succ]
    exact (List.Perm.swap _ _ _).trans ((out_perm (l := l) (by simpa using h)).cons x)
theorem pick_perm {α : Type} (next : Nat → Nat) : ∀ (fuel k : Nat) (left : List α) (out : Array α), fuel = left.length → (pickOrder.go next fuel k left out).toList.Perm (out.toList ++ left)
  | 0, k, left, out, h => by
    have : left = [] := List.length_eq_zero_iff.mp h.symm
    subst this
    unfold pickOrder.go; simp
  | fuel + 1, k, left, out, h => by
    unfold pickOrder.go
    have hl : next k % left.length < left.length := Nat.mod_lt _ (by omega)
    rw [List.getElem?_eq_getElem hl]
    dsimp only
    refine (pick_perm next fuel (k + 1) _ _ (by rw [List.length_eraseIdx_of_lt hl]; omega)).trans ?_
    rw [Array.toList_push, List.append_assoc]
    refine List.Perm.append_left _ ?_
    exact out_perm hl
theorem pickOrder_perm {α : Type} (next : Nat → Nat) (xs : Array α) : (pickOrder next xs).toList.Perm xs.toList := by
  unfold pickOrder
  have := pick_perm next xs.size 0 xs.toList #[] (by simp)
  simpa using this
theorem draw_ok {α : Type} {Q : List α → Shared → Prop} : ∀ (n : Nat) (xs : List α) (s : Shared), n = xs.length → (∀ (ys : List α) s', ys.Perm xs → s'.heap = s.heap → s'.gens = s.gens → s'.toks = s.toks → s'.os = s.os → Q ys s') → wpAny (model prog w) A (drawOrder n xs) Q E s
  | 0, xs, s, hn, h => by
    have : xs = [] := List.length_eq_zero_iff.mp hn.symm
    subst this
    unfold drawOrder
    exact wpAny_pure (h [] s (.refl _) rfl rfl rfl rfl)
  | n + 1, [], s, hn, h => by simp at hn
  | n + 1, x :: xs, s, hn, h => by
    unfold drawOrder
    have hc : ∀ (Q' : Nat → Shared → Prop), (∀ i s', i < (x :: xs).length → s'.heap = s.heap → s'.gens = s.gens → s'.toks = s.toks → s'.os = s.os → Q' i s') → wpAny (model prog w) A (choose .order (x :: xs).length) Q' E s := fun Q' hq => by
      unfold choose
      intro Γ p hΓ
      rw [Sem.wp_choose]
      refine ⟨by simp, ?_⟩
      show Sem.wp _ _ (Sem.pure _) _ _ _ _
      rw [Sem.wp]
      exact hq _ _ (Nat.mod_lt _ (by simp)) rfl rfl rfl rfl
    refine wpAny_bind (hc _ fun i s' hi e1 e2 e3 e4 => ?_)
    rw [List.getElem?_eq_getElem hi]
    dsimp only
    refine wpAny_bind (draw_ok n _ s' (by rw [List.length_eraseIdx_of_lt hi]; simp at hn ⊢; omega) fun ys s2 hp f1 f2 f3 f4 => ?_)
    refine wpAny_pure (h _ s2 ?_ (f1.trans e1) (f2.trans e2) (f3.trans e3) (f4.trans e4))
    exact (hp.cons _).trans (out_perm hi)
end
end FW
namespace FW
open PySem PySem.Spec PyProof.Rows L2
variable [Tabs]
structure SetO (w : World) (h : Heap) (S : Addr) (es : Array (Int × Value)) (ep : Nat) (t : SetTable) : Prop where
  obj : h.get? S = some { cls := .type "set", dict := none, data := .set es ep t, slots := #[] }
  fits : t.fits es.size = true
  led : t.led = ledOf w
  plain : es.size ≠ 0 → t.plain = false
def IterO (h : Heap) (I S : Addr) (first : Value) (i n ep : Nat) : Prop := h.get? I = some { cls := .type "set_iterator", dict := none, data := .fields #[first, .int i 0, .ref S, .int n 0, .int ep 0], slots := #[] }
theorem SetO.moved {w : World} {h h' : Heap} {S : Addr} {es : Array (Int × Value)} {ep : Nat} {t : SetTable} (x : SetO w h S es ep t) (hk : ∀ o, h.get? S = some o → h'.get? S = some o) : SetO w h' S es ep t := ⟨hk _ x.obj, x.fits, x.led, x.plain⟩
section
variable {prog : Program} {w : World} {A : Around} {E : Value → Shared → Prop} {s : Shared} {I S : Addr} {es : Array (Int × Value)} {ep i : Nat} {t : SetTable} {first : Value}
theorem upd_fields {h : Heap} {a : Addr} {c : Value} {vs : Array Value} {k : Nat} {x : Value} (ho : h.get? a = some { cls := c, dict := none, data := .fields vs, slots := #[] }) :
    (h.update a (Obj.mapFields (·.setIfInBounds k x))).get? a = some { cls := c, dict := none, data := .fields (vs.setIfInBounds k x), slots := #[] } :=
  Heap.get?_update_self (Obj.mapFields (·.setIfInBounds k x)) ho rfl
theorem next_top {Q : Option Value → Shared → Prop} (hit : IterO s.heap I S first i es.size ep) (hs : SetO w s.heap S es ep t)
    (h : wpAny (model prog w) A.in1 (if let .int slot _ := first then do
        match ← setNext S slot.toNat i ep with
        | some (x, next) =>
          setField (.ref I) 0 (rawInt next)
          setField (.ref I) 1 (rawInt ((i : Int) + 1))
          ret x
        | none => setField (.ref I) 2 .none; raiseNew (← newExc (.type "StopIteration") [])
      else do
        let some places ← seqItems? first | unsupported "internal:set_iterator"
        match places[i]? with
        | some (.int place _) =>
          let x ← setNextDrawn S place.toNat ep
          setField (.ref I) 1 (rawInt ((i : Int) + 1))
          ret x
        | some _ => unsupported "internal:set_iterator"
        | none => setField (.ref I) 0 (rawInt 0); setField (.ref I) 2 .none; raiseNew (← newExc (.type "StopIteration") []))
      (fun fin s' => ∃ v, fin = .done (.ret v) ∧ Q (some v) s') (fun e s' => wpAny (model prog w) A (isInstance e (.type "StopIteration")) (fun b s2 => b = true ∧ Q none s2) E s') s) : wpAny (model prog w) A (pyNext (.ref I)) Q E s := by
  have hT : s.TypeIs (.ref I) "set_iterator" := ⟨_, hit, rfl⟩
  unfold pyNext
  refine wpAny_bind (wpAny_attempt (wpAny_callSpecial?_slot (name := Str.ofString "__next__") hT slot_sit_next
    (wpAny_call_entry slot_sit_next hT entry_sit_next ?_ (args_sit_next _))))
  unfold Builtin.«set_iterator.__next__»
  refine wpAny_bind (m := slotArgs "__next__" 0 ⟨[.ref I], []⟩) (wpAny_pure ?_)
  refine wpAny_bind (wpAny_fieldsOf hit rfl ?_)
  dsimp only
  refine wpAny_bind (wpAny_setEntries_of hs.obj rfl hs.fits ?_)
  rw [if_neg (by simp)]
  refine wpAny_mono h (fun fin s' hq => ?_) fun e s' hq => ?_
  · obtain ⟨v, e, hq⟩ := hq
    exact ⟨v, e, wpAny_pure hq⟩
  · refine wpAny_bind (wpAny_mono hq (fun b s2 hb => ?_) fun _ _ x => x)
    obtain ⟨rfl, hq⟩ := hb
    rw [if_pos rfl]
    exact wpAny_pure hq
theorem stop_ok {Q : Option Value → Shared → Prop} {R : PySem.Fin → Shared → Prop} (hh : A.handled = none) (h : ∀ h', (∀ b o, s.heap.get? b = some o → h'.get? b = some o) → Q none { s with heap := h' }) :
    wpAny (model prog w) A.in1 (do raiseNew (← newExc (.type "StopIteration") [])) R (fun e s' => wpAny (model prog w) A (isInstance e (.type "StopIteration")) (fun b s2 => b = true ∧ Q none s2) E s') s := by
  refine wpAny_bind ?_
  simp only [newExc, newTuple]
  refine wpAny_bind (wpAny_newObj_type ?_ (by size_fits))
  refine wpAny_bind (m := firstArgMember _ _) (wpAny_of_eq (a := Value.none) (by first | rfl | (simp only [firstArgMember]; rfl)) ?_)
  refine wpAny_newObj_type ?_ (by size_fits)
  simp only [raiseNew]
  refine wpAny_bind (wpAny_handled ?_)
  rw [show A.in1.handled = none from hh]
  refine wpAny_bind (wpAny_pure (wpAny_throw ?_))
  refine wpAny_isInstance (T := "StopIteration") (b := true) ⟨_, Heap.get?_push_size _ rfl, rfl⟩ isSubtype_stop ?_
  exact ⟨rfl, h _ fun b o e => Heap.get?_push_of_some _ (Heap.get?_push_of_some _ e)⟩
theorem next_int {Q : Option Value → Shared → Prop} {k : Int} {tk : Tok} {x : Value} {nx : Nat} (hit : IterO s.heap I S (.int k tk) i es.size ep) (hs : SetO w s.heap S es ep t)
    (hn : ∀ (A : Around) (E : Value → Shared → Prop) (Q' : Option (Value × Nat) → Shared → Prop), Q' (some (x, nx)) s → wpAny (model prog w) A (setNext S k.toNat i ep) Q' E s)
    (h : ∀ h', IterO h' I S (.int nx 0) (i + 1) es.size ep → Heap.SameBut I s.heap h' → Q (some x) { s with heap := h' }) : wpAny (model prog w) A (pyNext (.ref I)) Q E s := by
  refine next_top hit hs ?_
  dsimp only
  refine wpAny_bind (hn _ _ _ ?_)
  dsimp only
  have h1 := upd_fields (k := 0) (x := rawInt nx) hit
  refine wpAny_bind (wpAny_setField hit rfl (by simp) ?_)
  refine wpAny_bind (wpAny_setField h1 rfl (by simp) ?_)
  have h2 := upd_fields (k := 1) (x := rawInt ((i : Int) + 1)) h1
  refine wpAny_pure ⟨x, rfl, h _ ?_ ((Heap.SameBut.update ..).trans (Heap.SameBut.update ..))⟩
  exact h2
theorem next_int_end {Q : Option Value → Shared → Prop} {k : Int} {tk : Tok} (hh : A.handled = none) (hit : IterO s.heap I S (.int k tk) i es.size ep) (hs : SetO w s.heap S es ep t)
    (hn : ∀ (A : Around) (E : Value → Shared → Prop) (Q' : Option (Value × Nat) → Shared → Prop), Q' none s → wpAny (model prog w) A (setNext S k.toNat i ep) Q' E s)
    (h : ∀ h', (∀ b o, b ≠ I → s.heap.get? b = some o → h'.get? b = some o) → Q none { s with heap := h' }) : wpAny (model prog w) A (pyNext (.ref I)) Q E s := by
  refine next_top hit hs ?_
  dsimp only
  refine wpAny_bind (hn _ _ _ ?_)
  dsimp only
  refine wpAny_bind (wpAny_setField hit rfl (by simp) ?_)
  refine stop_ok (s := { s with heap := s.heap.update I _ }) hh fun h' hk => h h' fun b o hb e => hk b o ?_
  exact (Heap.get?_update_other _ _ (Ne.symm hb)).trans e
theorem next_drawn {Q : Option Value → Shared → Prop} {T : Addr} {oT : Obj} {ns : List Nat} {nT j : Nat} {x : Int × Value} (hit : IterO s.heap I S (.ref T) i es.size ep) (hs : SetO w s.heap S es ep t)
    (hT : s.heap.get? T = some oT) (hd : oT.data = .seq (ns.map fun (i : Nat) => rawInt i).toArray nT) (hi : ns[i]? = some j) (hx : es[j]? = some x)
    (h : ∀ h', IterO h' I S (.ref T) (i + 1) es.size ep → Heap.SameBut I s.heap h' → Q (some x.2) { s with heap := h' }) : wpAny (model prog w) A (pyNext (.ref I)) Q E s := by
  refine next_top hit hs ?_
  dsimp only
  refine wpAny_bind (wpAny_seqItems hT hd ?_)
  dsimp only
  have hg : (ns.map fun (i : Nat) => rawInt i).toArray[i]? = some (rawInt j) := by simp [hi]
  rw [hg]
  show wpAny _ _ (setNextDrawn S (j : Int).toNat ep >>= _) _ _ _
  unfold setNextDrawn
  refine wpAny_bind (wpAny_bind (wpAny_setState_of hs.obj rfl hs.fits ?_))
  dsimp only
  rw [if_neg (by simp), show ((j : Int).toNat) = j from rfl, hx]
  dsimp only
  refine wpAny_pure ?_
  refine wpAny_bind (wpAny_setField hit rfl (by simp) ?_)
  exact wpAny_pure ⟨x.2, rfl, h _ (upd_fields (k := 1) (x := rawInt ((i : Int) + 1)) hit) (Heap.SameBut.update ..)⟩
theorem next_drawn_end {Q : Option Value → Shared → Prop} {T : Addr} {oT : Obj} {ns : List Nat} {nT : Nat} (hh : A.handled = none) (hit : IterO s.heap I S (.ref T) i es.size ep) (hs : SetO w s.heap S es ep t)
    (hT : s.heap.get? T = some oT) (hd : oT.data = .seq (ns.map fun (i : Nat) => rawInt i).toArray nT) (hi : ns[i]? = none)
    (h : ∀ h', (∀ b o, b ≠ I → s.heap.get? b = some o → h'.get? b = some o) → Q none { s with heap := h' }) : wpAny (model prog w) A (pyNext (.ref I)) Q E s := by
  refine next_top hit hs ?_
  dsimp only
  refine wpAny_bind (wpAny_seqItems hT hd ?_)
  dsimp only
  have hg : (ns.map fun (i : Nat) => rawInt i).toArray[i]? = none := by simp [hi]
  rw [hg]
  dsimp only
  have h1 := upd_fields (k := 0) (x := rawInt 0) hit
  refine wpAny_bind (wpAny_setField hit rfl (by simp) ?_)
  refine wpAny_bind (wpAny_setField h1 rfl (by simp) ?_)
  refine stop_ok (s := { s with heap := (s.heap.update I _).update I _ }) hh fun h' hk => h h' fun b o hb e => hk b o ?_
  exact (Heap.get?_update_other _ _ (Ne.symm hb)).trans ((Heap.get?_update_other _ _ (Ne.symm hb)).trans e)
theorem sit_self {n : Nat} {Q : Value → Shared → Prop} (hit : IterO s.heap I S first i n ep) (h : Q (.ref I) s) : wpAny (model prog w) A (pyIter (.ref I)) Q E s := by
  have hT : s.TypeIs (.ref I) "set_iterator" := ⟨_, hit, rfl⟩
  refine wpAny_pyIter_slot hT slot_sit_iter (wpAny_call_entry slot_sit_iter hT entry_sit_iter ?_ (args_sit_iter _))
  show wpAny _ _ (ret (.ref I)) _ _ s
  exact wpAny_pure ⟨_, rfl, "set_iterator", _, hT, slot_sit_next.lookup, h⟩
theorem setNext_text {k : Nat} {A : Around} {E : Value → Shared → Prop} {Q' : Option (Value × Nat) → Shared → Prop} (hs : SetO w s.heap S es ep t) (hb : w.params.followText "set-order" = true) (h : Q' (((pickOrder (w.params.setOrder S ep) es)[i]?).map fun e => (e.2, k)) s) :
    wpAny (model prog w) A (setNext S k i ep) Q' E s := by
  have by_ : ∀ {A : Around} {Q : Bool → Shared → Prop}, Q true s → wpAny (model prog w) A setsByText Q E s := fun {A Q} hq => by
    unfold setsByText
    refine wpAny_bind (wpAny_askSetting (wpAny_pure ?_))
    show Q (w.params.followText "set-order") s
    rw [hb]; exact hq
  unfold setNext
  refine wpAny_bind (wpAny_setState_of hs.obj rfl hs.fits ?_)
  dsimp only
  refine wpAny_bind (by_ ?_)
  simp only [if_true]
  rw [if_neg (by simp)]
  refine wpAny_bind ?_
  unfold setWalk
  refine wpAny_bind (wpAny_setState_of hs.obj rfl hs.fits ?_)
  dsimp only
  refine wpAny_bind (by_ ?_)
  simp only [if_true]
  exact wpAny_bind (wpAny_askSetting (wpAny_pure (wpAny_pure h)))
theorem setNext_place {k : Nat} {A : Around} {E : Value → Shared → Prop} {Q' : Option (Value × Nat) → Shared → Prop} (hs : SetO w s.heap S es ep t) (hb : w.params.followText "set-order" = false) (h1 : es.size ≤ 1)
    (h : Q' (match es[SetTable.below t.place k]?, t.place[SetTable.below t.place k]? with | some (_, x), some j => some (x, j + 1) | _, _ => none) s) :
    wpAny (model prog w) A (setNext S k i ep) Q' E s := by
  have by_ : ∀ {A : Around} {Q : Bool → Shared → Prop}, Q false s → wpAny (model prog w) A setsByText Q E s := fun {A Q} hq => by
    unfold setsByText
    refine wpAny_bind (wpAny_askSetting (wpAny_pure ?_))
    show Q (w.params.followText "set-order") s
    rw [hb]; exact hq
  unfold setNext
  refine wpAny_bind (wpAny_setState_of hs.obj rfl hs.fits ?_)
  dsimp only
  refine wpAny_bind (by_ ?_)
  simp only [Bool.false_eq_true, if_false]
  have hled : t.led = true := by rw [hs.led]; unfold ledOf; rw [hb]; rfl
  have hdr : (!t.plain && decide (es.size > 1)) = false := by simp; omega
  refine wpAny_ite_split (fun hc => absurd (show (!t.plain && decide (es.size > 1)) = true from hc) (by rw [hdr]; simp)) (fun _ => ?_)
  refine wpAny_bind ?_
  show wpAny _ _ (if (!t.led && !es.isEmpty) = true then unsupported "set:maker-not-led" else pure PUnit.unit) _ _ _
  rw [hled]
  simp only [Bool.not_true, Bool.false_and, Bool.false_eq_true, if_false]
  exact wpAny_pure (wpAny_pure h)
theorem walk_text (hh : A.handled = none) (hb : w.params.followText "set-order" = true) (hne : S ≠ I) : Walks prog w A I [I, S] [I] es.size (fun i v => ∃ h, (pickOrder (w.params.setOrder S ep) es)[i]? = some (h, v)) (fun i h => (∃ k tk, IterO h I S (.int k tk) i es.size ep) ∧ SetO w h S es ep t) where
  sub := fun b hb => by simp at hb; simp [hb]
  frame := fun i h h' st hk => ⟨let ⟨k, tk, e⟩ := st.1; ⟨k, tk, hk I (by simp) _ e⟩, st.2.moved fun o e => hk S (by simp) o e⟩
  item := fun i s Q E hi st hQ => by
    obtain ⟨⟨k, tk, hit⟩, hs⟩ := st
    have hsz : (pickOrder (w.params.setOrder S ep) es).size = es.size := by
      have := (pickOrder_perm (w.params.setOrder S ep) es).length_eq
      simpa using this
    have hx : (pickOrder (w.params.setOrder S ep) es)[i]? = some (pickOrder (w.params.setOrder S ep) es)[i] := Array.getElem?_eq_getElem (by omega)
    refine next_int hit hs (x := ((pickOrder (w.params.setOrder S ep) es)[i]).2) (nx := k.toNat) (fun A E Q' hq => setNext_text hs hb (by rw [hx]; exact hq)) fun h' hit' hsb => ?_
    refine hQ _ h' s.toks ⟨_, hx⟩ ⟨⟨_, _, hit'⟩, hs.moved fun o e => ?_⟩ fun b o hb' e => ?_
    · rw [hsb.2 S hne]; exact e
    · rw [hsb.2 b (fun h => hb' (by simp [h]))]; exact e
  done := fun s Q E st hQ => by
    obtain ⟨⟨k, tk, hit⟩, hs⟩ := st
    have hsz : (pickOrder (w.params.setOrder S ep) es).size = es.size := by
      have := (pickOrder_perm (w.params.setOrder S ep) es).length_eq
      simpa using this
    have hx : (pickOrder (w.params.setOrder S ep) es)[es.size]? = none := Array.getElem?_eq_none (by omega)
    refine next_int_end hh hit hs (fun A E Q' hq => setNext_text hs hb (by rw [hx]; exact hq)) fun h' hk => ?_
    exact hQ h' s.toks fun b o hb' e => hk b o (fun h => hb' (by simp [h])) e
  self := fun i s Q E st hQ => let ⟨k, tk, hit⟩ := st.1; sit_self hit hQ
theorem walk_place (hh : A.handled = none) (hb : w.params.followText "set-order" = false) (h1 : es.size ≤ 1) (hne : S ≠ I) (hsz : t.place.size = es.size) : Walks prog w A I [I, S] [I] es.size (fun i v => ∃ h, es[i]? = some (h, v)) (fun i h => (∃ k tk, IterO h I S (.int k tk) i es.size ep ∧ (i < es.size → SetTable.below t.place k.toNat = i) ∧ (i = es.size → SetTable.below t.place k.toNat = i)) ∧ SetO w h S es ep t) where
  sub := fun b hb => by simp at hb; simp [hb]
  frame := fun i h h' st hk => ⟨let ⟨k, tk, e, e2⟩ := st.1; ⟨k, tk, hk I (by simp) _ e, e2⟩, st.2.moved fun o e => hk S (by simp) o e⟩
  item := fun i s Q E hi st hQ => by
    obtain ⟨⟨k, tk, hit, hk1, hk2⟩, hs⟩ := st
    have e1 : es.size = 1 := by omega
    have e0 : i = 0 := by omega
    subst e0
    have hp : t.place[0]? = some t.place[0] := Array.getElem?_eq_getElem (by omega)
    have hx : es[0]? = some es[0] := Array.getElem?_eq_getElem (by omega)
    refine next_int hit hs (x := es[0].2) (nx := t.place[0] + 1) (fun A E Q' hq => setNext_place hs hb h1 (by rw [hk1 hi, hp, hx]; exact hq)) fun h' hit' hsb => ?_
    refine hQ _ h' s.toks ⟨_, hx⟩ ⟨⟨_, _, hit', fun h => by omega, fun h => ?_⟩, hs.moved fun o e => ?_⟩ fun b o hb' e => ?_
    · show SetTable.below t.place ((t.place[0] + 1 : Nat) : Int).toNat = 1
      rw [Int.toNat_natCast]
      have hpl : t.place = #[t.place[0]] := by
        apply Array.ext
        · simp; omega
        · intro i h1 h2
          have : i = 0 := by omega
          subst this; rfl
      generalize t.place[0] = j at *
      rw [hpl]
      unfold SetTable.below SetTable.below.go
      simp
      unfold SetTable.below.go
      rfl
    · rw [hsb.2 S hne]; exact e
    · rw [hsb.2 b (fun h => hb' (by simp [h]))]; exact e
  done := fun s Q E st hQ => by
    obtain ⟨⟨k, tk, hit, hk1, hk2⟩, hs⟩ := st
    have hx : es[es.size]? = none := Array.getElem?_eq_none (by omega)
    refine next_int_end hh hit hs (fun A E Q' hq => setNext_place hs hb h1 (by rw [hk2 rfl, hx]; exact hq)) fun h' hk => ?_
    exact hQ h' s.toks fun b o hb' e => hk b o (fun h => hb' (by simp [h])) e
  self := fun i s Q E st hQ => let ⟨k, tk, hit, _⟩ := st.1; sit_self hit hQ
theorem walk_drawn (hh : A.handled = none) {T : Addr} {ns : List Nat} (hne : S ≠ I) (hnT : T ≠ I) (hp : ns.Perm (List.range es.size)) : Walks prog w A I [I, S, T] [I] es.size (fun i v => ∃ h, (ns.map fun j => es.getD j (0, Value.none))[i]? = some (h, v))
    (fun i h => IterO h I S (.ref T) i es.size ep ∧ SetO w h S es ep t ∧ ∃ oT nT, h.get? T = some oT ∧ oT.data = .seq (ns.map fun (i : Nat) => rawInt i).toArray nT) where
  sub := fun b hb => by simp at hb; simp [hb]
  frame := fun i h h' st hk => ⟨hk I (by simp) _ st.1, st.2.1.moved fun o e => hk S (by simp) o e, let ⟨oT, nT, e, e2⟩ := st.2.2; ⟨oT, nT, hk T (by simp) _ e, e2⟩⟩
  item := fun i s Q E hi st hQ => by
    obtain ⟨hit, hs, oT, nT, hT, hd⟩ := st
    have hl : ns.length = es.size := by rw [hp.length_eq, List.length_range]
    have hn : ns[i]? = some ns[i] := List.getElem?_eq_getElem (by omega)
    have hj : ns[i] < es.size := List.mem_range.mp (hp.mem_iff.mp (List.getElem_mem (by omega)))
    have hx : es[ns[i]]? = some es[ns[i]] := Array.getElem?_eq_getElem hj
    refine next_drawn hit hs hT hd hn hx fun h' hit' hsb => ?_
    refine hQ _ h' s.toks ⟨es[ns[i]].1, ?_⟩ ⟨hit', hs.moved fun o e => ?_, oT, nT, ?_, hd⟩ fun b o hb' e => ?_
    · rw [List.getElem?_map, hn]
      simp [Array.getD, hj]
    · rw [hsb.2 S hne]; exact e
    · rw [hsb.2 T hnT]; exact hT
    · rw [hsb.2 b (fun h => hb' (by simp [h]))]; exact e
  done := fun s Q E st hQ => by
    obtain ⟨hit, hs, oT, nT, hT, hd⟩ := st
    have hl : ns.length = es.size := by rw [hp.length_eq, List.length_range]
    refine next_drawn_end hh hit hs hT hd (List.getElem?_eq_none (by omega)) fun h' hk => ?_
    exact hQ h' s.toks fun b o hb' e => hk b o (fun h => hb' (by simp [h])) e
  self := fun i s Q E st hQ => sit_self st.1 hQ
end
end FW
namespace FW
open PySem PySem.Spec PyProof.Rows L2
variable [Tabs]
section
variable {prog : Program} {w : World} {A : Around} {E : Value → Shared → Prop} {s : Shared} {S : Addr} {es : Array (Int × Value)} {ep : Nat} {t : SetTable}
structure Begun (prog : Program) (w : World) (A : Around) (s s' : Shared) (I S : Addr) (n : Nat) (ord : List (Int × Value)) (ff : List Addr) (St : Nat → Heap → Prop) : Prop where
  new : s.heap.objs.size ≤ I
  keep : ∀ b o, s.heap.get? b = some o → s'.heap.get? b = some o
  gens : s'.gens = s.gens
  os : s'.os = s.os
  toks : s.toks ≤ s'.toks
  fp : ∀ b ∈ ff, b = S ∨ s.heap.objs.size ≤ b
  fpI : ∀ b ∈ ff, b < s'.heap.objs.size
  walk : Walks prog w A I ff [I] n (fun i v => ∃ h, ord[i]? = some (h, v)) St
  st : St 0 s'.heap
theorem set_iter {Q : Value → Shared → Prop} (hh : A.handled = none) (hs : SetO w s.heap S es ep t) (hz : t.place.size = es.size) (hn : es.size ≤ sizeLine)
    (h : ∀ I s' (ord : List (Int × Value)) fp St, ord.Perm es.toList → Begun prog w A s s' I S es.size ord fp St → Q (.ref I) s') : wpAny (model prog w) A (pyIter (.ref S)) Q E s := by
  have hT : s.TypeIs (.ref S) "set" := ⟨_, hs.obj, rfl⟩
  have hSlt : S < s.heap.objs.size := Heap.lt_size hs.obj
  refine wpAny_pyIter_slot hT slot_set_iter (wpAny_call_entry slot_set_iter hT entry_set_iter ?_ (args_set_iter _))
  unfold Builtin.«frozenset.__iter__»
  refine wpAny_bind (m := Builtin.Frozenset.slot0 "__iter__" ⟨[.ref S], []⟩) (wpAny_of_eq (a := S) rfl ?_)
  refine wpAny_bind ?_
  unfold Builtin.Frozenset.sizeOf
  refine wpAny_bind (wpAny_setEntries_of hs.obj rfl hs.fits (wpAny_pure ?_))
  unfold setDrawn
  have fin : ∀ (first : Value) (s1 : Shared) (ord : List (Int × Value)) (fp : List Addr) (St : Nat → Heap → Prop), (∀ b o, s.heap.get? b = some o → s1.heap.get? b = some o) → s1.gens = s.gens → s1.os = s.os → s.toks ≤ s1.toks → s.heap.objs.size ≤ s1.heap.objs.size → ord.Perm es.toList →
      (∀ b ∈ fp, b = S ∨ s.heap.objs.size ≤ b) → (∀ b ∈ fp, b ≤ s1.heap.objs.size) → Walks prog w A s1.heap.objs.size fp [s1.heap.objs.size] es.size (fun i v => ∃ h, ord[i]? = some (h, v)) St →
      (∀ h', (∀ b o, s1.heap.get? b = some o → h'.get? b = some o) → IterO h' s1.heap.objs.size S first 0 es.size ep → St 0 h') →
      wpAny (model prog w) A.in1 (do ret (← newFields "set_iterator" [first, rawInt 0, .ref S, rawInt es.size, rawInt (← setEpoch S)])) (fun fin s' => ∃ v, fin = .done (.ret v) ∧ ∃ T' r, s'.TypeIs v T' ∧ typeLookup (.type T') "__next__" = pure (some r) ∧ Q v s') E s1 := by
    intro first s1 ord fp St k1 k2 k3 k4 k5 hp hfp hfp2 W hst
    have hs1 := hs.moved (h' := s1.heap) fun o e => k1 S o e
    refine wpAny_bind (wpAny_setEpoch_of hs1.obj rfl hs1.fits ?_)
    refine wpAny_bind (wpAny_newObj_type (wpAny_pure ⟨_, rfl, "set_iterator", _, ⟨_, Heap.get?_push_size _ rfl, rfl⟩, slot_sit_next.lookup, ?_⟩))
    refine h _ _ ord fp St hp ⟨k5, fun b o e => Heap.get?_push_of_some _ (k1 b o e), k2, k3, k4, hfp, fun b hb => ?_, W, hst _ (fun b o e => Heap.get?_push_of_some _ e) ?_⟩
    · show b < (s1.heap.push _).objs.size
      rw [Heap.size_push]; exact Nat.lt_succ_of_le (hfp2 b hb)
    · exact Heap.get?_push_size _ rfl
  refine wpAny_bind (wpAny_bind (wpAny_setState_of hs.obj rfl hs.fits ?_))
  dsimp only
  cases hb : w.params.followText "set-order" with
  | true =>
    refine wpAny_bind ?_
    unfold setsByText
    refine wpAny_bind (wpAny_askSetting (wpAny_pure ?_))
    show wpAny _ _ (pure (!(w.params.followText "set-order") && _)) _ _ _
    rw [hb]
    refine wpAny_pure ?_
    simp only [Bool.not_true, Bool.false_and, Bool.false_eq_true, if_false]
    refine wpAny_bind (wpAny_pure ?_)
    have W : Walks prog w A s.heap.objs.size [s.heap.objs.size, S] [s.heap.objs.size] es.size (fun i v => ∃ h, (pickOrder (w.params.setOrder S ep) es).toList[i]? = some (h, v)) (fun i h => (∃ k tk, IterO h s.heap.objs.size S (.int k tk) i es.size ep) ∧ SetO w h S es ep t) := by
      have := walk_text (prog := prog) (ep := ep) (es := es) (t := t) hh hb (Nat.ne_of_lt hSlt); simpa only [Array.getElem?_toList] using this
    exact fin _ s (pickOrder (w.params.setOrder S ep) es).toList [s.heap.objs.size, S] _ (fun _ _ e => e) rfl rfl (Nat.le_refl _) (Nat.le_refl _) (pickOrder_perm _ _) (fun b hb => by simp at hb; rcases hb with rfl | rfl; exact .inr (Nat.le_refl _); exact .inl rfl)
      (fun b hb => by simp at hb; rcases hb with rfl | rfl; exact Nat.le_refl _; exact Nat.le_of_lt hSlt)
      W
      fun h' hk hi => ⟨⟨_, _, hi⟩, hs.moved fun o e => hk S o e⟩
  | false =>
    refine wpAny_bind ?_
    unfold setsByText
    refine wpAny_bind (wpAny_askSetting (wpAny_pure ?_))
    show wpAny _ _ (pure (!(w.params.followText "set-order") && (!t.plain && decide (es.size > 1)))) _ _ _
    rw [hb]
    refine wpAny_pure ?_
    by_cases h1 : es.size ≤ 1
    · have hdr : (!false && (!t.plain && decide (es.size > 1))) = false := by simp; omega
      rw [hdr]
      simp only [Bool.false_eq_true, if_false]
      refine wpAny_bind (wpAny_pure ?_)
      have W : Walks prog w A s.heap.objs.size [s.heap.objs.size, S] [s.heap.objs.size] es.size (fun i v => ∃ h, es.toList[i]? = some (h, v)) (fun i h => (∃ k tk, IterO h s.heap.objs.size S (.int k tk) i es.size ep ∧ (i < es.size → SetTable.below t.place k.toNat = i) ∧ (i = es.size → SetTable.below t.place k.toNat = i)) ∧ SetO w h S es ep t) := by
        have := walk_place (prog := prog) (ep := ep) (es := es) (t := t) hh hb h1 (Nat.ne_of_lt hSlt) hz; simpa only [Array.getElem?_toList] using this
      refine fin _ s es.toList [s.heap.objs.size, S] _ (fun _ _ e => e) rfl rfl (Nat.le_refl _) (Nat.le_refl _) (.refl _) (fun b hb => by simp at hb; rcases hb with rfl | rfl; exact .inr (Nat.le_refl _); exact .inl rfl)
        (fun b hb => by simp at hb; rcases hb with rfl | rfl; exact Nat.le_refl _; exact Nat.le_of_lt hSlt)
        W
        fun h' hk hi => ⟨⟨_, _, hi, fun hlt => ?_, fun he => ?_⟩, hs.moved fun o e => hk S o e⟩
      · have e1 : t.place.size = 1 := by omega
        show SetTable.below t.place (0 : Int).toNat = 0
        unfold SetTable.below
        rw [e1]
        unfold SetTable.below.go
        simp
        unfold SetTable.below.go
        rfl
      · show SetTable.below t.place (0 : Int).toNat = 0
        unfold SetTable.below
        rw [hz, ← he]
        unfold SetTable.below.go
        rfl
    · have hpl : t.plain = false := hs.plain (by omega)
      have hdr : (!false && (!t.plain && decide (es.size > 1))) = true := by rw [hpl]; simp; omega
      rw [hdr]
      simp only [if_true]
      refine wpAny_bind (draw_ok es.size (List.range es.size) s (by simp) fun ns s1 hp e1 e2 e3 e4 => ?_)
      refine wpAny_bind (wpAny_newTuple ?_ (by rw [List.length_map, hp.length_eq, List.length_range]; exact hn))
      have hlen : ns.length = es.size := by rw [hp.length_eq, List.length_range]
      have hperm : (ns.map fun j => es.getD j (0, Value.none)).Perm es.toList := by
        have h1 := hp.map fun j => es.getD j (0, Value.none)
        have h2 : ((List.range es.size).map fun v => es.getD v (0, Value.none)) = es.toList := by
          apply List.ext_getElem?
          intro i
          rw [List.getElem?_map]
          by_cases c : i < es.size
          · rw [List.getElem?_range c, Array.getElem?_toList, Array.getElem?_eq_getElem c]
            simp [Array.getD, c]
          · rw [Array.getElem?_toList (xs := es), Array.getElem?_eq_none (xs := es) (by omega), List.getElem?_eq_none (by simp; omega)]
            rfl
        rw [h2] at h1
        exact h1
      have esz : s1.heap.objs.size = s.heap.objs.size := by rw [e1]
      refine fin (.ref s1.heap.objs.size) { s1 with heap := s1.heap.push { cls := .type "tuple", data := .seq (ns.map fun (i : Nat) => rawInt i).toArray } } (ns.map fun j => es.getD j (0, Value.none)) [s.heap.objs.size + 1, S, s.heap.objs.size] (fun i h => IterO h (s.heap.objs.size + 1) S (.ref s.heap.objs.size) i es.size ep ∧ SetO w h S es ep t ∧ ∃ oT nT, h.get? s.heap.objs.size = some oT ∧ oT.data = .seq (ns.map fun (i : Nat) => rawInt i).toArray nT) (fun b o e => Heap.get?_push_of_some _ (show s1.heap.get? _ = some o by rw [e1]; exact e)) e2 e4 (by show s.toks ≤ s1.toks; rw [e3]; exact Nat.le_refl _) ?_ hperm ?_ ?_ ?_ ?_
      · show s.heap.objs.size ≤ (s1.heap.push _).objs.size
        rw [Heap.size_push, esz]; exact Nat.le_succ _
      · intro b hb
        simp at hb
        rcases hb with rfl | rfl | rfl
        · exact .inr (Nat.le_succ _)
        · exact .inl rfl
        · exact .inr (Nat.le_refl _)
      · intro b hb
        show b ≤ (s1.heap.push _).objs.size
        rw [Heap.size_push, esz]
        simp at hb
        rcases hb with rfl | rfl | rfl
        · exact Nat.le_refl _
        · exact Nat.le_of_lt (Nat.lt_succ_of_lt hSlt)
        · exact Nat.le_succ _
      · have hI : (s1.heap.push { cls := .type "tuple", data := .seq (ns.map fun (i : Nat) => rawInt i).toArray }).objs.size = s.heap.objs.size + 1 := by rw [Heap.size_push, esz]
        show Walks prog w A (s1.heap.push _).objs.size _ [(s1.heap.push _).objs.size] _ _ _
        rw [hI]
        exact walk_drawn (ep := ep) (t := t) hh (Nat.ne_of_lt (Nat.lt_succ_of_lt hSlt)) (Nat.ne_of_lt (Nat.lt_succ_self _)) hp
      · intro h' hk hi
        have hI : (s1.heap.push { cls := .type "tuple", data := .seq (ns.map fun (i : Nat) => rawInt i).toArray }).objs.size = s.heap.objs.size + 1 := by rw [Heap.size_push, esz]
        have hi' : IterO h' (s1.heap.push { cls := .type "tuple", data := .seq (ns.map fun (i : Nat) => rawInt i).toArray }).objs.size S (.ref s1.heap.objs.size) 0 es.size ep := hi
        rw [hI, esz] at hi'
        refine ⟨hi', hs.moved fun o e => hk S o (Heap.get?_push_of_some _ (show s1.heap.get? _ = some o by rw [e1]; exact e)), { cls := .type "tuple", data := .seq (ns.map fun (i : Nat) => rawInt i).toArray }, 0, hk s.heap.objs.size _ ?_, rfl⟩
        rw [← esz]
        exact Heap.get?_push_size _ rfl
theorem set_extend {R : Result → Shared → Prop} (hh : A.handled = none) (hs : SetO w s.heap S es ep t) (hz : t.place.size = es.size) (hn : es.size ≤ sizeLine) (D : Addr) (hDS : D ≠ S) (res : Value) (c₀ : Nat) (hD : s.heap.get? D = some { cls := .type "list", data := .seq #[] c₀ })
    (hR : ∀ s' (ord : List (Int × Value)) acc c, ord.Perm es.toList → (∀ b o, b ≠ D → s.heap.get? b = some o → s'.heap.get? b = some o) → s'.gens = s.gens → s'.os = s.os → s.toks ≤ s'.toks → s'.heap.get? D = some { cls := .type "list", dict := none, data := .seq acc c, slots := #[] } → acc.toList = ord.map (·.2) → R (.ok (.ret res)) s') :
    wpAny (model prog w) A.in1 (Builtin.List.listExtendWith (.ref D) (.ref S) res)
      (fun fin s' => match fin with | .done f => R (.ok f) s' | .again c' => c'.quiet = true ∧ codeAny (model prog w) A c' R s') (fun e s' => R (.error e) s') s := by
  have hT : s.TypeIs (.ref S) "set" := ⟨_, hs.obj, rfl⟩
  have hDlt : D < s.heap.objs.size := Heap.lt_size hD
  unfold Builtin.List.listExtendWith
  refine wpAny_bind (wpAny_typeOf (T := "set") hT ?_)
  have h1 : Builtin.List.listSameRef (.ref D) (.ref S) = false := by simp [Builtin.List.listSameRef, hDS]
  have h2 : (Value.type "set" == Value.type "list") = false := by decide
  have h3 : (Value.type "set" == Value.type "tuple") = false := by decide
  simp only [h1, h2, h3, Bool.or_false, Bool.false_eq_true, if_false]
  refine wpAny_bind (set_iter (A := A.in1) hh hs hz hn fun I s1 ord fp St hp B => ?_)
  have hDf : D ∉ fp := fun hc => by
    rcases B.fp D hc with e | e
    · exact hDS e
    · exact absurd hDlt (Nat.not_lt.mpr e)
  have key : ∀ (h : Heap) (c₁ : Nat), St 0 h → (∀ b o, b ≠ D → s1.heap.get? b = some o → h.get? b = some o) →
      h.get? D = some { cls := .type "list", data := .seq #[] c₁ } → codeAny (model prog w) A (.builtin "list.extend.loop" ⟨[.ref D, .ref I, res], []⟩) R { s1 with heap := h } := by
    intro h c₁ hst hk hS₁
    refine codeAny_extend_loopS B.walk.toS hn D hDf res es.size 0 _ #[] c₁ rfl (Nat.zero_le _) hst hS₁ (ItemsOf.nil _) fun s' acc' c' hm hS' hacc => ?_
    refine hR s' ord acc' c' hp (fun b o hb e => hm.heap b o (fun hmem => ?_) (hk b o hb (B.keep b o e))) (hm.gens.trans B.gens) (hm.os.trans B.os) (Nat.le_trans B.toks hm.toks) hS' ?_
    · rcases List.mem_cons.mp hmem with e' | hmem
      · exact hb e'
      · have h5 := Heap.lt_size e
        rw [List.mem_singleton.mp hmem] at h5
        exact absurd h5 (Nat.not_lt.mpr B.new)
    · have hl : ord.length = es.size := by rw [hp.length_eq, Array.length_toList]
      apply List.ext_getElem?
      intro i
      rw [Array.getElem?_toList, List.getElem?_map]
      by_cases c : i < acc'.size
      · have e1 : acc'[i]? = some acc'[i] := Array.getElem?_eq_getElem c
        obtain ⟨hh', e2⟩ := hacc.2 i _ e1
        rw [e1, e2]; rfl
      · rw [Array.getElem?_eq_none (by omega), List.getElem?_eq_none (by rw [hl, ← hacc.1]; omega)]
        rfl
  have hD1 := B.keep D _ hD
  have hT1 : s1.TypeIs (.ref S) "set" := ⟨_, B.keep S _ hs.obj, rfl⟩
  refine wpAny_bind (wpAny_holding (hint_set hT1 ?_))
  refine wpAny_ite_split (fun _ => ?_) (fun _ => wpAny_pure ⟨plainId_quiet PySem.F.plain_extend_loop _, key _ c₀ B.st (fun b o _ e => e) hD1⟩)
  refine wpAny_bind (wpAny_rule ?_)
  refine wpAny_bind ?_
  show wpAny _ _ (updateSeq D (·.push .none) >>= fun _ => updateSeq D (·.pop)) _ _ _
  refine wpAny_bind (wpAny_updateSeq hD1 rfl ?_)
  have hD2 := Heap.get?_update_self (Obj.mapSeq (·.push Value.none)) hD1 rfl
  refine wpAny_updateSeq (hz := by seq_fits) hD2 rfl ?_
  have hD3 := Heap.get?_update_self (Obj.mapSeq (·.pop)) hD2 rfl
  refine wpAny_pure ⟨plainId_quiet PySem.F.plain_extend_loop _, key _ _ ?_ (fun b o hb e => ?_) hD3⟩
  · refine B.walk.frame 0 _ _ B.st fun b hb o e => ?_
    have hbS : b ≠ D := fun h => hDf (h ▸ hb)
    exact (Heap.get?_update_other _ _ (Ne.symm hbS)).trans ((Heap.get?_update_other _ _ (Ne.symm hbS)).trans e)
  · exact (Heap.get?_update_other _ _ (Ne.symm hb)).trans ((Heap.get?_update_other _ _ (Ne.symm hb)).trans e)
theorem set_collect {R : List Value → Shared → Prop} (hh : A.handled = none) (hs : SetO w s.heap S es ep t) (hz : t.place.size = es.size) (hn : es.size ≤ sizeLine)
    (h : ∀ s' (ord : List (Int × Value)), ord.Perm es.toList → (∀ b o, s.heap.get? b = some o → s'.heap.get? b = some o) → s'.gens = s.gens → s'.os = s.os → s.heap.objs.size ≤ s'.heap.objs.size → R (ord.map (·.2)) s') :
    wpAny (model prog w) A (collect (.ref S)) R E s := by
  have hSlt : S < s.heap.objs.size := Heap.lt_size hs.obj
  unfold collect
  refine wpAny_bind (wpAny_runValue (codeAny_builtin entry_proto_collect' ?_))
  rw [Around.under_plainId PySem.F.plain_proto_collect _]
  show wpAny _ A.in1 (newList [] >>= fun l => again (.builtin "list.__iadd__" ⟨[l, .ref S], []⟩)) _ _ s
  refine wpAny_bind (wpAny_newObj_type ?_)
  refine wpAny_pure ⟨plainId_quiet PySem.F.plain_list_iadd _, codeAny_builtin entry_list_iadd' ?_⟩
  rw [Around.under_plainId PySem.F.plain_list_iadd _]
  have hS₁ : (s.heap.push { cls := .type "list", data := .seq ([] : List Value).toArray }).get? s.heap.objs.size = some { cls := .type "list", data := .seq #[] } := Heap.get?_push_size _ rfl
  show wpAny _ A.in1 (Builtin.List.listExtendWith (.ref s.heap.objs.size) (.ref S) (.ref s.heap.objs.size)) _ _ _
  have key := set_extend (A := A) (s := { s with heap := s.heap.push { cls := .type "list", data := .seq ([] : List Value).toArray } }) (prog := prog)
    (R := fun (q : Result) (s' : Shared) => ∃ (ord : List (Int × Value)) (acc : Array Value) (c : Nat), q = .ok (.ret (.ref s.heap.objs.size)) ∧ ord.Perm es.toList ∧ (∀ b o, s.heap.get? b = some o → s'.heap.get? b = some o) ∧ s'.gens = s.gens ∧ s'.os = s.os ∧ s.toks ≤ s'.toks ∧
      s'.heap.get? s.heap.objs.size = some { cls := .type "list", dict := none, data := .seq acc c, slots := #[] } ∧ acc.toList = ord.map (·.2))
    hh (hs.moved fun o e => Heap.get?_push_of_some _ e) hz hn s.heap.objs.size (Nat.ne_of_gt hSlt) (.ref s.heap.objs.size) 0 hS₁
    (fun s' ord acc c hp hk hg ho ht hD ha => ⟨ord, acc, c, rfl, hp, fun b o e => hk b o (Nat.ne_of_lt (Heap.lt_size e)) (Heap.get?_push_of_some _ e), hg, ho, ht, hD, ha⟩)
  refine wpAny_mono key (fun fin s' x => ?_) fun e s' x => ?_
  · cases fin with
    | done f =>
      obtain ⟨ord, acc, c, e, hp, hk, hg, ho, ht, hD, ha⟩ := x
      cases e
      show wpAny _ A (load s.heap.objs.size >>= _) _ _ _
      refine wpAny_bind (wpAny_load hD ?_)
      refine wpAny_pure ?_
      show R acc.toList s'
      rw [ha]
      exact h s' ord hp hk hg ho (Nat.le_of_lt (Heap.lt_size hD))
    | again c' =>
      refine ⟨x.1, codeAny_mono x.2 fun r s2 y => ?_⟩
      obtain ⟨ord, acc, c, rfl, hp, hk, hg, ho, ht, hD, ha⟩ := y
      show wpAny _ A (load s.heap.objs.size >>= _) _ _ _
      refine wpAny_bind (wpAny_load hD ?_)
      refine wpAny_pure ?_
      show R acc.toList s2
      rw [ha]
      exact h s2 ord hp hk hg ho (Nat.le_of_lt (Heap.lt_size hD))
  · obtain ⟨ord, acc, c, e', _⟩ := x
    cases e'
end
end FW
namespace FW
open PySem PySem.Spec PyProof.Rows L2 PySem.W
variable [Tabs]
def kasOut {α : Type} (o : Nat → Nat → Bool) : KasT α → α
  | .ret a => a
  | .ask i j k => kasOut o (k (o i j))
def kasIn {α : Type} (n : Nat) (o : Nat → Nat → Bool) : KasT α → Prop
  | .ret _ => True
  | .ask i j k => i < n ∧ j < n ∧ kasIn n o (k (o i j))
theorem kasOut_bind {α β : Type} {o : Nat → Nat → Bool} {f : α → KasT β} : ∀ (t : KasT α), kasOut o (t.bind f) = kasOut o (f (kasOut o t))
  | .ret _ => rfl
  | .ask i j k => kasOut_bind (k (o i j))
theorem kasIn_bind {α β : Type} {n : Nat} {o : Nat → Nat → Bool} {f : α → KasT β} : ∀ {t : KasT α}, kasIn n o t → kasIn n o (f (kasOut o t)) → kasIn n o (t.bind f)
  | .ret _, _, h => h
  | .ask i j k, h, h' => ⟨h.1, h.2.1, kasIn_bind (t := k (o i j)) h.2.2 h'⟩
theorem kas_answer {α : Type} {n : Nat} {o : Nat → Nat → Bool} {cmp : Nat → Nat → (Bool → Shared → Prop) → Shared → Prop} {s : Shared} {Q : α → Shared → Prop} (hc : ∀ i j C, i < n → j < n → C (o i j) s → cmp i j C s) : ∀ (t : KasT α), kasIn n o t → Q (kasOut o t) s → t.kasWp cmp Q s
  | .ret _, _, h => h
  | .ask i j k, hi, h => hc i j _ hi.1 hi.2.1 (kas_answer hc (k (o i j)) hi.2.2 h)
def Ix (n : Nat) (p : Array Nat) : Prop := ∀ x ∈ p.toList, x < n
theorem Ix.at {n : Nat} {p : Array Nat} (h : Ix n p) (hn : 0 < n) (k : Nat) : p.getD k 0 < n := by
  by_cases c : k < p.size
  · have : p.getD k 0 = p[k] := by simp [Array.getD, c]
    rw [this]; exact h _ (Array.getElem_mem_toList c)
  · have : p.getD k 0 = 0 := by simp [Array.getD, c]
    rw [this]; exact hn
theorem Ix.perm {n : Nat} {p q : Array Nat} (h : Ix n p) (hp : q.Perm p) : Ix n q := fun x hx => h x ((Array.perm_iff_toList_perm.mp hp).mem_iff.mp hx)
section
variable {n : Nat} {o : Nat → Nat → Bool} (hn : 0 < n)
include hn
theorem in_asc {p : Array Nat} (h : Ix n p) : ∀ (f k : Nat), kasIn n o (kas_asc p f k)
  | 0, _ => trivial
  | f + 1, k => by
    refine ⟨h.at hn _, h.at hn _, ?_⟩
    dsimp only
    split
    · trivial
    · exact in_asc h f _
theorem in_desc : ∀ (f : Nat) (p : Array Nat) (k q : Nat), Ix n p → kasIn n o (kas_desc f p k q) ∧ (kasOut o (kas_desc f p k q)).1.Perm p
  | 0, p, _, _, _ => ⟨trivial, Array.Perm.refl _⟩
  | f + 1, p, k, q, h => by
    unfold kas_desc
    simp only [kasIn, kasOut]
    by_cases c1 : o (p.getD k 0) (p.getD (k - 1) 0) = true
    · simp only [c1, if_true]
      by_cases c2 : q > 0
      · simp only [c2, if_true]
        have hp : (kas_rev p (k - (q + 1)) k).Perm p := mirror_perm _ _ _ _
        obtain ⟨a1, a2⟩ := in_desc f (kas_rev p (k - (q + 1)) k) (k + 1) 0 (h.perm hp)
        exact ⟨⟨h.at hn _, h.at hn _, a1⟩, a2.trans hp⟩
      · simp only [c2, Bool.false_eq_true, if_false]
        obtain ⟨a1, a2⟩ := in_desc f p (k + 1) 0 h
        exact ⟨⟨h.at hn _, h.at hn _, a1⟩, a2⟩
    · simp only [c1, Bool.false_eq_true, if_false, kasIn, kasOut]
      by_cases c2 : o (p.getD (k - 1) 0) (p.getD k 0) = true
      · simp only [c2, if_true, kasIn, kasOut]
        exact ⟨⟨h.at hn _, h.at hn _, h.at hn _, h.at hn _, trivial⟩, Array.Perm.refl _⟩
      · simp only [c2, Bool.false_eq_true, if_false]
        obtain ⟨a1, a2⟩ := in_desc f p (k + 1) (q + 1) h
        exact ⟨⟨h.at hn _, h.at hn _, h.at hn _, h.at hn _, a1⟩, a2⟩
theorem in_tail3 {p : Array Nat} (h : Ix n p) (k nrem : Nat) : kasIn n o (kas_tail3 k nrem p) ∧ (kasOut o (kas_tail3 k nrem p)).2.Perm p := by
  unfold kas_tail3
  have hp : (kas_rev p 0 k).Perm p := mirror_perm _ _ _ _
  refine ⟨kasIn_bind (in_asc hn (h.perm hp) _ _) trivial, ?_⟩
  rw [kasOut_bind]
  exact hp
theorem in_descPart {p : Array Nat} (h : Ix n p) (k nrem : Nat) : kasIn n o (kas_descPart k nrem p) ∧ (kasOut o (kas_descPart k nrem p)).2.Perm p := by
  unfold kas_descPart
  obtain ⟨a1, a2⟩ := in_desc (o := o) hn (nrem - (k + 1)) p (k + 1) 0 h
  rw [kasOut_bind]
  generalize hr : kasOut o (kas_desc (nrem - (k + 1)) p (k + 1) 0) = r at *
  have key : kasIn n o (if r.2.2 > 0 then kas_tail3 r.2.1 nrem (kas_rev r.1 (r.2.1 - (r.2.2 + 1)) r.2.1) else kas_tail3 r.2.1 nrem r.1) ∧ (kasOut o (if r.2.2 > 0 then kas_tail3 r.2.1 nrem (kas_rev r.1 (r.2.1 - (r.2.2 + 1)) r.2.1) else kas_tail3 r.2.1 nrem r.1)).2.Perm p := by
    split
    · have hp : (kas_rev r.1 (r.2.1 - (r.2.2 + 1)) r.2.1).Perm p := (mirror_perm _ _ _ _).trans a2
      obtain ⟨b1, b2⟩ := in_tail3 (o := o) hn (h.perm hp) r.2.1 nrem
      exact ⟨b1, b2.trans hp⟩
    · obtain ⟨b1, b2⟩ := in_tail3 (o := o) hn (h.perm a2) r.2.1 nrem
      exact ⟨b1, b2.trans a2⟩
  exact ⟨kasIn_bind a1 (by rw [hr]; exact key.1), key.2⟩
theorem in_count {p : Array Nat} (h : Ix n p) (nrem : Nat) : kasIn n o (kas_count nrem p) ∧ (kasOut o (kas_count nrem p)).2.Perm p := by
  unfold kas_count
  rw [kasOut_bind]
  generalize hr : kasOut o (kas_asc p (nrem - 1) 1) = k
  have key : kasIn n o (if (k == nrem) = true then KasT.ret (k, p) else if k > 1 then KasT.ask (p.getD 0 0) (p.getD (k - 1) 0) fun c => if c = true then KasT.ret (k, p) else kas_descPart k nrem (kas_rev p 0 k) else kas_descPart k nrem p) ∧
      (kasOut o (if (k == nrem) = true then KasT.ret (k, p) else if k > 1 then KasT.ask (p.getD 0 0) (p.getD (k - 1) 0) fun c => if c = true then KasT.ret (k, p) else kas_descPart k nrem (kas_rev p 0 k) else kas_descPart k nrem p)).2.Perm p := by
    split
    · exact ⟨trivial, Array.Perm.refl _⟩
    · split
      · simp only [kasIn, kasOut]
        split
        · exact ⟨⟨h.at hn _, h.at hn _, trivial⟩, Array.Perm.refl _⟩
        · have hp : (kas_rev p 0 k).Perm p := mirror_perm _ _ _ _
          obtain ⟨b1, b2⟩ := in_descPart (o := o) hn (h.perm hp) k nrem
          exact ⟨⟨h.at hn _, h.at hn _, b1⟩, b2.trans hp⟩
      · exact in_descPart (o := o) hn h k nrem
  exact ⟨kasIn_bind (in_asc hn h _ _) (by rw [hr]; exact key.1), key.2⟩
theorem in_place {p : Array Nat} (h : Ix n p) (k : Nat) : ∀ (f l r : Nat), kasIn n o (kas_place p k f l r)
  | 0, _, _ => trivial
  | f + 1, l, r => by
    unfold kas_place
    split
    · trivial
    · refine ⟨h.at hn _, h.at hn _, ?_⟩
      dsimp only
      split
      · exact in_place h k f _ _
      · exact in_place h k f _ _
theorem in_bin : ∀ (f : Nat) (p : Array Nat) (k : Nat), Ix n p → kasIn n o (kas_bin f p k) ∧ (kasOut o (kas_bin f p k)).Perm p
  | 0, p, _, _ => ⟨trivial, Array.Perm.refl _⟩
  | f + 1, p, k, h => by
    unfold kas_bin
    rw [kasOut_bind]
    generalize hl : kasOut o (kas_place p k k 0 k) = l
    have hp : (bubble p k (k - l)).Perm p := bubble_perm _ _ _
    obtain ⟨a1, a2⟩ := in_bin f (bubble p k (k - l)) (k + 1) (h.perm hp)
    exact ⟨kasIn_bind (in_place hn h k _ _ _) (by rw [hl]; exact a1), a2.trans hp⟩
theorem in_sort : kasIn n o (kas_sort n) ∧ (kasOut o (kas_sort n)).Perm (List.toArray (List.range n)) := by
  unfold kas_sort
  have h : Ix n (List.toArray (List.range n)) := fun x hx => List.mem_range.mp (by simpa using hx)
  obtain ⟨a1, a2⟩ := in_count (o := o) hn h n
  rw [kasOut_bind]
  generalize hr : kasOut o (kas_count n (List.toArray (List.range n))) = r at *
  have key : kasIn n o (if r.1 < n then kas_bin (n - max r.1 1) r.2 (max r.1 1) else KasT.ret r.2) ∧ (kasOut o (if r.1 < n then kas_bin (n - max r.1 1) r.2 (max r.1 1) else KasT.ret r.2)).Perm (List.toArray (List.range n)) := by
    split
    · obtain ⟨b1, b2⟩ := in_bin (o := o) hn (n - max r.1 1) r.2 (max r.1 1) (h.perm a2)
      exact ⟨b1, b2.trans a2⟩
    · exact ⟨trivial, a2⟩
  exact ⟨kasIn_bind a1 (by rw [hr]; exact key.1), key.2⟩
end
end FW
namespace FW
open PySem PySem.Spec PyProof.Rows L2 PySem.W
variable [Tabs]
section
variable {prog : Program} {w : World} {A : Around} {E : Value → Shared → Prop} {s : Shared}
def Kept (a : Addr) (h h' : Heap) : Prop := ∀ b o, b ≠ a → h.get? b = some o → h'.get? b = some o
theorem sort_list {a : Addr} {vs : List Value} {n : Nat} {P : PySem.Fin → Shared → Prop} {κ : SortKind} {o : Nat → Nat → Bool} (ho : s.heap.get? a = some (seqObj "list" vs.toArray n)) (h64 : vs.length < 64)
    (hk : ∀ h', Kept a s.heap h' → 2 ≤ vs.length → ∀ Q : SortKind → Shared → Prop, Q κ { s with heap := h' } → wpAny (model prog w) A (keyKind' vs.toArray) Q E { s with heap := h' })
    (hc : ∀ h', Kept a s.heap h' → ∀ i j C, i < vs.length → j < vs.length → C (o i j) { s with heap := h' } → wpAny (model prog w) A (keyLt' κ (vs.getD i Value.none) (vs.getD j Value.none)) C (fun _ _ => False) { s with heap := h' })
    (h : ∀ (p : Array Nat) h' c, p.Perm (List.toArray (List.range vs.length)) → (2 ≤ vs.length → p = kasOut o (kas_sort vs.length)) → Kept a s.heap h' → h'.get? a = some (seqObj "list" (List.toArray (p.toList.map fun i => vs.getD i Value.none)) c) → P (.done (.ret .none)) { s with heap := h' }) :
    wpAny (model prog w) A (Builtin.«list.sort» ⟨[.ref a], []⟩) P E s := by
  have ha : a < s.heap.objs.size := Heap.lt_size ho
  obtain ⟨e1, ho1⟩ : ∃ e1, (s.heap.update a (Obj.mapSeq fun _ => (#[] : Array Value))).get? a = some (seqObj "list" #[] e1) := ⟨_, get?_update_seq ho fun _ => #[]⟩
  have k3 : Kept a s.heap (((s.heap.update a (Obj.mapSeq fun _ => (#[] : Array Value))).push (seqObj "tuple" vs.toArray 0)).push (seqObj "list" #[] 0)) := fun b ob hb e =>
    Heap.get?_push_of_some _ (Heap.get?_push_of_some _ ((Heap.get?_update_other _ _ (Ne.symm hb)).trans e))
  have ho3 : (((s.heap.update a (Obj.mapSeq fun _ => (#[] : Array Value))).push (seqObj "tuple" vs.toArray 0)).push (seqObj "list" #[] 0)).get? a = some (seqObj "list" #[] e1) := Heap.get?_push_of_some _ (Heap.get?_push_of_some _ ho1)
  rw [list_sort_plain]
  refine wpAny_bind (listItems_at ho rfl ?_)
  refine wpAny_bind (listUpdate_at ho rfl ?_ (by rw [List.size_toArray, sizeLine_eq]; omega) (Nat.zero_le _))
  refine wpAny_bind (seqEpoch_at ho1 rfl ?_)
  refine wpAny_bind (wpAny_newTuple ?_ (by show vs.length ≤ _; rw [sizeLine_eq]; omega))
  refine wpAny_bind (wpAny_newList ?_ (Nat.zero_le _))
  refine wpAny_holding ?_
  show wpAny (model prog w) A _ P E { s with heap := ((s.heap.update a (Obj.mapSeq fun _ => (#[] : Array Value))).push (seqObj "tuple" vs.toArray 0)).push (seqObj "list" #[] 0) }
  dsimp only
  generalize hH : ((s.heap.update a (Obj.mapSeq fun _ => (#[] : Array Value))).push (seqObj "tuple" vs.toArray 0)).push (seqObj "list" #[] 0) = H3 at *
  have tail : ∀ (st : SortSt) (p : Array Nat), p.Perm (List.toArray (List.range vs.length)) → (2 ≤ vs.length → p = kasOut o (kas_sort vs.length)) → (arrOf st).map (·.2) = List.toArray (p.toList.map fun i => vs.getD i Value.none) → failedOf st = none →
      wpAny (model prog w) A (do
        let sorted := (arrOf st).map (·.2)
        let touched := (← seqEpoch a) != e1
        Builtin.List.listUpdate (.ref a) fun _ => sorted
        if let some e := failedOf st then rule "list.sort.comparison-raised"; throw e
        if touched then rule "list.sort.modified"; raiseError "ValueError" "list modified during sort"
        ret .none) P E { s with heap := H3 } := by
    intro st p hp hpo hout hf
    dsimp only
    rw [hout]
    have hsz : (List.toArray (p.toList.map fun i => vs.getD i Value.none)).size = vs.length := by
      rw [List.size_toArray, List.length_map, Array.length_toList, hp.size_eq, List.size_toArray, List.length_range]
    refine wpAny_bind (seqEpoch_at ho3 rfl ?_)
    refine wpAny_bind (listUpdate_at ho3 rfl ?_ (Nat.zero_le _) (Nat.le_trans (Nat.le_of_eq hsz) (by rw [sizeLine_eq]; omega)))
    rw [hf]
    simp only [bne_self_eq_false, Bool.false_eq_true, if_false]
    refine wpAny_pure (h p _ _ hp hpo (fun b ob hb e => (Heap.get?_update_other _ _ (Ne.symm hb)).trans (k3 b ob hb e)) (get?_update_seq ho3 fun _ => List.toArray (p.toList.map fun i => vs.getD i Value.none)))
  by_cases h2 : vs.length < 2
  · rw [if_pos (by rw [List.size_toArray]; exact h2), if_pos (by rw [List.size_toArray]; exact h2)]
    refine wpAny_bind (wpAny_pure ?_)
    rw [StateT.run_pure]
    refine wpAny_bind (wpAny_pure ?_)
    refine tail (SortSt.mk' general' (vs.toArray.zip vs.toArray) #[] 7 none) (List.toArray (List.range vs.length)) (Array.Perm.refl _) (fun h => absurd h (by omega)) ?_ rfl
    show (vs.toArray.zip vs.toArray).map (·.2) = _
    match vs, h2 with
    | [], _ => simp
    | [v], _ => simp [List.range_succ]
    | _ :: _ :: _, h2 => simp at h2; omega
  · have hn2 : ¬ vs.toArray.size < 2 := by rw [List.size_toArray]; exact h2
    rw [if_neg hn2, if_neg hn2]
    refine wpAny_bind (hk H3 k3 (by omega) _ ?_)
    obtain ⟨i1, i2⟩ := in_sort (n := vs.length) (o := o) (by omega)
    refine wpAny_bind (wpAny_mono (kat_run (Q := fun st' s' => s' = { s with heap := H3 } ∧ (arrOf st').map (·.2) = List.toArray ((kasOut o (kas_sort vs.length)).toList.map fun i => vs.getD i Value.none) ∧ failedOf st' = none) (G := fun p s' => p = kasOut o (kas_sort vs.length) ∧ s' = { s with heap := H3 }) rfl (by omega) h64
      (fun p' st' s' a1 a2 a3 a4 => ⟨a4.2, by rw [kat_snds rfl a2, a4.1], a3⟩) (kas_answer (fun i j C hi hj hC => hc H3 k3 i j C hi hj hC) _ i1 ⟨rfl, rfl⟩)) ?_ fun _ _ e => e)
    rintro ⟨⟨⟩, st'⟩ s' ⟨rfl, hout, hf⟩
    exact tail st' _ i2 (fun _ => rfl) hout hf
def ltS (a b : Str) : Bool := decide (a.cps.toList < b.cps.toList)
def ltK : List Str → List Str → Bool
  | [], [] => false
  | [], _ :: _ => true
  | _ :: _, [] => false
  | a :: as, b :: bs => if a = b then ltK as bs else ltS a b
theorem lex_ok {Q : Bool → Shared → Prop} : ∀ {ks ls : List Str} {us vs : List Value} {i : Nat} {fin : Bool}, PySem.ItemsAre (PySem.strKind prog w) ks us → PySem.ItemsAre (PySem.strKind prog w) ls vs → ((us.zip vs = [] → True) ∧ fin = decide (us.length < vs.length)) → Q (ltK ks ls) s → KatLex prog w A true fin Q (us.zip vs) i s
  | _, _, _, _, i, fin, .nil, .nil, hf, h => by rw [hf.2]; exact h
  | _, _, _, _, i, fin, .nil, .cons _ _, hf, h => by
    have : fin = true := by rw [hf.2]; simp
    rw [this]; exact h
  | _, _, _, _, i, fin, .cons _ _, .nil, hf, h => by
    have : fin = false := by rw [hf.2]; simp
    rw [this]; exact h
  | _, _, _, _, i, fin, .cons (k := a) (v := u) h1 r1, .cons (k := b) (v := v) h2 r2, hf, h => by
    rw [List.zip_cons_cons]
    refine kat_cons ((PySem.strKind prog w).eqBool h1 h2 ?_)
    by_cases c : a = b
    · rw [decide_eq_true c]
      refine kat_yes (lex_ok r1 r2 ⟨fun _ => trivial, by rw [hf.2]; simp⟩ ?_)
      unfold ltK at h
      rw [if_pos c] at h
      exact h
    · rw [decide_eq_false c]
      refine kat_no ?_
      unfold ltK at h
      rw [if_neg c] at h
      have hs : ∀ {k : Str} {v : Value}, (PySem.strKind prog w).is k v = true → ∃ t, v = .str k t := fun {k v} hk => by
        cases v with
        | str x t =>
          have : x = k := by
            have := hk
            simp [PySem.strKind, Value.isStrOf] at this
            exact this
          exact ⟨t, by rw [this]⟩
        | _ => exact absurd hk (by simp [PySem.strKind, Value.isStrOf])
      obtain ⟨t, rfl⟩ := hs h1
      obtain ⟨t', rfl⟩ := hs h2
      cases hi : (true && i == 0) with
      | true => exact oneLt_str h
      | false => exact kat_one _ _ (lt_str h)
theorem tk_lt {ks ls : List Str} {a b : Addr} {Q : Bool → Shared → Prop} (h1 : TK prog w s.heap ks a) (h2 : TK prog w s.heap ls b) (h : Q (ltK ks ls) s) : wpAny (model prog w) A (keyLt' (tuples' true) (.ref a) (.ref b)) Q E s := by
  obtain ⟨o1, i1, n1, g1, _, d1, r1⟩ := h1
  obtain ⟨o2, i2, n2, g2, _, d2, r2⟩ := h2
  exact kat_lt g1 d1 g2 d2 (lex_ok r1 r2 ⟨fun _ => trivial, by simp⟩ h)
theorem tk_tups {h : Heap} : ∀ (ps : List KA), (∀ p ∈ ps, TK prog w h p.1 p.2 ∧ p.1 ≠ []) → ∃ fs, KatTups h (ps.map fun p => Value.ref p.2) fs ∧ fs.length = ps.length ∧ ∀ v ∈ fs, ∃ x t, v = Value.str x t
  | [], _ => ⟨[], KatTups.nil, rfl, fun v hv => (List.not_mem_nil hv).elim⟩
  | p :: ps, hp => by
    obtain ⟨fs, h1, h2, h3⟩ := tk_tups ps fun q hq => hp q (.tail _ hq)
    obtain ⟨⟨o, items, n, g, c, d, r⟩, hne⟩ := hp p (.head _)
    cases hi : items.toList with
    | nil => rw [hi] at r; cases hks : p.1 with
      | nil => exact absurd hks hne
      | cons k ks => rw [hks] at r; cases r
    | cons v vs =>
      have hv : items[0]? = some v := by rw [← Array.getElem?_toList, hi]; rfl
      refine ⟨v :: fs, KatTups.cons g c d hv h1, by simp [h2], fun u hu => ?_⟩
      rcases List.mem_cons.mp hu with rfl | hu
      · rw [hi] at r
        cases hks : p.1 with
        | nil => exact absurd hks hne
        | cons k ks =>
          rw [hks] at r
          cases r with
          | cons h1 _ =>
            cases u with
            | str x t => exact ⟨x, t, rfl⟩
            | _ => exact absurd h1 (by simp [PySem.strKind, Value.isStrOf])
      · exact h3 u hu
theorem tk_kind {ps : List KA} {Q : SortKind → Shared → Prop} (hp : ∀ p ∈ ps, TK prog w s.heap p.1 p.2 ∧ p.1 ≠ []) (hne : ps ≠ []) (h : Q (tuples' true) s) : wpAny (model prog w) A (keyKind' (ps.map fun p => Value.ref p.2).toArray) Q E s := by
  obtain ⟨fs, h1, h2, h3⟩ := tk_tups ps hp
  have hl : 0 < fs.length := by rw [h2]; exact List.length_pos_iff.mpr hne
  refine kat_kind (T := .type "str") h1 hl (fun v hv => ?_) (by decide) ?_
  · obtain ⟨x, t, rfl⟩ := h3 v hv
    exact .now
  · exact h
theorem sorted_set {S : Addr} {ps : List KA} {es : Array (Int × Value)} {ep : Nat} {t : SetTable} {Q : Value → Shared → Prop} (hh : A.handled = none) (I : SetIs prog w s.heap S ps (ledOf w) es ep t) (hne : ∀ p ∈ ps, p.1 ≠ []) (hl : ps.length ≤ 18)
    (h : ∀ s' B c (qs : List KA), qs.Perm ps → (2 ≤ ps.length → ∃ rs : List KA, rs.Perm ps ∧ qs = (kasOut (fun i j => ltK (rs.getD i ([], 0)).1 (rs.getD j ([], 0)).1) (kas_sort rs.length)).toList.map fun i => rs.getD i ([], 0)) → (∀ b o, s.heap.get? b = some o → s'.heap.get? b = some o) → s'.gens = s.gens → s'.os = s.os → s.heap.objs.size ≤ B →
      s'.heap.get? B = some (seqObj "list" (qs.map fun p => Value.ref p.2).toArray c) → Q (.ref B) s') :
    wpAny (model prog w) A (call (.builtin "sorted") [.ref S]) Q E s := by
  have hes := I.size
  have hs : SetO w s.heap S es ep t := ⟨I.obj, I.tab.fits, I.led, fun hz => I.plain fun e => by rw [e] at hes; exact hz hes⟩
  refine Calls.call_function_entry kind_sorted plain_sorted entry_sorted (args_sorted1 _) ?_
  unfold Builtin.«sorted»
  refine wpAny_bind (m := checkCount "sorted" 1 1 _) (wpAny_pure ?_)
  refine wpAny_bind (set_collect (A := A.in1) hh hs I.tab.size (by rw [hes, sizeLine_eq]; omega) fun s1 ord hp hk hg hos ht => ?_)
  rw [I.ents] at hp
  obtain ⟨rs, rfl, hrp⟩ := ents_keys hp
  have hv : (rs.map (entK prog w)).map (·.2) = rs.map fun p => Value.ref p.2 := by rw [List.map_map]; rfl
  rw [hv]
  have hrl : rs.length = ps.length := hrp.length_eq
  refine wpAny_bind (wpAny_newList ?_ (by rw [List.length_map, hrl, sizeLine_eq]; omega))
  have hB : (s1.heap.push (seqObj "list" (rs.map fun p => Value.ref p.2).toArray 0)).get? s1.heap.objs.size = some (seqObj "list" (rs.map fun p => Value.ref p.2).toArray 0) := Heap.get?_push_size _ rfl
  have hsz : s.heap.objs.size ≤ s1.heap.objs.size := ht
  have hTK : ∀ h', Kept s1.heap.objs.size (s1.heap.push (seqObj "list" (rs.map fun p => Value.ref p.2).toArray 0)) h' → ∀ p ∈ rs, TK prog w h' p.1 p.2 ∧ p.1 ≠ [] := fun h' hk' p hp => by
    have h1 := I.keys p (hrp.mem_iff.mp hp)
    refine ⟨h1.moved fun o e => ?_, hne p (hrp.mem_iff.mp hp)⟩
    have e1 := hk _ _ e
    exact hk' _ _ (Nat.ne_of_lt (Heap.lt_size e1)) (Heap.get?_push_of_some _ e1)
  refine wpAny_bind (wpAny_holding (wpAny_call_entry slot_list_sort ⟨_, hB, rfl⟩ entry_list_sort ?body (args_list_sort _)))
  case body =>
    refine sort_list (s := { s1 with heap := s1.heap.push (seqObj "list" (rs.map fun p => Value.ref p.2).toArray 0) }) (κ := tuples' true) (o := fun i j => ltK (rs.getD i ([], 0)).1 (rs.getD j ([], 0)).1) hB (by rw [List.length_map, hrl]; omega) (fun h' hk' h2 Q' hq => ?_) (fun h' hk' i j C hi hj hC => ?_) fun p h' c hpp hpo hk' hg' => ?_
    · exact tk_kind (s := { s1 with heap := h' }) (hTK h' hk') (fun e => by rw [e] at h2; simp at h2) hq
    · rw [List.length_map] at hi hj
      have gi : (rs.map fun p => Value.ref p.2).getD i Value.none = .ref (rs.getD i ([], 0)).2 := by simp [hi]
      have gj : (rs.map fun p => Value.ref p.2).getD j Value.none = .ref (rs.getD j ([], 0)).2 := by simp [hj]
      rw [gi, gj]
      have mi : rs.getD i ([], 0) ∈ rs := by simp [hi]
      have mj : rs.getD j ([], 0) ∈ rs := by simp [hj]
      exact tk_lt (s := { s1 with heap := h' }) (hTK h' hk' _ mi).1 (hTK h' hk' _ mj).1 hC
    · refine ⟨_, rfl, wpAny_pure ⟨_, rfl, ?_⟩⟩
      rw [List.length_map] at hpp hpo
      have hpl : p.toList.Perm (List.range rs.length) := by
        have := Array.perm_iff_toList_perm.mp hpp
        simpa using this
      have hq : (p.toList.map fun i => (rs.map fun p => Value.ref p.2).getD i Value.none) = (p.toList.map fun i => rs.getD i ([], 0)).map fun p => Value.ref p.2 := by
        rw [List.map_map]
        refine List.map_congr_left fun i hi => ?_
        have hi' : i < rs.length := List.mem_range.mp (hpl.mem_iff.mp hi)
        simp [hi']
      rw [hq] at hg'
      have hqp : (p.toList.map fun i => rs.getD i ([], 0)).Perm rs := by
        have h1 := hpl.map fun i => rs.getD i ([], 0)
        have h2 : ((List.range rs.length).map fun i => rs.getD i ([], 0)) = rs := by
          apply List.ext_getElem?
          intro i
          rw [List.getElem?_map]
          by_cases c : i < rs.length
          · rw [List.getElem?_range c, List.getElem?_eq_getElem c]; simp [c]
          · rw [List.getElem?_eq_none (by simp; omega), List.getElem?_eq_none (by omega)]; rfl
        rw [h2] at h1; exact h1
      refine h _ _ c _ (hqp.trans hrp) (fun h2 => ⟨rs, hrp, by rw [hpo (by omega)]⟩) (fun b o e => ?_) hg hos hsz hg'
      have e1 := hk _ _ e
      exact hk' _ _ (Nat.ne_of_lt (Heap.lt_size e1)) (Heap.get?_push_of_some _ e1)
end
end FW
namespace FW
open PySem PySem.W PySem.Spec PyProof.Rows L2
variable [Tabs]
structure Tot (o : Nat → Nat → Bool) (N : Nat) : Prop where
  tot : ∀ i j, i < N → j < N → i ≠ j → o i j = !o j i
  tr : ∀ i j k, i < N → j < N → k < N → o i j = true → o j k = true → o i k = true
structure Pm (N : Nat) (p : Array Nat) : Prop where
  size : p.size = N
  ix : ∀ k, k < N → p.getD k 0 < N
  inj : ∀ a b, a < N → b < N → p.getD a 0 = p.getD b 0 → a = b
def Srt (o : Nat → Nat → Bool) (p : Array Nat) (k : Nat) : Prop := ∀ a b, a < b → b < k → o (p.getD a 0) (p.getD b 0) = true
def Dsc (o : Nat → Nat → Bool) (p : Array Nat) (k : Nat) : Prop := ∀ a b, a < b → b < k → o (p.getD b 0) (p.getD a 0) = true
section
variable {o : Nat → Nat → Bool} {N : Nat} {p : Array Nat}
theorem srt_succ (T : Tot o N) (P : Pm N p) {k : Nat} (h1 : 1 ≤ k) (h2 : k < N) (S : Srt o p k) (h : o (p.getD (k - 1) 0) (p.getD k 0) = true) : Srt o p (k + 1) := fun a b hab hb => by
  by_cases hbk : b = k
  · subst hbk
    by_cases ha : a = b - 1
    · subst ha; exact h
    · exact T.tr _ _ _ (P.ix a (by omega)) (P.ix (b - 1) (by omega)) (P.ix b h2) (S a (b - 1) (by omega) (by omega)) h
  · exact S a b hab (by omega)
theorem dsc_succ (T : Tot o N) (P : Pm N p) {k : Nat} (h1 : 1 ≤ k) (h2 : k < N) (S : Dsc o p k) (h : o (p.getD k 0) (p.getD (k - 1) 0) = true) : Dsc o p (k + 1) := fun a b hab hb => by
  by_cases hbk : b = k
  · subst hbk
    by_cases ha : a = b - 1
    · subst ha; exact h
    · exact T.tr _ _ _ (P.ix b h2) (P.ix (b - 1) (by omega)) (P.ix a (by omega)) h (S a (b - 1) (by omega) (by omega))
  · exact S a b hab (by omega)
theorem flip (T : Tot o N) (P : Pm N p) {a b : Nat} (ha : a < N) (hb : b < N) (hne : a ≠ b) (h : o (p.getD a 0) (p.getD b 0) = false) : o (p.getD b 0) (p.getD a 0) = true := by
  have := T.tot _ _ (P.ix a ha) (P.ix b hb) fun z => hne (P.inj a b ha hb z)
  rw [h] at this
  cases q : o (p.getD b 0) (p.getD a 0) with
  | true => rfl
  | false => rw [q] at this; cases this
theorem asc_ok (T : Tot o N) (P : Pm N p) : ∀ (f n : Nat), 1 ≤ n → n + f ≤ N → Srt o p n →
    Srt o p (kasOut o (kas_asc p f n)) ∧ n ≤ kasOut o (kas_asc p f n) ∧ kasOut o (kas_asc p f n) ≤ n + f ∧ (kasOut o (kas_asc p f n) < n + f → o (p.getD (kasOut o (kas_asc p f n)) 0) (p.getD (kasOut o (kas_asc p f n) - 1) 0) = true)
  | 0, n, _, _, S => ⟨S, Nat.le_refl _, Nat.le_refl _, fun z => absurd z (by show ¬ n < n + 0; omega)⟩
  | f + 1, n, h1, h2, S => by
    show Srt o p (kasOut o (if o (p.getD n 0) (p.getD (n - 1) 0) = true then .ret n else kas_asc p f (n + 1))) ∧ _
    have e : kasOut o (kas_asc p (f + 1) n) = kasOut o (if o (p.getD n 0) (p.getD (n - 1) 0) = true then .ret n else kas_asc p f (n + 1)) := rfl
    rw [e]
    cases c : o (p.getD n 0) (p.getD (n - 1) 0) with
    | true =>
      rw [if_pos rfl]
      exact ⟨S, Nat.le_refl _, by show n ≤ _; omega, fun _ => c⟩
    | false =>
      rw [if_neg Bool.false_ne_true]
      obtain ⟨a1, a2, a3, a4⟩ := asc_ok T P f (n + 1) (by omega) (by omega) (srt_succ T P h1 (by omega) S (flip T P (by omega) (by omega) (by omega) c))
      exact ⟨a1, by omega, by omega, fun z => a4 (by omega)⟩
theorem desc_ok (T : Tot o N) (P : Pm N p) : ∀ (f n : Nat), 1 ≤ n → n + f ≤ N → Dsc o p n → ∃ m, kasOut o (kas_desc f p n 0) = (p, m, 0) ∧ n ≤ m ∧ m ≤ n + f ∧ Dsc o p m
  | 0, n, _, _, S => ⟨n, rfl, Nat.le_refl _, Nat.le_refl _, S⟩
  | f + 1, n, h1, h2, S => by
    have e : kasOut o (kas_desc (f + 1) p n 0) = kasOut o (if o (p.getD n 0) (p.getD (n - 1) 0) = true then (if 0 > 0 then kas_desc f (kas_rev p (n - (0 + 1)) n) (n + 1) 0 else kas_desc f p (n + 1) 0)
      else .ask (p.getD (n - 1) 0) (p.getD n 0) fun d => if d = true then .ret (p, n, 0) else kas_desc f p (n + 1) (0 + 1)) := rfl
    rw [e]
    cases c : o (p.getD n 0) (p.getD (n - 1) 0) with
    | true =>
      rw [if_pos rfl, if_neg (by omega)]
      obtain ⟨m, a1, a2, a3, a4⟩ := desc_ok T P f (n + 1) (by omega) (by omega) (dsc_succ T P h1 (by omega) S c)
      exact ⟨m, a1, by omega, by omega, a4⟩
    | false =>
      rw [if_neg Bool.false_ne_true]
      have d := flip T P (by omega) (by omega) (by omega) c
      show ∃ m, kasOut o (if o (p.getD (n - 1) 0) (p.getD n 0) = true then .ret (p, n, 0) else kas_desc f p (n + 1) (0 + 1)) = (p, m, 0) ∧ _
      rw [d, if_pos rfl]
      exact ⟨n, rfl, Nat.le_refl _, by omega, S⟩
theorem rev_get (P : Pm N p) {m : Nat} (hm : m ≤ N) (k : Nat) : (kas_rev p 0 m).getD k 0 = if k < m then p.getD (m - 1 - k) 0 else p.getD k 0 := by
  unfold kas_rev
  have h := getElem?_mirror_all (xs := p) (i := 0) (j := m) (by rw [P.size]; exact hm) k
  rw [Array.getD_eq_getD_getElem?, h]
  by_cases hk : k < m
  · rw [if_pos ⟨by omega, hk⟩, if_pos hk, Array.getD_eq_getD_getElem?, show 0 + m - 1 - k = m - 1 - k by omega]
  · rw [if_neg (by omega), if_neg hk, Array.getD_eq_getD_getElem?]
theorem rev_pm (P : Pm N p) {m : Nat} (hm : m ≤ N) : Pm N (kas_rev p 0 m) where
  size := by rw [kas_rev_size]; exact P.size
  ix := fun k hk => by
    rw [rev_get P hm]
    split
    · exact P.ix _ (by omega)
    · exact P.ix _ hk
  inj := fun a b ha hb e => by
    rw [rev_get P hm, rev_get P hm] at e
    split at e <;> split at e
    · have := P.inj _ _ (by omega) (by omega) e; omega
    · have := P.inj _ _ (by omega) (by omega) e; omega
    · have := P.inj _ _ (by omega) (by omega) e; omega
    · exact P.inj _ _ ha hb e
theorem rev_srt (P : Pm N p) {m : Nat} (hm : m ≤ N) (S : Dsc o p m) : Srt o (kas_rev p 0 m) m := fun a b hab hb => by
  rw [rev_get P hm, rev_get P hm, if_pos (by omega), if_pos hb]
  exact S _ _ (by omega) (by omega)
theorem tail3_ok (T : Tot o N) (P : Pm N p) {m : Nat} (h1 : 1 ≤ m) (hm : m ≤ N) (S : Dsc o p m) : ∃ m' p', kasOut o (kas_tail3 m N p) = (m', p') ∧ 1 ≤ m' ∧ m' ≤ N ∧ Pm N p' ∧ Srt o p' m' := by
  unfold kas_tail3
  rw [kasOut_bind]
  have P' := rev_pm P hm
  obtain ⟨a1, a2, a3, _⟩ := asc_ok T P' (N - m) m h1 (by omega) (rev_srt P hm S)
  exact ⟨_, _, rfl, by omega, by omega, P', a1⟩
theorem count_ok (T : Tot o N) (P : Pm N p) (hN : 2 ≤ N) : ∃ m' p', kasOut o (kas_count N p) = (m', p') ∧ 1 ≤ m' ∧ m' ≤ N ∧ Pm N p' ∧ Srt o p' m' := by
  unfold kas_count
  rw [kasOut_bind]
  obtain ⟨a1, a2, a3, a4⟩ := asc_ok T P (N - 1) 1 (Nat.le_refl _) (by omega) (fun a b h1 h2 => absurd h1 (by omega))
  generalize kasOut o (kas_asc p (N - 1) 1) = n at *
  by_cases hn : n = N
  · rw [if_pos (by simp [hn])]
    exact ⟨n, p, rfl, a2, by omega, P, a1⟩
  · rw [if_neg (by simp [hn])]
    by_cases h1 : n > 1
    · rw [if_pos h1]
      have c : o (p.getD 0 0) (p.getD (n - 1) 0) = true := a1 0 (n - 1) (by omega) (by omega)
      show ∃ m' p', kasOut o (if o (p.getD 0 0) (p.getD (n - 1) 0) = true then .ret (n, p) else kas_descPart n N (kas_rev p 0 n)) = (m', p') ∧ _
      rw [c, if_pos rfl]
      exact ⟨n, p, rfl, a2, by omega, P, a1⟩
    · rw [if_neg h1]
      have h1' : n = 1 := by omega
      subst h1'
      have c := a4 (by omega)
      have S2 : Dsc o p (1 + 1) := fun a b hab hb => by
        have ha : a = 0 := by omega
        have hb' : b = 1 := by omega
        subst ha; subst hb'; exact c
      unfold kas_descPart
      rw [kasOut_bind]
      obtain ⟨m, d1, d2, d3, d4⟩ := desc_ok T P (N - (1 + 1)) (1 + 1) (by omega) (by omega) S2
      rw [d1]
      show ∃ m' p', kasOut o (if 0 > 0 then kas_tail3 m N (kas_rev p (m - (0 + 1)) m) else kas_tail3 m N p) = (m', p') ∧ _
      rw [if_neg (by omega)]
      exact tail3_ok T P (by omega) (by omega) d4
theorem place_ok (T : Tot o N) (P : Pm N p) {k : Nat} (hk : k < N) (S : Srt o p k) : ∀ (f l r : Nat), l ≤ r → r ≤ k → r - l ≤ f → (∀ a, a < l → o (p.getD a 0) (p.getD k 0) = true) → (∀ b, r ≤ b → b < k → o (p.getD k 0) (p.getD b 0) = true) →
    kasOut o (kas_place p k f l r) ≤ k ∧ (∀ a, a < kasOut o (kas_place p k f l r) → o (p.getD a 0) (p.getD k 0) = true) ∧ ∀ b, kasOut o (kas_place p k f l r) ≤ b → b < k → o (p.getD k 0) (p.getD b 0) = true
  | 0, l, r, h1, h2, h3, hl, hr => ⟨by show l ≤ k; omega, hl, fun b hb hbk => hr b (by have : l ≤ b := hb; omega) hbk⟩
  | f + 1, l, r, h1, h2, h3, hl, hr => by
    have e : kasOut o (kas_place p k (f + 1) l r) = kasOut o (if l ≥ r then .ret l else .ask (p.getD k 0) (p.getD ((l + r) / 2) 0) fun c => if c = true then kas_place p k f l ((l + r) / 2) else kas_place p k f ((l + r) / 2 + 1) r) := rfl
    rw [e]
    by_cases hlr : l ≥ r
    · rw [if_pos hlr]
      exact ⟨by show l ≤ k; omega, hl, fun b hb hbk => hr b (by have : l ≤ b := hb; omega) hbk⟩
    · rw [if_neg hlr]
      have em : kasOut o (.ask (p.getD k 0) (p.getD ((l + r) / 2) 0) fun c => if c = true then kas_place p k f l ((l + r) / 2) else kas_place p k f ((l + r) / 2 + 1) r) = kasOut o (if o (p.getD k 0) (p.getD ((l + r) / 2) 0) = true then kas_place p k f l ((l + r) / 2) else kas_place p k f ((l + r) / 2 + 1) r) := rfl
      rw [em]
      cases c : o (p.getD k 0) (p.getD ((l + r) / 2) 0) with
      | true =>
        rw [if_pos rfl]
        refine place_ok T P hk S f l ((l + r) / 2) (by omega) (by omega) (by omega) hl fun b hb hbk => ?_
        by_cases hbm : b = (l + r) / 2
        · rw [hbm]; exact c
        · exact T.tr _ _ _ (P.ix k hk) (P.ix ((l + r) / 2) (by omega)) (P.ix b (by omega)) c (S _ _ (by omega) hbk)
      | false =>
        rw [if_neg Bool.false_ne_true]
        have d := flip T P hk (show (l + r) / 2 < N by omega) (by omega) c
        refine place_ok T P hk S f ((l + r) / 2 + 1) r (by omega) h2 (by omega) (fun a ha => ?_) hr
        by_cases ham : a = (l + r) / 2
        · rw [ham]; exact d
        · exact T.tr _ _ _ (P.ix a (by omega)) (P.ix ((l + r) / 2) (by omega)) (P.ix k hk) (S _ _ (by omega) (by omega)) d
theorem bub_get (P : Pm N p) {k l : Nat} (hk : k < N) (hl : l ≤ k) (j : Nat) : (bubble p k (k - l)).getD j 0 = if j = l then p.getD k 0 else if l < j ∧ j ≤ k then p.getD (j - 1) 0 else p.getD j 0 := by
  rw [Array.getD_eq_getD_getElem?, getElem?_bubble (by rw [P.size]; exact hk) (k - l) (by omega), show k - (k - l) = l by omega]
  repeat' split
  all_goals rw [Array.getD_eq_getD_getElem?]
theorem bub_pm (P : Pm N p) {k l : Nat} (hk : k < N) (hl : l ≤ k) : Pm N (bubble p k (k - l)) where
  size := by rw [bubble_size]; exact P.size
  ix := fun j hj => by
    rw [bub_get P hk hl]
    repeat' split
    all_goals exact P.ix _ (by omega)
  inj := fun a b ha hb e => by
    rw [bub_get P hk hl, bub_get P hk hl] at e
    repeat' split at e
    all_goals (have := P.inj _ _ (by omega) (by omega) e; omega)
theorem bub_srt (P : Pm N p) {k l : Nat} (hk : k < N) (hl : l ≤ k) (S : Srt o p k) (h1 : ∀ a, a < l → o (p.getD a 0) (p.getD k 0) = true) (h2 : ∀ b, l ≤ b → b < k → o (p.getD k 0) (p.getD b 0) = true) : Srt o (bubble p k (k - l)) (k + 1) := fun a b hab hb => by
  rw [bub_get P hk hl, bub_get P hk hl]
  repeat' split
  all_goals first
    | omega
    | exact h1 _ (by omega)
    | exact h2 _ (by omega) (by omega)
    | exact S _ _ (by omega) (by omega)
theorem bin_ok (T : Tot o N) : ∀ (f : Nat) (p : Array Nat) (k : Nat), Pm N p → 1 ≤ k → k + f = N → Srt o p k → Srt o (kasOut o (kas_bin f p k)) N
  | 0, p, k, P, _, h, S => by rw [← h]; exact S
  | f + 1, p, k, P, h1, h, S => by
    have e : kasOut o (kas_bin (f + 1) p k) = kasOut o ((kas_place p k k 0 k).bind fun l => kas_bin f (bubble p k (k - l)) (k + 1)) := rfl
    rw [e, kasOut_bind]
    obtain ⟨a1, a2, a3⟩ := place_ok T P (show k < N by omega) S k 0 k (Nat.zero_le _) (Nat.le_refl _) (by omega) (fun a ha => absurd ha (by omega)) (fun b hb hbk => absurd hb (by omega))
    exact bin_ok T f _ (k + 1) (bub_pm P (by omega) a1) (by omega) (by omega) (bub_srt P (by omega) a1 S a2 a3)
theorem sort_ok (T : Tot o N) (hN : 2 ≤ N) : Srt o (kasOut o (kas_sort N)) N := by
  unfold kas_sort
  rw [kasOut_bind]
  have P : Pm N (List.toArray (List.range N)) := by
    have g : ∀ k, k < N → (List.toArray (List.range N)).getD k 0 = k := fun k hk => by
      rw [Array.getD_eq_getD_getElem?]; simp [hk]
    exact ⟨by simp, fun k hk => by rw [g k hk]; exact hk, fun a b ha hb e => by rw [g a ha, g b hb] at e; exact e⟩
  obtain ⟨m, p', e, c1, c2, c3, c4⟩ := count_ok T P hN
  rw [e]
  show Srt o (kasOut o (if m < N then kas_bin (N - max m 1) p' (max m 1) else .ret p')) N
  have hm : max m 1 = m := by omega
  by_cases h : m < N
  · rw [if_pos h, hm]
    exact bin_ok T (N - m) p' m c3 c1 (by omega) c4
  · rw [if_neg h]
    have : m = N := by omega
    rw [this] at c4
    exact c4
end
theorem ln_trans : ∀ (xs ys zs : List Nat), xs < ys → ys < zs → xs < zs
  | _, [], _, h, _ => by simp at h
  | _, _ :: _, [], _, h => by simp at h
  | [], _ :: _, _ :: _, _, _ => by simp
  | x :: xs, y :: ys, z :: zs, h1, h2 => by
    rw [List.cons_lt_cons_iff] at h1 h2 ⊢
    rcases h1 with h1 | ⟨rfl, h1⟩
    · rcases h2 with h2 | ⟨rfl, h2⟩
      · exact .inl (Nat.lt_trans h1 h2)
      · exact .inl h1
    · rcases h2 with h2 | ⟨rfl, h2⟩
      · exact .inl h2
      · exact .inr ⟨rfl, ln_trans xs ys zs h1 h2⟩
theorem ln_irr : ∀ (xs : List Nat), ¬ xs < xs
  | [] => by simp
  | x :: xs => by
    rw [List.cons_lt_cons_iff]
    rintro (h | ⟨_, h⟩)
    · exact Nat.lt_irrefl _ h
    · exact ln_irr xs h
theorem ln_tot : ∀ (xs ys : List Nat), xs ≠ ys → xs < ys ∨ ys < xs
  | [], [], h => absurd rfl h
  | [], _ :: _, _ => by simp
  | _ :: _, [], _ => by simp
  | x :: xs, y :: ys, h => by
    rw [List.cons_lt_cons_iff, List.cons_lt_cons_iff]
    rcases Nat.lt_trichotomy x y with z | z | z
    · exact .inl (.inl z)
    · subst z
      rcases ln_tot xs ys fun e => h (by rw [e]) with w | w
      · exact .inl (.inr ⟨rfl, w⟩)
      · exact .inr (.inr ⟨rfl, w⟩)
    · exact .inr (.inl z)
theorem ltS_irr (a : Str) : ltS a a = false := decide_eq_false (ln_irr _)
theorem ltS_trans {a b c : Str} (h1 : ltS a b = true) (h2 : ltS b c = true) : ltS a c = true := decide_eq_true (ln_trans _ _ _ (of_decide_eq_true h1) (of_decide_eq_true h2))
theorem str_ext {a b : Str} (h : a.cps.toList = b.cps.toList) : a = b := by
  cases a; cases b
  simp only at h
  congr 1
  exact Array.toList_inj.mp h
theorem ltS_tot {a b : Str} (h : a ≠ b) : ltS a b = !ltS b a := by
  rcases ln_tot a.cps.toList b.cps.toList fun e => h (str_ext e) with z | z
  · have h1 : ltS a b = true := decide_eq_true z
    have h2 : ltS b a = false := decide_eq_false fun w => ln_irr _ (ln_trans _ _ _ z w)
    rw [h1, h2]; rfl
  · have h1 : ltS b a = true := decide_eq_true z
    have h2 : ltS a b = false := decide_eq_false fun w => ln_irr _ (ln_trans _ _ _ z w)
    rw [h1, h2]; rfl
theorem ltK_trans : ∀ {a b c : List Str}, ltK a b = true → ltK b c = true → ltK a c = true
  | [], [], _, h, _ => by cases h
  | _ :: _, [], _, h, _ => by cases h
  | _, _ :: _, [], _, h => by cases h
  | [], _ :: _, _ :: _, _, _ => rfl
  | x :: xs, y :: ys, z :: zs, h1, h2 => by
    unfold ltK at h1 h2 ⊢
    by_cases e1 : x = y
    · subst e1
      rw [if_pos rfl] at h1
      by_cases e2 : x = z
      · subst e2
        rw [if_pos rfl] at h2 ⊢
        exact ltK_trans h1 h2
      · rw [if_neg e2] at h2 ⊢; exact h2
    · rw [if_neg e1] at h1
      by_cases e2 : y = z
      · subst e2
        rw [if_neg e1]; exact h1
      · rw [if_neg e2] at h2
        have h3 := ltS_trans h1 h2
        have e3 : x ≠ z := fun e => by subst e; rw [ltS_irr] at h3; cases h3
        rw [if_neg e3]; exact h3
theorem ltK_tot : ∀ {a b : List Str}, a ≠ b → ltK a b = !ltK b a
  | [], [], h => absurd rfl h
  | [], _ :: _, _ => rfl
  | _ :: _, [], _ => rfl
  | x :: xs, y :: ys, h => by
    unfold ltK
    by_cases e : x = y
    · subst e
      rw [if_pos rfl, if_pos rfl]
      exact ltK_tot fun z => h (by rw [z])
    · rw [if_neg e, if_neg fun z => e z.symm]
      exact ltS_tot e
theorem pair_of_srt {rs : List (List Str × Addr)} (nd : (rs.map (·.1)).Nodup) (h2 : 2 ≤ rs.length) :
    ((kasOut (fun i j => ltK (rs.getD i ([], 0)).1 (rs.getD j ([], 0)).1) (kas_sort rs.length)).toList.map fun i => rs.getD i ([], 0)).Pairwise fun a b => ltK a.1 b.1 = true := by
  generalize ho : (fun i j => ltK (rs.getD i ([], 0)).1 (rs.getD j ([], 0)).1) = o
  have T : Tot o rs.length := by
    subst ho
    refine ⟨fun i j hi hj hne => ltK_tot fun e => hne ?_, fun i j k _ _ _ h1 h2 => ltK_trans h1 h2⟩
    have e1 : (rs.map (·.1))[i]? = some (rs.getD i ([], 0)).1 := by simp [hi]
    have e2 : (rs.map (·.1))[j]? = some (rs.getD j ([], 0)).1 := by simp [hj]
    exact (List.getElem?_inj (by simpa using hi) nd).mp (by rw [e1, e2, e])
  have S := sort_ok T h2
  have hp := (in_sort (n := rs.length) (o := o) (by omega)).2
  generalize kasOut o (kas_sort rs.length) = p at S hp
  have hsz : p.size = rs.length := by
    have := Array.Perm.size_eq hp
    simpa using this
  rw [List.pairwise_iff_getElem]
  intro a b ha hb hab
  have ha' : a < p.size := by simpa using ha
  have hb' : b < p.size := by simpa using hb
  have h := S a b hab (by omega)
  subst ho
  simp only [List.getElem_map, Array.getElem_toList]
  have g1 : p.getD a 0 = p[a] := by simp [ha']
  have g2 : p.getD b 0 = p[b] := by simp [hb']
  rw [g1, g2] at h
  exact h
end FW
namespace FW
open PySem PySem.Spec PyProof.Rows L2 PySem.W
variable [Tabs]
def keyT : T → Option (List Str)
  | .tup ts => match strsT ts with
    | some (k :: ks) => some (k :: ks)
    | _ => none
  | _ => none
def keysT : List T → Option (List (List Str))
  | [] => some []
  | t :: ts => (keyT t).bind fun k => (keysT ts).map (k :: ·)
def tupK (ks : List Str) : T := .tup (ks.map T.str)
structure SrtOf (kss out : List (List Str)) : Prop where
  mem : ∀ k, k ∈ out ↔ k ∈ kss
  nodup : out.Nodup
  rise : out.Pairwise fun a b => ltK a b = true
def srtR : List T → Option (List (List Str))
  | [.lst xs] => keysT xs
  | _ => none
def wSrt (ta : WA) : WE := fun ρ Q => ta ρ fun rs ρ1 => bO (rdRs ρ1 rs) fun ts => bO (srtR ts) fun kss => kss.length ≤ 18 ∧ ∀ out, SrtOf kss out → Q (.own (out.map tupK)) ρ1
theorem strsT_some : ∀ {ts : List T} {ks : List Str}, strsT ts = some ks → ts = ks.map T.str
  | [], ks, h => by cases h; rfl
  | t :: ts, ks, h => by
    cases t with
    | str x =>
      unfold strsT at h
      cases q : strsT ts with
      | none => rw [q] at h; cases h
      | some l => rw [q] at h; cases h; rw [strsT_some q]; rfl
    | _ => unfold strsT at h; cases h
theorem keyT_some {t : T} {ks : List Str} (h : keyT t = some ks) : t = tupK ks ∧ ks ≠ [] := by
  cases t with
  | tup ts =>
    have h' : (match strsT ts with | some (k :: ks) => some (k :: ks) | _ => none) = some ks := h
    cases q : strsT ts with
    | none => rw [q] at h'; cases h'
    | some l =>
      cases l with
      | nil => rw [q] at h'; cases h'
      | cons k l => rw [q] at h'; cases h'; exact ⟨by rw [strsT_some q]; rfl, by simp⟩
  | _ => cases h
section
variable {X : Cx} {pins : List (Addr × Obj)} {σ : L2.St} {H : Hp} {s : Shared}
theorem reps_strs {K : W.Frag} {H : Hp} : ∀ {ks : List Str} {vs : List V}, Reps K H (ks.map T.str) vs → vs = ks.map V.str
  | [], vs, h => by rw [List.map_nil, reps_nil] at h; subst h; rfl
  | k :: ks, vs, h => by
    rw [List.map_cons, reps_cons] at h
    obtain ⟨v, r, rfl, h1, h2⟩ := h
    rw [rep_str] at h1
    rw [h1, reps_strs h2]; rfl
theorem items_strs {prog : Program} {w : World} : ∀ {ks : List Str} {us : List Value}, Vals (ks.map V.str) us → PySem.ItemsAre (PySem.strKind prog w) ks us
  | [], _, .nil => .nil
  | k :: ks, _, .cons h r => by
    obtain ⟨t, rfl⟩ := h
    exact .cons (by simp [PySem.strKind, Value.isStrOf]) (items_strs r)
theorem tk_of {ks : List Str} {v : V} (I : Inv X pins σ H s) (h : Rep X.K H (tupK ks) v) : ∃ a, v = .ref a ∧ TK X.prog X.w s.heap ks a := by
  unfold tupK at h
  rw [rep_tup] at h
  obtain ⟨a, vs, rfl, h1, h2⟩ := h
  obtain rfl := reps_strs h2
  obtain ⟨its, r, ⟨o, g, c, n, d⟩, _⟩ := I.tuple h1
  exact ⟨a, rfl, o, its.toArray, n, g, c, d, by simpa using items_strs r⟩
theorem tks_of (I : Inv X pins σ H s) : ∀ {xs : List T} {kss : List (List Str)} {vs : List V}, keysT xs = some kss → Reps X.K H xs vs → ∃ ka : List KA, vs = ka.map (fun p => V.ref p.2) ∧ kss = ka.map (·.1) ∧ ∀ p ∈ ka, TK X.prog X.w s.heap p.1 p.2 ∧ p.1 ≠ [] ∧ Rep X.K H (tupK p.1) (.ref p.2)
  | [], kss, vs, h, r => by
    cases h
    rw [reps_nil] at r
    subst r
    exact ⟨[], rfl, rfl, fun p hp => (List.not_mem_nil hp).elim⟩
  | t :: ts, kss, vs, h, r => by
    unfold keysT at h
    rw [reps_cons] at r
    obtain ⟨v, r', rfl, h1, h2⟩ := r
    cases q : keyT t with
    | none => rw [q] at h; cases h
    | some k =>
      rw [q] at h
      cases q2 : keysT ts with
      | none => rw [q2] at h; cases h
      | some ks =>
        rw [q2] at h
        cases h
        obtain ⟨ka, rfl, rfl, h3⟩ := tks_of I q2 h2
        obtain ⟨rfl, hne⟩ := keyT_some q
        obtain ⟨a, rfl, htk⟩ := tk_of I h1
        refine ⟨(k, a) :: ka, rfl, rfl, fun p hp => ?_⟩
        rcases List.mem_cons.mp hp with rfl | hp
        · exact ⟨htk, hne, h1⟩
        · exact h3 p hp
theorem vals_refs : ∀ {ka : List KA} {us : List Value}, Vals (ka.map fun p => V.ref p.2) us → us = ka.map fun p => Value.ref p.2
  | [], _, .nil => rfl
  | p :: ka, _, .cons h r => by
    cases h
    rw [vals_refs r]; rfl
theorem refs_vals : ∀ (ka : List KA), Vals (ka.map fun p => V.ref p.2) (ka.map fun p => Value.ref p.2)
  | [] => .nil
  | p :: ka => .cons rfl (refs_vals ka)
theorem reps_keys {K : W.Frag} {H : Hp} : ∀ (qs : List KA), (∀ p ∈ qs, Rep K H (tupK p.1) (.ref p.2)) → Reps K H ((qs.map (·.1)).map tupK) (qs.map fun p => V.ref p.2)
  | [], _ => .nil
  | p :: qs, h => by
    rw [List.map_cons, List.map_cons, List.map_cons, reps_cons]
    exact ⟨_, _, rfl, h p (.head _), reps_keys qs fun q hq => h q (.tail _ hq)⟩
theorem Inv.other {s' : Shared} (I : Inv X pins σ H { s with heap := s'.heap }) (hg : s'.gens = s.gens) (ho : s'.os = s.os) : Inv X pins σ H s' := by
  obtain ⟨h, g, d, t, o⟩ := s'
  have hg' : g = s.gens := hg
  have ho' : o = s.os := ho
  subst hg'; subst ho'
  exact ⟨I.ok, I.os, I.bare, I.base, I.loc, I.cell, I.free, I.freeC, I.pin, I.hok, I.len⟩
end
theorem d_srt {X : Cx} {e : Expr} {ta : WA} {p p2 pos pos2 : Pos} {k : Nat} (hr : Room k X.A) (hc : X.calm = true) (hg : Gl X "sorted") (hm : X.mg "sorted" = none) (hg2 : Gl X "set") (hm2 : X.mg "set" = none) (ha : DA X [e] ta)
    (hv : bootBuiltins "sorted" = some (.builtin "sorted")) (hv2 : bootBuiltins "set" = some (.type "set"))
    (he : starEach [.Call (.Name "set" p2) [e] [] pos2] X.env = (false, eval (.Call (.Name "set" p2) [e] [] pos2) X.env) :: starEach [] X.env := by rfl) (hpl : (backTo pos (starEach [] X.env)).any (·.1) = false := by rfl)
    (he2 : starEach [e] X.env = (false, eval e X.env) :: starEach [] X.env := by rfl) (hpl2 : (backTo pos2 (starEach [] X.env)).any (·.1) = false := by rfl) :
    DE X (.Call (.Name "sorted" p) [.Call (.Name "set" p2) [e] [] pos2] [] pos) (wSrt ta) := by
  intro pins s σ H ρ Q I E q
  have hh : X.A.handled = none := I.ok.hd hc
  have hun := rm hr
  refine wpAny_Call_Name_kw (ld_blt I hg hm hv ?_ (by decide) (by decide))
  refine PyProof.Rows.callWith_builtin1 ?_ he hpl
  rw [he]
  refine Calls.spliced_cons ?_
  refine wpAny_Call_Name_kw (ld_blt I hg2 hm2 hv2 ?_ (by decide) (by decide))
  refine PyProof.Rows.callWith_type1 ?_ he2 hpl2
  refine thn (ha pos2 pins s σ H (fun vs H' => ∃ rs ρ', EvOk X.K ρ' σ H' ∧ Stp (Own ρ σ) H (Own ρ' σ) H' ∧ RepRs X.K ρ' σ H H' rs vs ∧ (bO (rdRs ρ' rs) fun ts => bO (srtR ts) fun kss => kss.length ≤ 18 ∧ ∀ out, SrtOf kss out → Q (.own (out.map tupK)) ρ')) I ⟨ρ, _, E, q, fun vs H' rs ρ' E' S' p' q' => ⟨rs, ρ', E', S', p', q'⟩⟩) fun us s1 ⟨vs, H1, I1, rv, rs, ρ1, E1, S1, p1, q1⟩ => ?_
  obtain ⟨ts, e1, q1⟩ := bO_iff.mp q1
  obtain ⟨kss, e2, hlen, q1⟩ := bO_iff.mp q1
  have hnow := rdRs_now E1 p1 e1
  have hts : ∃ xs, ts = [.lst xs] ∧ keysT xs = some kss := by
    unfold srtR at e2
    split at e2
    · exact ⟨_, rfl, e2⟩
    · cases e2
  obtain ⟨xs, rfl, e3⟩ := hts
  cases hnow with
  | cons n1 n2 =>
    cases n2
    obtain ⟨l, ws, rfl, hsq, hrep⟩ := n1
    obtain ⟨u, rfl, hru⟩ := Vals.one rv
    cases hru
    obtain ⟨ka, rfl, rfl, hka⟩ := tks_of I1 e3 hrep
    obtain ⟨its, hits, hplain, _⟩ := I1.list hsq
    obtain rfl := vals_refs hits
    have hsz : (ka.map fun p => Value.ref p.2).toArray.size = ka.length := by simp
    rw [List.length_map] at hlen
    have hgetd : ∀ i, i < ka.length → ka.getD i ([], 0) ∈ ka := fun i hi => by simp [hi]
    refine set_list (ka := fun i => ka.getD i ([], 0)) (by simp only [Around.in1_units]; omega) hh hplain.isList (fun i v hv => ?_) (fun i hi => ?_) (by rw [hsz]; exact hlen) fun h' tk ps es ep t hS hC hk => ?_
    · have hi : i < ka.length := by
        have := (Array.getElem?_eq_some_iff.mp hv).1
        rw [hsz] at this; exact this
      simp [hi] at hv
      simp [hi, ← hv]
    · rw [hsz] at hi
      exact ⟨(hka _ (hgetd i hi)).1, (hka _ (hgetd i hi)).2.1⟩
    · rw [hsz] at hC
      refine Calls.spliced_nil ?_
      have hps : ∀ p ∈ ps, p ∈ ka := fun p hp => by
        obtain ⟨i, hi, rfl⟩ := hC.1 p hp
        exact hgetd i hi
      refine sorted_set (s := { s1 with heap := h', toks := tk }) hh hS (fun p hp => (hka p (hps p hp)).2.1) (by have := hC.len hS.nodup; omega) fun s2 B c qs hq hqs hk2 hg2 ho2 hB hl => ?_
      have hBs : s1.heap.objs.size ≤ B := by
        refine Nat.le_trans ?_ hB
        exact Nat.le_of_lt (Heap.lt_size hS.obj)
      have hkeep : ∀ b o, s1.heap.get? b = some o → s2.heap.get? b = some o := fun b o eb => hk2 b o (hk b o (Heap.lt_size eb) eb)
      have hnone : H1 B = none := I1.hok.fresh hBs
      have hqk : ∀ p ∈ qs, p ∈ ka := fun p hp => hps p (hq.mem_iff.mp hp)
      have hqz : qs.length ≤ sizeLine := by
        rw [hq.length_eq, sizeLine_eq]
        have := hC.len hS.nodup; omega
      have I2 : Inv X pins σ (upd H1 B (.lst (qs.map fun p => V.ref p.2))) s2 := by
        refine Inv.other (s := s1) (I1.laid (t' := s1.toks) hkeep hBs ?_) hg2 ho2
        exact ⟨by rw [List.length_map]; exact hqz, qs.map fun p => Value.ref p.2, c, refs_vals qs, hl⟩
      have hreps := reps_keys (K := X.K) (H := H1) qs fun p hp => (hka p (hqk p hp)).2.2
      have nr := newR_own (K := X.K) hnone hreps
      refine ⟨.ref B, _, .own ((qs.map (·.1)).map tupK), ρ1, I2, rfl, E1.ext nr.1, S1.trans nr.1.stp, nr.rep E1 S1, q1 _ ⟨fun k => ?_, ?_, ?_⟩⟩
      · rw [List.mem_map, List.mem_map]
        constructor
        · rintro ⟨p, hp, rfl⟩; exact ⟨p, hqk p hp, rfl⟩
        · rintro ⟨p, hp, rfl⟩
          obtain ⟨i, hi⟩ := List.mem_iff_getElem?.mp hp
          obtain ⟨hi', ei⟩ := List.getElem?_eq_some_iff.mp hi
          have this : (ka.getD i ([], 0)).1 ∈ ps.map (·.1) := hC.2 i hi'
          have eg : ka.getD i ([], 0) = p := by simp [hi', ei]
          rw [eg] at this
          obtain ⟨p', hp', e'⟩ := List.mem_map.mp this
          exact ⟨p', hq.mem_iff.mpr hp', e'⟩
      · exact (hq.map (·.1)).nodup_iff.mpr hS.nodup
      · rw [List.pairwise_map]
        by_cases h2 : 2 ≤ ps.length
        · obtain ⟨rs, hrp, rfl⟩ := hqs h2
          exact pair_of_srt ((hrp.map (·.1)).nodup_iff.mpr hS.nodup) (by rw [hrp.length_eq]; exact h2)
        · have hl1 : qs.length ≤ 1 := by rw [hq.length_eq]; omega
          match qs, hl1 with
          | [], _ => exact .nil
          | [_], _ => exact .cons (fun _ h => by cases h) .nil
end FW
namespace FW
open PySem PySem.Spec PyProof.Rows L2 PySem.W
variable [Tabs]
def LO (h : Heap) (a : Addr) (us : List Value) : Prop := ∃ n sl, h.get? a = some { cls := .type "list", dict := none, data := .seq us.toArray n, slots := sl }
section
variable {prog : Program} {w : World} {A : Around} {R : Result → Shared → Prop} {I : Addr} {fp wr : List Addr} {n : Nat} {P : Nat → Value → Prop} {St : Nat → Heap → Prop}
end
section
variable {prog : Program} {w : World} {A : Around} {E : Value → Shared → Prop} {s : Shared}
end
end FW
namespace FW
open PySem PySem.Spec PyProof.Rows L2
variable [Tabs]
def okAk (io : Option Nat) : Nat → List Slot → Prop
  | _, [] => True
  | k, .own _ :: r => io = some k ∧ okAk io (k + 1) r
  | k, .val _ :: r => okAk io (k + 1) r
  | k, .un :: r => okAk io (k + 1) r
theorem okA_nil {io : Option Nat} {k : Nat} : okAk io k [] = True := rfl
theorem okA_own {io : Option Nat} {k : Nat} {xs : List T} {r : List Slot} : okAk io k (.own xs :: r) = (io = some k ∧ okAk io (k + 1) r) := rfl
theorem okA_val {io : Option Nat} {k : Nat} {t : T} {r : List Slot} : okAk io k (.val t :: r) = okAk io (k + 1) r := rfl
theorem okAk_iff {io : Option Nat} : ∀ (as : List Slot) (k : Nat), okAk io k as ↔ ∀ (i : Nat) (xs : List T), as[i]? = some (.own xs) → io = some (k + i)
  | [], k => by simp [okAk]
  | s :: r, k => by
    have ih := okAk_iff (io := io) r (k + 1)
    cases s with
    | own ys =>
      rw [okA_own, ih]
      constructor
      · rintro ⟨h1, h2⟩ i xs h
        cases i with
        | zero => exact h1
        | succ i =>
          rw [List.getElem?_cons_succ] at h
          have := h2 i xs h
          rw [this]; congr 1; omega
      · intro h
        refine ⟨h 0 ys rfl, fun i xs hi => ?_⟩
        have := h (i + 1) xs (by rw [List.getElem?_cons_succ]; exact hi)
        rw [this]; congr 1; omega
    | val t =>
      show okAk io (k + 1) r ↔ _
      rw [ih]
      constructor
      · intro h2 i xs h
        cases i with
        | zero => simp at h
        | succ i =>
          rw [List.getElem?_cons_succ] at h
          have := h2 i xs h
          rw [this]; congr 1; omega
      · intro h i xs hi
        have := h (i + 1) xs (by rw [List.getElem?_cons_succ]; exact hi)
        rw [this]; congr 1; omega
    | un =>
      show okAk io (k + 1) r ↔ _
      rw [ih]
      constructor
      · intro h2 i xs h
        cases i with
        | zero => simp at h
        | succ i =>
          rw [List.getElem?_cons_succ] at h
          have := h2 i xs h
          rw [this]; congr 1; omega
      · intro h i xs hi
        have := h (i + 1) xs (by rw [List.getElem?_cons_succ]; exact hi)
        rw [this]; congr 1; omega
theorem okArgs_iff {io : Option Nat} {as : List Slot} : okArgs io as ↔ okAk io 0 as := by
  rw [okAk_iff]
  unfold okArgs
  constructor
  · intro h i xs hi
    have := h i xs hi
    cases io with
    | none => simp [ioList] at this
    | some j =>
      simp only [ioList, List.mem_singleton] at this
      subst this; simp
  · intro h i xs hi
    rw [h i xs hi]; simp [ioList]
theorem outS_c0 {r : R} {rs : List R} {as' : List Slot} {ρ : Ev} {i : Nat} : outS (some 0) (.bor i :: rs) as' ρ = ρ.set i (as'.getD 0 .un) := rfl
theorem outS_c1 {r : R} {rs : List R} {as' : List Slot} {ρ : Ev} {i : Nat} : outS (some 1) (r :: .bor i :: rs) as' ρ = ρ.set i (as'.getD 1 .un) := rfl
theorem outS_o1 {r : R} {rs : List R} {as' : List Slot} {ρ : Ev} {xs : List T} : outS (some 1) (r :: .own xs :: rs) as' ρ = ρ := rfl
theorem argS_00 {ρ : Ev} {r : R} : argS (some 0) ρ 0 r = argIn ρ r := argS_io
theorem argS_01 {ρ : Ev} {r : R} {k : Nat} : argS (some 0) ρ (k + 1) r = argVal r := argS_ne (by simp)
theorem argS_10 {ρ : Ev} {r : R} : argS (some 1) ρ 0 r = argVal r := argS_ne (by decide)
theorem argS_11 {ρ : Ev} {r : R} : argS (some 1) ρ 1 r = argIn ρ r := argS_io
theorem entE_n {mp : List (Option Nat)} {ρ : Ev} : entE (none :: mp) ρ = .un :: entE mp ρ := rfl
theorem entE_s {mp : List (Option Nat)} {ρ : Ev} {j : Nat} : entE (some j :: mp) ρ = ρ.getD j .un :: entE mp ρ := rfl
theorem entE_0 {ρ : Ev} : entE [] ρ = [] := rfl
theorem levE_n {mp : List (Option Nat)} {s : Slot} {ρ' ρ : Ev} : levE (none :: mp) (s :: ρ') ρ = levE mp ρ' ρ := rfl
theorem levE_s {mp : List (Option Nat)} {s : Slot} {ρ' ρ : Ev} {j : Nat} : levE (some j :: mp) (s :: ρ') ρ = levE mp ρ' (ρ.set j s) := rfl
theorem levE_0 {ρ' ρ : Ev} : levE [] ρ' ρ = ρ := by unfold levE; rfl
theorem ix30 : ixN (0 + 1 + 1 + 1) 0 = some 0 := rfl
theorem ix31 : ixN (0 + 1 + 1 + 1) 1 = some 1 := rfl
theorem ix32 : ixN (0 + 1 + 1 + 1) 2 = some 2 := rfl
theorem isi_def {C : String} {ta : WE} {ρ : Ev} {Q : R → Ev → Prop} : wIsi C ta ρ Q = ta ρ fun r ρ1 => bO (rdR ρ1 r) fun t => Q (.val (.bl (isT C t))) ρ1 := rfl
theorem sl0 : (0 ≤ sizeLine) = True := by simp
theorem sl1 : (0 + 1 ≤ sizeLine) = True := by rw [sizeLine_eq]; simp
theorem sl2 : (0 + 1 + 1 ≤ sizeLine) = True := by rw [sizeLine_eq]; simp
theorem sl3 : (0 + 1 + 1 + 1 ≤ sizeLine) = True := by rw [sizeLine_eq]; simp
theorem sl4 : (0 + 1 + 1 + 1 + 1 ≤ sizeLine) = True := by rw [sizeLine_eq]; simp
theorem cLt_t {i j : Int} : (cLt i j = true) = (i < j) := by simp [cLt]
theorem cLe_t {i j : Int} : (cLe i j = true) = (i ≤ j) := by simp [cLe]
theorem cGt_t {i j : Int} : (cGt i j = true) = (j < i) := by simp [cGt]
theorem cGe_t {i j : Int} : (cGe i j = true) = (j ≤ i) := by simp [cGe]
end FW
section RD
local macro_rules
  | `(tactic| wp_walk using $ts,*) => `(tactic| simp only [$[$ts:term],*, FW.wFun, FW.wSeq, FW.wIfS, FW.wRet, FW.wSet, FW.wOwn, FW.wSetI, FW.wFr, FW.wBin, FW.wCB, FW.wV, FW.wC, FW.wCons, FW.wNil, FW.wLst, FW.wTup, FW.wNext, FW.tst, FW.wCall, FW.wDrop, FW.wMut, FW.wNot, FW.wAnd, FW.wOr, FW.wTru, FW.wAug, FW.wComp, FW.wFor, FW.wItS, FW.wRng1, FW.wJoin, FW.isi_def, FW.wRvl, FW.wSl, FW.wNo, FW.wSo, FW.wAsg, FW.wSrt, FW.wTrue, FW.bO_some, FW.bO_none, FW.rdR_val, FW.rdR_own, FW.rdR_bor', FW.frz_val, FW.frz_own, FW.frz_bor', FW.rdV_val, FW.rdV_own, FW.own_z1, FW.own_z2, FW.own_succ, FW.retR_val, FW.retR_own, FW.okR_val, FW.okR_own, FW.okR_bor, FW.rdRs_nil, FW.rdRs_cons, FW.intR_val, FW.argsS_nil, FW.argsS_c, FW.argS_no, FW.argS_00, FW.argS_01, FW.argS_10, FW.argS_11, FW.argVal_val, FW.argIn_own, FW.argIn_bor, FW.outS_no, FW.outS_c0, FW.outS_c1, FW.outS_o1, FW.backS_no, FW.backS_io, FW.tst_val, FW.addI, FW.gI, FW.subI, FW.gC, FW.lenL, FW.lenT, FW.ixL, FW.ixT, FW.at0, FW.at1, FW.at2, FW.ix30, FW.ix31, FW.ix32, FW.valR_val, FW.ownR_own, FW.valsR_nil, FW.valsR_cons, FW.nb_val, FW.nb_own, FW.sl0, FW.sl1, FW.sl2, FW.sl3, FW.sl4, FW.cLt_t, FW.cLe_t, FW.cGt_t, FW.cGe_t, FW.okArgs_iff, FW.okA_nil, FW.okA_own, FW.okA_val, FW.entE_n, FW.entE_s, FW.entE_0, FW.levE_n, FW.levE_s, FW.levE_0, List.getElem?_cons_zero, List.getElem?_cons_succ, List.set_cons_zero, List.set_cons_succ, List.cons_append, List.nil_append, List.replicate, List.getD_cons_zero, List.getD_cons_succ, List.length_cons, List.length_nil, List.length_map, Nat.sub_self, and_true, true_and, Option.map_some, Option.bind_some, Option.map_none, Option.isSome_some, Option.bind_none])
  | `(tactic| wp_walk) => `(tactic| wp_walk using FW.wFun)
namespace FW
open PySem PySem.Spec PyProof.Rows L2
variable [Tabs]
def zs (ns : List Int) : T := .lst (ns.map T.int)
theorem zs_at {ns : List Int} {k : Int} (h0 : 0 ≤ k) (h : k < ns.length) : ∃ r, atI (ns.map T.int) k = some (T.int r) := by
  obtain ⟨x, hx, e⟩ := at_get (l := ns.map T.int) h0 (by rw [List.length_map]; exact h)
  obtain ⟨r, _, rfl⟩ := List.mem_map.mp hx
  exact ⟨r, e⟩
theorem eqI {a b : Int} {neg : Bool} : gEq neg (.int a) (.int b) = some (.val (.bl ((a == b) != neg))) := by
  unfold gEq; simp [okT, eqT, eqF]
theorem eqB {a b : Bool} {neg : Bool} : gEq neg (.bl a) (.bl b) = some (.val (.bl ((a == b) != neg))) := by
  unfold gEq; simp [okT, eqT, eqF]
end FW
set_option Elab.async false
set_option linter.all false
set_option maxRecDepth 100000
set_option maxHeartbeats 4000000
namespace FW
open PySem PySem.Spec PyProof.Rows L2
variable [Tabs]
theorem strsT_map : ∀ (xs : List Str), strsT (xs.map T.str) = some xs
  | [] => rfl
  | x :: xs => by
    show (match T.str x with | .str x => (strsT (xs.map T.str)).map (x :: ·) | _ => none) = _
    rw [strsT_map xs]; rfl
theorem comp_nil {mp : List (Option Nat)} {g : T → Ev → Option Ev} {tif : WT} {te : WE} {K : List T → Ev → Prop} {acc : List T} {ρ : Ev} : compW mp g tif te K [] acc ρ = K acc ρ := rfl
theorem comp_cons {mp : List (Option Nat)} {g : T → Ev → Option Ev} {tif : WT} {te : WE} {K : List T → Ev → Prop} {t : T} {ts acc : List T} {ρ : Ev} :
    compW mp g tif te K (t :: ts) acc ρ = bO (g t (entE mp ρ)) fun ρ1 => tif ρ1 fun b ρ2 => if b = true then te ρ2 fun r ρ3 => bO (valR r) fun y => acc.length < sizeLine ∧ compW mp g tif te K ts (acc ++ [y]) (levE mp ρ3 ρ) else compW mp g tif te K ts acc (levE mp ρ2 ρ) := rfl
theorem for_nil {g : T → Ev → Option Ev} {tb : WS} {D : WD} {ρ : Ev} : forW g tb D [] ρ = D.nx ρ := rfl
theorem for_cons {g : T → Ev → Option Ev} {tb : WS} {D : WD} {t : T} {ts : List T} {ρ : Ev} : forW g tb D (t :: ts) ρ = bO (g t ρ) fun ρ1 => tb { D with nx := forW g tb D ts, ct := forW g tb D ts, bk := D.nx } ρ1 := rfl
theorem rng1_int {ρ : Ev} {n : Int} (h0 : 0 ≤ n) (h : n < 2 ^ 62) : rngR1 ρ [.val (.int n)] = some (rngT 0 n.toNat) := by
  show ((intR ρ (.val (.int n))).bind fun n => if okRng n then some (rngT 0 n.toNat) else none) = _
  rw [intR_val]
  show (if okRng n = true then some (rngT 0 n.toNat) else none) = _
  rw [if_pos (okRng_iff.mpr ⟨by omega, h⟩)]
theorem rngT_len {lo : Int} {n : Nat} : (rngT lo n).length = n := by simp [rngT]
theorem szl : (10077700 : Nat) ≤ sizeLine := by rw [sizeLine_eq]; decide
def letters : Str := Str.ofString "abcdefghijklmnopqrstuvwxyz"
theorem letters_len : letters.length = 26 := by decide +kernel
end FW
set_option Elab.async false
set_option linter.all false
set_option maxRecDepth 100000
set_option maxHeartbeats 4000000
namespace FW
open PySem PySem.Spec PyProof.Rows L2
variable [Tabs]
theorem app_ok {xs : List T} {t : T} (h : xs.length < sizeLine) : gAppend xs [t] = some (xs ++ [t], .non) := by
  show (if xs.length < sizeLine then some (xs ++ [t], T.non) else none) = _
  rw [if_pos h]
end FW
set_option Elab.async false
set_option linter.all false
set_option maxRecDepth 100000
set_option maxHeartbeats 4000000
namespace FW
open PySem PySem.Spec PyProof.Rows L2
variable [Tabs]
end FW
set_option Elab.async false
set_option linter.all false
set_option maxRecDepth 100000
set_option maxHeartbeats 4000000
namespace FW
open PySem PySem.Spec PyProof.Rows L2
variable [Tabs]
theorem rng_range {n : Nat} : rngT 0 n = (List.range' 0 n).map fun (j : Nat) => T.int (j : Int) := by
  unfold rngT
  rw [List.range_eq_range']
  refine List.map_congr_left fun k _ => ?_
  rw [Int.zero_add]
end FW
set_option Elab.async false
set_option linter.all false
set_option maxRecDepth 100000
set_option maxHeartbeats 4000000
namespace FW
open PySem PySem.Spec PyProof.Rows L2
variable [Tabs]
theorem unp2 {a b : T} {ρ : Ev} {i j : Nat} : unpT [i, j] (.tup [a, b]) ρ = some ((ρ.set i (.val a)).set j (.val b)) := rfl
end FW
set_option Elab.async false
set_option linter.all false
set_option maxRecDepth 100000
set_option maxHeartbeats 4000000
namespace FW
open PySem PySem.Spec PyProof.Rows L2
variable [Tabs]
end FW
set_option Elab.async false
set_option linter.all false
set_option maxRecDepth 100000
set_option maxHeartbeats 4000000
namespace FW
open PySem PySem.Spec PyProof.Rows L2
variable [Tabs]
mutual
theorem eqT_self : ∀ (n : Nat) (t : T), okT n t = true → eqT t t = true
  | 0, .tup _, h => by simp [okT] at h
  | 0, .lst _, h => by simp [okT] at h
  | n + 1, .tup xs, h => by
    rw [eqT_tup]
    exact eqTs_self n xs (by unfold okT at h; exact h)
  | n + 1, .lst xs, h => by
    rw [eqT_lst]
    exact eqTs_self n xs (by unfold okT at h; exact h)
  | _, .dct _, h => by simp [okT] at h
  | _, .non, _ => by simp [eqT, eqF]
  | _, .bl _, _ => by simp [eqT, eqF]
  | _, .int _, _ => by simp [eqT, eqF]
  | _, .str _, _ => by simp [eqT, eqF]
theorem eqTs_self : ∀ (n : Nat) (xs : List T), okTs n xs = true → eqTs xs xs = true
  | _, [], _ => by simp [eqTs]
  | n, x :: xs, h => by
    unfold okTs at h
    rw [Bool.and_eq_true] at h
    unfold eqTs
    rw [eqT_self n x h.1, eqTs_self n xs h.2]; rfl
end
def S_law : FS := fun as Q => ∃ ns, as = [.val (zs ns)] ∧ ns.length ≤ 63 ∧ Q (.val (.bl true)) as
end FW
set_option Elab.async false
set_option linter.all false
set_option maxRecDepth 100000
set_option maxHeartbeats 4000000
namespace FW
open PySem PySem.Spec PyProof.Rows L2
variable [Tabs]
theorem vals_ints : ∀ {is : List Int} {us : List Value}, Vals (is.map V.int) us → ∃ xs : List (Int × Tok), us = xs.map (fun p => Value.int p.1 p.2) ∧ xs.map (·.1) = is
  | [], _, .nil => ⟨[], rfl, rfl⟩
  | i :: is, _, .cons ⟨t, e⟩ b => by
    obtain ⟨xs, rfl, rfl⟩ := vals_ints b
    subst e
    exact ⟨(i, t) :: xs, rfl, rfl⟩
end FW
set_option Elab.async false
set_option linter.all false
set_option maxRecDepth 100000
set_option maxHeartbeats 4000000
namespace FW
open PySem PySem.Spec PyProof.Rows L2 PySem.W
variable [Tabs]
section
variable {prog : Program} {w : World} {A : Around} {E : Value → Shared → Prop} {s : Shared}
end
end FW
end RD
namespace FW
open PySem PySem.Spec PyProof.Rows L2 PySem.W
variable [Tabs]
section
variable {prog : Program} {w : World} {A : Around} {E : Value → Shared → Prop} {s : Shared}
theorem nodup_sub {α : Type} [DecidableEq α] : ∀ (l m : List α), l.Nodup → (∀ x ∈ l, x ∈ m) → l.length ≤ m.length
  | [], m, _, _ => Nat.zero_le _
  | x :: l, m, hn, hs => by
    rw [List.nodup_cons] at hn
    have hx := hs x (.head _)
    have := nodup_sub l (m.erase x) hn.2 fun y hy => (List.mem_erase_of_ne (fun e : y = x => hn.1 (e ▸ hy))).mpr (hs y (.tail _ hy))
    rw [List.length_erase_of_mem hx] at this
    have := List.length_pos_of_mem hx
    simp only [List.length_cons]
    omega
variable {R : Result → Shared → Prop} {I : Addr} {fp wr : List Addr} {G : Array GenState → Array GenState → Prop} {n : Nat} {P : Nat → Value → Prop} {St : Nat → Shared → Prop}
end
section
variable {prog : Program} {w : World} {A : Around} {E : Value → Shared → Prop} {s : Shared}
end
end FW
section RD
local macro_rules
  | `(tactic| wp_walk using $ts,*) => `(tactic| simp only [$[$ts:term],*, FW.wFun, FW.wSeq, FW.wIfS, FW.wRet, FW.wSet, FW.wOwn, FW.wSetI, FW.wFr, FW.wBin, FW.wCB, FW.wV, FW.wC, FW.wCons, FW.wNil, FW.wLst, FW.wTup, FW.wNext, FW.tst, FW.wCall, FW.wDrop, FW.wMut, FW.wNot, FW.wAnd, FW.wOr, FW.wTru, FW.wAug, FW.wComp, FW.wFor, FW.wItS, FW.wRng1, FW.wJoin, FW.isi_def, FW.wRvl, FW.wSl, FW.wNo, FW.wSo, FW.wAsg, FW.wSrt, FW.wTrue, FW.bO_some, FW.bO_none, FW.rdR_val, FW.rdR_own, FW.rdR_bor', FW.frz_val, FW.frz_own, FW.frz_bor', FW.rdV_val, FW.rdV_own, FW.own_z1, FW.own_z2, FW.own_succ, FW.retR_val, FW.retR_own, FW.okR_val, FW.okR_own, FW.okR_bor, FW.rdRs_nil, FW.rdRs_cons, FW.intR_val, FW.argsS_nil, FW.argsS_c, FW.argS_no, FW.argS_00, FW.argS_01, FW.argS_10, FW.argS_11, FW.argVal_val, FW.argIn_own, FW.argIn_bor, FW.outS_no, FW.outS_c0, FW.outS_c1, FW.outS_o1, FW.backS_no, FW.backS_io, FW.tst_val, FW.addI, FW.gI, FW.subI, FW.gC, FW.lenL, FW.lenT, FW.ixL, FW.ixT, FW.at0, FW.at1, FW.at2, FW.ix30, FW.ix31, FW.ix32, FW.valR_val, FW.ownR_own, FW.valsR_nil, FW.valsR_cons, FW.nb_val, FW.nb_own, FW.sl0, FW.sl1, FW.sl2, FW.sl3, FW.sl4, FW.cLt_t, FW.cLe_t, FW.cGt_t, FW.cGe_t, FW.okArgs_iff, FW.okA_nil, FW.okA_own, FW.okA_val, FW.entE_n, FW.entE_s, FW.entE_0, FW.levE_n, FW.levE_s, FW.levE_0, List.getElem?_cons_zero, List.getElem?_cons_succ, List.set_cons_zero, List.set_cons_succ, List.cons_append, List.nil_append, List.replicate, List.getD_cons_zero, List.getD_cons_succ, List.length_cons, List.length_nil, List.length_map, Nat.sub_self, and_true, true_and, Option.map_some, Option.bind_some, Option.map_none, Option.isSome_some, Option.bind_none])
  | `(tactic| wp_walk) => `(tactic| wp_walk using FW.wFun)
set_option Elab.async false
set_option linter.all false
set_option maxRecDepth 100000
set_option maxHeartbeats 4000000
namespace FW
open PySem PySem.Spec PyProof.Rows L2 PySem.W
variable [Tabs]
section
variable {prog : Program} {w : World} {A : Around} {E : Value → Shared → Prop} {s : Shared}
end
end FW
set_option Elab.async false
set_option linter.all false
set_option maxRecDepth 100000
set_option maxHeartbeats 4000000
namespace FW
open PySem PySem.Spec PyProof.Rows L2
variable [Tabs]
section
variable {X : Cx} {a b : Expr} {ta tb : WE} {pos : Pos}
def rSlS : V → Option Int → Option Int → Hp → VK → Prop := fun x lo hi H Q => ∃ y, x = .str y ∧ y.length ≤ sizeLine ∧ Q (.str (Txt.slice y lo hi)) H
theorem sl_str : SlR X rSlS := by
  intro pins s σ H x v vl vu lo hi sl Q I rx hs pl pu h
  obtain ⟨y, rfl, hz, q⟩ := h
  obtain ⟨t, rfl⟩ := rx
  refine ⟨"str", _, PySem.F.slot_str_getitem.lookup, typeIs_str _ _ _, ?_⟩
  have fin : ∀ (l u : Option (Int × Tok)), l.map (·.1) = lo → u.map (·.1) = hi → s.heap.IsSlice sl l u none → wpAny (model X.prog X.w) X.A (getItem (.str y t) (.ref sl)) (EP X pins σ Q) X.xe s := fun l u el eu his => by
    subst el; subst eu
    refine wpAny_getItem_str_slice his rfl (post_val_or_str ⟨Nat.le_trans (Txt.slice_le y (l.map (·.1)) (u.map (·.1))) hz, fun t' k => ?_⟩)
    exact ⟨.str (Txt.slice y (l.map (·.1)) (u.map (·.1))), H, I.tok k, ⟨t', rfl⟩, q⟩
  cases pl with
  | none =>
    cases pu with
    | none => exact fin none none rfl rfl hs
    | int j tj => exact fin none (some (j, tj)) rfl rfl hs
  | int i ti =>
    cases pu with
    | none => exact fin (some (i, ti)) none rfl rfl hs
    | int j tj => exact fin (some (i, ti)) (some (j, tj)) rfl rfl hs
def gSl2 (t : T) (lo hi : Option Int) : Option R := match t with
  | .str x => if x.length ≤ sizeLine then some (.val (.str (Txt.slice x lo hi))) else none
  | t => gSl t lo hi
def wSl2 (te : WE) (tl th : WO) : WE := fun ρ Q => te ρ fun r ρ1 => tl ρ1 fun lo ρ2 => th ρ2 fun hi ρ3 => bO (rdR ρ3 r) fun t => bO (gSl2 t lo hi) fun r' => Q r' ρ3
theorem d_slice2 {lo hi : Option Expr} {p2 : Pos} {tl th : WO} (ha : DE X a ta) (hl : DO X lo tl) (hu : DO X hi th) : DE X (.Subscript a (.Slice lo hi none p2) pos) (wSl2 ta tl th) := by
  refine DE.of (pe_slice ((sl_list.or sl_tup).or sl_str) ha.pe hl hu) fun σ H ρ Q E q => ⟨ρ, _, E, q, fun v H1 r ρ1 E1 S1 p1 q1 => ⟨ρ1, _, E1, q1, fun l H2 ρ2 E2 S2 q2 => ⟨ρ2, _, E2, q2, fun h H3 ρ3 E3 S3 q3 => ?_⟩⟩⟩
  obtain ⟨t, e1, q4⟩ := bO_iff.mp q3
  obtain ⟨r', e2, q5⟩ := bO_iff.mp q4
  have S123 := (S1.trans S2).trans S3
  have n := (p1.later' (S2.trans S3) e1).now E3 e1
  cases t with
  | str x =>
    have e2' : (if x.length ≤ sizeLine then some (R.val (.str (Txt.slice x l h))) else none) = some r' := e2
    split at e2'
    · rename_i hz
      cases e2'
      rw [now_str] at n
      subst n
      have nr : NewR X.K H3 H3 (.val (.str (Txt.slice x l h))) (.str (Txt.slice x l h)) := newR_val (by simp)
      exact .inr ⟨x, rfl, hz, _, ρ3, E3.ext nr.1, S123.trans nr.1.stp, nr.rep E3 S123, q5⟩
    · cases e2'
  | lst xs =>
    have e2' : some (R.own (cutT xs l h)) = some r' := e2
    cases e2'
    obtain ⟨p, vs, rfl, h1, h2⟩ := n
    refine .inl (.inl ⟨p, vs, rfl, h1, fun ad had => ?_⟩)
    have nr := newR_own had (cut_reps h2 l h)
    exact ⟨_, ρ3, E3.ext nr.1, S123.trans nr.1.stp, nr.rep E3 S123, q5⟩
  | tup xs =>
    have e2' : (if HT.sIx xs.length 0 l = 0 ∧ HT.sIx xs.length xs.length h = xs.length then none else some (R.val (.tup (cutT xs l h)))) = some r' := e2
    split at e2'
    · cases e2'
    · rename_i hw
      cases e2'
      rw [now_tup] at n
      obtain ⟨p, vs, rfl, h1, h2⟩ := n
      refine .inl (.inr ⟨p, vs, rfl, h1, by rw [← h2.length]; exact hw, fun ad had => ?_⟩)
      have nr := newR_tup had (cut_reps h2 l h)
      exact ⟨_, ρ3, E3.ext nr.1, S123.trans nr.1.stp, nr.rep E3 S123, q5⟩
  | _ => cases e2
end
end FW
set_option Elab.async false
set_option linter.all false
set_option maxRecDepth 100000
set_option maxHeartbeats 4000000
namespace FW
open PySem PySem.Spec PyProof.Rows L2
variable [Tabs]
section
variable {X : Cx} {a b : Expr} {te : WE} {pos p : Pos}
end
end FW
set_option Elab.async false
set_option linter.all false
set_option maxRecDepth 100000
set_option maxHeartbeats 4000000
namespace FW
open PySem PySem.Spec PyProof.Rows L2
variable [Tabs]
def pn (a b : Int) : List T := [.int a, .int b]
def low (x : Str) : Prop := ∀ c ∈ x.cps.toList, 97 ≤ c ∧ c ≤ 122
structure NameT (x : Str) : Prop where
  lo : 1 ≤ x.length
  hi : x.length ≤ 6
  low : low x
def wordsL : List Str := [Str.ofString "group", Str.ofString "hand", Str.ofString "office"]
def S_Pat : FS := fun as Q => ∃ ns k, as = [.val (zs ns), .val (.int k)] ∧ ns.length ≤ 63 ∧ 0 ≤ k ∧ k ≤ 1000 ∧ ∀ r, Q (.val (.int r)) as
def S_Ppen : FS := fun as Q => ∃ ns k, as = [.val (zs ns), .val (.int k)] ∧ ns.length ≤ 63 ∧ 0 ≤ k ∧ k ≤ 1000 ∧ ∀ a b, Q (.own (pn a b)) as
def S_Ptake : FS := fun as Q => ∃ a b m, as = [.own (pn a b), .val (.int m)] ∧ 0 < m ∧ m < 1073741824 ∧ ∀ r a' b', 0 ≤ r → r < m → Q (.val (.int r)) [.own (pn a' b'), .val (.int m)]
def S_Ptext : FS := fun as Q => ∃ a b m, as = [.own (pn a b), .val (.int m)] ∧ 0 ≤ m ∧ m ≤ 100 ∧ ∀ x a' b', (x.length : Int) ≤ m → low x → Q (.val (.str x)) [.own (pn a' b'), .val (.int m)]
def S_Pname : FS := fun as Q => ∃ a b, as = [.own (pn a b)] ∧ ∀ x a' b', NameT x → Q (.val (.str x)) [.own (pn a' b')]
def S_Pnear : FS := fun as Q => ∃ a b x, as = [.own (pn a b), .val (.str x)] ∧ NameT x ∧ ∀ y a' b', NameT y → Q (.val (.str y)) [.own (pn a' b'), .val (.str x)]
def cs (l : List Nat) : Str := ⟨l.toArray⟩
def t_Pat : WS := wSeq (wIfS (tst (wBin (gCmp cLt) (wV 1) (wCB gLen (wCons (wV 0) (wNil))))) (wRet (wBin gIx (wV 0) (wV 1))) (wNext)) (wSeq (wSet 2 (wFr (wC (.int 11)))) (wSeq (wIfS (tst (wBin (gCmp cGt) (wCB gLen (wCons (wV 0) (wNil))) (wC (.int 0)))) (wSet 2 (wFr (wBin (gInt fMod) (wBin gIx (wV 0) (wBin (gInt fMod) (wV 1) (wCB gLen (wCons (wV 0) (wNil))))) (wC (.int 2147483629))))) (wNext)) (wSeq (wSet 3 (wFr (wBin (gInt fMod) (wBin gAdd (wBin gAdd (wBin (gInt fMul) (wV 2) (wC (.int 48271))) (wBin (gInt fMul) (wV 1) (wC (.int 104729)))) (wC (.int 13))) (wC (.int 2147483647))))) (wRet (wBin (gInt fMod) (wBin (gInt fMul) (wV 3) (wBin gAdd (wBin gAdd (wBin (gInt fMod) (wV 3) (wC (.int 65521))) (wV 1)) (wC (.int 3)))) (wC (.int 2147483629)))))))
def t_Ppen : WS := wSeq (wSet 2 (wFr (wCall none (S_Pat) (wCons (wFr (wV 0)) (wCons (wFr (wV 1)) (wNil)))))) (wSeq (wIfS (tst (wBin (gCmp cGe) (wV 2) (wBin (gInt fPow) (wC (.int 10)) (wC (.int 18))))) (wRet (wLst (wCons (wFr (wBin (gInt fSub) (wV 2) (wBin (gInt fPow) (wC (.int 10)) (wC (.int 18))))) (wCons (wFr (wC (.int 0))) (wNil))))) (wNext)) (wRet (wLst (wCons (wFr (wBin (gInt fMod) (wV 2) (wC (.int 2147483629)))) (wCons (wFr (wC (.int 1))) (wNil))))))
def t_Ptake : WS := wSeq (wIfS (tst (wBin (gEq false) (wBin gIx (wV 0) (wC (.int 1))) (wC (.int 0)))) (wSeq (wSet 2 (wFr (wBin (gInt fMod) (wBin gIx (wV 0) (wC (.int 0))) (wV 1)))) (wSeq (wSetI 0 (wFr (wBin (gInt fDiv) (wBin gIx (wV 0) (wC (.int 0))) (wV 1))) (wC (.int 0))) (wRet (wV 2)))) (wNext)) (wSeq (wSetI 0 (wFr (wBin (gInt fMod) (wBin gAdd (wBin gAdd (wBin (gInt fMul) (wBin gIx (wV 0) (wC (.int 0))) (wC (.int 48271))) (wC (.int 12345))) (wBin gIx (wV 0) (wC (.int 1)))) (wC (.int 2147483647)))) (wC (.int 0))) (wSeq (wSetI 0 (wFr (wBin gAdd (wBin gIx (wV 0) (wC (.int 1))) (wC (.int 1)))) (wC (.int 1))) (wRet (wBin (gInt fMod) (wBin (gInt fMod) (wBin (gInt fMul) (wBin gIx (wV 0) (wC (.int 0))) (wBin gAdd (wBin (gInt fMod) (wBin gIx (wV 0) (wC (.int 0))) (wC (.int 65521))) (wC (.int 7)))) (wC (.int 2147483629))) (wV 1)))))
def t_Ptext : WS := wSeq (wSet 2 (wFr (wC (.str (Str.ofString "abcdefghijklmnopqrstuvwxyz"))))) (wRet (wJoin (Str.ofString "") (wCons (wComp [none, some 2, some 0] (wRng1 (wCons (wCall (some 0) (S_Ptake) (wCons (wV 0) (wCons (wFr (wBin gAdd (wV 1) (wC (.int 1)))) (wNil)))) (wNil))) (fun t ρ => some (ρ.set 0 (.val t))) (wTrue) (wFr (wBin gIx (wV 1) (wCall (some 0) (S_Ptake) (wCons (wV 2) (wCons (wFr (wC (.int 26))) (wNil))))))) (wNil))))
def t_Pname : WS := wSeq (wSet 1 (wFr (wC (.str (Str.ofString "abcdefghijklmnopqrstuvwxyz"))))) (wRet (wBin gAdd (wBin gIx (wV 1) (wCall (some 0) (S_Ptake) (wCons (wV 0) (wCons (wFr (wC (.int 26))) (wNil))))) (wCall (some 0) (S_Ptext) (wCons (wV 0) (wCons (wFr (wC (.int 5))) (wNil))))))
def t_Pnear : WS := wSeq (wSet 2 (wFr (wC (.str (Str.ofString "abcdefghijklmnopqrstuvwxyz"))))) (wSeq (wSet 3 (wFr (wCall (some 0) (S_Ptake) (wCons (wV 0) (wCons (wFr (wC (.int 3))) (wNil)))))) (wSeq (wSet 4 (wFr (wCall (some 0) (S_Ptake) (wCons (wV 0) (wCons (wFr (wCB gLen (wCons (wV 1) (wNil)))) (wNil)))))) (wSeq (wIfS (tst (wBin (gEq false) (wV 3) (wC (.int 0)))) (wRet (wCall (some 0) (S_Pname) (wCons (wV 0) (wNil)))) (wNext)) (wSeq (wIfS (tst (wBin (gEq false) (wV 3) (wC (.int 1)))) (wRet (wBin gAdd (wBin gAdd (wSl2 (wV 1) (wNo) (wSo (wV 4))) (wBin gIx (wV 2) (wCall (some 0) (S_Ptake) (wCons (wV 0) (wCons (wFr (wC (.int 26))) (wNil)))))) (wSl2 (wV 1) (wSo (wBin gAdd (wV 4) (wC (.int 1)))) (wNo)))) (wNext)) (wRet (wSl2 (wV 1) (wNo) (wSo (wBin gAdd (wV 4) (wC (.int 1))))))))))
end FW
set_option Elab.async false
set_option linter.all false
set_option maxRecDepth 100000
set_option maxHeartbeats 4000000
namespace FW
open PySem PySem.Spec PyProof.Rows L2
variable [Tabs]
theorem ix20 : ixN (0 + 1 + 1) 0 = some 0 := rfl
theorem ix21 : ixN (0 + 1 + 1) 1 = some 1 := rfl
theorem rd_Pat (as : List Slot) (Q : R → List Slot → Prop) (h : S_Pat as Q) : wFun none 2 4 t_Pat as Q := by
  obtain ⟨ns, k, rfl, h1, h2, h3, q⟩ := h
  unfold t_Pat zs
  have e1 : ∀ a : Int, fMod a 2147483629 = some (a % 2147483629) := fun a => modI (by decide)
  have e2 : ∀ a : Int, fMod a 2147483647 = some (a % 2147483647) := fun a => modI (by decide)
  have e3 : ∀ a : Int, fMod a 65521 = some (a % 65521) := fun a => modI (by decide)
  have m1 : ∀ a : Int, fMul a 48271 = some (a * 48271) := fun a => mulR (by decide) (by decide)
  have m2 : ∀ a : Int, fMul a 104729 = some (a * 104729) := fun a => mulR (by decide) (by decide)
  have m3 : ∀ y x : Int, fMul (y % 2147483647) x = some (y % 2147483647 * x) := fun y x => mulL (by have := Int.emod_nonneg y (show (2147483647 : Int) ≠ 0 by decide); omega) (by have := Int.emod_lt_of_pos y (show (0 : Int) < 2147483647 by decide); omega)
  wp_walk
  by_cases c : k < ns.length
  · rw [if_pos c]
    obtain ⟨r, e⟩ := zs_at h2 c
    wp_walk using e
    exact q r
  · rw [if_neg c]
    by_cases c2 : (0 : Int) < ns.length
    · rw [if_pos c2]
      obtain ⟨r, e⟩ := zs_at (ns := ns) (k := k % ns.length) (Int.emod_nonneg _ (by omega)) (Int.emod_lt_of_pos _ c2)
      wp_walk using modI (a := k) c2, e, e1, e2, e3, m1, m2, m3
      exact q _
    · rw [if_neg c2]
      wp_walk using e1, e2, e3, m1, m2, m3
      exact q _
theorem rd_Ppen (as : List Slot) (Q : R → List Slot → Prop) (h : S_Ppen as Q) : wFun none 2 3 t_Ppen as Q := by
  obtain ⟨ns, k, rfl, h1, h2, h3, q⟩ := h
  unfold t_Ppen
  have e6 : fPow 10 18 = some (10 ^ 18) := powI (by decide) (by decide) (by decide)
  have e1 : ∀ a : Int, fMod a 2147483629 = some (a % 2147483629) := fun a => modI (by decide)
  wp_walk
  refine ⟨ns, k, rfl, h1, h2, h3, fun r => ?_⟩
  wp_walk using e6
  by_cases c : (10 : Int) ^ 18 ≤ r
  · rw [if_pos c]
    exact q _ _
  · rw [if_neg c]
    wp_walk using e1
    exact q _ _
theorem rd_Ptake (as : List Slot) (Q : R → List Slot → Prop) (h : S_Ptake as Q) : wFun (some 0) 2 3 t_Ptake as Q := by
  obtain ⟨a, b, m, rfl, h4, h5, q⟩ := h
  unfold t_Ptake pn
  have hm : ∀ a : Int, fMod a m = some (a % m) := fun a => modI h4
  have hdv : ∀ a : Int, fDiv a m = some (a / m) := fun a => divI h4 (by omega)
  have e1 : ∀ a : Int, fMod a 2147483629 = some (a % 2147483629) := fun a => modI (by decide)
  have e2 : ∀ a : Int, fMod a 2147483647 = some (a % 2147483647) := fun a => modI (by decide)
  have e3 : ∀ a : Int, fMod a 65521 = some (a % 65521) := fun a => modI (by decide)
  have m1 : ∀ a : Int, fMul a 48271 = some (a * 48271) := fun a => mulR (by decide) (by decide)
  have m3 : ∀ y x : Int, fMul (y % 2147483647) x = some (y % 2147483647 * x) := fun y x => mulL (by have := Int.emod_nonneg y (show (2147483647 : Int) ≠ 0 by decide); omega) (by have := Int.emod_lt_of_pos y (show (0 : Int) < 2147483647 by decide); omega)
  have fin : ∀ (v a' b' : Int), Q (.val (.int (v % m))) [.own (pn a' b'), .val (.int m)] := fun v a' b' => q _ _ _ (Int.emod_nonneg _ (by omega)) (Int.emod_lt_of_pos _ h4)
  wp_walk using eqI, ix20, ix21
  by_cases c0 : b = 0
  · subst c0
    rw [if_pos (by decide)]
    wp_walk using hm, hdv, ix20, ix21
    exact fin _ _ _
  · rw [if_neg (by simp [c0])]
    wp_walk using hm, e1, e2, e3, m1, m3, ix20, ix21
    exact fin _ _ _
theorem letters_low : low letters := by
  have : ∀ c ∈ letters.cps.toList, 97 ≤ c ∧ c ≤ 122 := by decide +kernel
  exact this
theorem join_one : ∀ (xs : List Str), (∀ x ∈ xs, x.length = 1) → (Txt.join (Str.ofString "") xs).length = xs.length ∧ ∀ c ∈ (Txt.join (Str.ofString "") xs).cps.toList, ∃ x ∈ xs, c ∈ x.cps.toList := by
  intro xs h
  have e : Txt.join (Str.ofString "") xs = Str.join (Str.ofString "") xs := StrLaws.glued_eq_join _ _
  rw [e]
  have he : (Str.ofString "").cps = #[] := by decide +kernel
  induction xs with
  | nil => exact ⟨rfl, fun c hc => by simp [Str.join, Str.empty] at hc⟩
  | cons x xs ih =>
    cases xs with
    | nil => exact ⟨h x (.head _), fun c hc => ⟨x, .head _, hc⟩⟩
    | cons y r =>
      have ih' := ih (fun z hz => h z (.tail _ hz)) (StrLaws.glued_eq_join _ _)
      have ej : Str.join (Str.ofString "") (x :: y :: r) = x ++ Str.ofString "" ++ Str.join (Str.ofString "") (y :: r) := rfl
      have ec : (x ++ Str.ofString "" ++ Str.join (Str.ofString "") (y :: r)).cps = x.cps ++ (Str.join (Str.ofString "") (y :: r)).cps := by
        show (x.cps ++ (Str.ofString "").cps) ++ _ = _
        rw [he]; simp
      rw [ej]
      constructor
      · show (x ++ Str.ofString "" ++ Str.join (Str.ofString "") (y :: r)).cps.size = _
        rw [ec, Array.size_append]
        have h1 : x.cps.size = 1 := h x (.head _)
        have h2 : (Str.join (Str.ofString "") (y :: r)).cps.size = (y :: r).length := ih'.1
        rw [h1, h2, List.length_cons, List.length_cons, List.length_cons]; omega
      · intro c hc
        rw [ec, Array.toList_append] at hc
        rcases List.mem_append.mp hc with hc | hc
        · exact ⟨x, .head _, hc⟩
        · obtain ⟨z, hz, hcz⟩ := ih'.2 c hc
          exact ⟨z, .tail _ hz, hcz⟩
theorem joinE {xs : List Str} (h : ∀ x ∈ xs, x.length = 1) (hl : xs.length ≤ 1000) : joinR (Str.ofString "") (.lst (xs.map T.str)) = some (.val (.str (Txt.join (Str.ofString "") xs))) := by
  show ((strsT (xs.map T.str)).bind fun ys => if (ys.map (·.length)).sum + ys.length * (Str.ofString "").length ≤ 16777216 then some (R.val (.str (Txt.join (Str.ofString "") ys))) else none) = _
  rw [strsT_map]
  have hs : ∀ l : List Str, (∀ x ∈ l, x.length = 1) → (l.map (·.length)).sum = l.length := by
    intro l
    induction l with
    | nil => intro _; rfl
    | cons y l ih =>
      intro hl
      rw [List.map_cons, List.sum_cons, ih fun x hx => hl x (.tail _ hx), hl y (.head _), List.length_cons]; omega
  show (if (xs.map (·.length)).sum + xs.length * (Str.ofString "").length ≤ 16777216 then some (R.val (.str (Txt.join (Str.ofString "") xs))) else none) = _
  have hz : (Str.ofString "").length = 0 := by decide +kernel
  rw [if_pos (by rw [hs xs h, hz]; omega)]
theorem text_comp {m : Int} {K : List T → Ev → Prop} : ∀ (ts : List T) (xs : List Str) (a b : Int), (∀ x ∈ xs, x.length = 1 ∧ low x) →
    xs.length + ts.length ≤ 1000 →
    (∀ (xs' : List Str) a' b', (∀ x ∈ xs', x.length = 1 ∧ low x) → xs'.length = xs.length + ts.length → K (xs'.map T.str) [.own (pn a' b'), .val (.int m), .val (.str letters)]) →
    compW [none, some 2, some 0] (fun t ρ => some (ρ.set 0 (.val t))) (wTrue) (wFr (wBin gIx (wV 1) (wCall (some 0) (S_Ptake) (wCons (wV 2) (wCons (wFr (wC (.int 26))) (wNil)))))) K ts (xs.map T.str) [.own (pn a b), .val (.int m), .val (.str letters)]
  | [], xs, a, b, h2, _, k => by rw [comp_nil]; exact k xs a b h2 (by simp)
  | t :: ts, xs, a, b, h2, h3, k => by
    rw [comp_cons]
    rw [List.length_cons] at h3
    wp_walk
    refine ⟨a, b, 26, rfl, by decide, by decide, fun r a' b' r0 r1 => ?_⟩
    have hl : (letters.cps.toList).length = 26 := by have := letters_len; exact this
    obtain ⟨ch, hch, e⟩ := at_get (l := letters.cps.toList) (k := r) r0 (by rw [hl]; omega)
    wp_walk using ixS (x := letters) (k := r) (by rw [letters_len, sizeLine_eq]; decide), e
    refine ⟨by have := szl; omega, ?_⟩
    have ea : xs.map T.str ++ [T.str ⟨#[ch]⟩] = (xs ++ [(⟨#[ch]⟩ : Str)]).map T.str := by simp
    rw [ea]
    refine text_comp ts _ a' b' (fun x hx => ?_) (by rw [List.length_append]; simp; omega) fun xs' a2 b2 h hl => k xs' a2 b2 h (by rw [hl, List.length_append, List.length_cons]; simp; omega)
    rcases List.mem_append.mp hx with hx | hx
    · exact h2 x hx
    · rw [List.mem_singleton.mp hx]
      exact ⟨rfl, fun c hc => by
        have : c = ch := by simpa using hc
        subst this; exact letters_low _ hch⟩
theorem rd_Ptext (as : List Slot) (Q : R → List Slot → Prop) (h : S_Ptext as Q) : wFun (some 0) 2 3 t_Ptext as Q := by
  obtain ⟨a, b, m, rfl, h1, h2, q⟩ := h
  unfold t_Ptext
  wp_walk
  refine ⟨a, b, m + 1, rfl, by omega, by omega, fun r a' b' r0 r1 => ?_⟩
  wp_walk using rng1_int (n := r) r0 (by omega)
  refine text_comp _ [] a' b' (fun x hx => (List.not_mem_nil hx).elim) (by rw [rngT_len]; simp; omega) fun xs a2 b2 h hl => ?_
  rw [rngT_len, List.length_nil] at hl
  wp_walk using joinE (fun x hx => (h x hx).1) (by omega)
  obtain ⟨j1, j2⟩ := join_one xs fun x hx => (h x hx).1
  refine q _ _ _ (by rw [j1]; omega) fun c hc => ?_
  obtain ⟨x, hx, hc⟩ := j2 c hc
  exact (h x hx).2 c hc
theorem low_app {x y : Str} (hx : low x) (hy : low y) : low (x ++ y) := fun c hc => by
  have hc' : c ∈ x.cps.toList ++ y.cps.toList := by
    have : (x ++ y).cps = x.cps ++ y.cps := rfl
    rw [this, Array.toList_append] at hc; exact hc
  rcases List.mem_append.mp hc' with h | h
  · exact hx c h
  · exact hy c h
theorem len_app {x y : Str} : (x ++ y).length = x.length + y.length := Array.size_append
theorem len_one {c : Nat} : (⟨#[c]⟩ : Str).length = 1 := rfl
theorem rd_Pname (as : List Slot) (Q : R → List Slot → Prop) (h : S_Pname as Q) : wFun (some 0) 1 2 t_Pname as Q := by
  obtain ⟨a, b, rfl, q⟩ := h
  unfold t_Pname
  wp_walk
  refine ⟨a, b, 26, rfl, by decide, by decide, fun r a' b' r0 r1 => ?_⟩
  have hl : (letters.cps.toList).length = 26 := by have := letters_len; exact this
  obtain ⟨ch, hch, e⟩ := at_get (l := letters.cps.toList) (k := r) r0 (by rw [hl]; omega)
  have e' : atI (Str.ofString "abcdefghijklmnopqrstuvwxyz").cps.toList r = some ch := e
  wp_walk using ixS (x := Str.ofString "abcdefghijklmnopqrstuvwxyz") (k := r) (by rw [show (Str.ofString "abcdefghijklmnopqrstuvwxyz").length = 26 from letters_len, sizeLine_eq]; decide), e'
  refine ⟨a', b', 5, rfl, by decide, by decide, fun x a2 b2 hx hlow => ?_⟩
  have hxl : x.length ≤ 5 := by omega
  wp_walk using addS (a := ⟨#[ch]⟩) (b := x) (by rw [len_one, sizeLine_eq]; omega)
  refine q _ _ _ ⟨by rw [len_app, len_one]; omega, by rw [len_app, len_one]; omega, low_app (fun c hc => ?_) hlow⟩
  have : c = ch := by simpa using hc
  subst this; exact letters_low _ hch
end FW
set_option Elab.async false
set_option linter.all false
set_option maxRecDepth 100000
set_option maxHeartbeats 4000000
namespace FW
open PySem PySem.Spec PyProof.Rows L2
variable [Tabs]
theorem sl_to {x : Str} {j : Int} (h0 : 0 ≤ j) (h : j ≤ x.length) : Txt.slice x none (some j) = cs (x.cps.toList.take j.toNat) := by
  have := eq_of_beq (slice_closes_to (x := x) (j := j) ⟨h0, by rw [Array.length_toList]; exact h⟩)
  rw [this]
  show cs _ = cs _
  rw [show (0 : Int).toNat = 0 from rfl, List.drop_zero, Int.sub_zero]
theorem sl_from {x : Str} {i : Int} (h0 : 0 ≤ i) (h : i ≤ x.length) : Txt.slice x (some i) none = cs (x.cps.toList.drop i.toNat) := by
  rw [slice_from_eq h0 h rfl]
  show cs _ = cs _
  congr 1
  rw [List.take_of_length_le]
  rw [List.length_drop, Array.length_toList]
  have : x.length = x.cps.size := rfl
  omega
theorem cs_len {l : List Nat} : (cs l).length = l.length := List.size_toArray
theorem cs_low {l : List Nat} (h : ∀ c ∈ l, 97 ≤ c ∧ c ≤ 122) : low (cs l) := fun c hc => h c (by simpa [cs] using hc)
theorem gsl_to {x : Str} {j : Int} (h0 : 0 ≤ j) (h : j ≤ x.length) (hz : x.length ≤ 1000000) : gSl2 (.str x) none (some j) = some (.val (.str (cs (x.cps.toList.take j.toNat)))) := by
  show (if x.length ≤ sizeLine then some (R.val (.str (Txt.slice x none (some j)))) else none) = _
  rw [if_pos (by have := szl; omega), sl_to h0 h]
theorem gsl_from {x : Str} {i : Int} (h0 : 0 ≤ i) (h : i ≤ x.length) (hz : x.length ≤ 1000000) : gSl2 (.str x) (some i) none = some (.val (.str (cs (x.cps.toList.drop i.toNat)))) := by
  show (if x.length ≤ sizeLine then some (R.val (.str (Txt.slice x (some i) none))) else none) = _
  rw [if_pos (by have := szl; omega), sl_from h0 h]
theorem rd_Pnear (as : List Slot) (Q : R → List Slot → Prop) (h : S_Pnear as Q) : wFun (some 0) 2 5 t_Pnear as Q := by
  obtain ⟨a, b, x, rfl, hx, q⟩ := h
  have hx1 := hx.lo
  have hx2 := hx.hi
  unfold t_Pnear
  wp_walk
  refine ⟨a, b, 3, rfl, by decide, by decide, fun way a1 b1 w0 w1 => ?_⟩
  wp_walk using lenS (x := x) (by have := szl; omega)
  refine ⟨a1, b1, (x.length : Int), rfl, by omega, by omega, fun k a2 b2 k0 k1 => ?_⟩
  have htl : x.cps.toList.length = x.length := by rw [Array.length_toList]; rfl
  have tk : ∀ n, low (cs (x.cps.toList.take n)) := fun n => cs_low fun c hc => hx.low c (List.mem_of_mem_take hc)
  have dp : ∀ n, low (cs (x.cps.toList.drop n)) := fun n => cs_low fun c hc => hx.low c (List.mem_of_mem_drop hc)
  wp_walk using eqI
  by_cases c0 : way = 0
  · rw [if_pos (by simp [c0])]
    refine ⟨a2, b2, rfl, fun y a3 b3 hy => ?_⟩
    wp_walk
    exact q y a3 b3 hy
  · rw [if_neg (by simp [c0])]
    by_cases c1 : way = 1
    · rw [if_pos (by simp [c1])]
      wp_walk using wSl2, gsl_to (x := x) (j := k) k0 (by omega) (by omega)
      refine ⟨a2, b2, 26, rfl, by decide, by decide, fun r a3 b3 r0 r1 => ?_⟩
      have hl : (letters.cps.toList).length = 26 := by have := letters_len; exact this
      obtain ⟨ch, hch, e⟩ := at_get (l := letters.cps.toList) (k := r) r0 (by rw [hl]; omega)
      have e' : atI (Str.ofString "abcdefghijklmnopqrstuvwxyz").cps.toList r = some ch := e
      have l1 : (cs (x.cps.toList.take k.toNat)).length = k.toNat := by rw [cs_len, List.length_take, htl]; omega
      have l2 : (cs (x.cps.toList.drop (k + 1).toNat)).length = x.length - (k + 1).toNat := by rw [cs_len, List.length_drop, htl]
      wp_walk using ixS (x := Str.ofString "abcdefghijklmnopqrstuvwxyz") (k := r) (by rw [show (Str.ofString "abcdefghijklmnopqrstuvwxyz").length = 26 from letters_len, sizeLine_eq]; decide), e',
        gsl_from (x := x) (i := k + 1) (by omega) (by omega) (by omega), addS (a := cs (x.cps.toList.take k.toNat)) (b := ⟨#[ch]⟩) (by rw [l1, len_one, sizeLine_eq]; omega),
        addS (a := cs (x.cps.toList.take k.toNat) ++ ⟨#[ch]⟩) (b := cs (x.cps.toList.drop (k + 1).toNat)) (by rw [len_app, l1, len_one, l2, sizeLine_eq]; omega)
      refine q _ _ _ ⟨by rw [len_app, len_app, l1, len_one, l2]; omega, by rw [len_app, len_app, l1, len_one, l2]; omega, low_app (low_app (tk _) fun c hc => ?_) (dp _)⟩
      have : c = ch := by simpa using hc
      subst this; exact letters_low _ hch
    · rw [if_neg (by simp [c1])]
      have l1 : (cs (x.cps.toList.take (k + 1).toNat)).length = (k + 1).toNat := by rw [cs_len, List.length_take, htl]; omega
      wp_walk using wSl2, gsl_to (x := x) (j := k + 1) (by omega) (by omega) (by omega)
      exact q _ _ _ ⟨by rw [l1]; omega, by rw [l1]; omega, tk _⟩
def kpT (p : Str × Str) : T := .tup [.str p.1, .str p.2]
theorem keyT_kp {p : Str × Str} : keyT (kpT p) = some [p.1, p.2] := rfl
theorem keysT_kp : ∀ (ps : List (Str × Str)), keysT (ps.map kpT) = some (ps.map fun p => [p.1, p.2])
  | [] => rfl
  | p :: ps => by
    show (keyT (kpT p)).bind (fun k => (keysT (ps.map kpT)).map (k :: ·)) = _
    rw [keyT_kp, keysT_kp ps]; rfl
theorem pwho_for {m : Int} {D : WD} : ∀ (n i : Nat) (a b : Int) (base : Str) (ps : List (Str × Str)) (s4 s5 : Slot), NameT base → (∀ p ∈ ps, p.1 ∈ wordsL ∧ NameT p.2) → ps.length + n ≤ 18 →
    (∀ a' b' base' (ps' : List (Str × Str)) s4' s5', (∀ p ∈ ps', p.1 ∈ wordsL ∧ NameT p.2) → ps'.length = ps.length + n → D.nx [.own (pn a' b'), .val (.int m), .val (.str base'), .own (ps'.map kpT), s4', s5']) →
    forW (fun t ρ => some (ρ.set 4 (.val t))) (wSeq (wSet 5 (wFr (wCall (some 0) (S_Pnear) (wCons (wV 0) (wCons (wFr (wV 2)) (wNil)))))) (wSeq (wDrop (wMut 3 gAppend (wCons (wFr (wTup (wCons (wFr (wBin gIx (wLst (wCons (wFr (wC (.str (Str.ofString "group")))) (wCons (wFr (wC (.str (Str.ofString "hand")))) (wCons (wFr (wC (.str (Str.ofString "office")))) (wNil))))) (wCall (some 0) (S_Ptake) (wCons (wV 0) (wCons (wFr (wC (.int 3))) (wNil)))))) (wCons (wFr (wV 5)) (wNil))))) (wNil)))) (wIfS (tst (wBin (gEq false) (wCall (some 0) (S_Ptake) (wCons (wV 0) (wCons (wFr (wC (.int 3))) (wNil)))) (wC (.int 0)))) (wSet 2 (wFr (wV 5))) (wNext)))) D ((List.range' i n).map fun (j : Nat) => T.int (j : Int)) [.own (pn a b), .val (.int m), .val (.str base), .own (ps.map kpT), s4, s5]
  | 0, i, a, b, base, ps, s4, s5, hb, hp, hz, k => by
    show forW _ _ _ [] _
    rw [for_nil]; exact k a b base ps s4 s5 hp (by simp)
  | n + 1, i, a, b, base, ps, s4, s5, hb, hp, hz, k => by
    rw [List.range'_succ, List.map_cons, for_cons]
    wp_walk
    refine ⟨a, b, base, rfl, hb, fun y a1 b1 hy => ?_⟩
    wp_walk
    refine ⟨a1, b1, 3, rfl, by decide, by decide, fun r a2 b2 r0 r1 => ?_⟩
    obtain ⟨w, hw, e⟩ := at_get (l := [T.str (Str.ofString "group"), T.str (Str.ofString "hand"), T.str (Str.ofString "office")]) (k := r) r0 (by simp; omega)
    have hw' : ∃ z, w = T.str z ∧ z ∈ wordsL := by
      simp only [List.mem_cons, List.not_mem_nil, or_false] at hw
      rcases hw with rfl | rfl | rfl
      · exact ⟨_, rfl, .head _⟩
      · exact ⟨_, rfl, .tail _ (.head _)⟩
      · exact ⟨_, rfl, .tail _ (.tail _ (.head _))⟩
    obtain ⟨z, rfl, hz'⟩ := hw'
    wp_walk using e, app_ok (xs := ps.map kpT) (t := T.tup [T.str z, T.str y]) (by rw [List.length_map]; have := szl; omega)
    refine ⟨a2, b2, 3, rfl, by decide, by decide, fun r' a3 b3 r2 r3 => ?_⟩
    have ea : ps.map kpT ++ [T.tup [T.str z, T.str y]] = (ps ++ [(z, y)]).map kpT := by simp [kpT]
    have hp' : ∀ p ∈ ps ++ [(z, y)], p.1 ∈ wordsL ∧ NameT p.2 := fun p hpp => by
      rcases List.mem_append.mp hpp with h | h
      · exact hp p h
      · rw [List.mem_singleton.mp h]; exact ⟨hz', hy⟩
    have kk : ∀ a' b' base' (ps' : List (Str × Str)) s4' s5', (∀ p ∈ ps', p.1 ∈ wordsL ∧ NameT p.2) → ps'.length = (ps ++ [(z, y)]).length + n → D.nx [.own (pn a' b'), .val (.int m), .val (.str base'), .own (ps'.map kpT), s4', s5'] := fun a' b' base' ps' s4' s5' h1 h2 => k a' b' base' ps' s4' s5' h1 (by rw [h2, List.length_append]; simp; omega)
    wp_walk using eqI
    rw [ea]
    by_cases c : r' = 0
    · rw [if_pos (by simp [c])]
      exact pwho_for n (i + 1) a3 b3 y _ _ _ hy hp' (by rw [List.length_append]; simp; omega) kk
    · rw [if_neg (by simp [c])]
      exact pwho_for n (i + 1) a3 b3 base _ _ _ hb hp' (by rw [List.length_append]; simp; omega) kk
theorem srtR_kp {ps : List (Str × Str)} : srtR [.lst (ps.map kpT)] = some (ps.map fun p => [p.1, p.2]) := keysT_kp ps
end FW
set_option Elab.async false
set_option linter.all false
set_option maxRecDepth 100000
set_option maxHeartbeats 4000000
namespace FW
open PySem PySem.Spec PyProof.Rows L2
variable [Tabs]
end FW
set_option Elab.async false
set_option linter.all false
set_option maxRecDepth 100000
set_option maxHeartbeats 4000000
namespace FW
open PySem PySem.Spec PyProof.Rows L2
variable [Tabs]
section
variable {X : Cx}
def isBl (c : Bool) : T → Bool
  | .bl b => b == c
  | _ => false
def gBool (neg : Bool) (t u : T) : Option R := match u with
  | .bl c => some (.val (.bl (isBl c t != neg)))
  | _ => none
theorem same_bool {K : W.Frag} {H : Hp} {t : T} {x : V} {u : Value} {c : Bool} (n : Now K H t x) (r : RelV x u) : isSame u (.bool c) = pure (isBl c t) := by
  cases t with
  | non => rw [now_non] at n; subst n; cases r; rfl
  | bl b => rw [now_bl] at n; subst n; cases r; cases b <;> cases c <;> rfl
  | int i => rw [now_int] at n; subst n; obtain ⟨t, rfl⟩ := r; rfl
  | str y => rw [now_str] at n; subst n; obtain ⟨t, rfl⟩ := r; rfl
  | tup xs => rw [now_tup] at n; obtain ⟨p, vs, rfl, _⟩ := n; cases r; rfl
  | lst xs => obtain ⟨p, vs, rfl, _⟩ := n; cases r; rfl
  | dct kvs =>
    have n' : Rep K H (.dct kvs) x := n
    unfold Rep at n'
    obtain ⟨p, _, rfl, _⟩ := n'; cases r; rfl
theorem o_isB : OpT X (compareOp .Is) (gBool false) := by
  intro pins s σ H x y u v t1 t2 r Q I rx ry n1 n2 e q
  cases t2 with
  | bl c =>
    have e' : some (R.val (.bl (isBl c t1 != false))) = some r := e
    cases e'
    rw [now_bl] at n2; subst n2
    cases ry
    show wpAny _ _ (do return Value.bool (← isSame u (.bool c))) _ _ s
    rw [same_bool n1 rx]
    exact wpAny_bind (wpAny_pure (wpAny_pure ⟨.bl (isBl c t1), H, I, rfl, by have h := q (.bl (isBl c t1 != false)) H (newR_val (by simp)); rw [Bool.bne_false] at h; exact h⟩))
  | _ => cases e
theorem o_notB : OpT X (compareOp .IsNot) (gBool true) := by
  intro pins s σ H x y u v t1 t2 r Q I rx ry n1 n2 e q
  cases t2 with
  | bl c =>
    have e' : some (R.val (.bl (isBl c t1 != true))) = some r := e
    cases e'
    rw [now_bl] at n2; subst n2
    cases ry
    show wpAny _ _ (do return Value.bool (!(← isSame u (.bool c)))) _ _ s
    rw [same_bool n1 rx]
    exact wpAny_bind (wpAny_pure (wpAny_pure ⟨.bl (!isBl c t1), H, I, rfl, by have h := q (.bl (isBl c t1 != true)) H (newR_val (by simp)); rw [Bool.bne_true] at h; exact h⟩))
  | _ => cases e
end
end FW
set_option Elab.async false
set_option linter.all false
set_option maxRecDepth 100000
set_option maxHeartbeats 4000000
namespace FW
open PySem PySem.Spec PyProof.Rows L2
theorem runs_gens {M : Model} {Γ : PySem.Ctx} {p : Pos} {t : Sem Fin} {fs : List Frame} {s s' : Shared} {e : End} (h : Runs M Γ p t fs s e s') : s.gens.size ≤ s'.gens.size := by
  induction h <;> (try simp only [Shared.setGen, Array.size_push, Array.size_setIfInBounds, Array.size_set, Array.size_modify] at *) <;> omega
theorem wakes_gens {M : Model} {Γ : PySem.Ctx} {p : Pos} {g : Nat} {r : Resume} {s s' : Shared} {res : GenResult} (h : Wakes M Γ p g r s res s') : s.gens.size ≤ s'.gens.size := by
  have key : ∀ {s1 : Shared} {gs : GenState}, (s.setGen g .running).gens.size ≤ s1.gens.size → s.gens.size ≤ (s1.setGen g gs).gens.size := fun h => by
    simp only [Shared.setGen, Array.size_setIfInBounds] at h ⊢; exact h
  unfold Wakes at h
  split at h
  · cases h
  · split at h
    · obtain ⟨_, _, hr, _, _, rfl⟩ := h
      exact key (runs_gens hr)
    · rw [h.2]; simp [Shared.setGen]
    · rw [h.2]; simp [Shared.setGen]
  · obtain ⟨_, _, hr, _, _, rfl⟩ := h
    exact key (runs_gens hr)
  · rw [h.2]; simp [Shared.setGen]
  · rw [h.2]; simp [Shared.setGen]
open Sem (wp) in
theorem wp_gens {α : Type} (M : Model) (Γ : PySem.Ctx) (n : Nat) (t : Sem α) : ∀ {Q : α → Pos → Shared → Prop} {E : Value → Pos → Shared → Prop} {p : Pos} {s : Shared}, n ≤ s.gens.size → wp M Γ t Q E p s →
    wp M Γ t (fun a p' s' => n ≤ s'.gens.size ∧ Q a p' s') (fun e p' s' => n ≤ s'.gens.size ∧ E e p' s') p s := by
  induction t with
  | pure a => exact fun hn h => ⟨hn, h⟩
  | raise e => exact fun hn h => ⟨hn, h⟩
  | unsupported _ => exact fun _ h => h
  | finish _ => exact fun _ h => h
  | register _ _ => exact fun _ h => h
  | yield _ _ _ _ => exact fun _ h => h
  | fork _ _ => exact fun _ h => h
  | await _ _ _ _ _ => exact fun _ h => h
  | rule _ k ih => exact fun hn h => ih () hn h
  | «at» p' k ih => exact fun hn h => ih () hn h
  | point _ k ih => exact fun hn h => ih () hn h
  | load a _ k ih => exact fun hn ⟨o, ho, h⟩ => ⟨o, ho, ih o hn h⟩
  | update a _ f k ih => exact fun hn h => ⟨h.1, ih () hn h.2⟩
  | loadIfAlive a k ih => exact fun hn h => ih _ hn h
  | alloc o k ih => exact fun hn h => ih _ hn h
  | fresh k ih => exact fun hn h => ih _ hn h
  | ask k ih => exact fun hn h => ih _ hn h
  | choose src m k ih => exact fun hn h => ⟨h.1, ih _ hn h.2⟩
  | os q _ k ih => exact fun hn h => ih _ hn h
  | handled own k ih => exact fun hn h => ih _ hn h
  | stack k ih => exact fun hn h => ih _ hn h
  | thread k ih => exact fun hn h => ih _ hn h
  | genState g k ih => exact fun hn ⟨st, hs, h⟩ => ⟨st, hs, ih _ hn h⟩
  | newGen c k ih => exact fun hn h => ih _ (by rw [Array.size_push]; exact Nat.le_succ_of_le hn) h
  | call c hd _ _ k ih => exact fun hn ⟨r, s', hr, h⟩ => ⟨r, s', hr, ih r (Nat.le_trans hn (runs_gens hr)) h⟩
  | resume g r _ k ih => exact fun hn ⟨res, s', hw, h⟩ => ⟨res, s', hw, ih res (Nat.le_trans hn (wakes_gens hw)) h⟩
theorem any_gens {α : Type} {M : Model} {A : Around} {s : Shared} {t : Sem α} {Q : α → Shared → Prop} {E : Value → Shared → Prop} {n : Nat} (hn : n ≤ s.gens.size)
    (h : wpAny M A t (fun a s' => n ≤ s'.gens.size → Q a s') E s) : wpAny M A t Q E s := by
  have h2 : wpAny M A t (fun a s' => n ≤ s'.gens.size ∧ (n ≤ s'.gens.size → Q a s')) (fun e s' => n ≤ s'.gens.size ∧ E e s') s := fun Γ p hΓ => wp_gens M Γ n t hn (h Γ p hΓ)
  exact wpAny_mono h2 (fun _ _ x => x.2 x.1) fun _ _ x => x.2
end FW
set_option Elab.async false
set_option linter.all false
set_option maxRecDepth 100000
set_option maxHeartbeats 4000000
namespace FW
open PySem PySem.Spec PyProof.Rows L2
variable [Tabs]
abbrev gEnv (X : Cx) (scope : Scope) (C : Addr) (code : Value) : PySem.Env := genEnv scope (clOf X.env scope.names []) C code builtinsNs X.env
def genCx (X : Cx) (A' : Around) (scope : Scope) (N : List Str) (code : Value) (s₀ : Shared) (H₀ : Hp) (fp : List Addr) (pn : List (Addr × Obj)) : Cx :=
  { X with A := A', N := N, s₀ := s₀, H₀ := H₀, env := gEnv X scope s₀.heap.objs.size code, outer := X.stack, stack := gEnv X scope s₀.heap.objs.size code :: X.stack, ex := fp, fn := fun _ => false, pn := pn }
theorem inv_gen {X : Cx} {A' : Around} {scope : Scope} {N : List Str} {mp : List (Option Nat)} {pins pn : List (Addr × Obj)} {σ : L2.St} {H : Hp} {s s5 : Shared} {fp : List Addr} {code : Value} {m : Str → Option Value} (B : Blk X scope N mp) (I : Inv X pins σ H s)
    (hcell : ∀ y ∈ scope.names, y.2 ≠ .cell) (hfr : A'.frames = some (gEnv X scope s.heap.objs.size code :: X.stack)) (hhd : A'.handled = none)
    (hf : ∀ b ∈ fp, FpOk X pins H b) (hfs : ∀ b ∈ fp, b < s.heap.objs.size) (hn : s5.heap.Ns s.heap.objs.size m) (hk : ∀ b o, s.heap.get? b = some o → s5.heap.get? b = some o) (hos : s5.os = s.os) (hb5 : AllBare s5.gens)
    (hpn : ∀ p ∈ pn, s5.heap.get? p.1 = some p.2 ∧ s.heap.objs.size < p.1 ∧ ∀ v, p.2.data ≠ .cell v) :
    Inv (genCx X A' scope N code s H fp pn) [] (blkSt σ mp) H s5 := by
  have cel := B.cells I
  have sub : ∀ x c, (clOf X.env scope.names []).lookup x = some c → X.env.cells.lookup x = some c := fun x c h => clOf_mem cel (fun _ _ h => by cases h) h
  have clt : ∀ x c, X.env.cells.lookup x = some c → c < s.heap.objs.size := fun x c h => let ⟨v, q⟩ := I.cell x c h; q.lt
  have fsub : ∀ b ∈ frs X.stack, b ∈ X.env.locals :: X.fs := I.stkSub
  refine ⟨⟨I.ok.mod, B.kind, I.ok.glob, rfl, Nat.le_refl _, fun x y c h1 h2 => I.ok.inj x y c (sub x c h1) (sub y c h2), fun x h => ?has, fun x c h _ => (nomatch h), fun _ => hhd, hfr, .inr ⟨rfl, rfl⟩,
      fun b hb => ⟨Nat.ne_of_lt (hfs b hb), fun x c h z => (hf b hb).2.2.2.2.1 x c (sub x c h) z⟩, I.bs, Nat.le_trans I.ok.bsz I.sz, fun b o e hb => ?nox, fun b hb hs => ?nofs, I.stack, I.stkFree, I.tab⟩,
    hos, hb5, Un.kept hk, ⟨m, hn, fun i x v e1 e2 hv => ?look⟩, fun x c h => ?cell, I.hok.fresh (Nat.le_refl _), fun x c h => I.freeC x c (sub x c h), fun p hp => ?pin, I.hok.kept hk, ?len⟩
  case has =>
    have h' : scope.names.lookup x = some .cell ∨ scope.names.lookup x = some .free := h
    rcases h' with h' | h'
    · exact absurd rfl (hcell _ (mem_of_lookup' h'))
    · exact clOf_has (.inl ⟨_, mem_of_lookup' h', rfl, rfl⟩)
  case nox =>
    rcases (hf b hb).2.2.2.1 with z | z
    · exact I.ok.noex b o e z
    · exact absurd (Nat.lt_of_lt_of_le (Heap.lt_size e) (Nat.le_trans I.ok.bsz z)) (Nat.lt_irrefl _)
  case nofs =>
    rcases List.mem_cons.mp (fsub b hs) with z | z
    · exact (hf b hb).2.1 z
    · exact (hf b hb).2.2.1 z
  case look =>
    obtain ⟨j, ej, es⟩ := blkSt_get e2
    rcases B.free.at e1 with ⟨z, _⟩ | ⟨j', ej', hl, hN, hkind⟩
    · rw [ej] at z; cases z
    · rw [ej] at ej'; cases ej'
      obtain ⟨m0, hn0, hl0⟩ := I.loc
      have vis : Vis X.env.scope x := by rcases hkind with z | z; exact .inr (.inl z); exact .inr (.inr z)
      obtain ⟨u, ru, lk⟩ := hl0 j x v hN es vis
      refine ⟨u, ru, .inr ⟨.inr hl, ?_⟩⟩
      rcases lk with ⟨k1, _⟩ | ⟨_, c, hc, hcl⟩
      · rcases hkind with z | z <;> (rw [k1] at z; cases z)
      · obtain ⟨c', hc'⟩ := clOf_has (env := X.env) (x := x) (cs := []) (.inl ⟨_, mem_of_lookup' hl, rfl, rfl⟩)
        have := sub x c' hc'
        rw [hc] at this; cases this
        obtain ⟨o, ho, hd⟩ := hcl
        exact ⟨c, hc', o, hk c o ho, hd⟩
  case cell =>
    obtain ⟨v, o, ho, hd⟩ := I.cell x c (sub x c h)
    exact ⟨v, o, hk c o ho, hd⟩
  case pin =>
    have hp' : p ∈ pn := by simpa using (show p ∈ pn ++ [] from hp)
    obtain ⟨g1, g2, g3⟩ := hpn p hp'
    refine ⟨g1, I.hok.fresh (Nat.le_of_lt g2), Nat.ne_of_gt g2, fun hs => ?_, g3⟩
    rcases List.mem_cons.mp (fsub p.1 hs) with z | z
    · exact absurd (Nat.lt_trans (z ▸ I.lt : p.1 < s.heap.objs.size) g2) (Nat.lt_irrefl _)
    · exact I.nofs (Nat.le_of_lt g2) z
  case len => show (blkSt σ mp).length = N.length; rw [B.free.len]; simp [blkSt]
theorem Inv.grown {X : Cx} {pins : List (Addr × Obj)} {σ : L2.St} {H : Hp} {s : Shared} {P : Addr} {ps more : Array Value} {h' : Heap} {tk : Nat} (I : Inv X pins σ H s) (hP : H P = some (.tbl ps)) (hx : Heap.ExtBut P s.heap h') (hP' : h'.get? P = some { cls := .none, data := .fields (ps ++ more) }) (ht : TriplesOk (ps ++ more).toList) :
    Inv X pins σ (upd H P (.tbl (ps ++ more))) { s with heap := h', toks := tk } := by
  have nP : ∀ b, H b = none → b ≠ P := fun b n z => by rw [z, hP] at n; cases n
  refine I.step (g' := s.gens) (d' := s.drawn) (ch := []) (fun _ z => nomatch z) (fun b o _ _ _ e n => hx b o (nP b n) e) (fun b o _ _ _ e n => ⟨o.slots, hx b o (nP b n) e⟩) (fun b o _ _ n => by rw [upd_ne (nP b n)]; exact n) (fun b o _ e => ?_)
    (fun b xs e => by rw [upd_ne (ne_of e hP (fun z => nomatch z))]; exact e) (fun b o u e => by rw [upd_ne (ne_of e hP (fun z => nomatch z))]; exact e) (fun b qs e => ?_) (fun m hm => ?_) (fun b o e => ?_) I.bare
  · by_cases hb : b = P
    · subst hb; exact ⟨_, hP'⟩
    · exact ⟨o, hx b o hb e⟩
  · by_cases hb : b = P
    · subst hb; rw [hP] at e; cases e; exact ⟨more, upd_same⟩
    · exact ⟨#[], by rw [upd_ne hb, e]; simp⟩
  · obtain ⟨o, es, ep, ho, r⟩ := hm
    exact ⟨o, es, ep, hx _ _ (nP _ I.free) ho, r⟩
  · by_cases hb : b = P
    · subst hb
      rw [upd_same] at e; cases e
      exact ⟨hP', ht⟩
    · rw [upd_ne hb] at e
      have ob := I.hok b o e
      refine ob.stay (fun c v hc q => hx c v (fun z => ?_) q) (fun y q => ?_) fun y xs q => ?_
      · subst z
        rcases hc with z | z
        · exact hb z.symm
        · rw [hP] at z; cases z
      · rw [upd_ne (ne_of q hP (fun z => nomatch z))]; exact q
      · rw [upd_ne (ne_of q hP (fun z => nomatch z))]; exact q
theorem gcode {X : Cx} {pins : List (Addr × Obj)} {σ : L2.St} {H : Hp} {s : Shared} {c P : Addr} {pos : Pos} {qn : Str} {sc : Scope} {Q : Value → Shared → Prop} (I : Inv X pins σ H s) (hc : X.env.code = .ref c) (hd : W.codeHdIn X.K c P = true) (hP : P ∈ Tabs.l)
    (hQ : ∀ code h' tk (H' : Hp) more ps, H P = some (.tbl ps) → H' = upd H P (.tbl (ps ++ more)) → Inv X pins σ H' { s with heap := h', toks := tk } → (∀ b o, b ≠ P → s.heap.get? b = some o → h'.get? b = some o) → s.heap.objs.size ≤ h'.objs.size → Q code { s with heap := h', toks := tk }) :
    wpAny (model X.prog X.w) X.A (genexprCode X.env pos qn sc) Q X.xe s := by
  obtain ⟨ps, e⟩ := I.tab P hP
  obtain ⟨e1, e2⟩ := I.hok P _ e
  have hh := W.codeHd_of_K I.kIn hd
  have hcode := hh.code e1 e2
  cases hm : codeAmong pos ps.toList with
  | some c' =>
    refine wpAny_genexprCode_hit hc hcode hm (hQ c' s.heap s.toks _ #[] ps e rfl ?_ (fun b o _ q => q) (Nat.le_refl _))
    have := Inv.grown (more := #[]) (h' := s.heap) (tk := s.toks) I e (fun b o _ q => q) (by rw [Array.append_empty]; exact e1) (by rw [Array.append_empty]; exact e2)
    exact this
  | none =>
    refine wpAny_genexprCodeX hc hcode (hh.tab e1) hm fun c' h' tk hx h1 h2 h3 _ h4 _ => ?_
    obtain ⟨_, _, _, _, _, _, _, _, _, _, _, _, _, _, _, _, _, _, _, ht, _⟩ := id h3
    exact hQ _ h' tk _ _ ps e rfl (Inv.grown I e hx h4.2 ht) (fun b o hb q => hx b o hb q) (Nat.le_trans h1 (Nat.le_of_lt h2))
end FW
set_option Elab.async false
set_option linter.all false
set_option maxRecDepth 100000
set_option maxHeartbeats 4000000
namespace FW
open PySem PySem.Spec PyProof.Rows L2
def Sim (s s' : Shared) : Prop := s'.heap = s.heap ∧ s'.os = s.os ∧ AllBare s'.gens ∧ s.gens.size ≤ s'.gens.size
theorem bare_set {s : Shared} {g : Nat} {gs : GenState} (h : AllBare s.gens) (hb : gs.bare = true) (hg : g < s.gens.size) : AllBare (s.setGen g gs).gens :=
  (GenOnlyQ.of (GenOnly.setGen s g gs) (setGen_self (Array.getElem?_eq_getElem hg)) hb).bare h
theorem size_set {s : Shared} {g : Nat} {gs : GenState} : (s.setGen g gs).gens.size = s.gens.size := by simp [Shared.setGen]
section
variable {prog : Program} {w : World} {A A2 : Around} {tg iter elt : Expr} {scope : Scope} {pos : Pos} {it : Value} {cenv : PySem.Env} {Jn : Nat → Shared → Prop} {Fin : Bool → Shared → Prop}
def gR (Fin : Bool → Shared → Prop) : GenEnd := fun n _ r s₁ => r = .ok .next ∧ (n = 0 ∧ Fin true s₁)
def gY (Jn : Nat → Shared → Prop) (Fin : Bool → Shared → Prop) : Protocol := fun m _ v s kap => ∃ b, v = .bool b ∧ (b = true → Jn m s ∧ ∀ s'', Sim s s'' → kap (.send .none) s'') ∧ (b = false → Fin false s)
theorem seg_turns (hco : cenv.scope.isCoroutine = false) (hA : A.over (.compLoop (.GeneratorExp elt [⟨tg, iter, [], 0⟩] scope pos) 0 it .none cenv) [] = A2)
    (J0 : ∀ s, Jn 0 s → wpAny (model prog w) A2 (pyNext it) (fun r s' => r = none ∧ Fin true s') (fun _ _ => False) s)
    (J1 : ∀ n s, Jn (n + 1) s → wpAny (model prog w) A2 (pyNext it) (fun r s1 => ∃ v, r = some v ∧ wpAny (model prog w) A2 (letOwnedTupleGo tg it v) (fun _ s2 => wpAny (model prog w) A2 (assign tg cenv v) (fun _ s3 =>
      wpAny (model prog w) A2 (eval elt cenv) (fun y s4 => ∃ b, y = .bool b ∧ (b = true → Jn n s4) ∧ (b = false → Fin false s4)) (fun _ _ => False) s3) (fun _ _ => False) s2) (fun _ _ => False) s1) (fun _ _ => False) s)
    (Js : ∀ n s s', Jn n s → Sim s s' → Jn n s') :
    ∀ (n : Nat) (s₀ s : Shared), Jn n s → Seg (model prog w) A (gR Fin) (gY Jn Fin) n s₀ (.compLoop (.GeneratorExp elt [⟨tg, iter, [], 0⟩] scope pos) 0 it .none cenv)
      ((model prog w).den (.compLoop (.GeneratorExp elt [⟨tg, iter, [], 0⟩] scope pos) 0 it .none cenv)) [] s := by
  intro n
  induction n with
  | zero =>
    intro s₀ s h
    show Seg _ A _ _ 0 s₀ _ ((compTurn (.GeneratorExp elt [⟨tg, iter, [], 0⟩] scope pos) 0 it .none cenv).onRaise (leaving cenv)) [] s
    rw [compTurn_gen, Sem.onRaise_eq_wrap]
    refine seg_bind_wrap (wpAny_standAt (seg_bind_wrap ?_))
    rw [hA]
    refine wpAny_mono (J0 s h) (fun r s' hr => ?_) fun _ _ z => z.elim
    obtain ⟨rfl, hf⟩ := hr
    exact seg_end (.ok .next) ⟨rfl, rfl, hf⟩
  | succ n ih =>
    intro s₀ s h
    show Seg _ A _ _ (n + 1) s₀ _ ((compTurn (.GeneratorExp elt [⟨tg, iter, [], 0⟩] scope pos) 0 it .none cenv).onRaise (leaving cenv)) [] s
    rw [compTurn_gen, Sem.onRaise_eq_wrap]
    refine seg_bind_wrap (wpAny_standAt (seg_bind_wrap ?_))
    rw [hA]
    refine wpAny_mono (J1 n s h) (fun r s1 hr => ?_) fun _ _ z => z.elim
    obtain ⟨v, rfl, h1⟩ := hr
    refine seg_bind_wrap ?_
    rw [hA]
    refine wpAny_mono h1 (fun _ s2 h2 => seg_bind_wrap ?_) fun _ _ z => z.elim
    rw [hA]
    refine wpAny_mono h2 (fun _ s3 h3 => ?_) fun _ _ z => z.elim
    simp only [List.forIn_nil, pure_bind, if_true]
    have hy : ∀ v, yieldOut cenv v = yieldValue v := fun v => by simp only [yieldOut, hco, Bool.false_eq_true, if_false]
    simp only [hy]
    rw [Sem.bind_eq_wrap', Sem.bind_eq_wrap', Sem.wrap_wrap, Sem.wrap_wrap]
    refine seg_wrap ?_
    rw [hA]
    refine wpAny_mono h3 (fun y s4 h4 => ?_) fun _ _ z => z.elim
    obtain ⟨b, rfl, h5, h6⟩ := h4
    exact seg_at (seg_yield rfl rfl rfl ⟨b, rfl, fun hb => ⟨h5 hb, fun s'' hs => seg_again rfl (ih s'' s'' (Js n s4 s'' (h5 hb) hs))⟩, h6⟩)
theorem seg_begin (hA : A.over (.compStart (.GeneratorExp elt [⟨tg, iter, [], 0⟩] scope pos) 0 it .none cenv) [] = A2)
    (self : ∀ (s : Shared) (Q : Value → Shared → Prop) (E : Value → Shared → Prop) (n : Nat), Jn n s → Q it s → wpAny (model prog w) A2 (pyIter it) Q E s)
    {n : Nat} {s₀ s : Shared} (h : Jn n s)
    (loop : Seg (model prog w) A (gR Fin) (gY Jn Fin) n s₀ (.compLoop (.GeneratorExp elt [⟨tg, iter, [], 0⟩] scope pos) 0 it .none cenv)
      ((model prog w).den (.compLoop (.GeneratorExp elt [⟨tg, iter, [], 0⟩] scope pos) 0 it .none cenv)) [] s) :
    Seg (model prog w) A (gR Fin) (gY Jn Fin) n s₀ (.compStart (.GeneratorExp elt [⟨tg, iter, [], 0⟩] scope pos) 0 it .none cenv)
      ((model prog w).den (.compStart (.GeneratorExp elt [⟨tg, iter, [], 0⟩] scope pos) 0 it .none cenv)) [] s := by
  show Seg _ A _ _ n s₀ _ ((compStart (.GeneratorExp elt [⟨tg, iter, [], 0⟩] scope pos) 0 it .none cenv).onRaise (leaving cenv)) [] s
  unfold compStart
  rw [Sem.onRaise_eq_wrap]
  show Seg _ A _ _ n s₀ _ ((ask >>= _).wrap _ _ _ _) [] s
  refine seg_bind_wrap (wpAny_askSetting ?_)
  split
  · exact seg_again rfl loop
  · refine seg_bind_wrap (wpAny_rule ?_)
    show Seg _ A _ _ n s₀ _ ((standAt iter.pos >>= _).wrap _ _ _ _) [] s
    refine seg_bind_wrap (wpAny_standAt (seg_bind_wrap ?_))
    rw [hA]
    exact self s _ _ n h (seg_again rfl loop)
theorem all_loop {a : Addr} {g : Nat} {RR : Result → Shared → Prop} (hh : A.handled = none) (hroom : A.depth < recursionLimit) (hJ : ∀ n s, Jn n s → s.heap.IsGen a g ∧ s.heap.NoLimit ∧ g < s.gens.size ∧ AllBare s.gens) (Js : ∀ n s s', Jn n s → Sim s s' → Jn n s')
    (hF : ∀ b s s', Fin b s → (∀ c o, s.heap.get? c = some o → s'.heap.get? c = some o) → s'.os = s.os → AllBare s'.gens → RR (.ok (.ret (.bool b))) s') (hFb : ∀ b s, Fin b s → g < s.gens.size ∧ AllBare s.gens) :
    ∀ (n : Nat) (s : Shared) (gs : GenState), Jn n s → s.gens[g]? = some gs → (∀ s'', Sim s s'' → gs.Goes (model prog w) A.in1.in1 (gR Fin) (gY Jn Fin) n (.send .none) s'') →
      codeAny (model prog w) A (.builtin "all.loop" ⟨[.ref a], []⟩) RR s := by
  intro n
  induction n with
  | zero =>
    intro s gs h hgs go
    obtain ⟨ig, nl, lt, ab⟩ := hJ 0 s h
    refine codeAny_builtin F.entry_all_loop ?_
    rw [Around.under_plainId F.plain_all_loop _]
    show wpAny _ A.in1 (pyNext (.ref a) >>= _) _ _ s
    refine wpAny_bind (wpAny_pyNext_genexpQ (P := fun n s₀ s₁ => n = 0 ∧ Fin true s₁) (Y := gY Jn Fin) (n := 0) hh nl hroom ig hgs (go _ ⟨rfl, rfl, bare_set ab rfl lt, by rw [size_set]; exact Nat.le_refl _⟩) (fun v s₁ gs' hb hv => ?_) fun s₁ hp h' hk => ?_)
    · obtain ⟨b, rfl, h1, h2⟩ := hv
      cases b with
      | true =>
        obtain ⟨h1, k⟩ := h1 rfl
        exact (k s₁ ⟨rfl, rfl, (hJ _ _ h1).2.2.2, Nat.le_refl _⟩).elim
      | false =>
        have f := h2 rfl
        obtain ⟨f1, f2⟩ := hFb _ _ f
        refine wpAny_bind (wpAny_holding (wpAny_truthy_bool (wpAny_bind (wpAny_letGo ?_))))
        simp only [Bool.false_eq_true, if_false]
        exact wpAny_bind (wpAny_rule (wpAny_pure (hF false s₁ _ f (fun c o e => e) rfl (bare_set f2 hb f1))))
    · obtain ⟨_, f⟩ := hp
      obtain ⟨f1, f2⟩ := hFb _ _ f
      exact wpAny_bind (wpAny_rule (wpAny_pure (hF true s₁ _ f hk rfl (bare_set f2 rfl f1))))
  | succ n ih =>
    intro s gs h hgs go
    obtain ⟨ig, nl, lt, ab⟩ := hJ _ s h
    refine codeAny_builtin F.entry_all_loop ?_
    rw [Around.under_plainId F.plain_all_loop _]
    show wpAny _ A.in1 (pyNext (.ref a) >>= _) _ _ s
    refine wpAny_bind (wpAny_pyNext_genexpQ (P := fun n s₀ s₁ => n = 0 ∧ Fin true s₁) (Y := gY Jn Fin) (n := n + 1) hh nl hroom ig hgs (go _ ⟨rfl, rfl, bare_set ab rfl lt, by rw [size_set]; exact Nat.le_refl _⟩) (fun v s₁ gs' hb hv => ?_) fun s₁ hp h' hk => ?_)
    · obtain ⟨b, rfl, h1, h2⟩ := hv
      cases b with
      | true =>
        obtain ⟨h1, k⟩ := h1 rfl
        obtain ⟨_, _, j3, j4⟩ := hJ _ _ h1
        refine wpAny_bind (wpAny_holding (wpAny_truthy_bool (wpAny_bind (wpAny_letGo ?_))))
        simp only [if_true]
        have S1 : Sim s₁ (s₁.setGen g gs') := ⟨rfl, rfl, bare_set j4 hb j3, by rw [size_set]; exact Nat.le_refl _⟩
        refine wpAny_pure ⟨plainId_quiet F.plain_all_loop _, ih _ gs' (Js _ _ _ h1 S1) (setGen_self (Array.getElem?_eq_getElem j3)) fun s'' S2 => k s'' ⟨S2.1.trans S1.1, S2.2.1.trans S1.2.1, S2.2.2.1, Nat.le_trans S1.2.2.2 S2.2.2.2⟩⟩
      | false =>
        have f := h2 rfl
        obtain ⟨f1, f2⟩ := hFb _ _ f
        refine wpAny_bind (wpAny_holding (wpAny_truthy_bool (wpAny_bind (wpAny_letGo ?_))))
        simp only [Bool.false_eq_true, if_false]
        exact wpAny_bind (wpAny_rule (wpAny_pure (hF false s₁ _ f (fun c o e => e) rfl (bare_set f2 hb f1))))
    · exact absurd hp.1 (Nat.succ_ne_zero n)
end
end FW
set_option Elab.async false
set_option linter.all false
set_option maxRecDepth 100000
set_option maxHeartbeats 4000000
namespace FW
open PySem PySem.Spec PyProof.Rows L2
variable [Tabs]
def blR : R → Option Bool
  | .val (.bl b) => some b
  | _ => none
def allW (mp : List (Option Nat)) (g : T → Ev → Option Ev) (te : WE) (K : Bool → Ev → Prop) : List T → Ev → Prop
  | [], ρ => K true ρ
  | t :: ts, ρ => bO (g t (entE mp ρ)) fun ρ1 => te ρ1 fun r ρ2 => bO (blR r) fun b => if b = true then allW mp g te K ts (levE mp ρ2 ρ) else K false (levE mp ρ2 ρ)
def wAllG (mp : List (Option Nat)) (ti : WI) (g : T → Ev → Option Ev) (te : WE) : WE := fun ρ Q => ti ρ fun ts ρ1 => allW mp g te (fun b ρ2 => Q (.val (.bl b)) ρ2) ts ρ1
theorem Inv.sim {X : Cx} {pins : List (Addr × Obj)} {σ : L2.St} {H : Hp} {s s' : Shared} (I : Inv X pins σ H s) (h : Sim s s') : Inv X pins σ H s' := by
  obtain ⟨h', g', d', t', o'⟩ := s'
  obtain ⟨h1, h2, h3, _⟩ := h
  have e1 : h' = s.heap := h1
  have e2 : o' = s.os := h2
  subst e1 e2
  exact ⟨I.ok, I.os, h3, I.base, I.loc, I.cell, I.free, I.freeC, I.pin, I.hok, I.len⟩
theorem pers_tbl {H : Hp} {P : Addr} {ps qs : Array Value} (h : H P = some (.tbl ps)) : Pers H (upd H P (.tbl qs)) :=
  ⟨fun b xs e => by rw [upd_ne (ne_of e h (fun z => nomatch z))]; exact e, fun b o u e => by rw [upd_ne (ne_of e h (fun z => nomatch z))]; exact e⟩
theorem stp_tbl {H : Hp} {P : Addr} {ps qs : Array Value} {O : Addr → Prop} (h : H P = some (.tbl ps)) : Stp O H O (upd H P (.tbl qs)) where
  pers := pers_tbl h
  keep := fun b o e t _ => by
    rw [upd_ne (fun z => by subst z; rw [h] at e; cases e; exact t _ rfl)]; exact e
  own := fun _ z => .inl z
  there := fun b o e => by
    by_cases hb : b = P
    · subst hb; exact ⟨_, upd_same⟩
    · exact ⟨o, by rw [upd_ne hb]; exact e⟩
theorem room_gen {k : Nat} {A : Around} (r : Room (k + 1) A) (env : PySem.Env) : Room k (A.in1.in1.deeper env) :=
  ⟨r.hd, by have := r.dp; show A.depth + 1 + 3 * k + 5 < _; omega, by have := r.un; show A.units + 1 + 1 + 3 + 16 * k + 200 < _; omega, r.gd⟩
structure FunC (K : W.Frag) (x qual : Str) (st : Stmt) (f : Addr) (fd : FuncData) (c P : Addr) : Prop where
  f : Fun K x qual st f fd
  code : fd.code = .ref c
  hd : W.codeHdIn K c P = true
  tb : P ∈ Tabs.l
section
variable {P : Program} {w : World} {K : W.Frag} {mg : Str → Option Value} {base : Heap}
theorem f_okC {x qual : Str} {st : Stmt} {f : Addr} {fd : FuncData} {c tP : Addr} {N ps : List Str} {k : Nat} {t : WS} {io : Option Nat} (F : FunC K x qual st f fd c tP) (Sc : FnScope N ps (defScope st))
    (body : ∀ (A : Around) (outer : List PySem.Env) (s : Shared) (H : Hp) (E : XK), Room k (A.deeper (envOfC qual (defScope st) s.heap.objs.size f (.ref c))) → DSs (cxOf CX0 P w K mg base N qual (defScope st) f (.ref c) A outer s H E).nox (ioList io) (defBody st) t) :
    FnOk P w K mg base CX0 (k + 1) f fd ps (spOf K ps.length (wFun io ps.length N.length t)) :=
  f_ok F.f Sc fun cdv h => by rw [F.code] at h; subst h; exact body
end
theorem d_allG {X : Cx} {tg iter elt : Expr} {scope : Scope} {gpos p pos : Pos} {N : List Str} {mp : List (Option Nat)} {ti : WI} {g : T → Ev → Option Ev} {te : WE} {c P : Addr} {k : Nat} (hx : ∀ v s, ¬ X.xe v s) (hc : X.calm = true) (hr : Room (k + 1) X.A) (B : Blk X scope N mp)
    (hcell : ∀ y ∈ scope.names, y.2 ≠ .cell) (h0 : scope.names.lookup (".0" : Str) = some .local) (hco : scope.isCoroutine = false) (hcd : X.env.code = .ref c) (hd : W.codeHdIn X.K c P = true) (hP : P ∈ Tabs.l) (hi : DI X tg iter ti)
    (hg : ∀ A' code s₀ H₀ fp pn, DG (genCx X A' scope N code s₀ H₀ fp pn) (fxOf mp) tg g) (he : ∀ A' code s₀ H₀ fp pn, Room k A' → DE (genCx X A' scope N code s₀ H₀ fp pn) elt te) (hgl : Gl X "all") (hm : X.mg "all" = none)
    (hs : ∀ x, genFold iter X.env x = pure x := by intro _; rfl) : DE X (.Call (.Name "all" p) [.GeneratorExp elt [⟨tg, iter, [], 0⟩] scope gpos] [] pos) (wAllG mp ti g te) := by
  intro pins s σ H ρ Q I E q
  refine wpAny_Call_Name_kw (ld_blt I hgl hm (u := .builtin "all") (by first | rfl | decide) ?_)
  refine PyProof.Rows.callWith_builtin1 ?_ rfl rfl
  show wpAny _ _ (spliced ((false, eval (.GeneratorExp elt [⟨tg, iter, [], 0⟩] scope gpos) X.env) :: backTo pos (starEach [] X.env))) _ _ s
  refine Calls.spliced_cons (wpAny_GeneratorExp_make hco (closureFor_eq (B.cells I)) hcell h0 B.kind hr.depth ?_ hs)
  refine thn (hi pins s σ H (fun J H' => ∃ ts ρ1, EvOk X.K ρ1 σ H' ∧ Stp (Own ρ σ) H (Own ρ1 σ) H' ∧ Wk X.K J ts H' ∧ allW mp g te (fun b ρ2 => Q (.val (.bl b)) ρ2) ts ρ1) I ⟨ρ, _, E, q, fun J H' ts ρ' E' S' w' q' => ⟨ts, ρ', E', S', w', q'⟩⟩) fun v s1 h1 => thn h1 fun itv s2 h2 => ?_
  obtain ⟨it, fp, tn, J, H2, rfl, I2, Tn, st2, f2, ts, ρ1, E1, S1, wk, q1⟩ := h2
  refine ⟨I2.nolimit, gcode I2 hcd hd hP fun code h3 tk3 H3 more ps eP eH I3 k3 sz3 => ?_⟩
  obtain ⟨bm, ob, b1, b2, b3, b4, b5, b6⟩ := I3.mod.bmain
  refine wpAny_builtinsFor (by rw [I3.ok.glob]; exact I3.mod.glob.keeps I3.bk) b1 b2 (I3.bk _ _ b3) b4 b5 b6 ?_
  intro h' hn' hs'
  refine Calls.spliced_nil ?_
  have ltf : ∀ b ∈ fp, b < s2.heap.objs.size := fun b hb => let ⟨o, e, _⟩ := Tn.obj 0 _ st2 b hb; Heap.lt_size e
  have nPf : ∀ b ∈ fp, b ≠ P := fun b hb z => by have := (f2 b hb).1; rw [z, eP] at this; cases this
  have f3 : ∀ b ∈ fp, FpOk X pins H3 b := fun b hb => ⟨by rw [eH, upd_ne (nPf b hb)]; exact (f2 b hb).1, (f2 b hb).2⟩
  have ltf3 : ∀ b ∈ fp, b < h3.objs.size := fun b hb => Nat.lt_of_lt_of_le (ltf b hb) sz3
  have hsz : h'.objs.size = h3.objs.size + 1 := by rw [hs'.1, Heap.size_push]
  have kp4 : ∀ b o, h3.get? b = some o → h'.get? b = some o := fun b o e => hs'.extBut b o (Nat.ne_of_lt (Heap.lt_size e)) (Heap.get?_push_of_some _ e)
  generalize hob : ({ cls := .type "generator", data := .fields #[.int s2.gens.size 0, .str "<genexpr>" (tk3 + 1), .str (X.env.qual ++ "<genexpr>") (tk3 + 1 + 1)] } : Obj) = gob
  have hgd : gob.cls = .type "generator" ∧ (∃ nm qn, gob.data = .fields #[.int s2.gens.size 0, nm, qn]) ∧ gob.slots = #[] := by subst hob; exact ⟨rfl, ⟨_, _, rfl⟩, rfl⟩
  have hfr : gob.isFreed = false := by subst hob; rfl
  have kp5 : ∀ b o, h3.get? b = some o → (h'.push gob).get? b = some o := fun b o e => Heap.get?_push_of_some _ (kp4 b o e)
  have ga : (h'.push gob).get? h'.objs.size = some gob := Heap.get?_push_size _ hfr
  refine call_function_tree F.kind_all F.plain_all F.entry_all (F.args_all1 _) ?_
  unfold Builtin.«all»
  refine wpAny_bind (m := oneArg "all" _) (wpAny_pure ?_)
  change wpAny _ _ _ _ _ ({ heap := h'.push gob, gens := s2.gens.push (.fresh (.compStart (.GeneratorExp elt [⟨tg, iter, [], 0⟩] scope gpos) 0 (.ref it) .none (gEnv X scope h3.objs.size code))), drawn := s2.drawn, toks := tk3 + 1 + 1 + 1, os := s2.os } : Shared)
  generalize hst5 : ({ heap := h'.push gob, gens := s2.gens.push (.fresh (.compStart (.GeneratorExp elt [⟨tg, iter, [], 0⟩] scope gpos) 0 (.ref it) .none (gEnv X scope h3.objs.size code))), drawn := s2.drawn, toks := tk3 + 1 + 1 + 1, os := s2.os } : Shared) = s5
  generalize hs5 : ({ s2 with heap := h3, toks := tk3 } : Shared) = s3 at I3
  have e3h : s3.heap = h3 := by subst hs5; rfl
  have e3o : s3.os = s2.os := by subst hs5; rfl
  have e5h : s5.heap = h'.push gob := by subst hst5; rfl
  have e5o : s5.os = s2.os := by subst hst5; rfl
  have e5g : s5.gens = s2.gens.push (.fresh (.compStart (.GeneratorExp elt [⟨tg, iter, [], 0⟩] scope gpos) 0 (.ref it) .none (gEnv X scope h3.objs.size code))) := by subst hst5; rfl
  have b5 : AllBare s5.gens := by rw [e5g]; exact I2.bare.push rfl
  have I5 := inv_gen (A' := X.A.in1.in1.deeper (gEnv X scope s3.heap.objs.size code)) (s5 := s5) (code := code) (pn := [(h'.objs.size, gob)]) B I3 hcell
    (by show X.A.frames.map _ = _; rw [I.ok.frames]; rfl) (I.ok.hd hc) f3 (by rw [e3h]; exact ltf3) (by rw [e5h, e3h]; exact hn'.push _) (fun b o e => by rw [e5h]; exact kp5 b o (by rw [← e3h]; exact e)) (e5o.trans e3o.symm) b5 (fun p hp => by
      have : p = (h'.objs.size, gob) := by simpa using hp
      subst this
      refine ⟨by rw [e5h]; exact ga, by rw [e3h, hsz]; exact Nat.lt_succ_self _, fun v z => ?_⟩
      obtain ⟨_, ⟨nm, qn, e⟩, _⟩ := hgd
      rw [show (h'.objs.size, gob).2 = gob from rfl, e] at z; cases z)
  have he' := he (X.A.in1.in1.deeper (gEnv X scope s3.heap.objs.size code)) code s3 H3 fp [(h'.objs.size, gob)] (room_gen hr _)
  have hg' := hg (X.A.in1.in1.deeper (gEnv X scope s3.heap.objs.size code)) code s3 H3 fp [(h'.objs.size, gob)]
  generalize hX : genCx X (X.A.in1.in1.deeper (gEnv X scope s3.heap.objs.size code)) scope N code s3 H3 fp [(h'.objs.size, gob)] = X' at I5 he' hg'
  have hK : X'.K = X.K := by rw [← hX]; rfl
  have hPr : X'.prog = X.prog := by rw [← hX]; rfl
  have hw : X'.w = X.w := by rw [← hX]; rfl
  have hA : X'.A = X.A.in1.in1.deeper (gEnv X scope h3.objs.size code) := by rw [← hX, ← e3h]; rfl
  have hxe : X'.xe = X.xe := by rw [← hX]; rfl
  have hcm : X'.calm = true := by rw [← hX]; exact hc
  have henv : X'.env = gEnv X scope h3.objs.size code := by rw [← hX, ← e3h]; rfl
  have hex : X'.ex = fp := by rw [← hX]; rfl
  have hfs : X'.fs = frs X.stack := by rw [← hX]; rfl
  have hN : X'.N = N := by rw [← hX]; rfl
  have hpn : X'.pn = [(h'.objs.size, gob)] := by rw [← hX]; rfl
  have hs0 : X'.s₀ = s3 := by rw [← hX]; rfl
  have hH0 : X'.H₀ = H3 := by rw [← hX]; rfl
  have stat : ∀ {H' : Hp}, (∀ b ∈ fp, H' b = none) → ∀ b ∈ fp, FpOk X' [] H' b := fun {H'} hn b hb => by
    refine ⟨hn b hb, ?_, ?_, .inl (by rw [hex]; exact hb), fun x c h z => ?_, fun p hp => ?_⟩
    · rw [henv]; exact Nat.ne_of_lt (ltf3 b hb)
    · rw [hfs]; exact fun hm => by
        rcases List.mem_cons.mp (I2.stkSub b hm) with z | z
        · exact (f2 b hb).2.1 z
        · exact (f2 b hb).2.2.1 z
    · exact (I5.ok.exf b (by rw [hex]; exact hb)).2 x c h z
    · rw [hpn] at hp
      have : p = (h'.objs.size, gob) := by simpa using hp
      subst this
      show h'.objs.size ≠ b
      rw [hsz]
      exact Nat.ne_of_gt (Nat.lt_succ_of_lt (ltf3 b hb))
  let Jn : Nat → Shared → Prop := fun n s' => ∃ (i : Nat) (σ' : L2.St) (H' : Hp) (ρ' : Ev), n = ts.length - i ∧ i ≤ ts.length ∧ Inv X' [] σ' H' s' ∧ tn i s'.heap ∧ (∀ b ∈ fp, H' b = none) ∧ Agree mp σ σ' ∧ EvOk X.K ρ' σ H' ∧
    Stp (Own ρ1 σ) H2 (Own ρ' σ) H' ∧ s2.gens.size + 1 ≤ s'.gens.size ∧ allW mp g te (fun b ρ2 => Q (.val (.bl b)) ρ2) (ts.drop i) ρ'
  let Fin : Bool → Shared → Prop := fun b s' => ∃ (σ' : L2.St) (H' : Hp) (ρ' : Ev), Inv X' [] σ' H' s' ∧ EvOk X.K ρ' σ H' ∧ Stp (Own ρ1 σ) H2 (Own ρ' σ) H' ∧ s2.gens.size + 1 ≤ s'.gens.size ∧ Q (.val (.bl b)) ρ'
  have S3 : Stp (Own ρ1 σ) H2 (Own ρ1 σ) H3 := by rw [eH]; exact stp_tbl eP
  have E3 : EvOk X.K ρ1 σ H3 := E1.kept S3.pers fun b ob => by
    obtain ⟨vs, q⟩ := E1.noOwn ob
    rw [eH, upd_ne (ne_of q eP (fun z => nomatch z))]
  have st5 : tn 0 s5.heap := Tn.keep _ _ _ st2 fun b hb o e => by rw [e5h]; exact kp5 b o (k3 b o (nPf b hb) e)
  have g5 : s2.gens.size + 1 ≤ s5.gens.size := by rw [e5g, Array.size_push]; exact Nat.le_refl _
  have start : Jn ts.length s5 := ⟨0, _, _, ρ1, by simp, Nat.zero_le _, I5, st5, fun b hb => (f3 b hb).1, agree_start, E3, S3, g5, by simpa using q1⟩
  have Js : ∀ n s s', Jn n s → Sim s s' → Jn n s' := fun n s s' ⟨i, σ', H', ρ', h1, h2, h3, h4, h5, h6, h7, h8, h9, h10⟩ S => ⟨i, σ', H', ρ', h1, h2, Inv.sim h3 S, by rw [S.1]; exact h4, h5, h6, h7, h8, Nat.le_trans h9 S.2.2.2, h10⟩
  have noxe : ∀ v s, ¬ X'.xe v s := fun v s z => hx v s (by rw [← hxe]; exact z)
  have J0 : ∀ s, Jn 0 s → wpAny (model X.prog X.w) X'.A (pyNext (.ref it)) (fun r s' => r = none ∧ Fin true s') (fun _ _ => False) s := by
    rintro s4 ⟨i, σ4, H4, ρ4, hn4, hi4, I4, t4, fr4, A4, E4, S4, g4, q4⟩
    have e : i = ts.length := by omega
    subst e
    rw [List.drop_length] at q4
    have hdn := Tn.done X' hPr hw hK hcm ts.length [] s4 σ4 H4 (fun _ _ => False) I4 (stat fr4) t4 (wk.stop H4 S4.pers)
    refine any_gens g4 (thn hdn fun r s6 ⟨hr6, I6⟩ g6 => ⟨hr6, σ4, H4, ρ4, I6, E4, S4, g6, q4⟩)
  have J1 : ∀ n s, Jn (n + 1) s → wpAny (model X.prog X.w) X'.A (pyNext (.ref it)) (fun r s1 => ∃ v, r = some v ∧ wpAny (model X.prog X.w) X'.A (letOwnedTupleGo tg (.ref it) v) (fun _ s2 => wpAny (model X.prog X.w) X'.A (assign tg (gEnv X scope h3.objs.size code) v) (fun _ s3 =>
      wpAny (model X.prog X.w) X'.A (eval elt (gEnv X scope h3.objs.size code)) (fun y s4 => ∃ b, y = .bool b ∧ (b = true → Jn n s4) ∧ (b = false → Fin false s4)) (fun _ _ => False) s3) (fun _ _ => False) s2) (fun _ _ => False) s1) (fun _ _ => False) s := by
    rintro n s4 ⟨i, σ4, H4, ρ4, hn4, hi4, I4, t4, fr4, A4, E4, S4, g4, q4⟩
    have hlt : i < ts.length := by omega
    rw [List.drop_eq_getElem_cons hlt] at q4
    obtain ⟨ρ5, e5, q5⟩ := bO_iff.mp (show bO (g ts[i] (entE mp ρ4)) _ from q4)
    obtain ⟨w1, w2⟩ := wk.go i H4 ts[i] S4.pers (List.getElem?_eq_getElem hlt)
    have hit := Tn.item X' hPr hw hK hcm i [] s4 σ4 H4 (fun _ _ => False) I4 (stat fr4) t4 w1
    refine any_gens g4 (thn hit fun r s5 ⟨u, hr, h5⟩ g5 => ⟨u, hr, any_gens g5 (thn h5 fun _ s6 ⟨x, H6, I6, r6, y6, t6, fr6⟩ g6 => any_gens g6 ?_)⟩)
    obtain ⟨x6, p6⟩ := w2 x H6 y6
    have I6' := I6.pinned (stat fr6) (Tn.obj _ _ t6)
    have E6 : EvOk X.K ρ4 σ H6 := E4.ext x6
    have B6 : EvOk X'.K (entE mp ρ4) σ4 H6 := by rw [hK]; exact blk_in E6 A4 B.inj
    have asg := hg' _ s6 σ4 H6 x u ts[i] (entE mp ρ4) ρ5 I6' r6 (by rw [hK]; exact p6) B6 e5
    rw [hPr, hw, henv] at asg
    refine wpAny_mono asg (fun _ s7 ⟨σ7, I7, E7, S7, F7⟩ g7 => any_gens g7 ?_) fun v s z => noxe v s z
    have A7 : Agree mp σ σ7 := ⟨by rw [I7.len, hN, B.free.len], fun k j hk => by rw [F7 k (mem_fxOf hk)]; exact A4.2 k j hk⟩
    have ev := he' _ s7 σ7 H6 ρ5 _ I7 E7 q5
    rw [hPr, hw, henv] at ev
    refine wpAny_mono ev (fun u9 s9 ⟨v9, H9, r9, ρ9, I9, rv9, E9, S9, p9, q9⟩ g9 => ?_) fun v s z => noxe v s z
    obtain ⟨b, eb, q10⟩ := bO_iff.mp q9
    have S69 : Stp (Own (entE mp ρ4) σ4) H6 (Own ρ9 σ7) H9 := S7.trans S9
    have S46 : Stp (Own ρ1 σ) H2 (Own ρ4 σ) H6 := S4.trans x6.stp
    obtain ⟨E10, S10⟩ := blk_out E6 (by rw [hK] at E9; exact E9) A4 A7 B.inj S69
    have hu : u9 = .bool b := by
      cases r9 with
      | val t =>
        cases t with
        | bl b' =>
          cases eb
          have p9' : Rep X'.K H9 (.bl b) v9 := p9
          rw [rep_bl] at p9'
          subst p9'
          exact rv9
        | _ => cases eb
      | own _ => cases eb
      | bor _ => cases eb
    refine ⟨b, hu, fun hb => ?_, fun hb => ?_⟩
    · rw [if_pos hb] at q10
      refine ⟨i + 1, σ7, H9, _, by omega, hlt, I9.unpinned, Tn.keep _ _ _ t6 fun b hb o e => (I9.pin (b, o) (List.mem_append_right _ (List.mem_append_right _ (mem_pinsAt hb e)))).1, fun b hb => ?_, A7, E10, S46.trans S10, g9, q10⟩
      obtain ⟨o, e, d⟩ := Tn.obj _ _ t6 b hb
      exact (I9.pin (b, o) (List.mem_append_right _ (List.mem_append_right _ (mem_pinsAt hb e)))).2.1
    · rw [if_neg (by rw [hb]; exact Bool.false_ne_true)] at q10
      exact ⟨σ7, H9, _, I9.unpinned, E10, S46.trans S10, g9, q10⟩
  have hJ : ∀ n s, Jn n s → s.heap.IsGen h'.objs.size s2.gens.size ∧ s.heap.NoLimit ∧ s2.gens.size < s.gens.size ∧ AllBare s.gens := fun n s ⟨i, σ', H', ρ', _, _, I', _, _, _, _, _, h9, _⟩ => by
    obtain ⟨c1, ⟨nm, qn, c2⟩, c3⟩ := hgd
    exact ⟨⟨gob, nm, qn, (I'.pin (h'.objs.size, gob) (List.mem_append_left _ (by rw [hpn]; exact List.mem_singleton.mpr rfl))).1, c1, c2, c3⟩, I'.nolimit, h9, I'.bare⟩
  have ig5 := (hJ _ _ start).1
  refine wpAny_bind (wpAny_pyIter_gen ig5 (wpAny_pure ⟨plainId_quiet F.plain_all_loop _, ?_⟩))
  have hover : ∀ cde : Code, (cde = .compLoop (.GeneratorExp elt [⟨tg, iter, [], 0⟩] scope gpos) 0 (.ref it) .none (gEnv X scope h3.objs.size code) ∨ cde = .compStart (.GeneratorExp elt [⟨tg, iter, [], 0⟩] scope gpos) 0 (.ref it) .none (gEnv X scope h3.objs.size code)) → X.A.in1.in1.over cde [] = X'.A := fun cde h => by
    rw [hA]
    rcases h with rfl | rfl <;> (show Around.mk _ _ _ _ _ = Around.mk _ _ _ _ _; rfl)
  refine all_loop (Jn := Jn) (Fin := Fin) (g := s2.gens.size) (I.ok.hd hc) hr.depth hJ Js (fun b s s' ⟨σ', H', ρ', I', E', S', g', q'⟩ hk hos hb => ?_) (fun b s ⟨σ', H', ρ', I', E', S', g', q'⟩ => ⟨g', I'.bare⟩) ts.length s5 (.fresh (.compStart (.GeneratorExp elt [⟨tg, iter, [], 0⟩] scope gpos) 0 (.ref it) .none (gEnv X scope h3.objs.size code))) start (by rw [e5g]; exact Array.getElem?_push_size ..)
    fun s'' S => ⟨rfl, seg_begin (hover _ (.inr rfl)) (fun s Q E n hJ hq => let ⟨i, _, _, _, _, _, _, t', _⟩ := hJ; Tn.self _ i s Q E t' hq) (Js _ _ _ start S) (seg_turns hco (hover _ (.inl rfl)) J0 J1 Js _ _ _ (Js _ _ _ start S))⟩
  have un : Un (frs X.stack) fp H3 H' s3.heap s'.heap := by
    have u0 := I'.base
    rw [hfs, hex, hH0, hs0] at u0
    exact u0.trans (Un.kept hk)
  have hok : HOk X.prog X.w H' s'.heap := by
    have := I'.hok
    rw [hPr, hw] at this
    exact this.kept hk
  have I6 : Inv X pins σ H' s' := I3.call' (s' := s') (hos.trans (by have := I'.os; rw [hs0] at this; exact this)) un hok hb fun b hb => ⟨(f2 b hb).2.2.2.1, (f2 b hb).2.1, (f2 b hb).2.2.2.2.1, (f2 b hb).2.2.2.2.2⟩
  exact ⟨.bl b, H', .val (.bl b), ρ', I6, rfl, E', S1.trans S', (by simp [RepR] : RepR X.K ρ' σ H H' (.val (.bl b)) (.bl b)), q'⟩
end FW
set_option Elab.async false
set_option linter.all false
set_option maxRecDepth 100000
set_option maxHeartbeats 4000000
namespace FW
open PySem PySem.Spec PyProof.Rows L2
variable [Tabs]
section
variable {prog : Program} {w : World} {A : Around} {E : Value → Shared → Prop} {s : Shared}
end
section
variable {X : Cx} {a b : Expr} {ta tb : WE} {pos : Pos}
end
end FW
set_option Elab.async false
set_option linter.all false
set_option maxRecDepth 100000
set_option maxHeartbeats 4000000
set_option Elab.async false
set_option linter.all false
set_option maxRecDepth 100000
set_option maxHeartbeats 4000000
namespace FW
open PySem PySem.Spec PyProof.Rows L2
variable [Tabs]
@[irreducible] def rn (t : WS) (D : WD) (ρ : Ev) : Prop := t D ρ
theorem rn_eq {t : WS} {D : WD} {ρ : Ev} : rn t D ρ = t D ρ := by unfold rn; rfl
theorem rn_i {t : WS} {D : WD} {ρ : Ev} (h : t D ρ) : rn t D ρ := by rw [rn_eq]; exact h
theorem rn_seq {t u : WS} {D : WD} {ρ : Ev} (h : ∀ N : Ev → Prop, (∀ ρ', rn u D ρ' → N ρ') → t { D with nx := N } ρ) : rn (wSeq t u) D ρ := by
  rw [rn_eq]; exact h (u D) fun _ h => by rw [rn_eq] at h; exact h
@[irreducible] def forA (g : T → Ev → Option Ev) (tb : WS) (D : WD) (ts : List T) (ρ : Ev) : Prop := forW g tb D ts ρ
theorem forW_A {g : T → Ev → Option Ev} {tb : WS} {D : WD} {ts : List T} {ρ : Ev} : forW g tb D ts ρ = forA g tb D ts ρ := by unfold forA; rfl
theorem for_inv {g : T → Ev → Option Ev} {tb : WS} {D : WD} (P : List T → Ev → Prop) (done : ∀ ρ, P [] ρ → D.nx ρ)
    (step : ∀ (t : T) (ts : List T) (ρ : Ev) (N : Ev → Prop), P (t :: ts) ρ → (∀ ρ', P ts ρ' → N ρ') → bO (g t ρ) fun ρ1 => rn tb { D with nx := N, ct := N, bk := D.nx } ρ1) (ts : List T) (ρ : Ev) (h : P ts ρ) : forA g tb D ts ρ := by
  rw [← forW_A]
  induction ts generalizing ρ with
  | nil => exact done ρ h
  | cons t ts ih =>
    have := step t ts ρ _ h fun ρ' h' => ih ρ' h'
    simp only [rn_eq] at this
    exact this
theorem allW_nil {mp : List (Option Nat)} {g : T → Ev → Option Ev} {te : WE} {K : Bool → Ev → Prop} {ρ : Ev} : allW mp g te K [] ρ = K true ρ := rfl
theorem allW_cons {mp : List (Option Nat)} {g : T → Ev → Option Ev} {te : WE} {K : Bool → Ev → Prop} {t : T} {ts : List T} {ρ : Ev} :
    allW mp g te K (t :: ts) ρ = bO (g t (entE mp ρ)) fun ρ1 => te ρ1 fun r ρ2 => bO (blR r) fun b => if b = true then allW mp g te K ts (levE mp ρ2 ρ) else K false (levE mp ρ2 ρ) := rfl
theorem blR_val {b : Bool} : blR (.val (.bl b)) = some b := rfl
theorem andV {ta tb : WE} {ρ : Ev} {Q : R → Ev → Prop} : wAndV ta tb ρ Q = ta ρ fun r ρ1 => ∃ c, r = .val (.bl c) ∧ if c = true then tb ρ1 Q else Q (.val (.bl false)) ρ1 := rfl
theorem orV {ta tb : WE} {ρ : Ev} {Q : R → Ev → Prop} : wOrV ta tb ρ Q = ta ρ fun r ρ1 => ∃ c, r = .val (.bl c) ∧ if c = true then Q (.val (.bl true)) ρ1 else tb ρ1 Q := rfl
end FW
namespace FW
open PySem PySem.Spec PyProof.Rows L2
variable [Tabs]
theorem fun_r {io : Option Nat} {n m : Nat} {t : WS} {as : List Slot} {Q : R → List Slot → Prop} (h1 : as.length = n) (h2 : okAk io 0 as)
    (h : rn t { nx := fun ρ => Q (.val .non) (backS io as ρ), rt := fun r ρ => bO (retR io n ρ r) fun r' => Q r' (backS io as ρ) } (as ++ List.replicate (m - n) .un)) : wFun io n m t as Q :=
  ⟨h1, okArgs_iff.mpr h2, by rw [rn_eq] at h; exact h⟩
theorem strEq {x y : Str} {b : Bool} : gEq b (.str x) (.str y) = some (.val (.bl ((x == y) != b))) := by
  unfold gEq; rw [if_pos (by simp [okT])]; rfl
theorem flat_strs : ∀ (ds : List Str), (ds.map T.str).all flatT = true
  | [] => rfl
  | d :: ds => by rw [List.map_cons, List.all_cons, flat_strs ds]; rfl
theorem any_strs {d : Str} : ∀ (ds : List Str), ((ds.map T.str).any fun y => eqF y (.str d)) = ds.any fun e => e == d
  | [] => rfl
  | e :: ds => by rw [List.map_cons, List.any_cons, List.any_cons, any_strs ds]; rfl
theorem inT {d : Str} {ds : List Str} {b : Bool} : gIn b (.str d) (.tup (ds.map T.str)) = some (.val (.bl ((ds.any fun e => e == d) != b))) := by
  unfold gIn
  simp only
  rw [if_pos (by rw [flat_strs]; rfl), any_strs]
theorem truB' {b : Bool} : truT (.bl b) = some b := rfl
end FW
set_option Elab.async false
set_option linter.all false
set_option maxRecDepth 100000
set_option maxHeartbeats 4000000
set_option Elab.async false
set_option linter.all false
set_option maxRecDepth 100000
set_option maxHeartbeats 4000000
namespace FW
open PySem PySem.Spec PyProof.Rows L2
variable [Tabs]
section
variable {m : Tm}
theorem ixM {k : Nat} {xs : List T} {t : T} (h : xs[k]? = some t) : gIx (.tup xs) (.int (k : Int)) = some (.val t) := by
  rw [ixT, atI_nat h]; rfl
end
end FW
set_option Elab.async false
set_option linter.all false
set_option maxRecDepth 100000
set_option maxHeartbeats 4000000
namespace FW
open PySem PySem.Spec PyProof.Rows L2
variable [Tabs]
theorem minI {i j : Int} : gMin [.int i, .int j] = some (.val (.int (if j < i then j else i))) := rfl
end FW
set_option Elab.async false
set_option linter.all false
set_option maxRecDepth 100000
set_option maxHeartbeats 4000000
namespace FW
open PySem PySem.Spec PyProof.Rows L2
variable [Tabs]
def sgn (c : Nat) : T := .str ⟨#[c]⟩
def signs (x : Str) : List T := x.cps.toList.map sgn
def Its (x : Str) : It := ⟨fun i _ => i < x.cps.size, fun i H v H' => H' = H ∧ ∃ c, x.cps[i]? = some c ∧ v = .str ⟨#[c]⟩, fun i _ => x.cps.size ≤ i⟩
theorem turn_str {P : Program} {w : World} {K : W.Frag} {tg : Expr} (x : Str) (t : Tok) (it : Addr) : Turn P w K tg (Its x) [it] it (fun i h => h.IsStrIter it (strIterType x) x t i) where
  mem := by simp
  obj := fun i h st b hb => by
    have e : b = it := by simpa using hb
    subst e
    obtain ⟨o, e, c, d⟩ := st
    exact ⟨o, e, fun v z => by rw [d] at z; cases z⟩
  keep := fun i h h' st k => by
    obtain ⟨o, e, c, d⟩ := st
    exact ⟨o, k it (by simp) o e, c, d⟩
  item := by
    intro X hP hw hK hc i pins s σ H E I hf st hg
    subst hP hw hK
    have hi : i < x.cps.size := hg
    obtain ⟨f0, f1, f2, f3, f4, f5⟩ := hf it (by simp)
    have hx : x.cps[i]? = some x.cps[i] := by simp [hi]
    have fin : ∀ h', h'.IsStrIter it (strIterType x) x t (i + 1) → Heap.SameBut it s.heap h' → ∃ u, some (Value.str ⟨#[x.cps[i]]⟩ s.toks) = some u ∧
        wpAny (model X.prog X.w) X.A (letOwnedTupleGo tg (.ref it) u) (fun _ s2 => ∃ v H', Inv X pins σ H' s2 ∧ RelV v u ∧ (Its x).yld i H v H' ∧ s2.heap.IsStrIter it (strIterType x) x t (i + 1) ∧ ∀ b ∈ [it], H' b = none) E { s with heap := h', toks := s.toks + 1 } := fun h' st' sb => by
      have I1 : Inv X pins σ H { s with heap := h', toks := s.toks + 1 } := I.turned (fun b o hb e => (sb.2 b hb).trans e) f0 f1 f3 f4 f5
      obtain ⟨o, e, c, d⟩ := id st'
      exact ⟨_, rfl, go_of (s := { s with heap := h', toks := s.toks + 1 }) e c d (by unfold strIterType; split <;> decide) ⟨.str ⟨#[x.cps[i]]⟩, H, I1, ⟨_, rfl⟩, ⟨rfl, _, hx, rfl⟩, st', fun b hb => (hf b hb).1⟩⟩
    cases ha : x.cps.all (· < 128)
    · have e : strIterType x = "str_iterator" := by simp [strIterType, ha]
      rw [e] at st fin ⊢
      exact wpAny_pyNext_wide_item st hx fun h' st' sb => fin h' st' sb
    · have e : strIterType x = "str_ascii_iterator" := by simp [strIterType, ha]
      rw [e] at st fin ⊢
      exact wpAny_pyNext_ascii_item st hx fun h' st' sb => fin h' st' sb
  done := by
    intro X hP hw hK hc i pins s σ H E I hf st hg
    subst hP hw hK
    have hi : x.cps.size ≤ i := hg
    obtain ⟨f0, f1, f2, f3, f4, f5⟩ := hf it (by simp)
    have hx : x.cps[i]? = none := by simp [hi]
    have fin : ∀ h', Heap.ExtBut it s.heap h' → (none : Option Value) = none ∧ Inv X pins σ H { s with heap := h' } := fun h' eb => ⟨rfl, I.turned (t' := s.toks) (fun b o hb e => eb b o hb e) f0 f1 f3 f4 f5⟩
    cases ha : x.cps.all (· < 128)
    · have e : strIterType x = "str_iterator" := by simp [strIterType, ha]
      rw [e] at st
      exact wpAny_pyNext_wide_end (I.ok.hd hc) st hx fun h' eb => fin h' eb
    · have e : strIterType x = "str_ascii_iterator" := by simp [strIterType, ha]
      rw [e] at st
      exact wpAny_pyNext_ascii_end (I.ok.hd hc) st hx fun h' eb => fin h' eb
  self := fun A i s Q E st h => by
    cases ha : x.cps.all (· < 128)
    · have e : strIterType x = "str_iterator" := by simp [strIterType, ha]
      rw [e] at st
      exact wpAny_pyIter_striter_wide st h
    · have e : strIterType x = "str_ascii_iterator" := by simp [strIterType, ha]
      rw [e] at st
      exact wpAny_pyIter_striter_ascii st h
theorem wkStr {K : W.Frag} {H : Hp} (x : Str) : Wk K (Its x) (signs x) H where
  go := fun i H' t P e => by
    have hi : i < x.cps.size := by
      have := (List.getElem?_eq_some_iff.mp e).1
      simpa [signs] using this
    refine ⟨hi, fun v H2 y => ?_⟩
    obtain ⟨rfl, c, hc, rfl⟩ := y
    have : (signs x)[i]? = some (sgn c) := by
      unfold signs
      rw [List.getElem?_map, Array.getElem?_toList, hc]; rfl
    rw [this] at e; cases e
    exact ⟨.refl _, by unfold sgn; simp⟩
  stop := fun H' P => by show x.cps.size ≤ _; simp [signs]
section
variable {X : Cx} {e : Expr} {te : WE} {tg : Expr}
def itemsX : T → Option (List T)
  | .lst xs => some xs
  | .tup xs => some xs
  | .str x => some (signs x)
  | _ => none
def wItX (te : WE) : WI := fun ρ Q => te ρ fun r ρ1 => bO (valR r) fun t => bO (itemsX t) fun ts => Q ts ρ1
theorem di_seqX (h : DE X e te) : DI X tg e (wItX te) := by
  intro pins s σ H R I ⟨ρ, Q, E, q, k⟩
  refine thn (h pins s σ H ρ _ I E q) fun u s1 ⟨v, H1, r, ρ1, I1, rv, E1, S1, p1, q1⟩ => ?_
  obtain ⟨t, e1, q2⟩ := bO_iff.mp q1
  obtain ⟨ts, e2, q3⟩ := bO_iff.mp q2
  cases r with
  | val t' =>
    cases e1
    cases t with
    | lst xs =>
      cases e2
      have p1' : Rep X.K H1 (.lst ts) v := p1
      rw [rep_lst] at p1'
      obtain ⟨a, vs, rfl, hq, rr⟩ := p1'
      cases rv
      obtain ⟨its, rv, pl, hz⟩ := I1.list hq.sq
      refine wpAny_pyIter_list pl.isList ?_
      refine ⟨s1.heap.objs.size, [s1.heap.objs.size], _, _, H1, rfl, I1.kept (t' := s1.toks) fun b o e => Heap.get?_push_of_some _ e, turn_list a _, ⟨_, Heap.get?_push_size _ rfl, rfl, rfl⟩, fun b hb => ?_, k _ H1 ts ρ1 E1 S1 (wkList hq rr) q3⟩
      have e : b = s1.heap.objs.size := by simpa using hb
      subst e
      exact I1.fpOk (Nat.le_refl _) (I1.hok.fresh (Nat.le_refl _))
    | tup xs =>
      cases e2
      have p1' : Rep X.K H1 (.tup ts) v := p1
      rw [rep_tup] at p1'
      obtain ⟨a, vs, rfl, hq, rr⟩ := p1'
      cases rv
      obtain ⟨its, rv, pl, hz⟩ := I1.tuple hq
      refine wpAny_pyIter_tuple (show s1.heap.IsTuple a its.toArray from pl) ?_
      refine ⟨s1.heap.objs.size, [s1.heap.objs.size], _, _, H1, rfl, I1.kept (t' := s1.toks) fun b o e => Heap.get?_push_of_some _ e, turn_tuple a _, ⟨_, Heap.get?_push_size _ rfl, rfl, rfl⟩, fun b hb => ?_, k _ H1 ts ρ1 E1 S1 (wkTup hq rr) q3⟩
      have e : b = s1.heap.objs.size := by simpa using hb
      subst e
      exact I1.fpOk (Nat.le_refl _) (I1.hok.fresh (Nat.le_refl _))
    | str x =>
      cases e2
      have p1' : Rep X.K H1 (.str x) v := p1
      rw [rep_str] at p1'
      subst p1'
      obtain ⟨tk, rfl⟩ := rv
      refine wpAny_pyIter_strU ?_
      refine ⟨s1.heap.objs.size, [s1.heap.objs.size], _, _, H1, rfl, I1.kept (t' := s1.toks) fun b o e => Heap.get?_push_of_some _ e, turn_str x tk _, ⟨_, Heap.get?_push_size _ rfl, rfl, rfl⟩, fun b hb => ?_, k _ H1 (signs x) ρ1 E1 S1 (wkStr x) q3⟩
      have e : b = s1.heap.objs.size := by simpa using hb
      subst e
      exact I1.fpOk (Nat.le_refl _) (I1.hok.fresh (Nat.le_refl _))
    | _ => cases e2
  | own _ => cases e1
  | bor _ => cases e1
end
def blsT : List T → Option (List Bool)
  | [] => some []
  | .bl b :: ts => (blsT ts).map (b :: ·)
  | _ => none
def gAllL : List T → Option R
  | [.lst xs] => (blsT xs).map fun bs => .val (.bl (bs.all id))
  | _ => none
theorem bls_vals {K : W.Frag} {H : Hp} : ∀ {ts : List T} {bs : List Bool} {vs : List V} {us : List Value}, blsT ts = some bs → Reps K H ts vs → Vals vs us → us = bs.map Value.bool
  | [], _, _, _, e, r, v => by cases e; rw [reps_nil] at r; subst r; cases v; rfl
  | t :: ts, bs, _, _, e, r, v => by
    rw [reps_cons] at r
    obtain ⟨w, ws, rfl, r1, r2⟩ := r
    cases v with
    | cons v1 v2 =>
      cases t with
      | bl x =>
        have e' : (blsT ts).map (x :: ·) = some bs := e
        rw [Option.map_eq_some_iff] at e'
        obtain ⟨zs, e1, rfl⟩ := e'
        rw [rep_bl] at r1; subst r1
        cases v1
        rw [bls_vals e1 r2 v2]; rfl
      | _ => cases e
theorem all_range (bs : List Bool) : ((List.range bs.length).all fun i => bs.getD i false) = bs.all id := by
  induction bs with
  | nil => rfl
  | cons b bs ih =>
    rw [List.length_cons, List.range_succ_eq_map, List.all_cons, List.all_map, List.all_cons, ← ih]
    rfl
section
variable {X : Cx}
theorem c_allL (hc : X.calm = true) : CallT X (.builtin "all") gAllL := by
  intro pins s σ H vs us ts r Q I rv n e q
  unfold gAllL at e
  split at e
  · rename_i xs
    rw [Option.map_eq_some_iff] at e
    obtain ⟨bs, e1, rfl⟩ := e
    cases n with
    | cons n1 n2 =>
      cases n2
      obtain ⟨a, ws, rfl, h1, h2⟩ := n1
      obtain ⟨u, rfl, ru⟩ := vals1 rv
      cases ru
      obtain ⟨its, rv', pl, hz⟩ := I.list h1
      have hits := bls_vals e1 h2 rv'
      have lt : a < s.heap.objs.size := by obtain ⟨o, n, e, _⟩ := pl; exact Heap.lt_size e
      refine call_function_tree F.kind_all F.plain_all F.entry_all (F.args_all1 _) ?_
      unfold Builtin.«all»
      refine wpAny_bind (m := oneArg "all" _) (wpAny_pure ?_)
      refine wpAny_bind (wpAny_pyIter_list pl.isList (wpAny_pure ⟨plainId_quiet F.plain_all_loop _, ?_⟩))
      have hne : a ≠ s.heap.objs.size := Nat.ne_of_lt lt
      refine codeAny_all_loop (Walks.list (A := X.A.in1) (I.ok.hd hc) s.heap.objs.size a hne its.toArray) (fun i => bs.getD i false) (fun i v s Q E hP hQ => ?_) its.toArray.size 0 _ rfl (Nat.zero_le _) ⟨⟨_, Heap.get?_push_size _ rfl, rfl, rfl⟩, pl.isList.at fun o e => Heap.get?_push_of_some _ e⟩ fun h' tk hk => ?_
      · have hv : v = .bool (bs.getD i false) := by
          rw [hits] at hP
          have hP' : (bs.map Value.bool)[i]? = some v := by simpa using hP
          rw [List.getElem?_map] at hP'
          rw [List.getD_eq_getElem?_getD]
          cases z : bs[i]? with
          | none => rw [z] at hP'; cases hP'
          | some b => rw [z] at hP'; cases hP'; rfl
        rw [hv]
        exact wpAny_truthy_bool hQ
      · have I' : Inv X pins σ H { s with heap := h', toks := tk } := I.kept fun b o e => hk b o (by
            rw [List.mem_singleton]
            exact Nat.ne_of_lt (Heap.lt_size e)) (Heap.get?_push_of_some _ e)
        have hl : its.toArray.size = bs.length := by rw [hits]; simp
        have := q (.bl (bs.all id)) H (newR_val (by simp))
        refine ⟨.bl (bs.all id), H, I', ?_, this⟩
        rw [List.drop_zero, hl, all_range]
        rfl
  · cases e
end
end FW
set_option Elab.async false
set_option linter.all false
set_option maxRecDepth 100000
set_option maxHeartbeats 4000000
namespace FW
open PySem PySem.Spec PyProof.Rows L2
variable [Tabs]
section
variable {X : Cx} {a b c : Expr} {ta tb tc : WE} {pos : Pos}
def wCh2 (g1 g2 : T → T → Option R) (ta tb tc : WE) : WE := fun ρ Q => ta ρ fun r1 ρ1 => tb ρ1 fun r2 ρ2 => bO (rdR ρ2 r1) fun t1 => bO (rdR ρ2 r2) fun t2 => bO (g1 t1 t2) fun r => ∃ c, r = .val (.bl c) ∧
  if c = true then tc ρ2 fun r3 ρ3 => bO (rdR ρ3 r2) fun t2' => bO (rdR ρ3 r3) fun t3 => bO (g2 t2' t3) fun r' => Q r' ρ3 else Q (.val (.bl false)) ρ2
theorem d_ch2 {o1 o2 : CmpOp} {g1 g2 : T → T → Option R} (h1 : OpT X (compareOp o1) g1) (h2 : OpT X (compareOp o2) g2) (ha : DE X a ta) (hb : DE X b tb) (hc : DE X c tc) (hm : lastMarks [o1, o2] [b, c] = false := by with_unfolding_all rfl) :
    DE X (.Compare a [o1, o2] [b, c] pos) (wCh2 g1 g2 ta tb tc) := by
  intro pins s σ H ρ Q I E q
  refine Compare_chain (thn (ha pins s σ H ρ _ I E q) fun u s1 ⟨x, H1, r1, ρ1, I1, rx, E1, S1, p1, q1⟩ => ?_) hm
  refine chain_link (thn (hb pins s1 σ H1 ρ1 _ I1 E1 q1) fun v s2 ⟨y, H2, r2, ρ2, I2, ry, E2, S2, p2, q2⟩ => ?_)
  obtain ⟨t1, e1, q2⟩ := bO_iff.mp q2
  obtain ⟨t2, e2, q2⟩ := bO_iff.mp q2
  obtain ⟨r, e3, q2⟩ := bO_iff.mp q2
  obtain ⟨k, rfl, q3⟩ := q2
  have n1 := (p1.later' S2 e1).now E2 e1
  have n2 := p2.now E2 e2
  refine thn (h1 pins s2 σ H2 x y u v t1 t2 _ (fun z H' => NewR X.K H2 H' (.val (.bl k)) z) I2 rx ry n1 n2 e3 fun z H' n => n) fun w s3 ⟨z, H3, I3, rz, n⟩ => ?_
  have n' : Rep X.K H3 (.bl k) z := n.2
  rw [rep_bl] at n'
  subst n'
  cases rz
  refine wpAny_truthy_bool ?_
  have E3 := E2.ext n.1
  have S3 := (S1.trans S2).trans n.1.stp
  cases k with
  | false =>
    rw [if_neg Bool.false_ne_true] at q3
    exact ⟨.bl false, H3, .val (.bl false), ρ2, I3, rfl, E3, S3, (by show Rep X.K H3 _ _; simp), q3⟩
  | true =>
    rw [if_pos rfl] at q3
    refine chain_last (thn (hc pins s3 σ H3 ρ2 _ I3 E3 q3) fun v3 s4 ⟨y3, H4, r3, ρ3, I4, ry3, E4, S4, p3, q4⟩ => ?_)
    obtain ⟨t2', e4, q4⟩ := bO_iff.mp q4
    obtain ⟨t3, e5, q4⟩ := bO_iff.mp q4
    obtain ⟨r', e6, q4⟩ := bO_iff.mp q4
    have n2' := (p2.later' (n.1.stp.trans S4) e4).now E4 e4
    have n3 := p3.now E4 e5
    refine thn (h2 pins s4 σ H4 y y3 v v3 t2' t3 r' (fun z H' => NewR X.K H4 H' r' z) I4 ry ry3 n2' n3 e6 fun z H' n => n) fun w s5 ⟨z, H5, I5, rz, n5⟩ => ?_
    exact ⟨z, H5, r', ρ3, I5, rz, E4.ext n5.1, (S3.trans S4).trans n5.1.stp, n5.rep E4 (S3.trans S4), q4⟩
theorem dt_ch2 {o1 o2 : CmpOp} {g1 g2 : T → T → Option R} (h1 : OpT X (compareOp o1) g1) (h2 : OpT X (compareOp o2) g2) (ha : DE X a ta) (hb : DE X b tb) (hc : DE X c tc) (hm : lastMarks [o1, o2] [b, c] = false := by with_unfolding_all rfl) :
    DT X (.Compare a [o1, o2] [b, c] pos) (tst (wCh2 g1 g2 ta tb tc)) := by
  intro pins s σ H ρ Q I E q
  refine isTrue_chain (thn (ha pins s σ H ρ _ I E q) fun u s1 ⟨x, H1, r1, ρ1, I1, rx, E1, S1, p1, q1⟩ => ?_) hm
  refine test_link (thn (hb pins s1 σ H1 ρ1 _ I1 E1 q1) fun v s2 ⟨y, H2, r2, ρ2, I2, ry, E2, S2, p2, q2⟩ => ?_)
  obtain ⟨t1, e1, q2⟩ := bO_iff.mp q2
  obtain ⟨t2, e2, q2⟩ := bO_iff.mp q2
  obtain ⟨r, e3, q2⟩ := bO_iff.mp q2
  obtain ⟨k, rfl, q3⟩ := q2
  have n1 := (p1.later' S2 e1).now E2 e1
  have n2 := p2.now E2 e2
  refine thn (h1 pins s2 σ H2 x y u v t1 t2 _ (fun z H' => NewR X.K H2 H' (.val (.bl k)) z) I2 rx ry n1 n2 e3 fun z H' n => n) fun w s3 ⟨z, H3, I3, rz, n⟩ => ?_
  have n' : Rep X.K H3 (.bl k) z := n.2
  rw [rep_bl] at n'
  subst n'
  cases rz
  refine wpAny_truthy_bool ?_
  have E3 := E2.ext n.1
  have S3 := (S1.trans S2).trans n.1.stp
  cases k with
  | false =>
    rw [if_neg Bool.false_ne_true] at q3
    obtain ⟨k', e, q5⟩ := q3
    cases e
    exact ⟨H3, ρ2, I3, E3, S3, q5⟩
  | true =>
    rw [if_pos rfl] at q3
    refine test_last (thn (hc pins s3 σ H3 ρ2 _ I3 E3 q3) fun v3 s4 ⟨y3, H4, r3, ρ3, I4, ry3, E4, S4, p3, q4⟩ => ?_)
    obtain ⟨t2', e4, q4⟩ := bO_iff.mp q4
    obtain ⟨t3, e5, q4⟩ := bO_iff.mp q4
    obtain ⟨r', e6, q4⟩ := bO_iff.mp q4
    obtain ⟨k', rfl, q5⟩ := q4
    have n2' := (p2.later' (n.1.stp.trans S4) e4).now E4 e4
    have n3 := p3.now E4 e5
    refine thn (h2 pins s4 σ H4 y y3 v v3 t2' t3 _ (fun z H' => NewR X.K H4 H' (.val (.bl k')) z) I4 ry ry3 n2' n3 e6 fun z H' n => n) fun w s5 ⟨z, H5, I5, rz, n5⟩ => ?_
    have n5' : Rep X.K H5 (.bl k') z := n5.2
    rw [rep_bl] at n5'
    subst n5'
    cases rz
    exact wpAny_truthy_bool ⟨H5, ρ3, I5, E4.ext n5.1, (S3.trans S4).trans n5.1.stp, q5⟩
def gLtX : T → T → Option R
  | .int i, .int j => some (.val (.bl (cLt i j)))
  | .str x, .str y => some (.val (.bl (decide (x.cps.toList < y.cps.toList))))
  | _, _ => none
def strR' : R → Option Str
  | .val (.str x) => some x
  | _ => none
def wSM (g : Str → List T → Option R) (te : WE) (ta : WA) : WE := fun ρ Q => te ρ fun r ρ1 => bO (strR' r) fun x => ta ρ1 fun rs ρ2 => bO (rdRs ρ2 rs) fun ts => bO (g x ts) fun r' => Q r' ρ2
def SmT (X : Cx) (id : String) (g : Str → List T → Option R) : Prop := MtR X id (fun y vs H Q => ∃ x ts r, y = .str x ∧ Paired (Now X.K H) ts vs ∧ g x ts = some r ∧ ∀ z H', NewR X.K H H' r z → Q z H')
theorem d_sm {e : Expr} {ta : WA} {apos : Pos} {name : Str} {id : String} {g : Str → List T → Option R} (hm : SmT X id g) (slot : PySem.Slot "str" name id) (hty : typeOf (.builtin id) = pure (.type "method_descriptor")) (ho : DE X a tb) (ha : DA X [e] ta)
    (hbase : attributeBase a name X.env (eval a X.env) = eval a X.env := by rfl)
    (hfew : ((backTo pos (starEach [e] X.env)).all (fun x => !x.1) && (backToKw pos (keywordEach [] X.env)).all (fun x => x.1.isSome)
      && decide ([e].length + ([] : List Keyword).length + (if ([] : List Keyword).isEmpty then 0 else 1) < 30)) = true := by rfl)
    (hline : (apos.endLine == pos.line) = true := by rfl) (hs : starEach [e] X.env = (false, eval e X.env) :: starEach [] X.env := by rfl) (hplain : (backTo pos (starEach [] X.env)).any (·.1) = false := by rfl) :
    DE X (.Call (.Attribute a name apos) [e] [] pos) (wSM g tb ta) := by
  refine DE.of (pe_bm PySem.F.plainAttrs_str slot hty hm ho.pe ha hbase hfew hline hs hplain) fun σ H ρ Q E q => ⟨ρ, _, E, q, fun v H1 r ρ1 E1 S1 p1 q1 => ?_⟩
  obtain ⟨x, e1, q2⟩ := bO_iff.mp q1
  have hr : r = .val (.str x) := by
    unfold strR' at e1; split at e1 <;> cases e1; rfl
  subst hr
  have p1' : Rep X.K H1 (.str x) v := p1
  rw [rep_str] at p1'
  subst p1'
  refine ⟨rfl, ρ1, _, E1, q2, fun vs H2 rs ρ2 E2 S2 p2 q3 => ?_⟩
  obtain ⟨ts, e2, q4⟩ := bO_iff.mp q3
  obtain ⟨r', e3, q5⟩ := bO_iff.mp q4
  have n := rdRs_now E2 p2 e2
  exact ⟨x, ts, r', rfl, n, e3, fun z H' nr => ⟨r', ρ2, E2.ext nr.1, (S1.trans S2).trans nr.1.stp, nr.rep E2 (S1.trans S2), q5⟩⟩
def gSCount (x : Str) : List T → Option R
  | [.str y] => some (.val (.int (Txt.count x y)))
  | _ => none
theorem sm_count : SmT X "str.count" gSCount := by
  intro pins s σ H y vs v us Q I rx rv ⟨x, ts, r, hy, n, e, q⟩
  subst hy
  obtain ⟨tk, rfl⟩ := rx
  unfold gSCount at e
  split at e
  · cases e
    cases n with
    | cons n1 n2 =>
      cases n2
      rw [now_str] at n1; subst n1
      obtain ⟨u, rfl, ru⟩ := vals1 rv
      obtain ⟨tk', rfl⟩ := ru
      refine call_gives PySem.F.slot_str_count (typeIs_str s x tk) PySem.F.entry_str_count (PySem.F.args_str_count_2 _ _) (gives_str_count x _ tk tk') ?_
      exact ⟨.int (Txt.count x _), H, I.tok _, ⟨_, rfl⟩, q _ _ (newR_val (by simp))⟩
  · cases e
def gSIndex (x : Str) : List T → Option R
  | [.str y] => match Builtin.Str.occurrences x y 0 x.length 1 with
    | i :: _ => some (.val (.int i))
    | [] => none
  | _ => none
theorem sm_index : SmT X "str.index" gSIndex := by
  intro pins s σ H y vs v us Q I rx rv ⟨x, ts, r, hy, n, e, q⟩
  subst hy
  obtain ⟨tk, rfl⟩ := rx
  unfold gSIndex at e
  split at e
  · cases n with
    | cons n1 n2 =>
      cases n2
      rw [now_str] at n1; subst n1
      obtain ⟨u, rfl, ru⟩ := vals1 rv
      obtain ⟨tk', rfl⟩ := ru
      split at e
      · rename_i i rest ho
        cases e
        refine call_gives PySem.F.slot_str_index (typeIs_str s x tk) PySem.F.entry_str_index (PySem.F.args_str_index_2 _ _) (gives_str_index x _ tk tk' i rest ho) ?_
        exact ⟨.int _, H, I.tok _, ⟨_, rfl⟩, q _ _ (newR_val (by simp))⟩
      · cases e
  · cases e
end
end FW
set_option Elab.async false
set_option linter.all false
set_option maxRecDepth 100000
set_option maxHeartbeats 4000000
namespace FW
open PySem PySem.Spec PyProof.Rows L2
variable [Tabs]
mutual
def dT : T → PyData
  | .non => .none
  | .bl b => .bool b
  | .int i => .int i
  | .str x => .str x
  | .tup ts => .tuple (dTs ts)
  | .lst ts => .list (dTs ts)
  | .dct kvs => .dict (dKv kvs)
def dTs : List T → List PyData
  | [] => []
  | t :: ts => dT t :: dTs ts
def dKv : List (Str × T) → List (PyData × PyData)
  | [] => []
  | (k, t) :: r => (.str k, dT t) :: dKv r
end
mutual
def noL : T → Bool
  | .lst _ => false
  | .tup ts => noLs ts
  | .dct kvs => noLk kvs
  | _ => true
def noLs : List T → Bool
  | [] => true
  | t :: ts => noL t && noLs ts
def noLk : List (Str × T) → Bool
  | [] => true
  | (_, t) :: r => noL t && noLk r
end
section
variable {X : Cx} {pins : List (Addr × Obj)} {σ : L2.St} {H : Hp} {s : Shared}
theorem keys_read {h : Heap} : ∀ {kts : List (Str × T)} {es : List DictEntry} {kvs : List (Key × V)} {vs : List (Key × Value)}, RepD X.K H kts kvs → KV kvs vs → PySem.Pairs (mixKind X.prog X.w) es vs → ReadsAll h (es.map (·.key)) ((dKv kts).map (·.1)) []
  | [], _, _, _, r, k, p => by
    unfold RepD at r; subst r; cases k; cases p; exact .nil
  | (k, t) :: kts, _, _, _, r, kv, p => by
    unfold RepD at r
    obtain ⟨v, rest, rfl, _, r2⟩ := r
    cases kv with
    | cons k1 k2 =>
      cases p with
      | cons p1 p2 p3 =>
        have ih := keys_read (h := h) r2 k2 p3
        rename_i kv0 _ e0 _
        have p1' : keyIs (Sum.inr k) e0.key = true := by
          have := k1.1
          rw [show kv0.1 = Sum.inr k from this.symm] at p1; exact p1
        obtain ⟨tk, e⟩ : ∃ tk, e0.key = Value.str k tk := by
          rcases keyIs_shape p1' with ⟨i, t', e1, e2⟩ | ⟨x, t', e1, e2⟩
          · cases e1
          · cases e1; exact ⟨t', e2⟩
        rw [List.map_cons, e]
        show ReadsAll h _ (PyData.str k :: (dKv kts).map (·.1)) []
        exact ReadsAll.cons (as := []) (bs := []) (.str k tk) ih
theorem vals_of_pairs {es : List DictEntry} {vs : List (Key × Value)} (p : PySem.Pairs (mixKind X.prog X.w) es vs) : ∀ {kvs : List (Key × V)}, KV kvs vs → Vals (kvs.map (·.2)) (es.map (·.val)) := by
  induction p with
  | nil => intro kvs k; cases k; exact .nil
  | cons p1 p2 p3 ih =>
    intro kvs k
    cases k with
    | cons k1 k2 =>
      refine .cons ?_ (ih k2)
      show RelV _ (DictEntry.val _)
      rw [p2]; exact k1.2
mutual
theorem reads_T (I : Inv X pins σ H s) : ∀ (t : T) (v : V) (u : Value), Rep X.K H t v → RelV v u → ∃ as, Reads s.heap u (dT t) as ∧ (noL t = true → sysModules ∉ as)
  | .non, v, u, h, r => by rw [rep_non] at h; subst h; cases r; exact ⟨[], .none, fun _ => by simp⟩
  | .bl b, v, u, h, r => by rw [rep_bl] at h; subst h; cases r; exact ⟨[], .bool b, fun _ => by simp⟩
  | .int i, v, u, h, r => by rw [rep_int] at h; subst h; obtain ⟨tk, rfl⟩ := r; exact ⟨[], .int i tk, fun _ => by simp⟩
  | .str x, v, u, h, r => by rw [rep_str] at h; subst h; obtain ⟨tk, rfl⟩ := r; exact ⟨[], .str x tk, fun _ => by simp⟩
  | .tup ts, v, u, h, r => by
    rw [rep_tup] at h
    obtain ⟨a, vs, rfl, h1, h2⟩ := h
    cases r
    obtain ⟨its, rv, ⟨o, e1, e2, n, e3⟩, _⟩ := I.tuple h1
    obtain ⟨as, ra, hs⟩ := reads_Ts I ts vs its h2 rv
    exact ⟨as, .tuple e1 e2 e3 ra, fun z => hs z⟩
  | .lst ts, v, u, h, r => by
    rw [rep_lst] at h
    obtain ⟨a, vs, rfl, h1, h2⟩ := h
    cases r
    obtain ⟨its, rv, ⟨o, n, e1, e2, _, e3⟩, _⟩ := I.list h1.sq
    obtain ⟨as, ra, hs⟩ := reads_Ts I ts vs its h2 rv
    exact ⟨a :: as, .list e1 e2 e3 ra, fun z => by cases z⟩
  | .dct kts, v, u, h, r => by
    unfold Rep at h
    obtain ⟨a, kvs, rfl, ⟨o, h1⟩, h2⟩ := h
    cases r
    obtain ⟨e0, z, sm, vs, kv, o', es, ep, e1, ⟨x1, x2, x3⟩, e3, kk, pp, nn⟩ := I.hok a _ h1
    have hk := keys_read (X := X) (h := s.heap) h2 kv pp
    obtain ⟨bs, rb, hs⟩ := reads_Kv I kts kvs _ h2 (vals_of_pairs pp kv)
    refine ⟨a :: [] ++ bs, .dict e1 x1 e3 hk rb, fun q hm => ?_⟩
    rcases List.mem_append.mp hm with hm | hm
    · have : sysModules = a := by simpa using hm
      rw [← this] at sm; simp at sm
    · exact hs q hm
theorem reads_Ts (I : Inv X pins σ H s) : ∀ (ts : List T) (vs : List V) (us : List Value), Reps X.K H ts vs → Vals vs us → ∃ as, ReadsAll s.heap us (dTs ts) as ∧ (noLs ts = true → sysModules ∉ as)
  | [], vs, us, h, r => by rw [reps_nil] at h; subst h; cases r; exact ⟨[], .nil, fun _ => by simp⟩
  | t :: ts, vs, us, h, r => by
    rw [reps_cons] at h
    obtain ⟨v, rest, rfl, h1, h2⟩ := h
    cases r with
    | cons r1 r2 =>
      obtain ⟨as, ra, ha⟩ := reads_T I t v _ h1 r1
      obtain ⟨bs, rb, hb⟩ := reads_Ts I ts rest _ h2 r2
      refine ⟨as ++ bs, .cons ra rb, fun z hm => ?_⟩
      rw [noLs, Bool.and_eq_true] at z
      rcases List.mem_append.mp hm with hm | hm
      · exact ha z.1 hm
      · exact hb z.2 hm
theorem reads_Kv (I : Inv X pins σ H s) : ∀ (kts : List (Str × T)) (kvs : List (Key × V)) (us : List Value), RepD X.K H kts kvs → Vals (kvs.map (·.2)) us → ∃ as, ReadsAll s.heap us ((dKv kts).map (·.2)) as ∧ (noLk kts = true → sysModules ∉ as)
  | [], kvs, us, h, r => by unfold RepD at h; subst h; cases r; exact ⟨[], .nil, fun _ => by simp⟩
  | (k, t) :: kts, kvs, us, h, r => by
    unfold RepD at h
    obtain ⟨v, rest, rfl, h1, h2⟩ := h
    rw [List.map_cons] at r
    cases r with
    | cons r1 r2 =>
      obtain ⟨as, ra, ha⟩ := reads_T I t v _ h1 r1
      obtain ⟨bs, rb, hb⟩ := reads_Kv I kts rest _ h2 r2
      refine ⟨as ++ bs, .cons ra rb, fun z hm => ?_⟩
      rw [noLk, Bool.and_eq_true] at z
      rcases List.mem_append.mp hm with hm | hm
      · exact ha z.1 hm
      · exact hb z.2 hm
end
theorem reads_now (I : Inv X pins σ H s) {t : T} {v : V} {u : Value} (h : Now X.K H t v) (r : RelV v u) : ∃ as, Reads s.heap u (dT t) as ∧ (noL t = true → sysModules ∉ as) := by
  cases t with
  | lst ts =>
    obtain ⟨a, vs, rfl, h1, h2⟩ := h
    cases r
    obtain ⟨its, rv, ⟨o, n, e1, e2, _, e3⟩, _⟩ := I.list h1
    obtain ⟨as, ra, hs⟩ := reads_Ts I ts vs its h2 rv
    exact ⟨a :: as, .list e1 e2 e3 ra, fun z => by cases z⟩
  | _ => exact reads_T I _ v u h r
structure Rp (t : T) : Prop where
  «short» : (dT t).leavesShort 200 = true
  weight : (dT t).weight ≤ 16384
  show_ : (dT t).showable = true
  depth : (dT t).depth ≤ 40
  kind : (dT t).hasDict = true → noL t = true
def wRp (ta : WE) : WE := fun ρ Q => ta ρ fun r ρ1 => bO (rdR ρ1 r) fun t => Rp t ∧ Q (.val (.str (dT t).shown)) ρ1
theorem rp_fits {t : T} (h : Rp t) : (dT t).shown.length ≤ sizeLine := by
  have h1 := PyData.shown_le 200 (by decide) (dT t) h.short
  have h2 := h.weight
  rw [sizeLine_eq]
  have : (200 + 2) * (dT t).weight ≤ 202 * 16384 := Nat.mul_le_mul_left _ h2
  omega
variable {a : Expr} {ta : WE} {pos : Pos}
theorem d_repr {k : Nat} {p : Pos} (hr : Room k X.A) (hg : Gl X "repr") (hm : X.mg "repr" = none) (ha : DE X a ta) (hv : bootBuiltins "repr" = some (.builtin "repr"))
    (he : starEach [a] X.env = (false, eval a X.env) :: starEach [] X.env := by rfl) (hpl : (backTo pos (starEach [] X.env)).any (·.1) = false := by rfl) : DE X (.Call (.Name "repr" p) [a] [] pos) (wRp ta) := by
  have hc : CallR X (.builtin "repr") (fun vs H Q => ∃ y t, vs = [y] ∧ Now X.K H t y ∧ Rp t ∧ Q (.str (dT t).shown) H) := by
    intro pins s σ H vs us Q I rv ⟨y, t, hvs, n, rp, q⟩
    subst hvs
    obtain ⟨u, rfl, ru⟩ := vals1 rv
    obtain ⟨as, rd, hsm⟩ := reads_now I n ru
    have fits := rp_fits rp
    have hu := hr.un
    have hd := rp.depth
    have ref : ∀ p, u = .ref p → wpAny (model X.prog X.w) X.A (call (.builtin "repr") [u]) (EP X pins σ Q) X.xe s := fun p e => by
      subst e
      refine PySem.repr_of_reads' rd rp.show_ (fun z => hsm (rp.kind z)) hr.gd (by omega) (fun b o e => e) (fun h' u tk k => ⟨.str _, H, I.kept k, ⟨_, rfl⟩, q⟩) fits
    cases t with
    | non => rw [now_non] at n; subst n; cases ru; exact P.repr_of_none ⟨.str _, H, I.tok _, ⟨_, rfl⟩, q⟩
    | bl b => rw [now_bl] at n; subst n; cases ru; exact P.repr_of_bool ⟨.str _, H, I.tok _, ⟨_, rfl⟩, q⟩
    | int i =>
      rw [now_int] at n; subst n; obtain ⟨tk, rfl⟩ := ru
      have hs := rp.show_
      exact P.repr_of_int (by simpa [dT, PyData.showable] using hs) ⟨.str _, H, I.tok _, ⟨_, rfl⟩, q⟩
    | str x => rw [now_str] at n; subst n; obtain ⟨tk, rfl⟩ := ru; exact P.repr_of_str ⟨.str _, H, I.tok _, ⟨_, rfl⟩, q⟩ fits
    | tup ts => rw [now_tup] at n; obtain ⟨p, vs, rfl, _⟩ := n; cases ru; exact ref p rfl
    | lst ts => obtain ⟨p, vs, rfl, _⟩ := n; cases ru; exact ref p rfl
    | dct kts =>
      have n' : Rep X.K H (.dct kts) y := n
      unfold Rep at n'
      obtain ⟨p, vs, rfl, _⟩ := n'; cases ru; exact ref p rfl
  refine DE.of (pe_callB hc hg hm hv (pa_cons ha.pe pa_nil he) (by decide) (by decide) he hpl) fun σ H ρ Q E q => ⟨ρ, _, E, q, fun v H1 r ρ1 E1 S1 p1 q1 => ?_⟩
  obtain ⟨t, e1, rp, q2⟩ := bO_iff.mp q1
  exact ⟨v, t, rfl, p1.now E1 e1, rp, .val (.str _), ρ1, E1, S1, (by show Rep X.K H1 _ _; simp), q2⟩
theorem inv_big (I : Inv X pins σ H s) : sysModules < s.heap.objs.size := by
  obtain ⟨o, es, ep, e, _⟩ := I.mod.glob
  have := Heap.lt_size (I.bk _ _ e)
  exact Nat.lt_trans (by decide : sysModules < mainGlobals) this
theorem frz_dict (I : Inv X pins σ H s) {h' : Heap} {tk : Tok} {kvs : List (Key × V)} {vs : List (Key × Value)} (hl : kvs.length ≤ sizeLine) (hk : KV kvs vs) (keep : ∀ b ob, s.heap.get? b = some ob → h'.get? b = some ob) (hd : h'.DictOf (mixKind X.prog X.w) s.heap.objs.size vs) :
    ∃ o, Inv X pins σ (upd H s.heap.objs.size (.frz o (.dK kvs))) { s with heap := h', toks := tk } := by
  obtain ⟨o, es, ep, e1, e2⟩ := id hd
  have big := inv_big I
  exact ⟨o, I.laid (t' := tk) (o := .frz o (.dK kvs)) keep (Nat.le_refl _) ⟨e1, hl, by
    have : s.heap.objs.size ≠ sysModules := Nat.ne_of_gt big
    simpa using this, vs, hk, hd⟩⟩
def wD0 : WE := fun ρ Q => Q (.val (.dct [])) ρ
theorem new_dct {H H' : Hp} {p : Addr} {o : Obj} {kts : List (Str × T)} {kvs : List (Key × V)} (hp : H p = none) (r : RepD X.K (upd H p (.frz o (.dK kvs))) kts kvs) : NewR X.K H (upd H p (.frz o (.dK kvs))) (.val (.dct kts)) (.ref p) := by
  refine ⟨Ext.new hp _, ?_⟩
  show Rep X.K _ (.dct kts) (.ref p)
  unfold Rep
  exact ⟨p, kvs, rfl, ⟨o, upd_same⟩, r⟩
theorem d_dict0 : DE X (.Dict [] [] pos) wD0 := by
  intro pins s σ H ρ Q I E q
  refine wpAny_Dict_empty ?_
  obtain ⟨o, I'⟩ := frz_dict I (tk := s.toks) (kvs := []) (vs := []) (by simp) .nil (fun b ob e => Heap.get?_push_of_some _ e) (Heap.DictOf.new s.heap)
  have nr : NewR X.K H _ (.val (.dct [])) (.ref s.heap.objs.size) := new_dct (X := X) (H' := H) (o := o) (kvs := []) (I.hok.fresh (Nat.le_refl _)) (by unfold RepD; rfl)
  exact ⟨.ref s.heap.objs.size, _, .val (.dct []), ρ, I', rfl, E.ext nr.1, nr.1.stp, nr.rep E .refl, q⟩
end
def noStar : Expr → Bool
  | .Starred .. => false
  | _ => true
theorem star_cons {e : Expr} {es : List Expr} {env : PySem.Env} (h : noStar e = true) : starEach (e :: es) env = (false, eval e env) :: starEach es env := by
  cases e <;> first | rfl | cases h
theorem da_c {X : Cx} {e : Expr} {es : List Expr} {te : WE} {t : WA} (ha : DE X e te) (hr : DA X es t) (hs : noStar e = true) : DA X (e :: es) (wCons te t) := da_cons ha hr (star_cons hs)
end FW
set_option Elab.async false
set_option linter.all false
set_option maxRecDepth 100000
set_option maxHeartbeats 4000000
namespace FW
open PySem PySem.Spec PyProof.Rows L2
variable [Tabs]
def lowB (c : Nat) : Bool := decide (97 ≤ c) && decide (c ≤ 122)
def nameS (x : Str) : Bool := decide (1 ≤ x.length) && decide (x.length ≤ 6) && x.cps.toList.all lowB
def nameB : T → Bool
  | .str x => nameS x
  | _ => false
def ShS (t : T) : Prop := ∀ x, t = .str x → x.length ≤ 1000
def S_is_name : FS := fun as Q => ∃ t, as = [.val t] ∧ ShS t ∧ Q (.val (.bl (nameB t))) as
def S_Pis_name : FS := fun as Q => ∃ t, as = [.val t] ∧ ShS t ∧ Q (.val (.bl (nameB t))) as
def S_Pless : FS := fun as Q => ∃ x y, as = [.val (.str x), .val (.str y)] ∧ nameS x = true ∧ nameS y = true ∧ Q (.val (.bl (ltS x y))) as
def t_is_name : WS := wSeq (wIfS (wOr (wNot (wTru (wIsi "str" (wV 0)))) (wNot (tst (wCh2 (gCmp cLe) (gCmp cLe) (wC (.int 1)) (wCB gLen (wCons (wV 0) (wNil))) (wC (.int 6)))))) (wRet (wC (.bl false))) (wNext)) (wRet (wAllG [none] (wItX (wFr (wV 0))) (fun t ρ => some (ρ.set 0 (.val t))) (wBin (gIn false) (wV 0) (wC (.str (Str.ofString "abcdefghijklmnopqrstuvwxyz"))))))
def t_Pis_name : WS := wSeq (wSet 1 (wFr (wC (.str (Str.ofString "abcdefghijklmnopqrstuvwxyz"))))) (wSeq (wIfS (wOr (wNot (wTru (wIsi "str" (wV 0)))) (wOr (tst (wBin (gCmp cLt) (wCB gLen (wCons (wV 0) (wNil))) (wC (.int 1)))) (tst (wBin (gCmp cGt) (wCB gLen (wCons (wV 0) (wNil))) (wC (.int 6)))))) (wRet (wC (.bl false))) (wNext)) (wRet (wBin (gEq false) (wComp [none, some 1] (wItX (wFr (wV 0))) (fun t ρ => some (ρ.set 0 (.val t))) (tst (wBin (gEq true) (wSM gSCount (wV 1) (wCons (wV 0) (wNil))) (wC (.int 1)))) (wFr (wV 0))) (wLst (wNil)))))
def t_Pless : WS := wSeq (wSet 2 (wFr (wC (.str (Str.ofString "abcdefghijklmnopqrstuvwxyz"))))) (wSeq (wFor (wRng1 (wCons (wCB gMin (wCons (wCB gLen (wCons (wV 0) (wNil))) (wCons (wCB gLen (wCons (wV 1) (wNil))) (wNil)))) (wNil))) (fun t ρ => some (ρ.set 3 (.val t))) (wIfS (tst (wBin (gEq true) (wBin gIx (wV 0) (wV 3)) (wBin gIx (wV 1) (wV 3)))) (wRet (wBin (gCmp cLt) (wSM gSIndex (wV 2) (wCons (wBin gIx (wV 0) (wV 3)) (wNil))) (wSM gSIndex (wV 2) (wCons (wBin gIx (wV 1) (wV 3)) (wNil))))) (wNext))) (wRet (wBin (gCmp cLt) (wCB gLen (wCons (wV 0) (wNil))) (wCB gLen (wCons (wV 1) (wNil))))))
end FW
set_option Elab.async false
set_option linter.all false
set_option maxRecDepth 100000
set_option maxHeartbeats 4000000
namespace FW
open PySem PySem.Spec PyProof.Rows L2
variable [Tabs]
def abc : Str := Str.ofString "abcdefghijklmnopqrstuvwxyz"
theorem ch2_def {g1 g2 : T → T → Option R} {ta tb tc : WE} {ρ : Ev} {Q : R → Ev → Prop} : wCh2 g1 g2 ta tb tc ρ Q = ta ρ fun r1 ρ1 => tb ρ1 fun r2 ρ2 => bO (rdR ρ2 r1) fun t1 => bO (rdR ρ2 r2) fun t2 => bO (g1 t1 t2) fun r => ∃ c, r = .val (.bl c) ∧
  if c = true then tc ρ2 fun r3 ρ3 => bO (rdR ρ3 r2) fun t2' => bO (rdR ρ3 r3) fun t3 => bO (g2 t2' t3) fun r' => Q r' ρ3 else Q (.val (.bl false)) ρ2 := rfl
def occL (f : Nat → Bool) (len lo hi limit : Nat) : List Nat := Id.run do
  let mut found : Array Nat := #[]
  let mut free := lo
  for i in [lo : hi + 1] do
    if found.size < limit && free ≤ i && i + len ≤ hi && f i then
      found := found.push i
      free := i + len
  return found.toList
theorem occ_eq (s sub : Str) (lo hi limit : Nat) : Builtin.Str.occurrences s sub lo hi limit = occL (fun i => Builtin.Str.subAt s sub i) sub.length lo hi limit := rfl
theorem abc_all : ∀ c ∈ abc.cps.toList, lowB c = true := by decide +kernel
theorem sub_no {c i : Nat} (h : lowB c = false) : Builtin.Str.subAt abc ⟨#[c]⟩ i = false := by
  cases q : Builtin.Str.subAt abc ⟨#[c]⟩ i with
  | false => rfl
  | true =>
    have e : abc.cps.extract i (i + 1) = #[c] := eq_of_beq q
    have hc : c ∈ abc.cps.extract i (i + 1) := by rw [e]; simp
    have hm : c ∈ abc.cps := by
      obtain ⟨k, hk, hk'⟩ := Array.mem_extract_iff_getElem.mp hc
      rw [← hk']; exact Array.getElem_mem _
    rw [abc_all c (by simpa using hm)] at h
    cases h
theorem occ_no {c hi limit : Nat} (h : lowB c = false) : Builtin.Str.occurrences abc ⟨#[c]⟩ 0 hi limit = Builtin.Str.occurrences abc ⟨#[0]⟩ 0 hi limit := by
  rw [occ_eq, occ_eq]
  have : (fun i => Builtin.Str.subAt abc ⟨#[c]⟩ i) = fun i => Builtin.Str.subAt abc ⟨#[0]⟩ i := by
    funext i
    rw [sub_no h, sub_no (by rfl)]
  rw [this]
  rfl
theorem low_fin {c : Nat} (h : lowB c = true) : ∃ k : Fin 26, c = 97 + k := by
  unfold lowB at h
  rw [Bool.and_eq_true, decide_eq_true_eq, decide_eq_true_eq] at h
  exact ⟨⟨c - 97, by omega⟩, by show c = 97 + (c - 97); omega⟩
theorem occ_one : ∀ k : Fin 26, Builtin.Str.occurrences abc ⟨#[97 + k]⟩ 0 abc.length 1 = [(k : Nat)] := by decide +kernel
theorem occ_many : ∀ k : Fin 26, Builtin.Str.occurrences abc ⟨#[97 + k]⟩ 0 abc.length (abc.length + 1) = [(k : Nat)] := by decide +kernel
theorem in_abc {c : Nat} : (!(Builtin.Str.occurrences abc ⟨#[c]⟩ 0 abc.length 1).isEmpty) = lowB c := by
  cases h : lowB c with
  | false => rw [occ_no h]; decide +kernel
  | true =>
    obtain ⟨k, rfl⟩ := low_fin h
    rw [occ_one k]; rfl
theorem count_abc {c : Nat} : Txt.count abc ⟨#[c]⟩ = if lowB c then 1 else 0 := by
  unfold Txt.count
  cases h : lowB c with
  | false => rw [occ_no h]; decide +kernel
  | true =>
    obtain ⟨k, rfl⟩ := low_fin h
    rw [occ_many k]; rfl
theorem index_abc {c : Nat} (h : lowB c = true) : Builtin.Str.occurrences abc ⟨#[c]⟩ 0 abc.length 1 = [c - 97] := by
  obtain ⟨k, rfl⟩ := low_fin h
  rw [occ_one k]
  congr 1
  omega
theorem inS {c : Nat} : gIn false (sgn c) (.str abc) = some (.val (.bl (lowB c))) := by
  show some (R.val (.bl ((!(Builtin.Str.occurrences abc ⟨#[c]⟩ 0 abc.length 1).isEmpty) != false))) = _
  rw [in_abc]; simp
theorem countS {c : Nat} : gSCount abc [sgn c] = some (.val (.int (if lowB c then 1 else 0))) := by
  show some (R.val (.int (Txt.count abc ⟨#[c]⟩))) = _
  rw [count_abc]
theorem indexS {c : Nat} (h : lowB c = true) : gSIndex abc [.str ⟨#[c]⟩] = some (.val (.int ((c - 97 : Nat) : Int))) := by
  unfold gSIndex
  simp only [index_abc h]
theorem name_all {K : Bool → Ev → Prop} {ρ : Ev} : ∀ (cs : List Nat), K (cs.all lowB) ρ → allW [none] (fun t ρ => some (ρ.set 0 (.val t))) (wBin (gIn false) (wV 0) (wC (.str (Str.ofString "abcdefghijklmnopqrstuvwxyz")))) K (cs.map sgn) ρ
  | [], k => by rw [List.map_nil, allW_nil]; exact k
  | c :: cs, k => by
    have hin : gIn false (sgn c) (.str (Str.ofString "abcdefghijklmnopqrstuvwxyz")) = some (.val (.bl (lowB c))) := inS
    rw [List.map_cons, allW_cons, entE_n, entE_0]
    wp_walk using hin, blR_val
    rw [List.all_cons] at k
    cases e : lowB c with
    | true => rw [e] at k; rw [if_pos rfl]; exact name_all cs (by simpa using k)
    | false => rw [e] at k; simpa using k
theorem rd_is_name (as : List Slot) (Q : R → List Slot → Prop) (h : S_is_name as Q) : wFun none 1 1 t_is_name as Q := by
  obtain ⟨t, rfl, hs, q⟩ := h
  unfold t_is_name
  refine fun_r rfl (by wp_walk) ?_
  refine rn_seq fun N hN => ?_
  by_cases hstr : ∃ x, t = .str x
  · obtain ⟨x, rfl⟩ := hstr
    have hx := hs x rfl
    have hl : gLen [.str x] = some (.val (.int x.length)) := lenS (by have := szl; omega)
    wp_walk using show isT "str" (.str x) = true from rfl, truB', ch2_def, hl
    simp only [Bool.not_true, Bool.false_eq_true, if_false]
    have e : nameB (.str x) = (decide (1 ≤ x.length) && decide (x.length ≤ 6) && x.cps.toList.all lowB) := rfl
    by_cases h1 : (1 : Int) ≤ x.length
    · rw [if_pos h1]
      by_cases h2 : (x.length : Int) ≤ 6
      · have e2 : cLe (x.length : Int) 6 = true := decide_eq_true h2
        rw [e2, if_neg (by decide)]
        refine hN _ (rn_i ?_)
        wp_walk using wAllG, wItX, itemsX
        refine name_all x.cps.toList ?_
        rw [e, decide_eq_true (show 1 ≤ x.length by omega), decide_eq_true (show x.length ≤ 6 by omega)] at q
        simpa using q
      · have e2 : cLe (x.length : Int) 6 = false := decide_eq_false h2
        rw [e2, if_pos (by rfl)]
        rw [e, decide_eq_false (show ¬ x.length ≤ 6 by omega)] at q
        simpa using q
    · rw [if_neg h1]
      simp only [Bool.not_false, if_true]
      rw [e, decide_eq_false (show ¬ 1 ≤ x.length by omega)] at q
      simpa using q
  · have hi : isT "str" t = false := by cases t <;> first | rfl | exact absurd ⟨_, rfl⟩ hstr
    have hb : nameB t = false := by cases t <;> first | rfl | exact absurd ⟨_, rfl⟩ hstr
    wp_walk using hi, truB'
    simp only [Bool.not_false, if_true]
    rw [hb] at q
    exact q
end FW
set_option Elab.async false
set_option linter.all false
set_option maxRecDepth 100000
set_option maxHeartbeats 4000000
namespace FW
open PySem PySem.Spec PyProof.Rows L2
variable [Tabs]
theorem pname_comp {s0 : Slot} {K : List T → Ev → Prop} : ∀ (cs acc : List Nat), acc.length + cs.length ≤ 2000 → K ((acc ++ cs.filter fun c => !lowB c).map sgn) [s0, .val (.str (Str.ofString "abcdefghijklmnopqrstuvwxyz"))] →
    compW [none, some 1] (fun t ρ => some (ρ.set 0 (.val t))) (tst (wBin (gEq true) (wSM gSCount (wV 1) (wCons (wV 0) (wNil))) (wC (.int 1)))) (wFr (wV 0)) K (cs.map sgn) (acc.map sgn) [s0, .val (.str (Str.ofString "abcdefghijklmnopqrstuvwxyz"))]
  | [], acc, _, k => by rw [List.map_nil, comp_nil]; simpa using k
  | c :: cs, acc, hl, k => by
    rw [List.length_cons] at hl
    have hc : gSCount (Str.ofString "abcdefghijklmnopqrstuvwxyz") [sgn c] = some (.val (.int (if lowB c then 1 else 0))) := countS
    rw [List.map_cons, comp_cons]
    wp_walk using wSM, show ∀ x, strR' (.val (.str x)) = some x from fun _ => rfl, hc, eqI
    rw [List.filter_cons] at k
    cases e : lowB c with
    | true =>
      rw [e] at k
      rw [if_neg (by decide)]
      exact pname_comp cs acc (by omega) (by simpa using k)
    | false =>
      rw [e] at k
      rw [if_pos (by decide)]
      refine ⟨by have := szl; omega, ?_⟩
      have ea : acc.map sgn ++ [sgn c] = (acc ++ [c]).map sgn := by simp
      rw [ea]
      exact pname_comp cs (acc ++ [c]) (by rw [List.length_append]; simp; omega) (by simpa using k)
theorem filt_low (cs : List Nat) : (cs.filter fun c => !lowB c).isEmpty = cs.all lowB := by
  induction cs with
  | nil => rfl
  | cons c cs ih =>
    rw [List.filter_cons, List.all_cons]
    cases lowB c with
    | true => simpa using ih
    | false => simp
theorem okTs_sgn {n : Nat} : ∀ (cs : List Nat), okTs n (cs.map sgn) = true
  | [] => by simp [okTs]
  | d :: ds => by rw [List.map_cons, okTs, okTs_sgn ds]; simp [okT, sgn]
theorem eqL_nil {cs : List Nat} : gEq false (.lst (cs.map sgn)) (.lst []) = some (.val (.bl cs.isEmpty)) := by
  unfold gEq
  rw [if_pos (by rw [show okT 100 (.lst (cs.map sgn)) = okTs 99 (cs.map sgn) by simp [okT], okTs_sgn]; simp [okT, okTs])]
  cases cs <;> simp [eqT, eqTs]
theorem rd_Pis_name (as : List Slot) (Q : R → List Slot → Prop) (h : S_Pis_name as Q) : wFun none 1 2 t_Pis_name as Q := by
  obtain ⟨t, rfl, hs, q⟩ := h
  unfold t_Pis_name
  refine fun_r rfl (by wp_walk) ?_
  refine rn_seq fun N hN => ?_
  wp_walk
  refine hN _ ?_
  clear hN N
  refine rn_seq fun N hN => ?_
  by_cases hstr : ∃ x, t = .str x
  · obtain ⟨x, rfl⟩ := hstr
    have hx := hs x rfl
    have hl : gLen [.str x] = some (.val (.int x.length)) := lenS (by have := szl; omega)
    wp_walk using show isT "str" (.str x) = true from rfl, truB', hl
    simp only [Bool.not_true, Bool.false_eq_true, if_false]
    have e : nameB (.str x) = (decide (1 ≤ x.length) && decide (x.length ≤ 6) && x.cps.toList.all lowB) := rfl
    by_cases h1 : (x.length : Int) < 1
    · rw [if_pos h1]
      rw [e, decide_eq_false (show ¬ 1 ≤ x.length by omega)] at q
      simpa using q
    · rw [if_neg h1]
      by_cases h2 : 6 < (x.length : Int)
      · rw [if_pos h2]
        rw [e, decide_eq_false (show ¬ x.length ≤ 6 by omega)] at q
        simpa using q
      · rw [if_neg h2]
        refine hN _ (rn_i ?_)
        wp_walk using wItX, itemsX
        refine pname_comp x.cps.toList [] (by have : x.cps.toList.length = x.length := by rw [Array.length_toList]; rfl
                                              simp only [List.length_nil]; omega) ?_
        wp_walk using List.nil_append, eqL_nil
        rw [filt_low]
        rw [e, decide_eq_true (show 1 ≤ x.length by omega), decide_eq_true (show x.length ≤ 6 by omega)] at q
        simpa using q
  · have hi : isT "str" t = false := by cases t <;> first | rfl | exact absurd ⟨_, rfl⟩ hstr
    have hb : nameB t = false := by cases t <;> first | rfl | exact absurd ⟨_, rfl⟩ hstr
    wp_walk using hi, truB'
    simp only [Bool.not_false, if_true]
    rw [hb] at q
    exact q
end FW
set_option Elab.async false
set_option linter.all false
set_option maxRecDepth 100000
set_option maxHeartbeats 4000000
namespace FW
open PySem PySem.Spec PyProof.Rows L2
variable [Tabs]
theorem names_all {K : Bool → Ev → Prop} {ρ : Ev} : ∀ (ts : List T), (∀ u ∈ ts, ShS u) → K (ts.all nameB) ρ →
    allW [none] (fun t ρ => some (ρ.set 0 (.val t))) (wCall none (S_is_name) (wCons (wFr (wV 0)) (wNil))) K ts ρ
  | [], _, k => by rw [allW_nil]; exact k
  | t :: ts, h, k => by
    rw [allW_cons, entE_n, entE_0]
    wp_walk
    refine ⟨t, rfl, h t List.mem_cons_self, ?_⟩
    wp_walk using blR_val
    rw [List.all_cons] at k
    cases e : nameB t with
    | true => rw [e] at k; rw [if_pos rfl]; exact names_all ts (fun u hu => h u (List.mem_cons_of_mem _ hu)) (by simpa using k)
    | false => rw [e] at k; simpa using k
theorem lt_diff : ∀ (xs ys : List Nat) (i a b : Nat), (∀ j, j < i → xs[j]? = ys[j]?) → xs[i]? = some a → ys[i]? = some b → a ≠ b → (xs < ys ↔ a < b)
  | x :: xs, y :: ys, 0, a, b, _, e1, e2, h => by
    cases e1; cases e2
    rw [List.cons_lt_cons_iff]
    constructor
    · rintro (z | ⟨z, _⟩)
      · exact z
      · exact absurd z h
    · exact .inl
  | x :: xs, y :: ys, i + 1, a, b, hp, e1, e2, h => by
    have h0 := hp 0 (by omega)
    cases h0
    have ih := lt_diff xs ys i a b (fun j hj => by have := hp (j + 1) (by omega); simpa using this) (by simpa using e1) (by simpa using e2) h
    rw [List.cons_lt_cons_iff, ← ih]
    constructor
    · rintro (z | ⟨_, z⟩)
      · exact absurd z (Nat.lt_irrefl _)
      · exact z
    · exact fun z => .inr ⟨rfl, z⟩
  | [], _, _, _, _, _, e1, _, _ => by simp at e1
  | _ :: _, [], _, _, _, _, _, e2, _ => by simp at e2
theorem lt_pre : ∀ (xs ys : List Nat), (∀ j, j < min xs.length ys.length → xs[j]? = ys[j]?) → (xs < ys ↔ xs.length < ys.length)
  | [], [], _ => by simp
  | [], y :: ys, _ => by simp
  | x :: xs, [], _ => by simp
  | x :: xs, y :: ys, hp => by
    have h0 := hp 0 (by simp)
    cases h0
    have ih := lt_pre xs ys fun j hj => by
      have := hp (j + 1) (by simp only [List.length_cons]; omega)
      simpa using this
    rw [List.cons_lt_cons_iff]
    rw [List.length_cons, List.length_cons, Nat.add_lt_add_iff_right, ← ih]
    constructor
    · rintro (z | ⟨_, z⟩)
      · exact absurd z (Nat.lt_irrefl _)
      · exact z
    · exact fun z => .inr ⟨rfl, z⟩
theorem nameS_len {x : Str} (h : nameS x = true) : 1 ≤ x.length ∧ x.length ≤ 6 ∧ ∀ c ∈ x.cps.toList, lowB c = true := by
  unfold nameS at h
  rw [Bool.and_eq_true, Bool.and_eq_true, decide_eq_true_eq, decide_eq_true_eq, List.all_eq_true] at h
  exact ⟨h.1.1, h.1.2, h.2⟩
theorem one_ne {a b : Nat} : ((⟨#[a]⟩ : Str) == ⟨#[b]⟩) = decide (a = b) := by
  by_cases h : a = b
  · subst h; simp
  · rw [decide_eq_false h]
    refine beq_false_of_ne fun z => h ?_
    have := congrArg Str.cps z
    simpa using this
def lessBody : WS := wIfS (tst (wBin (gEq true) (wBin gIx (wV 0) (wV 3)) (wBin gIx (wV 1) (wV 3)))) (wRet (wBin (gCmp cLt) (wSM gSIndex (wV 2) (wCons (wBin gIx (wV 0) (wV 3)) (wNil))) (wSM gSIndex (wV 2) (wCons (wBin gIx (wV 1) (wV 3)) (wNil))))) (wNext)
theorem t_Pless_eq : t_Pless = wSeq (wSet 2 (wFr (wC (.str (Str.ofString "abcdefghijklmnopqrstuvwxyz"))))) (wSeq (wFor (wRng1 (wCons (wCB gMin (wCons (wCB gLen (wCons (wV 0) (wNil))) (wCons (wCB gLen (wCons (wV 1) (wNil))) (wNil)))) (wNil))) (fun t ρ => some (ρ.set 3 (.val t))) lessBody) (wRet (wBin (gCmp cLt) (wCB gLen (wCons (wV 0) (wNil))) (wCB gLen (wCons (wV 1) (wNil)))))) := rfl
theorem less_for {x y : Str} (hx : nameS x = true) (hy : nameS y = true) {D : WD} : ∀ (n i : Nat) (s3 : Slot), i + n = min x.length y.length → (∀ j, j < i → x.cps.toList[j]? = y.cps.toList[j]?) →
    (∀ s3, D.rt (.val (.bl (ltS x y))) [.val (.str x), .val (.str y), .val (.str (Str.ofString "abcdefghijklmnopqrstuvwxyz")), s3]) →
    (∀ s3, (∀ j, j < min x.length y.length → x.cps.toList[j]? = y.cps.toList[j]?) → D.nx [.val (.str x), .val (.str y), .val (.str (Str.ofString "abcdefghijklmnopqrstuvwxyz")), s3]) →
    forW (fun t ρ => some (ρ.set 3 (.val t))) lessBody D ((List.range' i n).map fun (j : Nat) => T.int (j : Int)) [.val (.str x), .val (.str y), .val (.str (Str.ofString "abcdefghijklmnopqrstuvwxyz")), s3]
  | 0, i, s3, h, hp, k1, k2 => by
    show forW _ _ _ [] _
    rw [for_nil]
    exact k2 s3 fun j hj => hp j (by omega)
  | n + 1, i, s3, h, hp, k1, k2 => by
    obtain ⟨x1, x2, x3⟩ := nameS_len hx
    obtain ⟨y1, y2, y3⟩ := nameS_len hy
    have lx : x.cps.toList.length = x.length := by rw [Array.length_toList]; rfl
    have ly : y.cps.toList.length = y.length := by rw [Array.length_toList]; rfl
    have hi1 : i < x.cps.toList.length := by omega
    have hi2 : i < y.cps.toList.length := by omega
    have ex : x.cps.toList[i]? = some x.cps.toList[i] := List.getElem?_eq_getElem hi1
    have ey : y.cps.toList[i]? = some y.cps.toList[i] := List.getElem?_eq_getElem hi2
    have ax := atI_nat ex
    have ay := atI_nat ey
    have lowx := x3 _ (List.getElem_mem hi1)
    have lowy := y3 _ (List.getElem_mem hi2)
    generalize x.cps.toList[i] = a at *
    generalize y.cps.toList[i] = b at *
    have gx : gIx (.str x) (.int (i : Int)) = some (.val (.str ⟨#[a]⟩)) := by rw [ixS (by have := szl; omega), ax]; rfl
    have gy : gIx (.str y) (.int (i : Int)) = some (.val (.str ⟨#[b]⟩)) := by rw [ixS (by have := szl; omega), ay]; rfl
    have i1 : gSIndex (Str.ofString "abcdefghijklmnopqrstuvwxyz") [.str ⟨#[a]⟩] = some (.val (.int ((a - 97 : Nat) : Int))) := indexS lowx
    have i2 : gSIndex (Str.ofString "abcdefghijklmnopqrstuvwxyz") [.str ⟨#[b]⟩] = some (.val (.int ((b - 97 : Nat) : Int))) := indexS lowy
    have rest := less_for hx hy (D := D) n (i + 1)
    rw [List.range'_succ, List.map_cons, for_cons]
    generalize hW : forW (fun t ρ => some (ρ.set 3 (.val t))) lessBody D ((List.range' (i + 1) n).map fun (j : Nat) => T.int (j : Int)) = W at rest ⊢
    unfold lessBody
    wp_walk using gx, gy, strEq, one_ne, wSM, show ∀ x, strR' (.val (.str x)) = some x from fun _ => rfl, i1, i2
    by_cases hab : a = b
    · rw [if_neg (by simp [hab])]
      refine rest _ (by omega) (fun j hj => ?_) k1 k2
      by_cases hji : j = i
      · subst hji; rw [ex, ey, hab]
      · exact hp j (by omega)
    · rw [if_pos (by simp [hab])]
      have e : ltS x y = cLt ((a - 97 : Nat) : Int) ((b - 97 : Nat) : Int) := by
        unfold ltS cLt
        have h1 := lt_diff x.cps.toList y.cps.toList i a b hp ex ey hab
        unfold lowB at lowx lowy
        rw [Bool.and_eq_true, decide_eq_true_eq, decide_eq_true_eq] at lowx lowy
        have : (x.cps.toList < y.cps.toList) ↔ (((a - 97 : Nat) : Int) < ((b - 97 : Nat) : Int)) := by rw [h1]; omega
        exact decide_eq_decide.mpr this
      have := k1 (.val (.int (i : Int)))
      rw [e] at this
      exact this
theorem rd_Pless (as : List Slot) (Q : R → List Slot → Prop) (h : S_Pless as Q) : wFun none 2 4 t_Pless as Q := by
  obtain ⟨x, y, rfl, hx, hy, q⟩ := h
  rw [t_Pless_eq]
  obtain ⟨x1, x2, _⟩ := nameS_len hx
  obtain ⟨y1, y2, _⟩ := nameS_len hy
  have lx : gLen [.str x] = some (.val (.int x.length)) := lenS (by have := szl; omega)
  have ly : gLen [.str y] = some (.val (.int y.length)) := lenS (by have := szl; omega)
  refine fun_r rfl (by wp_walk) ?_
  refine rn_seq fun N hN => ?_
  wp_walk
  refine hN _ ?_
  clear hN N
  refine rn_seq fun N hN => ?_
  have hm : (if (y.length : Int) < x.length then (y.length : Int) else x.length) = ((min x.length y.length : Nat) : Int) := by
    split <;> omega
  wp_walk using lx, ly, minI, hm, rng1_int (n := ((min x.length y.length : Nat) : Int)) (by omega) (by omega)
  rw [show (((min x.length y.length : Nat) : Int)).toNat = min x.length y.length from rfl, rng_range]
  refine less_for hx hy (min x.length y.length) 0 _ (by omega) (fun j hj => absurd hj (by omega)) (fun s3 => ?_) fun s3 hp => ?_
  · wp_walk
    exact q
  · refine hN _ (rn_i ?_)
    wp_walk using lx, ly
    have e : ltS x y = cLt (x.length : Int) (y.length : Int) := by
      unfold ltS cLt
      have h1 := lt_pre x.cps.toList y.cps.toList (by rw [Array.length_toList, Array.length_toList]; exact hp)
      rw [Array.length_toList, Array.length_toList] at h1
      have : (x.cps.toList < y.cps.toList) ↔ ((x.length : Int) < (y.length : Int)) := by
        rw [h1]
        show x.length < y.length ↔ _
        omega
      exact decide_eq_decide.mpr this
    rw [e] at q
    exact q
end FW
set_option Elab.async false
set_option linter.all false
set_option maxRecDepth 100000
set_option maxHeartbeats 4000000
namespace FW
open PySem PySem.Spec PyProof.Rows L2
variable [Tabs]
theorem rng2_int {ρ : Ev} {a n : Int} (h0 : -(2 ^ 62) ≤ a) (h0' : a < 2 ^ 62) (h1 : -(2 ^ 62) ≤ n) (h : n < 2 ^ 62) : rngR2 ρ [.val (.int a), .val (.int n)] = some (rngT a (n - a).toNat) := by
  show ((intR ρ (.val (.int a))).bind fun lo => (intR ρ (.val (.int n))).bind fun hi => if okRng lo && okRng hi then some (rngT lo (hi - lo).toNat) else none) = _
  rw [intR_val, intR_val]
  show (if (okRng a && okRng n) = true then some (rngT a (n - a).toNat) else none) = _
  rw [if_pos (by rw [Bool.and_eq_true]; exact ⟨okRng_iff.mpr ⟨h0, h0'⟩, okRng_iff.mpr ⟨h1, h⟩⟩)]
theorem rng_one {m : Nat} : rngT 1 m = (List.range' 1 m).map fun (j : Nat) => T.int (j : Int) := by
  unfold rngT
  rw [List.range'_eq_map_range, List.map_map]
  refine List.map_congr_left fun k _ => ?_
  show T.int (1 + (k : Int)) = T.int ((1 + k : Nat) : Int)
  rw [Int.natCast_add]; rfl
theorem bls_map : ∀ (bs : List Bool), blsT (bs.map T.bl) = some bs
  | [] => rfl
  | b :: bs => by show (blsT (bs.map T.bl)).map (b :: ·) = _; rw [bls_map bs]; rfl
theorem allL {bs : List Bool} : gAllL [.lst (bs.map T.bl)] = some (.val (.bl (bs.all id))) := by
  show (blsT (bs.map T.bl)).map _ = _
  rw [bls_map]; rfl
end FW
set_option Elab.async false
set_option linter.all false
set_option maxRecDepth 100000
set_option maxHeartbeats 4000000
set_option Elab.async false
set_option linter.all false
set_option maxRecDepth 100000
set_option maxHeartbeats 4000000
set_option Elab.async false
set_option linter.all false
set_option maxRecDepth 100000
set_option maxHeartbeats 4000000
namespace FW
open PySem PySem.Spec PyProof.Rows L2
variable [Tabs]
structure TxOk (x : Str) (n : Nat) : Prop where
  len : x.length ≤ n
  ch : ∀ c ∈ x.cps.toList, c ≤ 126
theorem TxOk.app {x y : Str} {n m : Nat} (h : TxOk x n) (k : TxOk y m) : TxOk (x ++ y) (n + m) where
  len := by rw [len_app]; have := h.len; have := k.len; omega
  ch := fun c hc => by
    have e : (x ++ y).cps = x.cps ++ y.cps := rfl
    rw [e, Array.toList_append] at hc
    rcases List.mem_append.mp hc with hc | hc
    · exact h.ch c hc
    · exact k.ch c hc
theorem TxOk.take {x : Str} {n k : Nat} (h : TxOk x n) : TxOk (cs (x.cps.toList.take k)) n where
  len := by
    rw [cs_len, List.length_take, Array.length_toList]
    have : x.cps.size = x.length := rfl
    have := h.len
    omega
  ch := fun c hc => h.ch c (List.mem_of_mem_take (by simpa [cs] using hc))
theorem TxOk.drop {x : Str} {n k : Nat} (h : TxOk x n) : TxOk (cs (x.cps.toList.drop k)) n where
  len := by
    rw [cs_len, List.length_drop, Array.length_toList]
    have : x.cps.size = x.length := rfl
    have := h.len
    omega
  ch := fun c hc => h.ch c (List.mem_of_mem_drop (by simpa [cs] using hc))
theorem TxOk.low {x : Str} {n : Nat} (hl : x.length ≤ n) (h : low x) : TxOk x n := ⟨hl, fun c hc => by have := (h c hc).2; omega⟩
theorem TxOk.one {c : Nat} (h : c ≤ 126) : TxOk ⟨#[c]⟩ 1 := ⟨Nat.le_refl _, fun d hd => by
  have : d = c := by simpa using hd
  omega⟩
theorem TxOk.mono {x : Str} {n m : Nat} (h : TxOk x n) (k : n ≤ m) : TxOk x m := ⟨Nat.le_trans h.len k, h.ch⟩
theorem cut_map {α β : Type} {f : α → β} {xs : List α} {lo hi : Option Int} : cutT (xs.map f) lo hi = (cutT xs lo hi).map f := by
  unfold cutT
  rw [List.length_map, ← List.map_drop, ← List.map_take]
theorem cut_mem {α : Type} {xs : List α} {lo hi : Option Int} {x : α} (h : x ∈ cutT xs lo hi) : x ∈ xs := List.mem_of_mem_drop (List.mem_of_mem_take h)
theorem cut_len {α : Type} {xs : List α} {lo hi : Option Int} : (cutT xs lo hi).length ≤ xs.length := by
  unfold cutT; rw [List.length_take, List.length_drop]; omega
theorem addLs {xs ys : List T} (h : xs.length + ys.length ≤ 1000) : gAdd (.lst xs) (.lst ys) = some (.own (xs ++ ys)) := addL (by have := szl; omega)
theorem wAll_le {n : Nat} : ∀ (ts : List T), (∀ t ∈ ts, (dT t).weight ≤ n) → PyData.weightAll (dTs ts) ≤ ts.length * (n + 1)
  | [], _ => by simp [dTs, PyData.weightAll]
  | t :: ts, h => by
    have ih := wAll_le ts fun u hu => h u (.tail _ hu)
    have := h t (.head _)
    rw [dTs, PyData.weightAll, List.length_cons, Nat.add_mul]
    omega
theorem shAll : ∀ (ts : List T), (∀ t ∈ ts, (dT t).leavesShort 200 = true) → PyData.leavesShortAll 200 (dTs ts) = true
  | [], _ => by simp [dTs, PyData.leavesShortAll]
  | t :: ts, h => by rw [dTs, PyData.leavesShortAll, h t (.head _), shAll ts fun u hu => h u (.tail _ hu)]; rfl
theorem swAll : ∀ (ts : List T), (∀ t ∈ ts, (dT t).showable = true) → PyData.showableAll (dTs ts) = true
  | [], _ => by simp [dTs, PyData.showableAll]
  | t :: ts, h => by rw [dTs, PyData.showableAll, h t (.head _), swAll ts fun u hu => h u (.tail _ hu)]; rfl
theorem dpAll {n : Nat} : ∀ (ts : List T), (∀ t ∈ ts, (dT t).depth ≤ n) → PyData.depthAll (dTs ts) ≤ n
  | [], _ => by simp [dTs, PyData.depthAll]
  | t :: ts, h => by
    have := h t (.head _)
    have := dpAll ts fun u hu => h u (.tail _ hu)
    rw [dTs, PyData.depthAll]; omega
theorem hdAll : ∀ (ts : List T), (∀ t ∈ ts, (dT t).hasDict = false) → PyData.hasDictAll (dTs ts) = false
  | [], _ => by simp [dTs, PyData.hasDictAll]
  | t :: ts, h => by rw [dTs, PyData.hasDictAll, h t (.head _), hdAll ts fun u hu => h u (.tail _ hu)]; rfl
theorem nlAll : ∀ (ts : List T), (∀ t ∈ ts, noL t = true) → noLs ts = true
  | [], _ => by simp [noLs]
  | t :: ts, h => by rw [noLs, h t (.head _), nlAll ts fun u hu => h u (.tail _ hu)]; rfl
theorem rp_seq {ts : List T} {n : Nat} (hl : ts.length * (n + 1) ≤ 16384) (h1 : ∀ t ∈ ts, (dT t).leavesShort 200 = true) (h2 : ∀ t ∈ ts, (dT t).weight ≤ n) (h3 : ∀ t ∈ ts, (dT t).showable = true) (h4 : ∀ t ∈ ts, (dT t).depth ≤ 30) :
    ((∀ t ∈ ts, noL t = true) ∨ (∀ t ∈ ts, (dT t).hasDict = false) → Rp (.tup ts)) ∧ ((∀ t ∈ ts, (dT t).hasDict = false) → Rp (.lst ts)) := by
  have w := wAll_le ts h2
  have d := dpAll ts h4
  constructor
  · intro h5
    exact ⟨by rw [dT]; exact shAll ts h1, by rw [dT]; show PyData.weightAll (dTs ts) ≤ _; omega, by rw [dT]; exact swAll ts h3, by rw [dT]; show PyData.depthAll (dTs ts) + 1 ≤ _; omega, fun z => by
      rcases h5 with h5 | h5
      · exact nlAll ts h5
      · rw [dT] at z
        have z' : PyData.hasDictAll (dTs ts) = true := z
        rw [hdAll ts h5] at z'; cases z'⟩
  · intro h5
    exact ⟨by rw [dT]; exact shAll ts h1, by rw [dT]; show PyData.weightAll (dTs ts) ≤ _; omega, by rw [dT]; exact swAll ts h3, by rw [dT]; show PyData.depthAll (dTs ts) + 1 ≤ _; omega, fun z => by
      rw [dT] at z
      have z' : PyData.hasDictAll (dTs ts) = true := z
      rw [hdAll ts h5] at z'; cases z'⟩
end FW
set_option Elab.async false
set_option linter.all false
set_option maxRecDepth 100000
set_option maxHeartbeats 4000000
set_option Elab.async false
set_option linter.all false
set_option maxRecDepth 100000
set_option maxHeartbeats 4000000
namespace FW
open PySem PySem.Spec PyProof.Rows L2
variable [Tabs]
theorem boolE' {a b : Bool} {neg : Bool} : gBool neg (.bl a) (.bl b) = some (.val (.bl ((a == b) != neg))) := rfl
theorem small_rng' {n : Nat} {t : T} (h : t ∈ (List.range' 0 n).map fun (j : Nat) => T.int (j : Int)) : ∃ i : Int, t = .int i ∧ 0 ≤ i ∧ i < n := by
  obtain ⟨j, hj, rfl⟩ := List.mem_map.mp h
  have := (List.mem_range'_1.mp hj).2
  exact ⟨j, rfl, by omega, by omega⟩
theorem rp_def {ta : WE} {ρ : Ev} {Q : R → Ev → Prop} : wRp ta ρ Q = ta ρ fun r ρ1 => bO (rdR ρ1 r) fun t => Rp t ∧ Q (.val (.str (dT t).shown)) ρ1 := rfl
end FW
end RD
namespace FW
open PySem PySem.Spec PyProof.Rows L2
variable [Tabs]
theorem eqAt_str (A : Around) (s : Shared) (a : Str) (t : Tok) (c : Str) (u : Tok) : ∃ e, SeqAt.EqAt A s (.str a t) (.str c u) e ∧ (e = true ↔ a = c) :=
  ⟨(a == c), SeqAt.EqAt.str_str a t c u, by simp⟩
theorem rcLt_str (A : Around) (s : Shared) (a : Str) (t : Tok) (c : Str) (u : Tok) (prog : Program) (w : World) (E : Value → Shared → Prop) (Q : Value → Shared → Prop) (h : Q (.bool (ltS a c)) s) :
    wpAny (model prog w) A (richCompare .Lt (.str a t) (.str c u)) Q E s :=
  (PyProof.Rows.lt_str h : wpAny (model prog w) A (compareOp .Lt (.str a t) (.str c u)) Q E s)
section
open PySem.SeqAt
open PySem.AutoSeq1 (wpAny_loadPart')
open PySem.MeetsSeq PySem.MeetsSeq2 PySem.MeetsSeq3
theorem tuple_lt_strs (l b : Addr) (items items2 : Array Value) (n n2 : Nat) (dd dd2 : Option Addr) (sl sl2 : Array (Option Value)) (ns ms : List Str) (hi : StrsAre items.toList ns) (hj : StrsAre items2.toList ms) :
    Meets (Builtin.«tuple.__lt__» ⟨[.ref l, .ref b], []⟩)
      (fun _ R s => s.heap.get? l = some { cls := .type "tuple", dict := dd, data := .seq items n, slots := sl } ∧ s.heap.get? b = some { cls := .type "tuple", dict := dd2, data := .seq items2 n2, slots := sl2 } ∧
        R (.ok (.ret (.bool (ltK ns ms)))) s) :=
  .of_wp fun prog w A R s h => by
    obtain ⟨hp, g, d, tk, os⟩ := s; obtain ⟨hl, hb, h⟩ := h
    have f2 := AutoSeq1.sub_tuple_tuple
    have z1 : items.size = ns.length := by rw [← hi.length]; simp
    have z2 : items2.size = ms.length := by rw [← hj.length]; simp
    wp_walk using wpAny_loadPart' hl, wpAny_loadPart' hb, wpAny_forIn_list _ (fun rest b s' => b.1 = none ∧ s' = ⟨hp, g, d, tk, os⟩ ∧ ∃ (vs ws : List Value) (ns' ms' : List Str), rest = vs.zip ws ∧
      StrsAre vs ns' ∧ StrsAre ws ms' ∧ ns'.length + items2.size = ms'.length + items.size ∧ R (.ok (.ret (.bool (ltK ns' ms')))) ⟨hp, g, d, tk, os⟩) _
    case turn =>
      rintro ⟨y, x⟩ rest b s' ⟨hb', rfl, vs, ws, ns', ms', hz, hvi, hwi, hlen, hR⟩
      cases hvi with
      | nil => rw [List.zip_nil_left] at hz; cases hz
      | cons a t hvi' =>
        cases hwi with
        | nil => rw [List.zip_nil_right] at hz; cases hz
        | cons c u hwi' =>
          rw [List.zip_cons_cons] at hz
          injection hz with hyx hrest
          injection hyx with hy hx
          subst hy hx
          unfold ltK at hR
          simp only [List.length_cons] at hlen
          obtain ⟨e, he, hiff⟩ := eqAt_str A.in1 ⟨hp, g, d, tk, os⟩ a t c u
          refine wpAny_bind (he prog w _ _ ?_)
          cases e with
          | true =>
            rw [if_pos (hiff.mp rfl)] at hR
            wp_walk
            exact ⟨rfl, rfl, _, _, _, _, hrest, hvi', hwi', by omega, hR⟩
          | false =>
            rw [if_neg (fun q => absurd (hiff.mpr q) Bool.false_ne_true)] at hR
            have hri := rcLt_str A.in1 ⟨hp, g, d, tk, os⟩ a t c u prog w
            wp_walk using hri
            exact ⟨_, rfl, by simpa using hR⟩
    case fin =>
      rintro ⟨b1, b2⟩ s' ⟨hb', rfl, vs, ws, ns', ms', hz, hvi, hwi, hlen, hR⟩
      simp only at hb'
      subst hb'
      have hv : ltK ns' ms' = decide (items.size < items2.size) := by
        cases hvi with
        | nil =>
          cases hwi with
          | nil =>
            simp only [List.length_nil] at hlen
            exact (decide_eq_false (by omega)).symm
          | cons c u hw =>
            simp only [List.length_nil, List.length_cons] at hlen
            exact (decide_eq_true (by omega)).symm
        | cons a t hv =>
          cases hwi with
          | nil =>
            simp only [List.length_nil, List.length_cons] at hlen
            exact (decide_eq_false (by omega)).symm
          | cons c u hw =>
            rw [List.zip_cons_cons] at hz
            cases hz
      rw [hv] at hR
      wp_walk
      exact ⟨_, rfl, by simpa [Builtin.Tuple.tupleCompareSizes] using hR⟩
    case h =>
      exact ⟨rfl, rfl, items.toList, items2.toList, ns, ms, rfl, hi, hj, by omega, h⟩
end
theorem lt_tupStrs {prog : Program} {w : World} {A : Around} {E : Value → Shared → Prop} {s : Shared} {l b : Addr} {items items2 : Array Value} {ns ms : List Str} {Q : Value → Shared → Prop} (hl : IsTup s.heap l items) (hb : IsTup s.heap b items2) (hi : StrsAre items.toList ns) (hj : StrsAre items2.toList ms)
    (hu : A.units < cLine) (h : Q (.bool (ltK ns ms)) s) : wpAny (model prog w) A (compareOp .Lt (.ref l) (.ref b)) Q E s := by
  obtain ⟨⟨cls, dd, data, sl⟩, ho, hc, n, hd⟩ := id hl
  obtain ⟨⟨cls2, dd2, data2, sl2⟩, ho2, hc2, n2, hd2⟩ := id hb
  simp only at hc hd hc2 hd2
  subst hc hd hc2 hd2
  exact richCompare_meets_room (op := .Lt) ⟨_, ho, rfl⟩ ⟨_, ho2, rfl⟩ PySem.F.slot_tuple_lt PySem.F.entry_tuple_lt (PySem.F.args_tuple_lt_2 _ _) (tuple_lt_strs l b items items2 n n2 dd dd2 sl sl2 ns ms hi hj)
    ⟨ho, ho2, show Value.bool (ltK ns ms) ≠ Value.notImplemented ∧ Q (.bool (ltK ns ms)) s from ⟨(fun x => nomatch x), h⟩⟩ hu
section
variable {X : Cx} {a b : Expr} {ta tb : WE} {pos : Pos}
def gLtP : T → T → Option R
  | .int i, .int j => some (.val (.bl (cLt i j)))
  | .str x, .str y => some (.val (.bl (ltS x y)))
  | .tup xs, .tup ys => (strsT xs).bind fun as => (strsT ys).map fun bs => .val (.bl (ltK as bs))
  | _, _ => none
theorem o_ltP {k : Nat} (hr : Room k X.A) : OpT X (compareOp .Lt) gLtP := by
  intro pins s σ H x y u v t1 t2 r Q I rx ry n1 n2 e q
  unfold gLtP at e
  split at e
  · exact o_lt pins s σ H x y u v _ _ r Q I rx ry n1 n2 e q
  · cases e
    rw [now_str] at n1 n2; subst n1; subst n2
    exact op_lt_str pins s σ H _ _ u v Q I rx ry ⟨_, _, rfl, rfl, q (.bl (ltS _ _)) _ (newR_val (by rw [rep_bl]))⟩
  · rw [Option.bind_eq_some_iff] at e
    obtain ⟨as, e1, e⟩ := e
    rw [Option.map_eq_some_iff] at e
    obtain ⟨bs, e2, rfl⟩ := e
    rw [now_tup] at n1 n2
    obtain ⟨p1, vs1, rfl, h1, h2⟩ := n1
    obtain ⟨p2, vs2, rfl, g1, g2⟩ := n2
    cases rx; cases ry
    obtain ⟨its1, r1, i1, _⟩ := I.tuple h1
    obtain ⟨its2, r2, i2, _⟩ := I.tuple g1
    exact lt_tupStrs i1 i2 (by simpa using strs_are e1 h2 r1) (by simpa using strs_are e2 g2 r2) (by have := hr.un; omega) ⟨.bl _, H, I, rfl, q _ _ (newR_val (by simp))⟩
  · cases e
def keysAre : List DictEntry → List Str → Bool
  | [], [] => true
  | e :: es, k :: ks => Value.isStrOf k e.key && keysAre es ks
  | _, _ => false
def GDictK (P : Program) (w : World) (K : W.Frag) (mg : Str → Option Value) (x : Str) (ks : List Str) : Prop :=
  ∃ a es n, mg x = some (.ref a) ∧ K.lookup a = some ⟨.type "dict", none, .dict es n, #[]⟩ ∧ W.KeysLit w.params es.toList ∧ keysAre es.toList ks = true ∧ (a == sysModules) = false
theorem keys_find {k : Str} : ∀ {es : List DictEntry} {ks : List Str}, keysAre es ks = true → (es.find? fun d => Value.isStrOf k d.key).isSome = ks.contains k
  | [], [], _ => rfl
  | e :: es, x :: ks, h => by
    unfold keysAre at h
    rw [Bool.and_eq_true] at h
    obtain ⟨t, ht⟩ := Value.isStrOf_shape h.1
    have ih := keys_find (k := k) h.2
    rw [List.find?_cons, List.contains_cons]
    have hk : Value.isStrOf k e.key = (k == x) := by
      rw [ht]
      by_cases z : k = x
      · subst z; simp [Value.isStrOf]
      · rw [beq_false_of_ne z]; simp [Value.isStrOf]; exact fun w => z w.symm
    rw [hk]
    cases k == x with
    | true => rfl
    | false => simpa using ih
  | [], _ :: _, h => by cases h
  | _ :: _, [], h => by cases h
def strOfT : T → Option Str
  | .str x => some x
  | _ => none
def wGIn (ks : List Str) (te : WE) : WE := fun ρ Q => te ρ fun r ρ1 => bO (rdR ρ1 r) fun t => bO (strOfT t) fun k => Q (.val (.bl (ks.contains k))) ρ1
theorem d_gin {x : Str} {p : Pos} {ks : List Str} (hg : Gl X x) (gd : GDictK X.prog X.w X.K X.mg x ks) (ha : DE X a ta) (hm : behindInMarks .In (.Name x p) = false := by with_unfolding_all rfl) (hd : (x == ("__debug__" : Str)) = false := by decide) :
    DE X (.Compare a [.In] [.Name x p] pos) (wGIn ks ta) := by
  intro pins s σ H ρ Q I E q
  obtain ⟨ad, es, n, hmg, hl, hk, hks, hsm⟩ := gd
  refine wpAny_Compare1 ?_ hm
  refine thn (ha pins s σ H ρ _ I E q) fun u s1 ⟨y, H1, r1, ρ1, I1, ry, E1, S1, p1, q1⟩ => ?_
  obtain ⟨t, e1, q2⟩ := bO_iff.mp q1
  obtain ⟨k, e2, q3⟩ := bO_iff.mp q2
  have ht : t = .str k := by
    unfold strOfT at e2; split at e2 <;> cases e2; rfl
  subst ht
  have n1 := p1.now E1 e1
  rw [now_str] at n1
  subst n1
  obtain ⟨tk, rfl⟩ := ry
  refine thn (pe_glob (v := .ref ad) hg hmg rfl hd pins s1 σ H1 (fun v H' => v = .ref ad ∧ H' = H1) I1 ⟨rfl, rfl⟩) fun u2 s2 ⟨v, H2, I2, rv, ev, eH⟩ => ?_
  subst ev eH
  cases rv
  have mp := W.mapOf_K (prog := X.prog) (w := X.w) I2.kIn hl hk
  refine wpAny_in_of (strKind_is X.prog X.w k tk) hsm mp ?_
  have hf : (findBy Value.isStrOf es k).isSome = ks.contains k := by
    have := keys_find (k := k) hks
    rw [← this]
    unfold findBy
    simp
  rw [hf]
  have nr : NewR X.K H2 H2 (.val (.bl (ks.contains k))) (.bl (ks.contains k)) := newR_val (by simp)
  exact ⟨.bl (ks.contains k), H2, _, ρ1, I2.tok _, rfl, E1.ext nr.1, S1.trans nr.1.stp, nr.rep E1 S1, q3⟩
end
end FW
section RD
local macro_rules
  | `(tactic| wp_walk using $ts,*) => `(tactic| simp only [$[$ts:term],*, FW.wFun, FW.wSeq, FW.wIfS, FW.wRet, FW.wSet, FW.wOwn, FW.wSetI, FW.wFr, FW.wBin, FW.wCB, FW.wV, FW.wC, FW.wCons, FW.wNil, FW.wLst, FW.wTup, FW.wNext, FW.tst, FW.wCall, FW.wDrop, FW.wMut, FW.wNot, FW.wAnd, FW.wOr, FW.wTru, FW.wAug, FW.wComp, FW.wFor, FW.wItS, FW.wRng1, FW.wJoin, FW.isi_def, FW.wRvl, FW.wSl, FW.wNo, FW.wSo, FW.wAsg, FW.wSrt, FW.wTrue, FW.bO_some, FW.bO_none, FW.rdR_val, FW.rdR_own, FW.rdR_bor', FW.frz_val, FW.frz_own, FW.frz_bor', FW.rdV_val, FW.rdV_own, FW.own_z1, FW.own_z2, FW.own_succ, FW.retR_val, FW.retR_own, FW.okR_val, FW.okR_own, FW.okR_bor, FW.rdRs_nil, FW.rdRs_cons, FW.intR_val, FW.argsS_nil, FW.argsS_c, FW.argS_no, FW.argS_00, FW.argS_01, FW.argS_10, FW.argS_11, FW.argVal_val, FW.argIn_own, FW.argIn_bor, FW.outS_no, FW.outS_c0, FW.outS_c1, FW.outS_o1, FW.backS_no, FW.backS_io, FW.tst_val, FW.addI, FW.gI, FW.subI, FW.gC, FW.lenL, FW.lenT, FW.ixL, FW.ixT, FW.at0, FW.at1, FW.at2, FW.ix30, FW.ix31, FW.ix32, FW.valR_val, FW.ownR_own, FW.valsR_nil, FW.valsR_cons, FW.nb_val, FW.nb_own, FW.sl0, FW.sl1, FW.sl2, FW.sl3, FW.sl4, FW.cLt_t, FW.cLe_t, FW.cGt_t, FW.cGe_t, FW.okArgs_iff, FW.okA_nil, FW.okA_own, FW.okA_val, FW.entE_n, FW.entE_s, FW.entE_0, FW.levE_n, FW.levE_s, FW.levE_0, List.getElem?_cons_zero, List.getElem?_cons_succ, List.set_cons_zero, List.set_cons_succ, List.cons_append, List.nil_append, List.replicate, List.getD_cons_zero, List.getD_cons_succ, List.length_cons, List.length_nil, List.length_map, Nat.sub_self, and_true, true_and, Option.map_some, Option.bind_some, Option.map_none, Option.isSome_some, Option.bind_none])
  | `(tactic| wp_walk) => `(tactic| wp_walk using FW.wFun)
set_option Elab.async false
set_option linter.all false
set_option maxRecDepth 100000
set_option maxHeartbeats 4000000
namespace FW.k03
open PySem PySem.Spec PyProof.Rows L2
variable [Tabs]
def ltG (t u : T) : Bool := match gLtP t u with
  | some (.val (.bl b)) => b
  | _ => false
def risG : List T → Bool
  | x :: y :: r => ltG x y && risG (y :: r)
  | _ => true
def Cmp (ts : List T) : Prop := ∀ t ∈ ts, ∀ u ∈ ts, gLtP t u = some (.val (.bl (ltG t u)))
def tupN : T → Int → Int → Bool
  | .tup ts, a, b => decide (a ≤ ts.length) && decide ((ts.length : Int) ≤ b)
  | _, _, _ => false
def partB : T → Bool
  | .tup [.str w, b] => wordsL.contains w && nameB b
  | _ => false
def whoB : T → Bool
  | .tup ts => decide (1 ≤ ts.length) && decide (ts.length ≤ 6) && ts.all partB && risG ts
  | _ => false
def ShP (u : T) : Prop := ∀ a b, u = .tup [a, b] → ShS b
def ShW (t : T) : Prop := ∀ ts, t = .tup ts → ts.length ≤ 100 ∧ ∀ u ∈ ts, ShP u
def S_is_tuple_from_to : FS := fun as Q => ∃ t a b, as = [.val t, .val (.int a), .val (.int b)] ∧ Q (.val (.bl (tupN t a b))) as
def S_is_rising : FS := fun as Q => ∃ ts, as = [.val (.tup ts)] ∧ ts.length ≤ 100 ∧ Cmp ts ∧ Q (.val (.bl (risG ts))) as
def S_is_who_part : FS := fun as Q => ∃ u, as = [.val u] ∧ ShP u ∧ Q (.val (.bl (partB u))) as
def S_is_who : FS := fun as Q => ∃ t, as = [.val t] ∧ ShW t ∧ Q (.val (.bl (whoB t))) as
structure WhoR (ps : List (Str × Str)) : Prop where
  lo : 1 ≤ ps.length
  all : ∀ p ∈ ps, p.1 ∈ wordsL ∧ NameT p.2
  rise : ps.Pairwise fun a b => ltK [a.1, a.2] [b.1, b.2] = true
def S_Pwho : FS := fun as Q => ∃ a b m, as = [.own (pn a b), .val (.int m)] ∧ 1 ≤ m ∧ m ≤ 13 ∧ ∀ ps a' b', WhoR ps → (ps.length : Int) ≤ m → Q (.own (ps.map kpT)) [.own (pn a' b'), .val (.int m)]
structure PaT (t : T) : Prop where
  sh : ShP t
  «short» : (dT t).leavesShort 200 = true
  weight : (dT t).weight ≤ 400
  show_ : (dT t).showable = true
  depth : (dT t).depth ≤ 20
  kind : (dT t).hasDict = true → noL t = true
structure BwT (t : T) : Prop where
  rp : Rp t
  sh : ShW t
def S_Ppart : FS := fun as Q => ∃ a b p, as = [.own (pn a b), .val (kpT p)] ∧ p.1 ∈ wordsL ∧ NameT p.2 ∧ ∀ t a' b', PaT t → Q (.val t) [.own (pn a' b'), .val (kpT p)]
def S_Pbent : FS := fun as Q => ∃ (a b : Int) (ps : List (Str × Str)), as = [.own (pn a b), .val (.lst (ps.map kpT))] ∧ WhoR ps ∧ ps.length ≤ 6 ∧
  (∀ t a' b', BwT t → Q (.val t) [.own (pn a' b'), .val (.lst (ps.map kpT))]) ∧ ∀ ts a' b', BwT (.lst ts) → Q (.own ts) [.own (pn a' b'), .val (.lst (ps.map kpT))]
def S_Pis_part : FS := fun as Q => ∃ u, as = [.val u] ∧ ShP u ∧ Q (.val (.bl (partB u))) as
def S_Pdue : FS := fun as Q => ∃ t, as = [.val t] ∧ ShW t ∧ Q (.val (.bl (whoB t))) as
def t_is_tuple_from_to : WS := wRet (wAndV (wIsi "tuple" (wV 0)) (wCh2 (gCmp cLe) (gCmp cLe) (wV 1) (wCB gLen (wCons (wV 0) (wNil))) (wV 2)))
def t_is_rising : WS := wRet (wAllG [none, some 0] (wRng1 (wCons (wBin (gInt fSub) (wCB gLen (wCons (wV 0) (wNil))) (wC (.int 1))) (wNil))) (fun t ρ => some (ρ.set 0 (.val t))) (wBin gLtP (wBin gIx (wV 1) (wV 0)) (wBin gIx (wV 1) (wBin gAdd (wV 0) (wC (.int 1))))))
def t_is_who_part : WS := wSeq (wIfS (wNot (wTru (wCall none (S_is_tuple_from_to) (wCons (wFr (wV 0)) (wCons (wFr (wC (.int 2))) (wCons (wFr (wC (.int 2))) (wNil))))))) (wRet (wC (.bl false))) (wNext)) (wRet (wAndV (wIsi "str" (wBin gIx (wV 0) (wC (.int 0)))) (wAndV (wGIn [Str.ofString "group", Str.ofString "hand", Str.ofString "office"] (wBin gIx (wV 0) (wC (.int 0)))) (wCall none (S_is_name) (wCons (wFr (wBin gIx (wV 0) (wC (.int 1)))) (wNil))))))
def t_is_who : WS := wSeq (wIfS (wNot (wTru (wCall none (S_is_tuple_from_to) (wCons (wFr (wV 0)) (wCons (wFr (wC (.int 1))) (wCons (wFr (wC (.int 6))) (wNil))))))) (wRet (wC (.bl false))) (wNext)) (wRet (wAndV (wAllG [none] (wItS (wFr (wV 0))) (fun t ρ => some (ρ.set 0 (.val t))) (wCall none (S_is_who_part) (wCons (wFr (wV 0)) (wNil)))) (wCall none (S_is_rising) (wCons (wFr (wV 0)) (wNil)))))
def t_Pwho : WS := wSeq (wSet 2 (wFr (wCall (some 0) (S_Pname) (wCons (wV 0) (wNil))))) (wSeq (wOwn 3 (wLst (wNil))) (wSeq (wFor (wRng1 (wCons (wV 1) (wNil))) (fun t ρ => some (ρ.set 4 (.val t))) (wSeq (wSet 5 (wFr (wCall (some 0) (S_Pnear) (wCons (wV 0) (wCons (wFr (wV 2)) (wNil)))))) (wSeq (wDrop (wMut 3 gAppend (wCons (wFr (wTup (wCons (wFr (wBin gIx (wLst (wCons (wFr (wC (.str (Str.ofString "group")))) (wCons (wFr (wC (.str (Str.ofString "hand")))) (wCons (wFr (wC (.str (Str.ofString "office")))) (wNil))))) (wCall (some 0) (S_Ptake) (wCons (wV 0) (wCons (wFr (wC (.int 3))) (wNil)))))) (wCons (wFr (wV 5)) (wNil))))) (wNil)))) (wIfS (tst (wBin (gEq false) (wCall (some 0) (S_Ptake) (wCons (wV 0) (wCons (wFr (wC (.int 3))) (wNil)))) (wC (.int 0)))) (wSet 2 (wFr (wV 5))) (wNext))))) (wRet (wSrt (wCons (wV 3) (wNil))))))
def t_Ppart : WS := wSeq (wAsg (wFr (wV 1)) (unpT [2, 3])) (wSeq (wSet 4 (wFr (wLst (wCons (wFr (wTup (wCons (wFr (wC (.str (Str.ofString "Group")))) (wCons (wFr (wV 3)) (wNil))))) (wCons (wFr (wTup (wCons (wFr (wC (.str (Str.ofString "hands")))) (wCons (wFr (wV 3)) (wNil))))) (wCons (wFr (wTup (wCons (wFr (wC (.str (Str.ofString "")))) (wCons (wFr (wV 3)) (wNil))))) (wCons (wFr (wTup (wCons (wFr (wC .non)) (wCons (wFr (wV 3)) (wNil))))) (wCons (wFr (wTup (wCons (wFr (wC (.int 7))) (wCons (wFr (wV 3)) (wNil))))) (wCons (wFr (wTup (wCons (wFr (wV 2)) (wCons (wFr (wC (.str (Str.ofString "")))) (wNil))))) (wCons (wFr (wTup (wCons (wFr (wV 2)) (wCons (wFr (wBin gAdd (wV 3) (wC (.str (Str.ofString "bcdefg"))))) (wNil))))) (wNil))))))))))) (wSeq (wSet 4 (wFr (wBin gAdd (wV 4) (wLst (wCons (wFr (wTup (wCons (wFr (wV 2)) (wCons (wFr (wBin gAdd (wV 3) (wC (.str (Str.ofString "1"))))) (wNil))))) (wCons (wFr (wTup (wCons (wFr (wV 2)) (wCons (wFr (wC .non)) (wNil))))) (wCons (wFr (wTup (wCons (wFr (wV 2)) (wCons (wFr (wTup (wCons (wFr (wV 3)) (wNil)))) (wNil))))) (wCons (wFr (wTup (wCons (wFr (wV 3)) (wCons (wFr (wV 2)) (wNil))))) (wCons (wFr (wTup (wCons (wFr (wV 2)) (wNil)))) (wCons (wFr (wTup (wCons (wFr (wV 2)) (wCons (wFr (wV 3)) (wCons (wFr (wV 3)) (wNil)))))) (wCons (wFr (wTup (wNil))) (wNil)))))))))))) (wSeq (wSet 4 (wFr (wBin gAdd (wV 4) (wLst (wCons (wFr (wLst (wCons (wFr (wV 2)) (wCons (wFr (wV 3)) (wNil))))) (wCons (wFr (wBin gAdd (wV 2) (wV 3))) (wCons (wFr (wC .non)) (wCons (wFr (wC (.bl true))) (wCons (wFr (wC (.int 5))) (wCons (wFr (wTup (wCons (wFr (wLst (wCons (wFr (wC (.str (Str.ofString "hand")))) (wNil)))) (wCons (wFr (wV 3)) (wNil))))) (wCons (wFr (wTup (wCons (wFr (wD0)) (wCons (wFr (wV 3)) (wNil))))) (wCons (wFr (wTup (wCons (wFr (wC (.str (Str.ofString "office")))) (wCons (wFr (wV 3)) (wNil))))) (wNil))))))))))))) (wRet (wBin gIx (wV 4) (wCall (some 0) (S_Ptake) (wCons (wV 0) (wCons (wFr (wC (.int 22))) (wNil)))))))))
def t_Pbent : WS := wSeq (wSet 2 (wFr (wCall (some 0) (S_Ptake) (wCons (wV 0) (wCons (wFr (wC (.int 10))) (wNil)))))) (wSeq (wSet 3 (wFr (wCall (some 0) (S_Ptake) (wCons (wV 0) (wCons (wFr (wCB gLen (wCons (wV 1) (wNil)))) (wNil)))))) (wSeq (wIfS (tst (wBin (gEq false) (wV 2) (wC (.int 0)))) (wRet (wCB gTuple (wCons (wRvl (wV 1)) (wNil)))) (wNext)) (wSeq (wIfS (tst (wBin (gEq false) (wV 2) (wC (.int 1)))) (wRet (wCB gTuple (wCons (wBin gAdd (wSl2 (wV 1) (wSo (wV 3)) (wNo)) (wSl2 (wV 1) (wNo) (wSo (wV 3)))) (wNil)))) (wNext)) (wSeq (wIfS (tst (wBin (gEq false) (wV 2) (wC (.int 2)))) (wRet (wCB gTuple (wCons (wBin gAdd (wSl2 (wV 1) (wNo) (wSo (wBin gAdd (wV 3) (wC (.int 1))))) (wSl2 (wV 1) (wSo (wV 3)) (wNo))) (wNil)))) (wNext)) (wSeq (wIfS (tst (wBin (gCmp cLt) (wV 2) (wC (.int 6)))) (wRet (wCB gTuple (wCons (wBin gAdd (wBin gAdd (wSl2 (wV 1) (wNo) (wSo (wV 3))) (wLst (wCons (wFr (wCall (some 0) (S_Ppart) (wCons (wV 0) (wCons (wFr (wBin gIx (wV 1) (wV 3))) (wNil))))) (wNil)))) (wSl2 (wV 1) (wSo (wBin gAdd (wV 3) (wC (.int 1)))) (wNo))) (wNil)))) (wNext)) (wSeq (wIfS (tst (wBin (gEq false) (wV 2) (wC (.int 6)))) (wRet (wCB gTuple (wCons (wCall (some 0) (S_Pwho) (wCons (wV 0) (wCons (wFr (wBin gAdd (wC (.int 7)) (wCall (some 0) (S_Ptake) (wCons (wV 0) (wCons (wFr (wC (.int 6))) (wNil)))))) (wNil)))) (wNil)))) (wNext)) (wSeq (wIfS (tst (wBin (gEq false) (wV 2) (wC (.int 7)))) (wRet (wCB gList (wCons (wV 1) (wNil)))) (wNext)) (wSeq (wIfS (tst (wBin (gEq false) (wV 2) (wC (.int 8)))) (wRet (wBin gIx (wLst (wCons (wFr (wTup (wNil))) (wCons (wFr (wC .non)) (wCons (wFr (wC (.str (Str.ofString "ann")))) (wCons (wFr (wC (.int 7))) (wCons (wFr (wC (.bl true))) (wCons (wFr (wD0)) (wCons (wFr (wLst (wNil))) (wCons (wFr (wTup (wCons (wFr (wC (.str (Str.ofString "hand")))) (wCons (wFr (wC (.str (Str.ofString "ann")))) (wNil))))) (wCons (wFr (wTup (wCons (wFr (wTup (wCons (wFr (wC (.str (Str.ofString "hand")))) (wCons (wFr (wC (.str (Str.ofString "ann")))) (wNil))))) (wNil)))) (wNil))))))))))) (wCall (some 0) (S_Ptake) (wCons (wV 0) (wCons (wFr (wC (.int 9))) (wNil)))))) (wNext)) (wRet (wCB gTuple (wCons (wV 1) (wNil))))))))))))
def t_Pis_part : WS := wSeq (wIfS (wOr (wNot (wTru (wIsi "tuple" (wV 0)))) (wOr (tst (wBin (gEq true) (wCB gLen (wCons (wV 0) (wNil))) (wC (.int 2)))) (wNot (wTru (wIsi "str" (wBin gIx (wV 0) (wC (.int 0)))))))) (wRet (wC (.bl false))) (wNext)) (wRet (wAndV (wBin (gIn false) (wBin gIx (wV 0) (wC (.int 0))) (wTup (wCons (wFr (wC (.str (Str.ofString "group")))) (wCons (wFr (wC (.str (Str.ofString "hand")))) (wCons (wFr (wC (.str (Str.ofString "office")))) (wNil)))))) (wCall none (S_Pis_name) (wCons (wFr (wBin gIx (wV 0) (wC (.int 1)))) (wNil)))))
def t_Pdue : WS := wSeq (wIfS (wOr (wNot (wTru (wIsi "tuple" (wV 0)))) (wOr (tst (wBin (gCmp cLt) (wCB gLen (wCons (wV 0) (wNil))) (wC (.int 1)))) (tst (wBin (gCmp cGt) (wCB gLen (wCons (wV 0) (wNil))) (wC (.int 6)))))) (wRet (wC (.bl false))) (wNext)) (wSeq (wIfS (wNot (wTru (wCB gAllL (wCons (wComp [none] (wItS (wFr (wV 0))) (fun t ρ => some (ρ.set 0 (.val t))) (wTrue) (wFr (wCall none (S_Pis_part) (wCons (wFr (wV 0)) (wNil))))) (wNil))))) (wRet (wC (.bl false))) (wNext)) (wSeq (wFor (wRng2 (wCons (wC (.int 1)) (wCons (wCB gLen (wCons (wV 0) (wNil))) (wNil)))) (fun t ρ => some (ρ.set 1 (.val t))) (wSeq (wAsg (wFr (wTup (wCons (wFr (wBin gIx (wV 0) (wBin (gInt fSub) (wV 1) (wC (.int 1))))) (wCons (wFr (wBin gIx (wV 0) (wV 1))) (wNil))))) (unpT [2, 3])) (wSeq (wSet 4 (wFr (wOrV (wCall none (S_Pless) (wCons (wFr (wBin gIx (wV 2) (wC (.int 0)))) (wCons (wFr (wBin gIx (wV 3) (wC (.int 0)))) (wNil)))) (wAndV (wBin (gEq false) (wBin gIx (wV 2) (wC (.int 0))) (wBin gIx (wV 3) (wC (.int 0)))) (wCall none (S_Pless) (wCons (wFr (wBin gIx (wV 2) (wC (.int 1)))) (wCons (wFr (wBin gIx (wV 3) (wC (.int 1)))) (wNil)))))))) (wIfS (wNot (wTru (wV 4))) (wRet (wC (.bl false))) (wNext))))) (wRet (wC (.bl true)))))
def t_law : WS := wSeq (wFor (wRng1 (wCons (wC (.int 10)) (wNil))) (fun t ρ => some (ρ.set 1 (.val t))) (wSeq (wOwn 2 (wCall none (S_Ppen) (wCons (wFr (wV 0)) (wCons (wFr (wV 1)) (wNil))))) (wSeq (wSet 3 (wFr (wCall (some 0) (S_Pwho) (wCons (wV 2) (wCons (wFr (wBin gAdd (wC (.int 1)) (wCall (some 0) (S_Ptake) (wCons (wV 2) (wCons (wFr (wC (.int 6))) (wNil)))))) (wNil)))))) (wSeq (wIfS (tst (wBin (gBool true) (wCall none (S_is_who) (wCons (wFr (wCB gTuple (wCons (wV 3) (wNil)))) (wNil))) (wC (.bl true)))) (wRet (wC (.bl false))) (wNext)) (wSeq (wSet 4 (wFr (wCall (some 0) (S_Pbent) (wCons (wV 2) (wCons (wFr (wV 3)) (wNil)))))) (wSeq (wSet 5 (wFr (wRp (wV 4)))) (wSeq (wSet 6 (wFr (wCall none (S_is_who) (wCons (wFr (wV 4)) (wNil))))) (wIfS (wOr (wNot (wTru (wIsi "bool" (wV 6)))) (wOr (tst (wBin (gEq true) (wV 6) (wCall none (S_Pdue) (wCons (wFr (wV 4)) (wNil))))) (tst (wBin (gEq true) (wRp (wV 4)) (wV 5))))) (wRet (wC (.bl false))) (wNext))))))))) (wRet (wBin (gBool false) (wCall none (S_is_who) (wCons (wFr (wTup (wNil))) (wNil))) (wC (.bl false))))
end FW.k03
set_option Elab.async false
set_option linter.all false
set_option maxRecDepth 100000
set_option maxHeartbeats 4000000
namespace FW.k03
open PySem PySem.Spec PyProof.Rows L2
variable [Tabs]
theorem rd_is_tuple_from_to (as : List Slot) (Q : R → List Slot → Prop) (h : S_is_tuple_from_to as Q) : wFun none 3 3 t_is_tuple_from_to as Q := by
  obtain ⟨t, a, b, rfl, q⟩ := h
  unfold t_is_tuple_from_to
  refine fun_r rfl (by wp_walk) ?_
  refine rn_i ?_
  by_cases ht : ∃ ts, t = .tup ts
  · obtain ⟨ts, rfl⟩ := ht
    wp_walk using andV, ch2_def, show isT "tuple" (.tup ts) = true from rfl
    simp only [if_true]
    have e : tupN (.tup ts) a b = (decide (a ≤ ts.length) && decide ((ts.length : Int) ≤ b)) := rfl
    by_cases h1 : a ≤ (ts.length : Int)
    · rw [if_pos h1]
      rw [e, decide_eq_true h1] at q
      simpa [cLe] using q
    · rw [if_neg h1]
      rw [e, decide_eq_false h1] at q
      simpa using q
  · have hi : isT "tuple" t = false := by cases t <;> first | rfl | exact absurd ⟨_, rfl⟩ ht
    have hb : tupN t a b = false := by cases t <;> first | rfl | exact absurd ⟨_, rfl⟩ ht
    wp_walk using andV, hi
    simp only [Bool.false_eq_true, if_false]
    rw [hb] at q
    exact q
theorem risG_at : ∀ (ts : List T), risG ts = (List.range (ts.length - 1)).all fun i => ltG (ts.getD i .non) (ts.getD (i + 1) .non)
  | [] => rfl
  | [x] => rfl
  | x :: y :: r => by
    have ih := risG_at (y :: r)
    have e : (x :: y :: r).length - 1 = (y :: r).length - 1 + 1 := by simp
    rw [e, List.range_succ_eq_map, List.all_cons, List.all_map]
    show (ltG x y && risG (y :: r)) = _
    rw [ih]
    rfl
theorem rise_all {ts : List T} (hc : Cmp ts) {K : Bool → Ev → Prop} : ∀ (n i : Nat), i + n = ts.length - 1 → K ((List.range' i n).all fun i => ltG (ts.getD i .non) (ts.getD (i + 1) .non)) [.val (.tup ts)] →
    allW [none, some 0] (fun t ρ => some (ρ.set 0 (.val t))) (wBin gLtP (wBin gIx (wV 1) (wV 0)) (wBin gIx (wV 1) (wBin gAdd (wV 0) (wC (.int 1))))) K ((List.range' i n).map fun (j : Nat) => T.int (j : Int)) [.val (.tup ts)]
  | 0, i, _, k => by
    show allW _ _ _ _ [] _
    rw [allW_nil]; simpa using k
  | n + 1, i, h, k => by
    rw [List.range'_succ, List.map_cons, allW_cons, entE_n, entE_s, entE_0]
    have g1 : ts[i]? = some (ts.getD i .non) := by rw [List.getD_eq_getElem?_getD, List.getElem?_eq_getElem (by omega)]; rfl
    have g2 : ts[i + 1]? = some (ts.getD (i + 1) .non) := by rw [List.getD_eq_getElem?_getD, List.getElem?_eq_getElem (by omega)]; rfl
    have a1 : atI ts (i : Int) = some (ts.getD i .non) := atI_nat g1
    have a2 : atI ts ((i : Int) + 1) = some (ts.getD (i + 1) .non) := atI_nat (j := i + 1) g2
    have lt := hc _ (List.mem_of_getElem? g1) _ (List.mem_of_getElem? g2)
    wp_walk using a1, a2, lt, blR_val
    rw [List.range'_succ, List.all_cons] at k
    cases e : ltG (ts.getD i .non) (ts.getD (i + 1) .non) with
    | true => rw [e] at k; rw [if_pos rfl]; exact rise_all hc n (i + 1) (by omega) (by simpa using k)
    | false => rw [e] at k; simpa using k
theorem rd_is_rising (as : List Slot) (Q : R → List Slot → Prop) (h : S_is_rising as Q) : wFun none 1 1 t_is_rising as Q := by
  obtain ⟨ts, rfl, hl, hc, q⟩ := h
  unfold t_is_rising
  rw [risG_at] at q
  wp_walk using wAllG
  by_cases h0 : ts.length = 0
  · have hr : rngR1 [.val (.tup ts)] [.val (.int ((ts.length : Int) - 1))] = some [] := by
      show ((intR [.val (.tup ts)] (.val (.int ((ts.length : Int) - 1)))).bind fun n => if okRng n then some (rngT 0 n.toNat) else none) = _
      rw [intR_val]
      show (if okRng ((ts.length : Int) - 1) = true then some (rngT 0 ((ts.length : Int) - 1).toNat) else none) = _
      rw [if_pos (okRng_iff.mpr ⟨by omega, by omega⟩), h0]; rfl
    wp_walk using hr, allW_nil
    rw [h0] at q
    simpa using q
  · wp_walk using rng1_int (n := (ts.length : Int) - 1) (by omega) (by omega)
    rw [show ((ts.length : Int) - 1).toNat = ts.length - 1 by omega, rng_range]
    refine rise_all hc (ts.length - 1) 0 (by omega) ?_
    rw [← List.range_eq_range']
    exact q
theorem ix0 {x : T} {l : List T} : gIx (.tup (x :: l)) (.int 0) = some (.val x) := ixM (k := 0) rfl
theorem ix1 {x y : T} {l : List T} : gIx (.tup (x :: y :: l)) (.int 1) = some (.val y) := ixM (k := 1) rfl
theorem two_of {u : T} (h : tupN u 2 2 = true) : ∃ a b, u = .tup [a, b] := by
  cases u with
  | tup ts =>
    have h' : (decide ((2 : Int) ≤ ts.length) && decide ((ts.length : Int) ≤ 2)) = true := h
    rw [Bool.and_eq_true, decide_eq_true_eq, decide_eq_true_eq] at h'
    match ts, h' with
    | [a, b], _ => exact ⟨a, b, rfl⟩
    | [], h => simp at h
    | [_], h => simp at h
    | _ :: _ :: _ :: r, h => simp at h; omega
  | _ => cases h
theorem not_two {u : T} (h : tupN u 2 2 = false) : partB u = false := by
  cases u with
  | tup ts =>
    match ts with
    | [a, b] => cases h
    | [] => rfl
    | [_] => unfold partB; split <;> simp_all
    | _ :: _ :: _ :: r => unfold partB; split <;> simp_all
  | _ => rfl
theorem partB_two {a b : T} : partB (.tup [a, b]) = match a with | .str w => wordsL.contains w && nameB b | _ => false := by
  cases a <;> rfl
theorem rd_is_who_part (as : List Slot) (Q : R → List Slot → Prop) (h : S_is_who_part as Q) : wFun none 1 1 t_is_who_part as Q := by
  obtain ⟨u, rfl, hs, q⟩ := h
  unfold t_is_who_part
  refine fun_r rfl (by wp_walk) ?_
  refine rn_seq fun N hN => ?_
  wp_walk
  refine ⟨u, 2, 2, rfl, ?_⟩
  wp_walk using truB'
  cases ht : tupN u 2 2 with
  | false =>
    rw [if_pos (by rfl)]
    rw [not_two ht] at q
    exact q
  | true =>
    rw [if_neg (by decide)]
    refine hN _ (rn_i ?_)
    obtain ⟨a, b, rfl⟩ := two_of ht
    have hb := hs a b rfl
    rw [partB_two] at q
    by_cases ha : ∃ w, a = .str w
    · obtain ⟨w, rfl⟩ := ha
      wp_walk using andV, ix0, show isT "str" (.str w) = true from rfl, wGIn, show strOfT (.str w) = some w from rfl
      simp only [if_true]
      have e : [Str.ofString "group", Str.ofString "hand", Str.ofString "office"].contains w = wordsL.contains w := rfl
      rw [e]
      cases hw : wordsL.contains w with
      | false =>
        rw [if_neg (by decide)]
        simp only [hw, Bool.false_and] at q
        exact q
      | true =>
        rw [if_pos rfl]
        try wp_walk using ix1
        refine ⟨b, rfl, hb, ?_⟩
        simp only [hw, Bool.true_and] at q
        exact ⟨trivial, q⟩
    · have hi : isT "str" a = false := by cases a <;> first | rfl | exact absurd ⟨_, rfl⟩ ha
      wp_walk using andV, ix0, hi
      simp only [Bool.false_eq_true, if_false]
      cases a <;> first | exact q | exact absurd ⟨_, rfl⟩ ha
theorem parts_all {K : Bool → Ev → Prop} {ρ : Ev} : ∀ (ts : List T), (∀ u ∈ ts, ShP u) → K (ts.all partB) ρ →
    allW [none] (fun t ρ => some (ρ.set 0 (.val t))) (wCall none (S_is_who_part) (wCons (wFr (wV 0)) (wNil))) K ts ρ
  | [], _, k => by rw [allW_nil]; exact k
  | t :: ts, h, k => by
    rw [allW_cons, entE_n, entE_0]
    wp_walk
    refine ⟨t, rfl, h t List.mem_cons_self, ?_⟩
    wp_walk using blR_val
    rw [List.all_cons] at k
    cases e : partB t with
    | true => rw [e] at k; rw [if_pos rfl]; exact parts_all ts (fun u hu => h u (List.mem_cons_of_mem _ hu)) (by simpa using k)
    | false => rw [e] at k; simpa using k
theorem part_is {t : T} (h : partB t = true) : ∃ p : Str × Str, t = kpT p ∧ wordsL.contains p.1 = true ∧ nameS p.2 = true := by
  unfold partB at h
  split at h
  · rename_i w b
    rw [Bool.and_eq_true] at h
    cases b with
    | str x => exact ⟨(w, x), rfl, h.1, h.2⟩
    | _ => cases h.2
  · cases h
theorem ltG_kp {p q : Str × Str} : ltG (kpT p) (kpT q) = ltK [p.1, p.2] [q.1, q.2] := rfl
theorem cmp_parts {ts : List T} (h : ts.all partB = true) : Cmp ts := fun t ht u hu => by
  rw [List.all_eq_true] at h
  obtain ⟨p, rfl, _⟩ := part_is (h t ht)
  obtain ⟨q, rfl, _⟩ := part_is (h u hu)
  rfl
theorem rd_is_who (as : List Slot) (Q : R → List Slot → Prop) (h : S_is_who as Q) : wFun none 1 1 t_is_who as Q := by
  obtain ⟨t, rfl, hs, q⟩ := h
  unfold t_is_who
  refine fun_r rfl (by wp_walk) ?_
  refine rn_seq fun N hN => ?_
  wp_walk
  refine ⟨t, 1, 6, rfl, ?_⟩
  wp_walk using truB'
  by_cases ht : ∃ ts, t = .tup ts
  · obtain ⟨ts, rfl⟩ := ht
    obtain ⟨hl, hsh⟩ := hs ts rfl
    have e : tupN (.tup ts) 1 6 = (decide (1 ≤ ts.length) && decide (ts.length ≤ 6)) := by
      show (decide ((1 : Int) ≤ ts.length) && decide ((ts.length : Int) ≤ 6)) = _
      congr 1 <;> exact decide_eq_decide.mpr (by omega)
    have ew : whoB (.tup ts) = (tupN (.tup ts) 1 6 && ts.all partB && risG ts) := by rw [e]; rfl
    rw [ew] at q
    cases hn : tupN (.tup ts) 1 6 with
    | false => rw [if_pos (by rfl)]; rw [hn] at q; simpa using q
    | true =>
      rw [if_neg (by decide)]
      rw [hn] at q
      refine hN _ (rn_i ?_)
      wp_walk using andV, wAllG, itemsT
      refine parts_all ts hsh ?_
      wp_walk
      cases ha : ts.all partB with
      | false => rw [if_neg (by decide)]; rw [ha] at q; simpa using q
      | true =>
        rw [if_pos rfl]
        refine ⟨ts, rfl, hl, cmp_parts ha, ?_⟩
        wp_walk
        rw [ha] at q
        simpa using q
  · have hb : tupN t 1 6 = false := by cases t <;> first | rfl | exact absurd ⟨_, rfl⟩ ht
    have hw : whoB t = false := by cases t <;> first | rfl | exact absurd ⟨_, rfl⟩ ht
    rw [hb, if_pos (by rfl)]
    rw [hw] at q
    exact q
end FW.k03
set_option Elab.async false
set_option linter.all false
set_option maxRecDepth 100000
set_option maxHeartbeats 4000000
namespace FW.k03
open PySem PySem.Spec PyProof.Rows L2
variable [Tabs]
theorem out_pairs {ps : List (Str × Str)} {out : List (List Str)} (ho : SrtOf (ps.map fun p => [p.1, p.2]) out) (hp : ∀ p ∈ ps, p.1 ∈ wordsL ∧ NameT p.2) (hne : ps ≠ []) :
    ∃ qs : List (Str × Str), out.map tupK = qs.map kpT ∧ WhoR qs ∧ qs.length ≤ ps.length := by
  have key : ∀ k ∈ out, ∃ p ∈ ps, k = [p.1, p.2] := fun k hk => by
    obtain ⟨p, hp', e⟩ := List.mem_map.mp ((ho.mem k).mp hk)
    exact ⟨p, hp', e.symm⟩
  have hex : ∀ (l : List (List Str)), (∀ k ∈ l, ∃ p ∈ ps, k = [p.1, p.2]) → ∃ qs : List (Str × Str), l = qs.map (fun p => [p.1, p.2]) ∧ ∀ p ∈ qs, p ∈ ps := by
    intro l
    induction l with
    | nil => intro _; exact ⟨[], rfl, fun p hp => (List.not_mem_nil hp).elim⟩
    | cons k l ih =>
      intro hh
      obtain ⟨p, hp', rfl⟩ := hh k (.head _)
      obtain ⟨qs, rfl, hq⟩ := ih fun k hk => hh k (.tail _ hk)
      exact ⟨p :: qs, rfl, fun r hr => by
        rcases List.mem_cons.mp hr with rfl | hr
        · exact hp'
        · exact hq r hr⟩
  obtain ⟨qs, rfl, hq⟩ := hex out key
  have hlen : qs.length ≤ ps.length := by
    have h3 := nodup_sub (qs.map fun p => [p.1, p.2]) (ps.map fun p => [p.1, p.2]) ho.nodup fun x hx => (ho.mem x).mp hx
    simpa using h3
  have hpos : 1 ≤ qs.length := by
    cases ps with
    | nil => exact absurd rfl hne
    | cons p ps' =>
      have : [p.1, p.2] ∈ qs.map fun p => [p.1, p.2] := (ho.mem _).mpr (List.mem_map.mpr ⟨p, .head _, rfl⟩)
      have := List.length_pos_of_mem this
      rw [List.length_map] at this
      exact this
  refine ⟨qs, by rw [List.map_map]; rfl, ⟨hpos, fun p hp' => hp p (hq p hp'), ?_⟩, hlen⟩
  have := ho.rise
  rw [List.pairwise_map] at this
  exact this
theorem rd_Pwho (as : List Slot) (Q : R → List Slot → Prop) (h : S_Pwho as Q) : wFun (some 0) 2 6 t_Pwho as Q := by
  obtain ⟨a, b, m, rfl, h1, h2, q⟩ := h
  unfold t_Pwho
  wp_walk
  refine ⟨a, b, rfl, fun base a1 b1 hb => ?_⟩
  wp_walk using rng1_int (n := m) (by omega) (by omega)
  rw [rng_range]
  refine pwho_for m.toNat 0 a1 b1 base [] _ _ hb (fun p hp => (List.not_mem_nil hp).elim) (by simp; omega) fun a2 b2 base' ps s4 s5 hp hl => ?_
  rw [List.length_nil, Nat.zero_add] at hl
  wp_walk using srtR_kp
  refine ⟨by omega, fun out ho => ?_⟩
  obtain ⟨qs, e, hw, hlen⟩ := out_pairs ho hp (fun z => by rw [z] at hl; simp at hl; omega)
  rw [e]
  exact q qs _ _ hw (by omega)
theorem kp_pa {w x : Str} (hw : TxOk w 10) (hx : TxOk x 20) : PaT (.tup [.str w, .str x]) where
  sh := fun a b e => by cases e; exact fun y e => by cases e; have := hx.len; omega
  «short» := by
    show PyData.leavesShortAll 200 [.str w, .str x] = true
    have h1 : PyData.leavesShort 200 (.str w) = true := by simp only [PyData.leavesShort, List.all_eq_true, decide_eq_true_eq]; exact fun c h => by have := hw.ch c h; omega
    have h2 : PyData.leavesShort 200 (.str x) = true := by simp only [PyData.leavesShort, List.all_eq_true, decide_eq_true_eq]; exact fun c h => by have := hx.ch c h; omega
    simp only [PyData.leavesShortAll, h1, h2]; rfl
  weight := by
    show w.length + 1 + (x.length + 1 + 0) ≤ 400
    have := hw.len; have := hx.len; omega
  show_ := rfl
  depth := by show max 0 (max 0 0) + 1 ≤ 20; omega
  kind := fun z => by cases z
theorem tw {w : Str} (h : w ∈ wordsL) : TxOk w 10 := by
  have : ∀ w ∈ wordsL, w.length ≤ 10 ∧ ∀ c ∈ w.cps.toList, c ≤ 126 := by decide +kernel
  exact ⟨(this w h).1, (this w h).2⟩
theorem tx_lit {x : Str} {n : Nat} (h : x.length ≤ n ∧ ∀ c ∈ x.cps.toList, c ≤ 126) : TxOk x n := ⟨h.1, h.2⟩
theorem nameT_tx {x : Str} (h : NameT x) : TxOk x 6 := .low h.hi h.low
theorem pa_of {t : T} (h1 : ShP t) (h2 : (dT t).leavesShort 200 = true) (h3 : (dT t).weight ≤ 400) (h4 : (dT t).showable = true) (h5 : (dT t).depth ≤ 20) (h6 : (dT t).hasDict = true → noL t = true) : PaT t := ⟨h1, h2, h3, h4, h5, h6⟩
theorem ls_str {x : Str} {n : Nat} (h : TxOk x n) : PyData.leavesShort 200 (.str x) = true := by
  simp only [PyData.leavesShort, List.all_eq_true, decide_eq_true_eq]; exact fun c hc => by have := h.ch c hc; omega
def prtL (w x xb x1 wx : Str) : List T := [.tup [.str (Str.ofString "Group"), .str x], .tup [.str (Str.ofString "hands"), .str x], .tup [.str (Str.ofString ""), .str x], .tup [.non, .str x], .tup [.int 7, .str x], .tup [.str w, .str (Str.ofString "")], .tup [.str w, .str xb]]
  ++ [.tup [.str w, .str x1], .tup [.str w, .non], .tup [.str w, .tup [.str x]], .tup [.str x, .str w], .tup [.str w], .tup [.str w, .str x, .str x], .tup []]
  ++ [.lst [.str w, .str x], .str wx, .non, .bl true, .int 5, .tup [.lst [.str (Str.ofString "hand")], .str x], .tup [.dct [], .str x], .tup [.str (Str.ofString "office"), .str x]]
theorem prt_ok {w x xb x1 wx : Str} (hw : TxOk w 10) (hx : TxOk x 6) (hb : TxOk xb 20) (h1 : TxOk x1 20) (hwx : TxOk wx 20) : ∀ t ∈ prtL w x xb x1 wx, PaT t := by
  intro t ht
  have lw := ls_str hw
  have lx := ls_str hx
  have lb := ls_str hb
  have l1 := ls_str h1
  have lwx := ls_str hwx
  have nw := hw.len
  have nx := hx.len
  have nb := hb.len
  have n1 := h1.len
  have nwx := hwx.len
  have cw : w.cps.size = w.length := rfl
  have cx : x.cps.size = x.length := rfl
  have cb : xb.cps.size = xb.length := rfl
  have c1 : x1.cps.size = x1.length := rfl
  have cwx : wx.cps.size = wx.length := rfl
  have k1 : (Str.ofString "Group").cps.size = 5 := by decide +kernel
  have k2 : (Str.ofString "hands").cps.size = 5 := by decide +kernel
  have k3 : (Str.ofString "").cps.size = 0 := by decide +kernel
  have k4 : (Str.ofString "hand").cps.size = 4 := by decide +kernel
  have k5 : (Str.ofString "office").cps.size = 6 := by decide +kernel
  have q1 : PyData.leavesShort 200 (.str (Str.ofString "Group")) = true := by decide +kernel
  have q2 : PyData.leavesShort 200 (.str (Str.ofString "hands")) = true := by decide +kernel
  have q3 : PyData.leavesShort 200 (.str (Str.ofString "")) = true := by decide +kernel
  have q4 : PyData.leavesShort 200 (.str (Str.ofString "hand")) = true := by decide +kernel
  have q5 : PyData.leavesShort 200 (.str (Str.ofString "office")) = true := by decide +kernel
  have q6 : PyData.leavesShort 200 (.int 7) = true := by decide +kernel
  have q7 : PyData.leavesShort 200 (.int 5) = true := by decide +kernel
  have q8 : PyData.showable (.int 7) = true := by decide +kernel
  have q9 : PyData.showable (.int 5) = true := by decide +kernel
  have k6 : PyData.weight (.int 7) = 3 := by decide +kernel
  have k7 : PyData.weight (.int 5) = 3 := by decide +kernel
  have sh : ∀ y : Str, y.length ≤ 20 → ShS (.str y) := fun y hy z e => by cases e; omega
  have se : ShS (.str (Str.ofString "")) := fun z e => by cases e; decide +kernel
  have sn : ∀ {u : T}, (∀ z, u ≠ .str z) → ShS u := fun h z e => absurd e (h z)
  simp only [prtL, List.cons_append, List.nil_append, List.mem_cons, List.not_mem_nil, or_false] at ht
  rcases ht with rfl | rfl | rfl | rfl | rfl | rfl | rfl | rfl | rfl | rfl | rfl | rfl | rfl | rfl | rfl | rfl | rfl | rfl | rfl | rfl | rfl | rfl
  all_goals
    refine pa_of (fun a b e => ?_) ?_ ?_ ?_ ?_ ?_
    · first
        | (cases e; done)
        | (cases e; exact sh _ (by omega))
        | (cases e; exact se)
        | (cases e; exact sn (fun z => by intro h; cases h))
    · simp only [dT, dTs, dKv, PyData.leavesShort, PyData.leavesShortAll, PyData.leavesShortKv] at * <;> simp_all
    · simp only [dT, dTs, dKv, PyData.weight, PyData.weightAll, PyData.weightKv] at * <;> omega
    · simp only [dT, dTs, dKv, PyData.showable, PyData.showableAll, PyData.showableKv] at * <;> simp_all
    · simp only [dT, dTs, dKv, PyData.depth, PyData.depthAll, PyData.depthKv] <;> omega
    · simp [dT, dTs, dKv, PyData.hasDict, PyData.hasDictAll, noL, noLs, noLk]
end FW.k03
set_option Elab.async false
set_option linter.all false
set_option maxRecDepth 100000
set_option maxHeartbeats 4000000
namespace FW.k03
open PySem PySem.Spec PyProof.Rows L2
variable [Tabs]
theorem szl7 : ((0 + 1 + 1 + 1 + 1 + 1 + 1 + 1 ≤ sizeLine) = True) := by rw [sizeLine_eq]; simp
theorem szl8 : ((0 + 1 + 1 + 1 + 1 + 1 + 1 + 1 + 1 ≤ sizeLine) = True) := by rw [sizeLine_eq]; simp
def pL1 (w x : Str) : List T := [.tup [.str (Str.ofString "Group"), .str x], .tup [.str (Str.ofString "hands"), .str x], .tup [.str (Str.ofString ""), .str x], .tup [.non, .str x], .tup [.int 7, .str x], .tup [.str w, .str (Str.ofString "")], .tup [.str w, .str (x ++ Str.ofString "bcdefg")]]
def pL2 (w x : Str) : List T := pL1 w x ++ [.tup [.str w, .str (x ++ Str.ofString "1")], .tup [.str w, .non], .tup [.str w, .tup [.str x]], .tup [.str x, .str w], .tup [.str w], .tup [.str w, .str x, .str x], .tup []]
def pL3 (w x : Str) : List T := pL2 w x ++ [.lst [.str w, .str x], .str (w ++ x), .non, .bl true, .int 5, .tup [.lst [.str (Str.ofString "hand")], .str x], .tup [.dct [], .str x], .tup [.str (Str.ofString "office"), .str x]]
theorem pL3_eq {w x : Str} : pL3 w x = prtL w x (x ++ Str.ofString "bcdefg") (x ++ Str.ofString "1") (w ++ x) := rfl
theorem unp_kp {p : Str × Str} {ρ : Ev} {i j : Nat} : unpT [i, j] (kpT p) ρ = some ((ρ.set i (.val (.str p.1))).set j (.val (.str p.2))) := rfl
theorem ad2 {w x : Str} : gAdd (.lst (pL1 w x)) (.lst [.tup [.str w, .str (x ++ Str.ofString "1")], .tup [.str w, .non], .tup [.str w, .tup [.str x]], .tup [.str x, .str w], .tup [.str w], .tup [.str w, .str x, .str x], .tup []]) = some (.own (pL2 w x)) := addLs (by show 7 + 7 ≤ 1000; decide)
theorem ad3 {w x : Str} : gAdd (.lst (pL2 w x)) (.lst [.lst [.str w, .str x], .str (w ++ x), .non, .bl true, .int 5, .tup [.lst [.str (Str.ofString "hand")], .str x], .tup [.dct [], .str x], .tup [.str (Str.ofString "office"), .str x]]) = some (.own (pL3 w x)) := addLs (by show 14 + 8 ≤ 1000; decide)
theorem rd_Ppart (as : List Slot) (Q : R → List Slot → Prop) (h : S_Ppart as Q) : wFun (some 0) 2 5 t_Ppart as Q := by
  obtain ⟨a, b, ⟨w, x⟩, rfl, hw, hx, q⟩ := h
  have hw' : TxOk w 10 := tw hw
  have hx' : TxOk x 6 := nameT_tx hx
  have t6 : TxOk (Str.ofString "bcdefg") 6 := tx_lit (by decide +kernel)
  have t1 : TxOk (Str.ofString "1") 1 := tx_lit (by decide +kernel)
  have s1 : gAdd (.str x) (.str (Str.ofString "bcdefg")) = some (.val (.str (x ++ Str.ofString "bcdefg"))) := addS (by have := szl; have := hx'.len; have := t6.len; omega)
  have s2 : gAdd (.str x) (.str (Str.ofString "1")) = some (.val (.str (x ++ Str.ofString "1"))) := addS (by have := szl; have := hx'.len; have := t1.len; omega)
  have s3 : gAdd (.str w) (.str x) = some (.val (.str (w ++ x))) := addS (by have := szl; have := hx'.len; have := hw'.len; omega)
  unfold t_Ppart
  refine fun_r rfl (by wp_walk) ?_
  refine rn_seq fun N hN => ?_
  wp_walk using unp_kp
  refine hN _ ?_
  clear hN N
  refine rn_seq fun N hN => ?_
  wp_walk using s1, szl7
  refine hN _ ?_
  clear hN N
  generalize hL : (.lst _ : T) = L
  have hL' : L = .lst (pL1 w x) := hL.symm
  subst hL'
  clear hL
  refine rn_seq fun N hN => ?_
  wp_walk using s2, szl7, ad2
  refine hN _ ?_
  clear hN N
  refine rn_seq fun N hN => ?_
  wp_walk using s3, szl8, wD0, ad3
  refine hN _ (rn_i ?_)
  clear hN N
  wp_walk
  refine ⟨a, b, 22, rfl, by decide, by decide, fun r a1 b1 r0 r1 => ?_⟩
  obtain ⟨t, ht, e⟩ := at_get (l := pL3 w x) (k := r) r0 (by show r < ((pL3 w x).length : Int); exact r1)
  wp_walk using e
  rw [pL3_eq] at ht
  exact q t _ _ (prt_ok hw' hx' ((hx'.app t6).mono (by decide)) ((hx'.app t1).mono (by decide)) ((hw'.app hx').mono (by decide)) t ht)
theorem kp_of {p : Str × Str} (h : p.1 ∈ wordsL ∧ NameT p.2) : PaT (kpT p) := kp_pa (tw h.1) ((nameT_tx h.2).mono (by decide))
theorem bw_tup {ts : List T} (hl : ts.length ≤ 30) (h : ∀ t ∈ ts, PaT t) (k : (∀ t ∈ ts, noL t = true) ∨ (∀ t ∈ ts, (dT t).hasDict = false)) : BwT (.tup ts) where
  rp := (rp_seq (n := 400) (by omega) (fun t ht => (h t ht).short) (fun t ht => (h t ht).weight) (fun t ht => (h t ht).show_) (fun t ht => by have := (h t ht).depth; omega)).1 k
  sh := fun us e => by cases e; exact ⟨by omega, fun u hu => (h u hu).sh⟩
theorem bw_ps {ps : List (Str × Str)} (hl : ps.length ≤ 30) (h : ∀ p ∈ ps, p.1 ∈ wordsL ∧ NameT p.2) : BwT (.tup (ps.map kpT)) := by
  refine bw_tup (by rw [List.length_map]; exact hl) (fun t ht => ?_) (.inl fun t ht => ?_)
  · obtain ⟨x, hx, rfl⟩ := List.mem_map.mp ht
    exact kp_of (h x hx)
  · obtain ⟨x, hx, rfl⟩ := List.mem_map.mp ht
    rfl
theorem bw_lst {ps : List (Str × Str)} (hl : ps.length ≤ 30) (h : ∀ p ∈ ps, p.1 ∈ wordsL ∧ NameT p.2) : BwT (.lst (ps.map kpT)) where
  rp := (rp_seq (n := 400) (by rw [List.length_map]; omega) (fun t ht => by obtain ⟨x, hx, rfl⟩ := List.mem_map.mp ht; exact (kp_of (h x hx)).short) (fun t ht => by obtain ⟨x, hx, rfl⟩ := List.mem_map.mp ht; exact (kp_of (h x hx)).weight)
    (fun t ht => by obtain ⟨x, hx, rfl⟩ := List.mem_map.mp ht; exact (kp_of (h x hx)).show_) (fun t ht => by obtain ⟨x, hx, rfl⟩ := List.mem_map.mp ht; have := (kp_of (h x hx)).depth; omega)).2 fun t ht => by obtain ⟨x, hx, rfl⟩ := List.mem_map.mp ht; rfl
  sh := fun us e => by cases e
def wodd : List T := [.tup [], .non, .str (Str.ofString "ann"), .int 7, .bl true, .dct [], .lst [], .tup [.str (Str.ofString "hand"), .str (Str.ofString "ann")], .tup [.tup [.str (Str.ofString "hand"), .str (Str.ofString "ann")]]]
theorem wodd_ok : ∀ t ∈ wodd, BwT t := by
  have sa : ShS (.str (Str.ofString "ann")) := fun z e => by cases e; decide +kernel
  intro t ht
  simp only [wodd, List.mem_cons, List.not_mem_nil, or_false] at ht
  rcases ht with rfl | rfl | rfl | rfl | rfl | rfl | rfl | rfl | rfl
  all_goals
    refine ⟨⟨by decide +kernel, by decide +kernel, by decide +kernel, by decide +kernel, by decide +kernel⟩, fun us e => ?_⟩
    first
      | (cases e; done)
      | (cases e
         refine ⟨by decide, fun u hu => ?_⟩
         simp only [List.not_mem_nil] at hu)
      | (cases e
         refine ⟨by decide, fun u hu => ?_⟩
         simp only [List.mem_cons, List.not_mem_nil, or_false] at hu
         subst hu
         intro a b e
         cases e
         exact sa)
      | (cases e
         refine ⟨by decide, fun u hu => ?_⟩
         simp only [List.mem_cons, List.not_mem_nil, or_false] at hu
         rcases hu with rfl | rfl <;> (intro a b e; cases e))
theorem slP {xs : List (Str × Str)} {lo hi : Option Int} : gSl2 (.lst (xs.map kpT)) lo hi = some (.own ((cutT xs lo hi).map kpT)) := by
  show some (R.own (cutT (xs.map kpT) lo hi)) = _
  rw [cut_map]
theorem addP {xs ys : List (Str × Str)} (h : xs.length + ys.length ≤ 1000) : gAdd (.lst (xs.map kpT)) (.lst (ys.map kpT)) = some (.own ((xs ++ ys).map kpT)) := by
  rw [addLs (by rw [List.length_map, List.length_map]; exact h), List.map_append]
theorem tuP {xs : List T} : gTuple [.lst xs] = some (.val (.tup xs)) := rfl
theorem szl9' : ((0 + 1 + 1 + 1 + 1 + 1 + 1 + 1 + 1 + 1 ≤ sizeLine) = True) := by rw [sizeLine_eq]; simp
theorem rd_Pbent (as : List Slot) (Q : R → List Slot → Prop) (h : S_Pbent as Q) : wFun (some 0) 2 4 t_Pbent as Q := by
  obtain ⟨a, b, xs, rfl, hw, hl, q, q'⟩ := h
  have hn := hw.all
  have hlo := hw.lo
  unfold t_Pbent
  have hrev : (xs.map kpT).reverse = xs.reverse.map kpT := by rw [List.map_reverse]
  refine fun_r rfl (by wp_walk) ?_
  refine rn_seq fun N hN => ?_
  wp_walk
  refine ⟨a, b, 10, rfl, by decide, by decide, fun way a1 b1 w0 w1 => ?_⟩
  wp_walk
  refine hN _ ?_
  clear hN N
  refine rn_seq fun N hN => ?_
  wp_walk
  refine ⟨a1, b1, (xs.length : Int), rfl, by omega, by omega, fun at_ a2 b2 t0 t1 => ?_⟩
  wp_walk
  refine hN _ ?_
  clear hN N
  have sub : ∀ (ys : List (Str × Str)), (∀ y ∈ ys, y ∈ xs) → ys.length ≤ 30 → Q (.val (.tup (ys.map kpT))) [.own (pn a2 b2), .val (.lst (xs.map kpT))] := fun ys hy hl => q _ _ _ (bw_ps hl fun y h => hn y (hy y h))
  refine rn_seq fun N hN => ?_
  wp_walk using eqI, lstT
  split
  · wp_walk using hrev, tuP
    exact sub _ (fun y hy => List.mem_reverse.mp hy) (by rw [List.length_reverse]; omega)
  refine hN _ ?_
  clear hN N
  refine rn_seq fun N hN => ?_
  wp_walk using eqI, wSl2, slP
  split
  · have c1 := cut_len (xs := xs) (lo := none) (hi := some at_)
    have c3 := cut_len (xs := xs) (lo := some at_) (hi := none)
    wp_walk using addP (xs := cutT xs (some at_) none) (ys := cutT xs none (some at_)) (by omega), tuP
    refine sub _ (fun y hy => ?_) (by rw [List.length_append]; omega)
    rcases List.mem_append.mp hy with hy | hy
    · exact cut_mem hy
    · exact cut_mem hy
  refine hN _ ?_
  clear hN N
  refine rn_seq fun N hN => ?_
  wp_walk using eqI, wSl2, slP
  split
  · have c1 := cut_len (xs := xs) (lo := none) (hi := some (at_ + 1))
    have c3 := cut_len (xs := xs) (lo := some at_) (hi := none)
    wp_walk using addP (xs := cutT xs none (some (at_ + 1))) (ys := cutT xs (some at_) none) (by omega), tuP
    refine sub _ (fun y hy => ?_) (by rw [List.length_append]; omega)
    rcases List.mem_append.mp hy with hy | hy
    · exact cut_mem hy
    · exact cut_mem hy
  refine hN _ ?_
  clear hN N
  refine rn_seq fun N hN => ?_
  obtain ⟨p, hp, ep⟩ := at_get (l := xs) (k := at_) t0 t1
  have ep' : atI (xs.map kpT) at_ = some (kpT p) := by
    have hk : at_.toNat < xs.length := by omega
    have e1 : xs[at_.toNat]? = some xs[at_.toNat] := List.getElem?_eq_getElem hk
    have e2 := atI_nat e1
    rw [show ((at_.toNat : Nat) : Int) = at_ by omega, ep] at e2
    have e3 : (xs.map kpT)[at_.toNat]? = some (kpT p) := by rw [List.getElem?_map, e1]; cases e2; rfl
    have e4 := atI_nat e3
    rwa [show ((at_.toNat : Nat) : Int) = at_ by omega] at e4
  wp_walk using wSl2, slP
  split
  · wp_walk using ep'
    refine ⟨a2, b2, p, rfl, (hn p hp).1, (hn p hp).2, fun t a3 b3 ht => ?_⟩
    have c1 := cut_len (xs := xs) (lo := none) (hi := some at_)
    have c3 := cut_len (xs := xs) (lo := some (at_ + 1)) (hi := none)
    wp_walk using addLs (xs := (cutT xs none (some at_)).map kpT) (ys := [t]) (by rw [List.length_map]; simp; omega), slP, addLs (xs := (cutT xs none (some at_)).map kpT ++ [t]) (ys := (cutT xs (some (at_ + 1)) none).map kpT) (by rw [List.length_append, List.length_map, List.length_map]; simp; omega), tuP
    have mem : ∀ u ∈ (cutT xs none (some at_)).map kpT ++ [t] ++ (cutT xs (some (at_ + 1)) none).map kpT, u = t ∨ ∃ x ∈ xs, u = kpT x := by
      intro u hu
      rcases List.mem_append.mp hu with hu | hu
      · rcases List.mem_append.mp hu with hu | hu
        · obtain ⟨x, hx, rfl⟩ := List.mem_map.mp hu
          exact .inr ⟨x, cut_mem hx, rfl⟩
        · exact .inl (List.mem_singleton.mp hu)
      · obtain ⟨x, hx, rfl⟩ := List.mem_map.mp hu
        exact .inr ⟨x, cut_mem hx, rfl⟩
    refine q _ _ _ (bw_tup (by rw [List.length_append, List.length_append, List.length_map, List.length_map]; simp; omega) (fun u hu => ?_) ?_)
    · rcases mem u hu with rfl | ⟨x, hx, rfl⟩
      · exact ht
      · exact kp_of (hn x hx)
    · cases hd : (dT t).hasDict with
      | true =>
        refine .inl fun u hu => ?_
        rcases mem u hu with rfl | ⟨x, hx, rfl⟩
        · exact ht.kind hd
        · rfl
      | false =>
        refine .inr fun u hu => ?_
        rcases mem u hu with rfl | ⟨x, hx, rfl⟩
        · exact hd
        · rfl
  refine hN _ ?_
  clear hN N
  refine rn_seq fun N hN => ?_
  wp_walk using eqI
  split
  · refine ⟨a2, b2, 6, rfl, by decide, by decide, fun r a3 b3 r0 r1 => ?_⟩
    wp_walk
    refine ⟨a3, b3, 7 + r, rfl, by omega, by omega, fun ps a4 b4 hps hpl => ?_⟩
    wp_walk using tuP
    exact q _ _ _ (bw_ps (by omega) hps.all)
  refine hN _ ?_
  clear hN N
  refine rn_seq fun N hN => ?_
  wp_walk using eqI
  split
  · wp_walk using show gList [.lst (xs.map kpT)] = some (.own (xs.map kpT)) from rfl
    exact q' _ _ _ (bw_lst (by omega) hn)
  refine hN _ ?_
  clear hN N
  refine rn_seq fun N hN => ?_
  wp_walk using eqI
  split
  · wp_walk using wD0, szl9'
    refine ⟨a2, b2, 9, rfl, by decide, by decide, fun r a3 b3 r0 r1 => ?_⟩
    obtain ⟨t, ht, e⟩ := at_get (l := wodd) (k := r) r0 (by show r < (wodd.length : Int); exact r1)
    unfold wodd at e
    wp_walk using e
    exact q t _ _ (wodd_ok t ht)
  refine hN _ (rn_i ?_)
  wp_walk using tuP
  exact sub xs (fun y hy => hy) (by omega)
end FW.k03
set_option Elab.async false
set_option linter.all false
set_option maxRecDepth 100000
set_option maxHeartbeats 4000000
namespace FW.k03
open PySem PySem.Spec PyProof.Rows L2
variable [Tabs]
theorem in_words {w : Str} : gIn false (.str w) (.tup [.str (Str.ofString "group"), .str (Str.ofString "hand"), .str (Str.ofString "office")]) = some (.val (.bl (wordsL.contains w))) := by
  have := inT (d := w) (ds := wordsL) (b := false)
  have e : (.tup [.str (Str.ofString "group"), .str (Str.ofString "hand"), .str (Str.ofString "office")] : T) = .tup (wordsL.map T.str) := rfl
  rw [e, this]
  have e2 : (wordsL.any fun e => e == w) = wordsL.contains w := by
    rw [List.contains_eq_any_beq]
    congr 1
    funext x
    exact Bool.beq_comm
  rw [e2]; simp
theorem rd_Pis_part (as : List Slot) (Q : R → List Slot → Prop) (h : S_Pis_part as Q) : wFun none 1 1 t_Pis_part as Q := by
  obtain ⟨u, rfl, hs, q⟩ := h
  unfold t_Pis_part
  refine fun_r rfl (by wp_walk) ?_
  refine rn_seq fun N hN => ?_
  by_cases ht : ∃ ts, u = .tup ts
  · obtain ⟨ts, rfl⟩ := ht
    wp_walk using show isT "tuple" (.tup ts) = true from rfl, truB', eqI
    simp only [Bool.not_true, Bool.false_eq_true, if_false]
    by_cases h2 : ts.length = 2
    · match ts, h2 with
      | [a, b], _ =>
        have hb := hs a b rfl
        rw [partB_two] at q
        rw [if_neg (by simp)]
        by_cases ha : ∃ w, a = .str w
        · obtain ⟨w, rfl⟩ := ha
          wp_walk using ix0, show isT "str" (.str w) = true from rfl, truB'
          simp only [Bool.not_true, Bool.false_eq_true, if_false]
          refine hN _ (rn_i ?_)
          wp_walk using andV, ix0, ix1, in_words
          cases hw : wordsL.contains w with
          | false =>
            rw [if_neg (by decide)]
            simp only [hw, Bool.false_and] at q
            exact q
          | true =>
            rw [if_pos rfl]
            refine ⟨b, rfl, hb, ?_⟩
            simp only [hw, Bool.true_and] at q
            exact ⟨trivial, q⟩
        · have hi : isT "str" a = false := by cases a <;> first | rfl | exact absurd ⟨_, rfl⟩ ha
          wp_walk using ix0, hi, truB'
          simp only [Bool.not_false, if_true]
          cases a <;> first | exact q | exact absurd ⟨_, rfl⟩ ha
    · rw [if_pos (by simp; omega)]
      simp only [if_true]
      have : partB (.tup ts) = false := by
        match ts, h2 with
        | [], _ => rfl
        | [_], _ => unfold partB; split <;> simp_all
        | [_, _], h => exact absurd rfl h
        | _ :: _ :: _ :: _, _ => unfold partB; split <;> simp_all
      rw [this] at q
      exact q
  · have hi : isT "tuple" u = false := by cases u <;> first | rfl | exact absurd ⟨_, rfl⟩ ht
    have hb : partB u = false := by cases u <;> first | rfl | exact absurd ⟨_, rfl⟩ ht
    wp_walk using hi, truB'
    simp only [Bool.not_false, if_true]
    rw [hb] at q
    exact q
theorem isparts_comp {K : List T → Ev → Prop} {ρ : Ev} : ∀ (ts : List T) (acc : List Bool), (∀ u ∈ ts, ShP u) → acc.length + ts.length ≤ 500 → K ((acc ++ ts.map partB).map T.bl) ρ →
    compW [none] (fun t ρ => some (ρ.set 0 (.val t))) (wTrue) (wFr (wCall none (S_Pis_part) (wCons (wFr (wV 0)) (wNil)))) K ts (acc.map T.bl) ρ
  | [], acc, _, _, k => by rw [comp_nil]; simpa using k
  | t :: ts, acc, h, hl, k => by
    rw [List.length_cons] at hl
    rw [comp_cons, entE_n, entE_0]
    wp_walk
    refine ⟨t, rfl, h t List.mem_cons_self, ?_⟩
    wp_walk
    refine ⟨by have := szl; omega, ?_⟩
    have ea : acc.map T.bl ++ [T.bl (partB t)] = (acc ++ [partB t]).map T.bl := by simp
    rw [ea]
    refine isparts_comp ts _ (fun u hu => h u (List.mem_cons_of_mem _ hu)) (by rw [List.length_append]; simp; omega) ?_
    rw [List.append_assoc]
    exact k
theorem word_name {w : Str} (h : wordsL.contains w = true) : nameS w = true := by
  have : ∀ w ∈ wordsL, nameS w = true := by decide +kernel
  exact this w (List.contains_iff_mem.mp h)
theorem ltK2 {a b c d : Str} : ltK [a, b] [c, d] = (ltS a c || (a == c && ltS b d)) := by
  unfold ltK
  by_cases h : a = c
  · subst h
    rw [if_pos rfl, ltS_irr]
    unfold ltK
    by_cases h2 : b = d
    · subst h2
      rw [if_pos rfl, ltS_irr]
      simp [ltK]
    · rw [if_neg h2]; simp
  · rw [if_neg h, beq_false_of_ne h]; simp
def dueBody : WS := wSeq (wAsg (wFr (wTup (wCons (wFr (wBin gIx (wV 0) (wBin (gInt fSub) (wV 1) (wC (.int 1))))) (wCons (wFr (wBin gIx (wV 0) (wV 1))) (wNil))))) (unpT [2, 3])) (wSeq (wSet 4 (wFr (wOrV (wCall none (S_Pless) (wCons (wFr (wBin gIx (wV 2) (wC (.int 0)))) (wCons (wFr (wBin gIx (wV 3) (wC (.int 0)))) (wNil)))) (wAndV (wBin (gEq false) (wBin gIx (wV 2) (wC (.int 0))) (wBin gIx (wV 3) (wC (.int 0)))) (wCall none (S_Pless) (wCons (wFr (wBin gIx (wV 2) (wC (.int 1)))) (wCons (wFr (wBin gIx (wV 3) (wC (.int 1)))) (wNil)))))))) (wIfS (wNot (wTru (wV 4))) (wRet (wC (.bl false))) (wNext)))
theorem kp0 {p : Str × Str} : gIx (kpT p) (.int 0) = some (.val (.str p.1)) := ixM (k := 0) rfl
theorem kp1 {p : Str × Str} : gIx (kpT p) (.int 1) = some (.val (.str p.2)) := ixM (k := 1) rfl
theorem due_for {ts : List T} (ha : ts.all partB = true) {D : WD} : ∀ (n i : Nat) (s1 s2 s3 s4 : Slot), 1 ≤ i → i + n = max 1 ts.length →
    (∀ s1 s2 s3 s4, ((List.range' i n).all fun k => ltG (ts.getD (k - 1) .non) (ts.getD k .non)) = false → D.rt (.val (.bl false)) [.val (.tup ts), s1, s2, s3, s4]) →
    (∀ s1 s2 s3 s4, ((List.range' i n).all fun k => ltG (ts.getD (k - 1) .non) (ts.getD k .non)) = true → D.nx [.val (.tup ts), s1, s2, s3, s4]) →
    forW (fun t ρ => some (ρ.set 1 (.val t))) dueBody D ((List.range' i n).map fun (j : Nat) => T.int (j : Int)) [.val (.tup ts), s1, s2, s3, s4]
  | 0, i, s1, s2, s3, s4, _, _, _, k2 => by
    show forW _ _ _ [] _
    rw [for_nil]; exact k2 _ _ _ _ rfl
  | n + 1, i, s1, s2, s3, s4, hi, h, k1, k2 => by
    rw [List.range'_succ] at k1 k2
    rw [List.range'_succ, List.map_cons, for_cons]
    have rest := due_for ha (D := D) n (i + 1)
    generalize hW : forW (fun t ρ => some (ρ.set 1 (.val t))) dueBody D ((List.range' (i + 1) n).map fun (j : Nat) => T.int (j : Int)) = W at rest ⊢
    have g1 : ts[i - 1]? = some (ts.getD (i - 1) .non) := by rw [List.getD_eq_getElem?_getD, List.getElem?_eq_getElem (by omega)]; rfl
    have g2 : ts[i]? = some (ts.getD i .non) := by rw [List.getD_eq_getElem?_getD, List.getElem?_eq_getElem (by omega)]; rfl
    have a1 : atI ts ((i : Int) - 1) = some (ts.getD (i - 1) .non) := by
      have := atI_nat (j := i - 1) g1
      rwa [show ((i - 1 : Nat) : Int) = (i : Int) - 1 by omega] at this
    have a2 : atI ts (i : Int) = some (ts.getD i .non) := atI_nat g2
    rw [List.all_eq_true] at ha
    obtain ⟨p, ep, p1, p2⟩ := part_is (ha _ (List.mem_of_getElem? g1))
    obtain ⟨q, eq, q1, q2⟩ := part_is (ha _ (List.mem_of_getElem? g2))
    rw [List.all_cons, ep, eq, ltG_kp, ltK2] at k1 k2
    rw [ep] at a1
    rw [eq] at a2
    unfold dueBody
    wp_walk using a1, a2, unp2, kp0, kp1, orV, andV, strEq
    refine ⟨p.1, q.1, rfl, word_name p1, word_name q1, ?_⟩
    wp_walk
    cases e1 : ltS p.1 q.1 with
    | true =>
      simp only [if_true]
      wp_walk using truB'
      simp only [Bool.not_true, Bool.false_eq_true, if_false]
      rw [e1] at k1 k2
      exact rest _ _ _ _ (by omega) (by omega) (fun s1 s2 s3 s4 hz => k1 _ _ _ _ (by simpa using hz)) (fun s1 s2 s3 s4 hz => k2 _ _ _ _ (by simpa using hz))
    | false =>
      rw [e1] at k1 k2
      rw [if_neg (by decide)]
      cases e2 : (p.1 == q.1) with
      | false =>
        rw [e2] at k1 k2
        simp only [Bool.bne_false, Bool.false_eq_true, if_false]
        wp_walk using truB'
        simp only [Bool.not_false, if_true]
        exact k1 _ _ _ _ (by simp)
      | true =>
        rw [e2] at k1 k2
        simp only [Bool.bne_false, if_true]
        refine ⟨p.2, q.2, rfl, p2, q2, ?_⟩
        wp_walk using truB'
        cases e3 : ltS p.2 q.2 with
        | false =>
          rw [e3] at k1 k2
          simp only [Bool.not_false, if_true]
          exact k1 _ _ _ _ (by simp)
        | true =>
          rw [e3] at k1 k2
          simp only [Bool.not_true, Bool.false_eq_true, if_false]
          exact rest _ _ _ _ (by omega) (by omega) (fun s1 s2 s3 s4 hz => k1 _ _ _ _ (by simpa using hz)) (fun s1 s2 s3 s4 hz => k2 _ _ _ _ (by simpa using hz))
theorem ris_from {ts : List T} : ((List.range' 1 (ts.length - 1)).all fun k => ltG (ts.getD (k - 1) .non) (ts.getD k .non)) = risG ts := by
  rw [risG_at, List.range'_eq_map_range, List.all_map]
  congr 1
  funext k
  show ltG (ts.getD (1 + k - 1) _) (ts.getD (1 + k) _) = _
  rw [show 1 + k - 1 = k by omega, Nat.add_comm 1 k]
theorem t_Pdue_eq : t_Pdue = wSeq (wIfS (wOr (wNot (wTru (wIsi "tuple" (wV 0)))) (wOr (tst (wBin (gCmp cLt) (wCB gLen (wCons (wV 0) (wNil))) (wC (.int 1)))) (tst (wBin (gCmp cGt) (wCB gLen (wCons (wV 0) (wNil))) (wC (.int 6)))))) (wRet (wC (.bl false))) (wNext)) (wSeq (wIfS (wNot (wTru (wCB gAllL (wCons (wComp [none] (wItS (wFr (wV 0))) (fun t ρ => some (ρ.set 0 (.val t))) (wTrue) (wFr (wCall none (S_Pis_part) (wCons (wFr (wV 0)) (wNil))))) (wNil))))) (wRet (wC (.bl false))) (wNext)) (wSeq (wFor (wRng2 (wCons (wC (.int 1)) (wCons (wCB gLen (wCons (wV 0) (wNil))) (wNil)))) (fun t ρ => some (ρ.set 1 (.val t))) dueBody) (wRet (wC (.bl true))))) := rfl
theorem rd_Pdue (as : List Slot) (Q : R → List Slot → Prop) (h : S_Pdue as Q) : wFun none 1 5 t_Pdue as Q := by
  obtain ⟨t, rfl, hs, q⟩ := h
  rw [t_Pdue_eq]
  refine fun_r rfl (by wp_walk) ?_
  refine rn_seq fun N hN => ?_
  by_cases ht : ∃ ts, t = .tup ts
  · obtain ⟨ts, rfl⟩ := ht
    obtain ⟨hl, hsh⟩ := hs ts rfl
    have ew : whoB (.tup ts) = (decide (1 ≤ ts.length) && decide (ts.length ≤ 6) && ts.all partB && risG ts) := rfl
    rw [ew] at q
    wp_walk using show isT "tuple" (.tup ts) = true from rfl, truB'
    simp only [Bool.not_true, Bool.false_eq_true, if_false]
    by_cases h1 : (ts.length : Int) < 1
    · rw [if_pos h1]
      rw [decide_eq_false (show ¬ 1 ≤ ts.length by omega)] at q
      simpa using q
    · rw [if_neg h1]
      by_cases h2 : 6 < (ts.length : Int)
      · rw [if_pos h2]
        rw [decide_eq_false (show ¬ ts.length ≤ 6 by omega)] at q
        simpa using q
      · rw [if_neg h2]
        rw [decide_eq_true (show 1 ≤ ts.length by omega), decide_eq_true (show ts.length ≤ 6 by omega)] at q
        refine hN _ ?_
        clear hN N
        refine rn_seq fun N hN => ?_
        wp_walk using itemsT
        refine isparts_comp ts [] hsh (by simp; omega) ?_
        wp_walk using List.nil_append, allL, truB'
        have e0 : (ts.map partB).all id = ts.all partB := by rw [List.all_map]; rfl
        rw [e0]
        cases ha : ts.all partB with
        | false =>
          rw [if_pos (by rfl)]
          rw [ha] at q
          simpa using q
        | true =>
          rw [if_neg (by decide)]
          rw [ha] at q
          refine hN _ ?_
          clear hN N
          refine rn_seq fun N hN => ?_
          wp_walk using wRng2, rng2_int (a := 1) (n := (ts.length : Int)) (by decide) (by decide) (by omega) (by omega)
          rw [show ((ts.length : Int) - 1).toNat = ts.length - 1 by omega, rng_one]
          refine due_for ha (ts.length - 1) 1 _ _ _ _ (Nat.le_refl _) (by omega) (fun s1 s2 s3 s4 hz => ?_) (fun s1 s2 s3 s4 hz => ?_)
          · rw [ris_from] at hz
            wp_walk
            rw [hz] at q
            simpa using q
          · rw [ris_from] at hz
            refine hN _ (rn_i ?_)
            wp_walk
            rw [hz] at q
            simpa using q
  · have hi : isT "tuple" t = false := by cases t <;> first | rfl | exact absurd ⟨_, rfl⟩ ht
    have hb : whoB t = false := by cases t <;> first | rfl | exact absurd ⟨_, rfl⟩ ht
    wp_walk using hi, truB'
    simp only [Bool.not_false, if_true]
    rw [hb] at q
    exact q
end FW.k03
set_option Elab.async false
set_option linter.all false
set_option maxRecDepth 100000
set_option maxHeartbeats 4000000
namespace FW.k03
open PySem PySem.Spec PyProof.Rows L2
variable [Tabs]
theorem ris_pairs : ∀ (ps : List (Str × Str)), (ps.Pairwise fun a b => ltK [a.1, a.2] [b.1, b.2] = true) → risG (ps.map kpT) = true
  | [], _ => rfl
  | [p], _ => rfl
  | p :: q :: r, h => by
    rw [List.pairwise_cons] at h
    have ih := ris_pairs (q :: r) h.2
    show (ltG (kpT p) (kpT q) && risG ((q :: r).map kpT)) = true
    rw [ih, ltG_kp, h.1 q (.head _)]; rfl
theorem name_nS {x : Str} (h : NameT x) : nameS x = true := by
  unfold nameS
  rw [decide_eq_true h.lo, decide_eq_true h.hi]
  simp only [Bool.true_and, List.all_eq_true]
  intro c hc
  have := h.low c hc
  unfold lowB
  rw [decide_eq_true this.1, decide_eq_true this.2]; rfl
theorem who_true {ps : List (Str × Str)} (h : WhoR ps) (hl : ps.length ≤ 6) : whoB (.tup (ps.map kpT)) = true := by
  show (decide (1 ≤ (ps.map kpT).length) && decide ((ps.map kpT).length ≤ 6) && (ps.map kpT).all partB && risG (ps.map kpT)) = true
  rw [ris_pairs ps h.rise, List.length_map, decide_eq_true h.lo, decide_eq_true hl]
  have : (ps.map kpT).all partB = true := by
    rw [List.all_eq_true]
    intro t ht
    obtain ⟨p, hp, rfl⟩ := List.mem_map.mp ht
    show (wordsL.contains p.1 && nameS p.2) = true
    rw [List.contains_iff_mem.mpr (h.all p hp).1, name_nS (h.all p hp).2]; rfl
  rw [this]; rfl
theorem sh_who {ps : List (Str × Str)} (h : WhoR ps) (hl : ps.length ≤ 6) : ShW (.tup (ps.map kpT)) := (bw_ps (by omega) h.all).sh
theorem rd_law (as : List Slot) (Q : R → List Slot → Prop) (h : S_law as Q) : wFun none 1 7 t_law as Q := by
  obtain ⟨ns, rfl, h1, q⟩ := h
  unfold t_law
  refine fun_r rfl (by wp_walk) ?_
  refine rn_seq fun N hN => ?_
  wp_walk using forW_A, rng1_int (n := 10) (by decide) (by decide)
  rw [show (10 : Int).toNat = 10 from rfl, rng_range]
  refine for_inv (fun ts ρ => (∀ t ∈ ts, ∃ i : Int, t = .int i ∧ 0 ≤ i ∧ i < (10 : Nat)) ∧ ∃ s1 s2 s3 s4 s5 s6, ρ = [.val (zs ns), s1, s2, s3, s4, s5, s6]) (fun ρ h => ?_) (fun t ts ρ W h hW => ?_) _ _ ⟨fun t ht => small_rng' ht, _, _, _, _, _, _, rfl⟩
  · obtain ⟨_, s1, s2, s3, s4, s5, s6, rfl⟩ := h
    refine hN _ (rn_i ?_)
    have n0 : whoB (.tup []) = false := rfl
    wp_walk
    refine ⟨.tup [], rfl, fun ts e => by cases e; exact ⟨by decide, fun u hu => by cases hu⟩, ?_⟩
    wp_walk using boolE', n0
    exact q
  · clear hN q
    obtain ⟨ht, s1, s2, s3, s4, s5, s6, rfl⟩ := h
    obtain ⟨i, rfl, i0, i1⟩ := ht _ List.mem_cons_self
    have rest : ∀ s1 s2 s3 s4 s5 s6, W [.val (zs ns), s1, s2, s3, s4, s5, s6] := fun s1 s2 s3 s4 s5 s6 => hW _ ⟨fun t h => ht t (List.mem_cons_of_mem _ h), _, _, _, _, _, _, rfl⟩
    clear hW ht
    simp only [bO_some, List.set_cons_succ, List.set_cons_zero]
    refine rn_seq fun N hN => ?_
    wp_walk
    refine ⟨ns, i, rfl, h1, i0, by omega, fun a b => ?_⟩
    wp_walk
    refine hN _ ?_
    clear hN N
    refine rn_seq fun N hN => ?_
    wp_walk
    refine ⟨a, b, 6, rfl, by decide, by decide, fun r a1 b1 r0 r1 => ?_⟩
    wp_walk
    refine ⟨a1, b1, 1 + r, rfl, by omega, by omega, fun ps a2 b2 hps hpl => ?_⟩
    wp_walk
    refine hN _ ?_
    clear hN N
    have hl6 : ps.length ≤ 6 := by omega
    refine rn_seq fun N hN => ?_
    wp_walk using tuP
    refine ⟨.tup (ps.map kpT), rfl, sh_who hps hl6, ?_⟩
    wp_walk using boolE', who_true hps hl6
    simp only [beq_self_eq_true, bne_self_eq_false, Bool.false_eq_true, if_false]
    refine hN _ ?_
    clear hN N
    refine rn_seq fun N hN => ?_
    wp_walk
    have go : ∀ (t' : T) (a3 b3 : Int), BwT t' → N [.val (zs ns), .val (.int i), .own (pn a3 b3), .val (.lst (ps.map kpT)), .val t', s5, s6] := by
      intro t' a3 b3 be
      refine hN _ ?_
      clear hN N
      refine rn_seq fun N hN => ?_
      wp_walk using rp_def
      refine ⟨be.rp, ?_⟩
      refine hN _ ?_
      clear hN N
      refine rn_seq fun N hN => ?_
      wp_walk
      refine ⟨t', rfl, be.sh, ?_⟩
      wp_walk
      refine hN _ (rn_i ?_)
      clear hN N
      wp_walk using rp_def, show isT "bool" (.bl (whoB t')) = true from rfl, truB'
      simp only [Bool.not_true, Bool.false_eq_true, if_false]
      refine ⟨t', rfl, be.sh, ?_⟩
      wp_walk using eqB
      simp only [beq_self_eq_true, bne_self_eq_false, Bool.false_eq_true, if_false]
      refine ⟨be.rp, ?_⟩
      wp_walk using strEq
      simp only [beq_self_eq_true, bne_self_eq_false, Bool.false_eq_true, if_false]
      exact rest _ _ _ _ _ _
    refine ⟨a2, b2, ps, rfl, hps, hl6, fun t' a3 b3 be => ?_, fun ts' a3 b3 be => ?_⟩
    · wp_walk
      exact go t' a3 b3 be
    · wp_walk
      exact go (.lst ts') a3 b3 be
end FW.k03
set_option Elab.async false
set_option linter.all false
set_option maxRecDepth 100000
set_option maxHeartbeats 4000000
namespace FW
open PySem PySem.Spec PyProof.Rows L2
variable [Tabs]
section
variable {X : Cx} {fx : List Nat} {a b : Expr} {ta : WA} {pos : Pos}
theorem fix_two {i j : Nat} {σ : L2.St} {v w : V} (hi : i ∉ fx) (hj : j ∉ fx) : Fix fx σ ((σ.set i (some v)).set j (some w)) := (fix_set hi).trans (fix_set hj)
theorem s_par (i j : Nat) {x y : Str} {px py pt : Pos} {kt k2 : Nat} {pt2 : Pos} (hc : X.calm = true) (hN : X.N.Nodup) (ha : DA X [a, b] ta) (hi : X.N[i]? = some x := by rfl) (hj : X.N[j]? = some y := by rfl) (hij : i ≠ j := by decide)
    (hx : X.env.scope.names.lookup x = some .local := by rfl) (hy : X.env.scope.names.lookup y = some .local := by rfl)
    (hw : swappedStores [.Tuple [.Name x px, .Name y py] kt pt] (.Tuple [a, b] k2 pt2) X.env = pure (some [x, y]) := by rfl)
    (hs : swapsWithSole [.Tuple [.Name x px, .Name y py] kt pt] (.Tuple [a, b] k2 pt2) pos.line X.env = pure false := by rfl) (hfi : i ∉ fx := by decide) (hfj : j ∉ fx := by decide) :
    DS X fx (.Assign [.Tuple [.Name x px, .Name y py] kt pt] (.Tuple [a, b] k2 pt2) pos) (wAsg (wFr (wTup ta)) (unpT [i, j])) := by
  refine PS.mono (ps_par hc hN hi hj hij hx hy ha hw hs) fun D' σ H ⟨ρ, D, E, q, k⟩ => ⟨ρ, _, E, q, fun vs H1 rs ρ1 E1 S1 p1 q1 => ?_⟩
  obtain ⟨ts, e1, hz, q2⟩ := bO_iff.mp q1
  obtain ⟨x2, e2, q3⟩ := bO_iff.mp q2
  cases e2
  obtain ⟨t2, e3, q4⟩ := bO_iff.mp q3
  cases e3
  obtain ⟨ρ2, e4, q5⟩ := bO_iff.mp q4
  have rr := valsR_reps p1 e1
  have hl : ts.length = 2 := setsT_len (is := [i, j]) e4
  match ts, hl, rr, e4 with
  | [t1, t2], _, rr, e4 =>
    cases e4
    rw [reps_cons] at rr
    obtain ⟨v, r1, rfl, g1, rr⟩ := rr
    rw [reps_cons] at rr
    obtain ⟨w, r2, rfl, g2, rr⟩ := rr
    rw [reps_nil] at rr
    subst rr
    exact ⟨v, w, rfl, k.nx _ H1 _ (evok_set (evok_set E1 g1) g2) (S1.weak fun b z => own_set (own_set z)) (fix_two hfi hfj) q5⟩
end
end FW
end RD
namespace FW.k03
open PySem PySem.Spec PyProof.Rows L2
instance : Tabs := ⟨[23, 30, 45]⟩
theorem bt_len : bootBuiltins "len" = some (.builtin "len") := by decide +kernel
theorem bt_min : bootBuiltins "min" = some (.builtin "min") := by decide +kernel
theorem bt_isinstance : bootBuiltins "isinstance" = some (.builtin "isinstance") := by decide +kernel
theorem bt_sorted : bootBuiltins "sorted" = some (.builtin "sorted") := by decide +kernel
theorem bt_all : bootBuiltins "all" = some (.builtin "all") := by decide +kernel
theorem bt_repr : bootBuiltins "repr" = some (.builtin "repr") := by decide +kernel
theorem bt_list : bootBuiltins "list" = some (.type "list") := by decide +kernel
theorem bt_tuple : bootBuiltins "tuple" = some (.type "tuple") := by decide +kernel
theorem bt_str : bootBuiltins "str" = some (.type "str") := by decide +kernel
theorem bt_bool : bootBuiltins "bool" = some (.type "bool") := by decide +kernel
theorem bt_set : bootBuiltins "set" = some (.type "set") := by decide +kernel
theorem len_is_tuple_from_to (as : List Slot) (Q : R → List Slot → Prop) (h : S_is_tuple_from_to as Q) : as.length = 3 := by
  unfold S_is_tuple_from_to at h
  repeat (first | (obtain ⟨rfl, _⟩ := h; rfl) | obtain ⟨_, h⟩ := h)
theorem len_is_rising (as : List Slot) (Q : R → List Slot → Prop) (h : S_is_rising as Q) : as.length = 1 := by
  unfold S_is_rising at h
  repeat (first | (obtain ⟨rfl, _⟩ := h; rfl) | obtain ⟨_, h⟩ := h)
theorem len_is_name (as : List Slot) (Q : R → List Slot → Prop) (h : S_is_name as Q) : as.length = 1 := by
  unfold S_is_name at h
  repeat (first | (obtain ⟨rfl, _⟩ := h; rfl) | obtain ⟨_, h⟩ := h)
theorem len_is_who_part (as : List Slot) (Q : R → List Slot → Prop) (h : S_is_who_part as Q) : as.length = 1 := by
  unfold S_is_who_part at h
  repeat (first | (obtain ⟨rfl, _⟩ := h; rfl) | obtain ⟨_, h⟩ := h)
theorem len_is_who (as : List Slot) (Q : R → List Slot → Prop) (h : S_is_who as Q) : as.length = 1 := by
  unfold S_is_who at h
  repeat (first | (obtain ⟨rfl, _⟩ := h; rfl) | obtain ⟨_, h⟩ := h)
theorem len_Pat (as : List Slot) (Q : R → List Slot → Prop) (h : S_Pat as Q) : as.length = 2 := by
  unfold S_Pat at h
  repeat (first | (obtain ⟨rfl, _⟩ := h; rfl) | obtain ⟨_, h⟩ := h)
theorem len_Ppen (as : List Slot) (Q : R → List Slot → Prop) (h : S_Ppen as Q) : as.length = 2 := by
  unfold S_Ppen at h
  repeat (first | (obtain ⟨rfl, _⟩ := h; rfl) | obtain ⟨_, h⟩ := h)
theorem len_Ptake (as : List Slot) (Q : R → List Slot → Prop) (h : S_Ptake as Q) : as.length = 2 := by
  unfold S_Ptake at h
  repeat (first | (obtain ⟨rfl, _⟩ := h; rfl) | obtain ⟨_, h⟩ := h)
theorem len_Ptext (as : List Slot) (Q : R → List Slot → Prop) (h : S_Ptext as Q) : as.length = 2 := by
  unfold S_Ptext at h
  repeat (first | (obtain ⟨rfl, _⟩ := h; rfl) | obtain ⟨_, h⟩ := h)
theorem len_Pname (as : List Slot) (Q : R → List Slot → Prop) (h : S_Pname as Q) : as.length = 1 := by
  unfold S_Pname at h
  repeat (first | (obtain ⟨rfl, _⟩ := h; rfl) | obtain ⟨_, h⟩ := h)
theorem len_Pnear (as : List Slot) (Q : R → List Slot → Prop) (h : S_Pnear as Q) : as.length = 2 := by
  unfold S_Pnear at h
  repeat (first | (obtain ⟨rfl, _⟩ := h; rfl) | obtain ⟨_, h⟩ := h)
theorem len_Pwho (as : List Slot) (Q : R → List Slot → Prop) (h : S_Pwho as Q) : as.length = 2 := by
  unfold S_Pwho at h
  repeat (first | (obtain ⟨rfl, _⟩ := h; rfl) | obtain ⟨_, h⟩ := h)
theorem len_Ppart (as : List Slot) (Q : R → List Slot → Prop) (h : S_Ppart as Q) : as.length = 2 := by
  unfold S_Ppart at h
  repeat (first | (obtain ⟨rfl, _⟩ := h; rfl) | obtain ⟨_, h⟩ := h)
theorem len_Pbent (as : List Slot) (Q : R → List Slot → Prop) (h : S_Pbent as Q) : as.length = 2 := by
  unfold S_Pbent at h
  repeat (first | (obtain ⟨rfl, _⟩ := h; rfl) | obtain ⟨_, h⟩ := h)
theorem len_Pis_name (as : List Slot) (Q : R → List Slot → Prop) (h : S_Pis_name as Q) : as.length = 1 := by
  unfold S_Pis_name at h
  repeat (first | (obtain ⟨rfl, _⟩ := h; rfl) | obtain ⟨_, h⟩ := h)
theorem len_Pless (as : List Slot) (Q : R → List Slot → Prop) (h : S_Pless as Q) : as.length = 2 := by
  unfold S_Pless at h
  repeat (first | (obtain ⟨rfl, _⟩ := h; rfl) | obtain ⟨_, h⟩ := h)
theorem len_Pis_part (as : List Slot) (Q : R → List Slot → Prop) (h : S_Pis_part as Q) : as.length = 1 := by
  unfold S_Pis_part at h
  repeat (first | (obtain ⟨rfl, _⟩ := h; rfl) | obtain ⟨_, h⟩ := h)
theorem len_Pdue (as : List Slot) (Q : R → List Slot → Prop) (h : S_Pdue as Q) : as.length = 1 := by
  unfold S_Pdue at h
  repeat (first | (obtain ⟨rfl, _⟩ := h; rfl) | obtain ⟨_, h⟩ := h)
abbrev lv_is_tuple_from_to : Nat := 1
abbrev pl_is_tuple_from_to : Nat := 0
abbrev lv_is_rising : Nat := 2
abbrev pl_is_rising : Nat := 1
abbrev kg_is_rising : Nat := 0
abbrev lv_is_name : Nat := 2
abbrev pl_is_name : Nat := 1
abbrev kg_is_name : Nat := 0
abbrev lv_is_who_part : Nat := 3
abbrev pl_is_who_part : Nat := 2
abbrev lv_is_who : Nat := 5
abbrev pl_is_who : Nat := 4
abbrev kg_is_who : Nat := 3
abbrev lv_Pat : Nat := 1
abbrev pl_Pat : Nat := 0
abbrev lv_Ppen : Nat := 2
abbrev pl_Ppen : Nat := 1
abbrev lv_Ptake : Nat := 1
abbrev pl_Ptake : Nat := 0
abbrev lv_Ptext : Nat := 2
abbrev pl_Ptext : Nat := 1
abbrev lv_Pname : Nat := 3
abbrev pl_Pname : Nat := 2
abbrev lv_Pnear : Nat := 4
abbrev pl_Pnear : Nat := 3
abbrev lv_Pwho : Nat := 5
abbrev pl_Pwho : Nat := 4
abbrev lv_Ppart : Nat := 2
abbrev pl_Ppart : Nat := 1
abbrev lv_Pbent : Nat := 6
abbrev pl_Pbent : Nat := 5
abbrev lv_Pis_name : Nat := 1
abbrev pl_Pis_name : Nat := 0
abbrev lv_Pless : Nat := 1
abbrev pl_Pless : Nat := 0
abbrev lv_Pis_part : Nat := 2
abbrev pl_Pis_part : Nat := 1
abbrev lv_Pdue : Nat := 3
abbrev pl_Pdue : Nat := 2
abbrev lv_law : Nat := 7
abbrev pl_law : Nat := 6
def top (i : Nat) : Stmt := PySem.Challenge.pw_leavebook_k03_whos_known.main.body.getD i (.Pass ⟨0, 0, 0, 0⟩)
abbrev s_is_tuple_from_to : Stmt := top 1
abbrev s_is_rising : Stmt := top 2
abbrev s_is_name : Stmt := top 6
abbrev s_is_who_part : Stmt := top 10
abbrev s_is_who : Stmt := top 11
abbrev s_Pat : Stmt := top 13
abbrev s_Ppen : Stmt := top 14
abbrev s_Ptake : Stmt := top 15
abbrev s_Ptext : Stmt := top 16
abbrev s_Pname : Stmt := top 17
abbrev s_Pnear : Stmt := top 18
abbrev s_Pwho : Stmt := top 19
abbrev s_Ppart : Stmt := top 20
abbrev s_Pbent : Stmt := top 21
abbrev s_Pis_name : Stmt := top 22
abbrev s_Pless : Stmt := top 23
abbrev s_Pis_part : Stmt := top 25
abbrev s_Pdue : Stmt := top 26
abbrev s_law : Stmt := top 27
theorem sc_is_tuple_from_to : FnScope ["thing", "least", "most"] ["thing", "least", "most"] (defScope s_is_tuple_from_to) := ⟨rfl, rfl, rfl, by decide +kernel, rfl, by decide +kernel, by decide +kernel⟩
theorem fn_is_tuple_from_to {P : Program} {w : World} {K : W.Frag} {mg : Str → Option Value} {base : Heap} {f : Addr} {fd : FuncData} (F : Fun K "is_tuple_from_to" "is_tuple_from_to" s_is_tuple_from_to f fd) (m_len : mg "len" = none) (m_isinstance : mg "isinstance" = none) (m_tuple : mg "tuple" = none) :
    FnOk P w K mg base CX0 (pl_is_tuple_from_to + 1) f fd ["thing", "least", "most"] (spOf K 3 (wFun none 3 3 t_is_tuple_from_to)) := by
  refine f_ok (io := none) F sc_is_tuple_from_to fun cdv _ A outer s H E hr => ?_
  have nd := sc_is_tuple_from_to.nd
  unfold t_is_tuple_from_to
  exact (s_one (s_ret (d_and (d_isi (.inr (.inl rfl)) rfl m_isinstance rfl m_tuple bt_tuple (d_var 0) bt_isinstance) (d_one (d_ch2 o_le o_le (d_var 1) (d_callB c_len rfl m_len bt_len (da_cons (d_var 0) da_nil)) (d_var 2))))))
theorem sc_is_rising : FnScope ["things"] ["things"] (defScope s_is_rising) := ⟨rfl, rfl, rfl, by decide +kernel, rfl, by decide +kernel, by decide +kernel⟩
theorem fn_is_rising {P : Program} {w : World} {K : W.Frag} {mg : Str → Option Value} {base : Heap} {f gc gP : Addr} {fd : FuncData} (F : FunC K "is_rising" "is_rising" s_is_rising f fd gc gP) (m_all : mg "all" = none) (m_range : mg "range" = none) (m_len : mg "len" = none) :
    FnOk P w K mg base CX0 (pl_is_rising + 1) f fd ["things"] (spOf K 1 (wFun none 1 1 t_is_rising)) := by
  refine f_okC (io := none) F sc_is_rising fun A outer s H E hr => ?_
  have nd := sc_is_rising.nd
  unfold t_is_rising
  exact (s_one (s_ret (d_allG (N := ["at", "things"]) (mp := [none, some 0]) (k := kg_is_rising) (fun _ _ h => h) rfl hr ⟨rfl, by decide +kernel, by decide +kernel, by decide +kernel, by decide +kernel, ⟨(by first | exact .inl rfl | exact .inr rfl), ⟨rfl, rfl, (by first | exact .inl rfl | exact .inr rfl), trivial⟩⟩⟩ (by decide +kernel) rfl rfl rfl F.hd F.tb (di_range1 rfl m_range (da_cons (d_bin o_sub (d_callB c_len rfl m_len bt_len (da_cons (d_var 0) da_nil)) d_int) da_nil)) (fun _ _ _ _ _ _ => (dg_name 0 (show List.Nodup ([("at" : Str), ("things" : Str)] : List Str) by decide +kernel))) (fun _ _ _ _ _ _ hr => (d_cmp (o_ltP hr) (d_ix (d_var 1) (d_var 0)) (d_ix (d_var 1) (d_bin o_add (d_var 0) d_int)) (nomark _))) rfl m_all)))
theorem sc_is_name : FnScope ["thing"] ["thing"] (defScope s_is_name) := ⟨rfl, rfl, rfl, by decide +kernel, rfl, by decide +kernel, by decide +kernel⟩
theorem fn_is_name {P : Program} {w : World} {K : W.Frag} {mg : Str → Option Value} {base : Heap} {f gc gP : Addr} {fd : FuncData} (F : FunC K "is_name" "is_name" s_is_name f fd gc gP) (m_isinstance : mg "isinstance" = none) (m_str : mg "str" = none) (m_len : mg "len" = none) (m_all : mg "all" = none) {tk_MOST_LETTERS : Tok} (g_MOST_LETTERS : mg "MOST_LETTERS" = some (.int 6 tk_MOST_LETTERS)) {tk_LETTERS : Tok} (g_LETTERS : mg "LETTERS" = some (.str (Str.ofString "abcdefghijklmnopqrstuvwxyz") tk_LETTERS)) :
    FnOk P w K mg base CX0 (pl_is_name + 1) f fd ["thing"] (spOf K 1 (wFun none 1 1 t_is_name)) := by
  refine f_okC (io := none) F sc_is_name fun A outer s H E hr => ?_
  have nd := sc_is_name.nd
  unfold t_is_name
  exact (s_cons (s_if (DW.dt (dw_or (dt_not (dt_tru (d_isi (.inl rfl) rfl m_isinstance rfl m_str bt_str (d_var 0) bt_isinstance))) (dw_or1 (dt_not (dt_ch2 o_le o_le d_int (d_callB c_len rfl m_len bt_len (da_cons (d_var 0) da_nil)) (d_gint rfl g_MOST_LETTERS)))))) (s_one (s_ret d_bl)) s_nil) (s_one (s_ret (d_allG (N := ["sign"]) (mp := [none]) (k := kg_is_name) (fun _ _ h => h) rfl hr ⟨rfl, by decide +kernel, by decide +kernel, by decide +kernel, by decide +kernel, ⟨(by first | exact .inl rfl | exact .inr rfl), trivial⟩⟩ (by decide +kernel) rfl rfl rfl F.hd F.tb (di_seqX (d_fr (d_var 0))) (fun _ _ _ _ _ _ => (dg_name 0 (show List.Nodup ([("sign" : Str)] : List Str) by decide +kernel))) (fun _ _ _ _ _ _ hr => (d_cmp o_in (d_var 0) (d_gstr rfl g_LETTERS) (by with_unfolding_all rfl))) rfl m_all))))
theorem sc_is_who_part : FnScope ["thing"] ["thing"] (defScope s_is_who_part) := ⟨rfl, rfl, rfl, by decide +kernel, rfl, by decide +kernel, by decide +kernel⟩
theorem fn_is_who_part {P : Program} {w : World} {K : W.Frag} {mg : Str → Option Value} {base : Heap} {f : Addr} {fd : FuncData} (F : Fun K "is_who_part" "is_who_part" s_is_who_part f fd) {a_is_tuple_from_to : Addr} {d_is_tuple_from_to : FuncData} (G_is_tuple_from_to : FnOk P w K mg base CX0 lv_is_tuple_from_to a_is_tuple_from_to d_is_tuple_from_to ["thing", "least", "most"] (spOf K 3 (S_is_tuple_from_to))) (b_is_tuple_from_to : Binds K d_is_tuple_from_to ["thing", "least", "most"] []) (k_is_tuple_from_to : W.keepIn K (.ref a_is_tuple_from_to) = true) (m_is_tuple_from_to : mg "is_tuple_from_to" = some (.ref a_is_tuple_from_to)) {a_is_name : Addr} {d_is_name : FuncData} (G_is_name : FnOk P w K mg base CX0 lv_is_name a_is_name d_is_name ["thing"] (spOf K 1 (S_is_name))) (b_is_name : Binds K d_is_name ["thing"] []) (k_is_name : W.keepIn K (.ref a_is_name) = true) (m_is_name : mg "is_name" = some (.ref a_is_name)) (m_isinstance : mg "isinstance" = none) (m_str : mg "str" = none) (gk_MARKS : GDictK P w K mg "MARKS" [Str.ofString "group", Str.ofString "hand", Str.ofString "office"]) :
    FnOk P w K mg base CX0 (pl_is_who_part + 1) f fd ["thing"] (spOf K 1 (wFun none 1 1 t_is_who_part)) := by
  refine f_ok (io := none) F sc_is_who_part fun cdv _ A outer s H E hr => ?_
  have nd := sc_is_who_part.nd
  unfold t_is_who_part
  exact (s_cons (s_if (dt_not (dt_tru (d_call (G_is_tuple_from_to.mono (by decide)) len_is_tuple_from_to hr rfl m_is_tuple_from_to k_is_tuple_from_to b_is_tuple_from_to (da_cons (d_fr (d_var 0)) (da_cons (d_fr d_int) (da_cons (d_fr d_int) da_nil)))))) (s_one (s_ret d_bl)) s_nil) (s_one (s_ret (d_and (d_isi (.inl rfl) rfl m_isinstance rfl m_str bt_str (d_ix (d_var 0) d_int) bt_isinstance) (d_and (d_gin rfl gk_MARKS (d_ix (d_var 0) d_int)) (d_one (d_call (G_is_name.mono (by decide)) len_is_name hr rfl m_is_name k_is_name b_is_name (da_cons (d_fr (d_ix (d_var 0) d_int)) da_nil))))))))
theorem sc_is_who : FnScope ["thing"] ["thing"] (defScope s_is_who) := ⟨rfl, rfl, rfl, by decide +kernel, rfl, by decide +kernel, by decide +kernel⟩
theorem fn_is_who {P : Program} {w : World} {K : W.Frag} {mg : Str → Option Value} {base : Heap} {f gc gP : Addr} {fd : FuncData} (F : FunC K "is_who" "is_who" s_is_who f fd gc gP) {a_is_tuple_from_to : Addr} {d_is_tuple_from_to : FuncData} (G_is_tuple_from_to : FnOk P w K mg base CX0 lv_is_tuple_from_to a_is_tuple_from_to d_is_tuple_from_to ["thing", "least", "most"] (spOf K 3 (S_is_tuple_from_to))) (b_is_tuple_from_to : Binds K d_is_tuple_from_to ["thing", "least", "most"] []) (k_is_tuple_from_to : W.keepIn K (.ref a_is_tuple_from_to) = true) (m_is_tuple_from_to : mg "is_tuple_from_to" = some (.ref a_is_tuple_from_to)) {a_is_rising : Addr} {d_is_rising : FuncData} (G_is_rising : FnOk P w K mg base CX0 lv_is_rising a_is_rising d_is_rising ["things"] (spOf K 1 (S_is_rising))) (b_is_rising : Binds K d_is_rising ["things"] []) (k_is_rising : W.keepIn K (.ref a_is_rising) = true) (m_is_rising : mg "is_rising" = some (.ref a_is_rising)) {a_is_who_part : Addr} {d_is_who_part : FuncData} (G_is_who_part : FnOk P w K mg base CX0 lv_is_who_part a_is_who_part d_is_who_part ["thing"] (spOf K 1 (S_is_who_part))) (b_is_who_part : Binds K d_is_who_part ["thing"] []) (k_is_who_part : W.keepIn K (.ref a_is_who_part) = true) (m_is_who_part : mg "is_who_part" = some (.ref a_is_who_part)) (m_all : mg "all" = none) {tk_MOST_PARTS : Tok} (g_MOST_PARTS : mg "MOST_PARTS" = some (.int 6 tk_MOST_PARTS)) :
    FnOk P w K mg base CX0 (pl_is_who + 1) f fd ["thing"] (spOf K 1 (wFun none 1 1 t_is_who)) := by
  refine f_okC (io := none) F sc_is_who fun A outer s H E hr => ?_
  have nd := sc_is_who.nd
  unfold t_is_who
  exact (s_cons (s_if (dt_not (dt_tru (d_call (G_is_tuple_from_to.mono (by decide)) len_is_tuple_from_to hr rfl m_is_tuple_from_to k_is_tuple_from_to b_is_tuple_from_to (da_cons (d_fr (d_var 0)) (da_cons (d_fr d_int) (da_cons (d_fr (d_gint rfl g_MOST_PARTS)) da_nil)))))) (s_one (s_ret d_bl)) s_nil) (s_one (s_ret (d_and (d_allG (N := ["part"]) (mp := [none]) (k := kg_is_who) (fun _ _ h => h) rfl hr ⟨rfl, by decide +kernel, by decide +kernel, by decide +kernel, by decide +kernel, ⟨(by first | exact .inl rfl | exact .inr rfl), trivial⟩⟩ (by decide +kernel) rfl rfl rfl F.hd F.tb (di_seq (d_fr (d_var 0))) (fun _ _ _ _ _ _ => (dg_name 0 (show List.Nodup ([("part" : Str)] : List Str) by decide +kernel))) (fun _ _ _ _ _ _ hr => (d_call (G_is_who_part.mono (by decide)) len_is_who_part hr rfl m_is_who_part k_is_who_part b_is_who_part (da_cons (d_fr (d_var 0)) da_nil))) rfl m_all) (d_one (d_call (G_is_rising.mono (by decide)) len_is_rising hr rfl m_is_rising k_is_rising b_is_rising (da_cons (d_fr (d_var 0)) da_nil)))))))
theorem sc_Pat : FnScope ["_law_script", "_law_k", "_law_cell", "_law_number"] ["_law_script", "_law_k"] (defScope s_Pat) := ⟨rfl, rfl, rfl, by decide +kernel, rfl, by decide +kernel, by decide +kernel⟩
theorem fn_Pat {P : Program} {w : World} {K : W.Frag} {mg : Str → Option Value} {base : Heap} {f : Addr} {fd : FuncData} (F : Fun K "_law_at" "_law_at" s_Pat f fd) (m_len : mg "len" = none) :
    FnOk P w K mg base CX0 (pl_Pat + 1) f fd ["_law_script", "_law_k"] (spOf K 2 (wFun none 2 4 t_Pat)) := by
  refine f_ok (io := none) F sc_Pat fun cdv _ A outer s H E hr => ?_
  have nd := sc_Pat.nd
  unfold t_Pat
  exact (s_cons (s_if (dt_cmp o_lt (d_var 1) (d_callB c_len rfl m_len bt_len (da_cons (d_var 0) da_nil)) (nomark _)) (s_one (s_ret (d_ix (d_var 0) (d_var 1)))) s_nil) (s_cons (s_set 2 nd (d_fr d_int)) (s_cons (s_if (dt_cmp o_gt (d_callB c_len rfl m_len bt_len (da_cons (d_var 0) da_nil)) d_int (nomark _)) (s_one (s_set 2 nd (d_fr (d_bin o_mod (d_ix (d_var 0) (d_bin o_mod (d_var 1) (d_callB c_len rfl m_len bt_len (da_cons (d_var 0) da_nil)))) d_int)))) s_nil) (s_cons (s_set 3 nd (d_fr (d_bin o_mod (d_bin o_add (d_bin o_add (d_bin o_mul (d_var 2) d_int) (d_bin o_mul (d_var 1) d_int)) d_int) d_int))) (s_one (s_ret (d_bin o_mod (d_bin o_mul (d_var 3) (d_bin o_add (d_bin o_add (d_bin o_mod (d_var 3) d_int) (d_var 1)) d_int)) d_int)))))))
theorem sc_Ppen : FnScope ["_law_script", "_law_k", "_law_cell"] ["_law_script", "_law_k"] (defScope s_Ppen) := ⟨rfl, rfl, rfl, by decide +kernel, rfl, by decide +kernel, by decide +kernel⟩
theorem fn_Ppen {P : Program} {w : World} {K : W.Frag} {mg : Str → Option Value} {base : Heap} {f : Addr} {fd : FuncData} (F : Fun K "_law_pen" "_law_pen" s_Ppen f fd) {a_Pat : Addr} {d_Pat : FuncData} (G_Pat : FnOk P w K mg base CX0 lv_Pat a_Pat d_Pat ["_law_script", "_law_k"] (spOf K 2 (S_Pat))) (b_Pat : Binds K d_Pat ["_law_script", "_law_k"] []) (k_Pat : W.keepIn K (.ref a_Pat) = true) (m_Pat : mg "_law_at" = some (.ref a_Pat)) :
    FnOk P w K mg base CX0 (pl_Ppen + 1) f fd ["_law_script", "_law_k"] (spOf K 2 (wFun none 2 3 t_Ppen)) := by
  refine f_ok (io := none) F sc_Ppen fun cdv _ A outer s H E hr => ?_
  have nd := sc_Ppen.nd
  unfold t_Ppen
  exact (s_cons (s_set 2 nd (d_fr (d_call (G_Pat.mono (by decide)) len_Pat hr rfl m_Pat k_Pat b_Pat (da_cons (d_fr (d_var 0)) (da_cons (d_fr (d_var 1)) da_nil))))) (s_cons (s_if (dt_cmp o_ge (d_var 2) (d_bin o_pow d_int d_int) (nomark _)) (s_one (s_ret (d_lst (da_cons (d_fr (d_bin o_sub (d_var 2) (d_bin o_pow d_int d_int))) (da_cons (d_fr d_int) da_nil))))) s_nil) (s_one (s_ret (d_lst (da_cons (d_fr (d_bin o_mod (d_var 2) d_int)) (da_cons (d_fr d_int) da_nil)))))))
theorem sc_Ptake : FnScope ["_law_pen_here", "_law_size", "_law_found"] ["_law_pen_here", "_law_size"] (defScope s_Ptake) := ⟨rfl, rfl, rfl, by decide +kernel, rfl, by decide +kernel, by decide +kernel⟩
theorem fn_Ptake {P : Program} {w : World} {K : W.Frag} {mg : Str → Option Value} {base : Heap} {f : Addr} {fd : FuncData} (F : Fun K "_law_take" "_law_take" s_Ptake f fd) :
    FnOk P w K mg base CX0 (pl_Ptake + 1) f fd ["_law_pen_here", "_law_size"] (spOf K 2 (wFun (some 0) 2 3 t_Ptake)) := by
  refine f_ok (io := (some 0)) F sc_Ptake fun cdv _ A outer s H E hr => ?_
  have nd := sc_Ptake.nd
  unfold t_Ptake
  exact (s_cons (s_if (dt_cmp (o_eq (rm hr)) (d_ix (d_var 0) d_int) d_int (nomark _)) (s_cons (s_set 2 nd (d_fr (d_bin o_mod (d_ix (d_var 0) d_int) (d_var 1)))) (s_cons (s_seti 0 (d_fr (d_bin o_div (d_ix (d_var 0) d_int) (d_var 1))) d_int) (s_one (s_ret (d_var 2))))) s_nil) (s_cons (s_seti 0 (d_fr (d_bin o_mod (d_bin o_add (d_bin o_add (d_bin o_mul (d_ix (d_var 0) d_int) d_int) d_int) (d_ix (d_var 0) d_int)) d_int)) d_int) (s_cons (s_seti 0 (d_fr (d_bin o_add (d_ix (d_var 0) d_int) d_int)) d_int) (s_one (s_ret (d_bin o_mod (d_bin o_mod (d_bin o_mul (d_ix (d_var 0) d_int) (d_bin o_add (d_bin o_mod (d_ix (d_var 0) d_int) d_int) d_int)) d_int) (d_var 1)))))))
theorem sc_Ptext : FnScope ["_law_pen_here", "_law_most", "_law_letters"] ["_law_pen_here", "_law_most"] (defScope s_Ptext) := ⟨rfl, rfl, rfl, by decide +kernel, rfl, by decide +kernel, by decide +kernel⟩
theorem fn_Ptext {P : Program} {w : World} {K : W.Frag} {mg : Str → Option Value} {base : Heap} {f : Addr} {fd : FuncData} (F : Fun K "_law_text" "_law_text" s_Ptext f fd) {a_Ptake : Addr} {d_Ptake : FuncData} (G_Ptake : FnOk P w K mg base CX0 lv_Ptake a_Ptake d_Ptake ["_law_pen_here", "_law_size"] (spOf K 2 (S_Ptake))) (b_Ptake : Binds K d_Ptake ["_law_pen_here", "_law_size"] []) (k_Ptake : W.keepIn K (.ref a_Ptake) = true) (m_Ptake : mg "_law_take" = some (.ref a_Ptake)) (m_range : mg "range" = none) :
    FnOk P w K mg base CX0 (pl_Ptext + 1) f fd ["_law_pen_here", "_law_most"] (spOf K 2 (wFun (some 0) 2 3 t_Ptext)) := by
  refine f_ok (io := (some 0)) F sc_Ptext fun cdv _ A outer s H E hr => ?_
  have nd := sc_Ptext.nd
  unfold t_Ptext
  exact (s_cons (s_set 2 nd (d_fr d_str)) (s_one (s_ret (d_join (da_cons (d_comp (N := ["_law_k", "_law_letters", "_law_pen_here"]) (mp := [none, some 2, some 0]) (fun _ _ h => h) rfl ⟨rfl, by decide +kernel, by decide +kernel, by decide +kernel, by decide +kernel, ⟨(by first | exact .inl rfl | exact .inr rfl), ⟨rfl, rfl, (by first | exact .inl rfl | exact .inr rfl), ⟨rfl, rfl, (by first | exact .inl rfl | exact .inr rfl), trivial⟩⟩⟩⟩ (di_range1 rfl m_range (da_cons (d_call (G_Ptake.mono (by decide)) len_Ptake hr rfl m_Ptake k_Ptake b_Ptake (da_cons (d_var 0) (da_cons (d_fr (d_bin o_add (d_var 1) d_int)) da_nil))) da_nil)) (fun _ _ _ => (dg_name 0 (show List.Nodup ([("_law_k" : Str), ("_law_letters" : Str), ("_law_pen_here" : Str)] : List Str) by decide +kernel))) (fun _ _ _ => dif_nil) (fun _ _ _ => (d_fr (d_ix (d_var 1) (d_call (G_Ptake.mono (by decide)) len_Ptake hr rfl m_Ptake k_Ptake b_Ptake (da_cons (d_var 2) (da_cons (d_fr d_int) da_nil))))))) da_nil)))))
theorem sc_Pname : FnScope ["_law_pen_here", "_law_letters"] ["_law_pen_here"] (defScope s_Pname) := ⟨rfl, rfl, rfl, by decide +kernel, rfl, by decide +kernel, by decide +kernel⟩
theorem fn_Pname {P : Program} {w : World} {K : W.Frag} {mg : Str → Option Value} {base : Heap} {f : Addr} {fd : FuncData} (F : Fun K "_law_name" "_law_name" s_Pname f fd) {a_Ptake : Addr} {d_Ptake : FuncData} (G_Ptake : FnOk P w K mg base CX0 lv_Ptake a_Ptake d_Ptake ["_law_pen_here", "_law_size"] (spOf K 2 (S_Ptake))) (b_Ptake : Binds K d_Ptake ["_law_pen_here", "_law_size"] []) (k_Ptake : W.keepIn K (.ref a_Ptake) = true) (m_Ptake : mg "_law_take" = some (.ref a_Ptake)) {a_Ptext : Addr} {d_Ptext : FuncData} (G_Ptext : FnOk P w K mg base CX0 lv_Ptext a_Ptext d_Ptext ["_law_pen_here", "_law_most"] (spOf K 2 (S_Ptext))) (b_Ptext : Binds K d_Ptext ["_law_pen_here", "_law_most"] []) (k_Ptext : W.keepIn K (.ref a_Ptext) = true) (m_Ptext : mg "_law_text" = some (.ref a_Ptext)) :
    FnOk P w K mg base CX0 (pl_Pname + 1) f fd ["_law_pen_here"] (spOf K 1 (wFun (some 0) 1 2 t_Pname)) := by
  refine f_ok (io := (some 0)) F sc_Pname fun cdv _ A outer s H E hr => ?_
  have nd := sc_Pname.nd
  unfold t_Pname
  exact (s_cons (s_set 1 nd (d_fr d_str)) (s_one (s_ret (d_bin o_add (d_ix (d_var 1) (d_call (G_Ptake.mono (by decide)) len_Ptake hr rfl m_Ptake k_Ptake b_Ptake (da_cons (d_var 0) (da_cons (d_fr d_int) da_nil)))) (d_call (G_Ptext.mono (by decide)) len_Ptext hr rfl m_Ptext k_Ptext b_Ptext (da_cons (d_var 0) (da_cons (d_fr d_int) da_nil)))))))
theorem sc_Pnear : FnScope ["_law_pen_here", "_law_base", "_law_letters", "_law_way", "_law_at_here"] ["_law_pen_here", "_law_base"] (defScope s_Pnear) := ⟨rfl, rfl, rfl, by decide +kernel, rfl, by decide +kernel, by decide +kernel⟩
theorem fn_Pnear {P : Program} {w : World} {K : W.Frag} {mg : Str → Option Value} {base : Heap} {f : Addr} {fd : FuncData} (F : Fun K "_law_near" "_law_near" s_Pnear f fd) {a_Ptake : Addr} {d_Ptake : FuncData} (G_Ptake : FnOk P w K mg base CX0 lv_Ptake a_Ptake d_Ptake ["_law_pen_here", "_law_size"] (spOf K 2 (S_Ptake))) (b_Ptake : Binds K d_Ptake ["_law_pen_here", "_law_size"] []) (k_Ptake : W.keepIn K (.ref a_Ptake) = true) (m_Ptake : mg "_law_take" = some (.ref a_Ptake)) {a_Pname : Addr} {d_Pname : FuncData} (G_Pname : FnOk P w K mg base CX0 lv_Pname a_Pname d_Pname ["_law_pen_here"] (spOf K 1 (S_Pname))) (b_Pname : Binds K d_Pname ["_law_pen_here"] []) (k_Pname : W.keepIn K (.ref a_Pname) = true) (m_Pname : mg "_law_name" = some (.ref a_Pname)) (m_len : mg "len" = none) :
    FnOk P w K mg base CX0 (pl_Pnear + 1) f fd ["_law_pen_here", "_law_base"] (spOf K 2 (wFun (some 0) 2 5 t_Pnear)) := by
  refine f_ok (io := (some 0)) F sc_Pnear fun cdv _ A outer s H E hr => ?_
  have nd := sc_Pnear.nd
  unfold t_Pnear
  exact (s_cons (s_set 2 nd (d_fr d_str)) (s_cons (s_set 3 nd (d_fr (d_call (G_Ptake.mono (by decide)) len_Ptake hr rfl m_Ptake k_Ptake b_Ptake (da_cons (d_var 0) (da_cons (d_fr d_int) da_nil))))) (s_cons (s_set 4 nd (d_fr (d_call (G_Ptake.mono (by decide)) len_Ptake hr rfl m_Ptake k_Ptake b_Ptake (da_cons (d_var 0) (da_cons (d_fr (d_callB c_len rfl m_len bt_len (da_cons (d_var 1) da_nil))) da_nil))))) (s_cons (s_if (dt_cmp (o_eq (rm hr)) (d_var 3) d_int (nomark _)) (s_one (s_ret (d_call (G_Pname.mono (by decide)) len_Pname hr rfl m_Pname k_Pname b_Pname (da_cons (d_var 0) da_nil)))) s_nil) (s_cons (s_if (dt_cmp (o_eq (rm hr)) (d_var 3) d_int (nomark _)) (s_one (s_ret (d_bin o_add (d_bin o_add (d_slice2 (d_var 1) do_none (do_some (d_var 4))) (d_ix (d_var 2) (d_call (G_Ptake.mono (by decide)) len_Ptake hr rfl m_Ptake k_Ptake b_Ptake (da_cons (d_var 0) (da_cons (d_fr d_int) da_nil))))) (d_slice2 (d_var 1) (do_some (d_bin o_add (d_var 4) d_int)) do_none)))) s_nil) (s_one (s_ret (d_slice2 (d_var 1) do_none (do_some (d_bin o_add (d_var 4) d_int))))))))))
theorem sc_Pwho : FnScope ["_law_pen_here", "_law_many", "_law_base", "_law_found", "_law_k", "_law_name_here"] ["_law_pen_here", "_law_many"] (defScope s_Pwho) := ⟨rfl, rfl, rfl, by decide +kernel, rfl, by decide +kernel, by decide +kernel⟩
theorem fn_Pwho {P : Program} {w : World} {K : W.Frag} {mg : Str → Option Value} {base : Heap} {f : Addr} {fd : FuncData} (F : Fun K "_law_who" "_law_who" s_Pwho f fd) {a_Pname : Addr} {d_Pname : FuncData} (G_Pname : FnOk P w K mg base CX0 lv_Pname a_Pname d_Pname ["_law_pen_here"] (spOf K 1 (S_Pname))) (b_Pname : Binds K d_Pname ["_law_pen_here"] []) (k_Pname : W.keepIn K (.ref a_Pname) = true) (m_Pname : mg "_law_name" = some (.ref a_Pname)) {a_Pnear : Addr} {d_Pnear : FuncData} (G_Pnear : FnOk P w K mg base CX0 lv_Pnear a_Pnear d_Pnear ["_law_pen_here", "_law_base"] (spOf K 2 (S_Pnear))) (b_Pnear : Binds K d_Pnear ["_law_pen_here", "_law_base"] []) (k_Pnear : W.keepIn K (.ref a_Pnear) = true) (m_Pnear : mg "_law_near" = some (.ref a_Pnear)) {a_Ptake : Addr} {d_Ptake : FuncData} (G_Ptake : FnOk P w K mg base CX0 lv_Ptake a_Ptake d_Ptake ["_law_pen_here", "_law_size"] (spOf K 2 (S_Ptake))) (b_Ptake : Binds K d_Ptake ["_law_pen_here", "_law_size"] []) (k_Ptake : W.keepIn K (.ref a_Ptake) = true) (m_Ptake : mg "_law_take" = some (.ref a_Ptake)) (m_range : mg "range" = none) (m_sorted : mg "sorted" = none) (m_set : mg "set" = none) :
    FnOk P w K mg base CX0 (pl_Pwho + 1) f fd ["_law_pen_here", "_law_many"] (spOf K 2 (wFun (some 0) 2 6 t_Pwho)) := by
  refine f_ok (io := (some 0)) F sc_Pwho fun cdv _ A outer s H E hr => ?_
  have nd := sc_Pwho.nd
  unfold t_Pwho
  exact (s_cons (s_set 2 nd (d_fr (d_call (G_Pname.mono (by decide)) len_Pname hr rfl m_Pname k_Pname b_Pname (da_cons (d_var 0) da_nil)))) (s_cons (s_own 3 nd (d_lst da_nil)) (s_cons (s_for PassesOwn.never rfl (di_range1 rfl m_range (da_cons (d_var 1) da_nil)) (dg_name 4 nd) (s_cons (s_set 5 nd (d_fr (d_call (G_Pnear.mono (by decide)) len_Pnear hr rfl m_Pnear k_Pnear b_Pnear (da_cons (d_var 0) (da_cons (d_fr (d_var 2)) da_nil))))) (s_cons (s_expr (d_mut 3 mu_append PySem.F.slot_list_append PySem.F.type_list_append (da_cons (d_fr (d_tup (da_cons (d_fr (d_ix (d_lst (da_cons (d_fr d_str) (da_cons (d_fr d_str) (da_cons (d_fr d_str) da_nil)))) (d_call (G_Ptake.mono (by decide)) len_Ptake hr rfl m_Ptake k_Ptake b_Ptake (da_cons (d_var 0) (da_cons (d_fr d_int) da_nil))))) (da_cons (d_fr (d_var 5)) da_nil)))) da_nil))) (s_one (s_if (dt_cmp (o_eq (rm hr)) (d_call (G_Ptake.mono (by decide)) len_Ptake hr rfl m_Ptake k_Ptake b_Ptake (da_cons (d_var 0) (da_cons (d_fr d_int) da_nil))) d_int (nomark _)) (s_one (s_set 2 nd (d_fr (d_var 5)))) s_nil))))) (s_one (s_ret (d_srt hr rfl rfl m_sorted rfl m_set (da_cons (d_var 3) da_nil) bt_sorted bt_set))))))
theorem sc_Ppart : FnScope ["_law_pen_here", "_law_part_here", "_law_word", "_law_name_here", "_law_some"] ["_law_pen_here", "_law_part_here"] (defScope s_Ppart) := ⟨rfl, rfl, rfl, by decide +kernel, rfl, by decide +kernel, by decide +kernel⟩
theorem fn_Ppart {P : Program} {w : World} {K : W.Frag} {mg : Str → Option Value} {base : Heap} {f : Addr} {fd : FuncData} (F : Fun K "_law_part" "_law_part" s_Ppart f fd) {a_Ptake : Addr} {d_Ptake : FuncData} (G_Ptake : FnOk P w K mg base CX0 lv_Ptake a_Ptake d_Ptake ["_law_pen_here", "_law_size"] (spOf K 2 (S_Ptake))) (b_Ptake : Binds K d_Ptake ["_law_pen_here", "_law_size"] []) (k_Ptake : W.keepIn K (.ref a_Ptake) = true) (m_Ptake : mg "_law_take" = some (.ref a_Ptake)) :
    FnOk P w K mg base CX0 (pl_Ppart + 1) f fd ["_law_pen_here", "_law_part_here"] (spOf K 2 (wFun (some 0) 2 5 t_Ppart)) := by
  refine f_ok (io := (some 0)) F sc_Ppart fun cdv _ A outer s H E hr => ?_
  have nd := sc_Ppart.nd
  unfold t_Ppart
  exact (@s_cons _ _ _ _ _ _ _ (s_asg (@d_fr _ _ _ _ (d_var 1)) (dg_tup rfl (dgs_cons (dg_name 2 nd) (dgs_cons (dg_name 3 nd) dgs_nil)))) (@s_cons _ _ _ _ _ _ _ (s_set 4 nd (@d_fr _ _ _ _ (@d_lst _ _ _ _ _ (@da_c _ _ _ _ _ _ (@d_fr _ _ _ _ (@d_tup _ _ _ _ _ _ (@da_c _ _ _ _ _ _ (@d_fr _ _ _ _ d_str) (@da_c _ _ _ _ _ _ (@d_fr _ _ _ _ (d_var 3)) (@da_nil _ _) rfl) rfl))) (@da_c _ _ _ _ _ _ (@d_fr _ _ _ _ (@d_tup _ _ _ _ _ _ (@da_c _ _ _ _ _ _ (@d_fr _ _ _ _ d_str) (@da_c _ _ _ _ _ _ (@d_fr _ _ _ _ (d_var 3)) (@da_nil _ _) rfl) rfl))) (@da_c _ _ _ _ _ _ (@d_fr _ _ _ _ (@d_tup _ _ _ _ _ _ (@da_c _ _ _ _ _ _ (@d_fr _ _ _ _ d_str) (@da_c _ _ _ _ _ _ (@d_fr _ _ _ _ (d_var 3)) (@da_nil _ _) rfl) rfl))) (@da_c _ _ _ _ _ _ (@d_fr _ _ _ _ (@d_tup _ _ _ _ _ _ (@da_c _ _ _ _ _ _ (@d_fr _ _ _ _ d_non) (@da_c _ _ _ _ _ _ (@d_fr _ _ _ _ (d_var 3)) (@da_nil _ _) rfl) rfl))) (@da_c _ _ _ _ _ _ (@d_fr _ _ _ _ (@d_tup _ _ _ _ _ _ (@da_c _ _ _ _ _ _ (@d_fr _ _ _ _ d_int) (@da_c _ _ _ _ _ _ (@d_fr _ _ _ _ (d_var 3)) (@da_nil _ _) rfl) rfl))) (@da_c _ _ _ _ _ _ (@d_fr _ _ _ _ (@d_tup _ _ _ _ _ _ (@da_c _ _ _ _ _ _ (@d_fr _ _ _ _ (d_var 2)) (@da_c _ _ _ _ _ _ (@d_fr _ _ _ _ d_str) (@da_nil _ _) rfl) rfl))) (@da_c _ _ _ _ _ _ (@d_fr _ _ _ _ (@d_tup _ _ _ _ _ _ (@da_c _ _ _ _ _ _ (@d_fr _ _ _ _ (d_var 2)) (@da_c _ _ _ _ _ _ (@d_fr _ _ _ _ (@d_bin _ _ _ _ _ _ _ _ _ o_add (d_var 3) d_str)) (@da_nil _ _) rfl) rfl))) (@da_nil _ _) rfl) rfl) rfl) rfl) rfl) rfl) rfl)))) (@s_cons _ _ _ _ _ _ _ (s_set 4 nd (@d_fr _ _ _ _ (@d_bin _ _ _ _ _ _ _ _ _ o_add (d_var 4) (@d_lst _ _ _ _ _ (@da_c _ _ _ _ _ _ (@d_fr _ _ _ _ (@d_tup _ _ _ _ _ _ (@da_c _ _ _ _ _ _ (@d_fr _ _ _ _ (d_var 2)) (@da_c _ _ _ _ _ _ (@d_fr _ _ _ _ (@d_bin _ _ _ _ _ _ _ _ _ o_add (d_var 3) d_str)) (@da_nil _ _) rfl) rfl))) (@da_c _ _ _ _ _ _ (@d_fr _ _ _ _ (@d_tup _ _ _ _ _ _ (@da_c _ _ _ _ _ _ (@d_fr _ _ _ _ (d_var 2)) (@da_c _ _ _ _ _ _ (@d_fr _ _ _ _ d_non) (@da_nil _ _) rfl) rfl))) (@da_c _ _ _ _ _ _ (@d_fr _ _ _ _ (@d_tup _ _ _ _ _ _ (@da_c _ _ _ _ _ _ (@d_fr _ _ _ _ (d_var 2)) (@da_c _ _ _ _ _ _ (@d_fr _ _ _ _ (@d_tup _ _ _ _ _ _ (@da_c _ _ _ _ _ _ (@d_fr _ _ _ _ (d_var 3)) (@da_nil _ _) rfl))) (@da_nil _ _) rfl) rfl))) (@da_c _ _ _ _ _ _ (@d_fr _ _ _ _ (@d_tup _ _ _ _ _ _ (@da_c _ _ _ _ _ _ (@d_fr _ _ _ _ (d_var 3)) (@da_c _ _ _ _ _ _ (@d_fr _ _ _ _ (d_var 2)) (@da_nil _ _) rfl) rfl))) (@da_c _ _ _ _ _ _ (@d_fr _ _ _ _ (@d_tup _ _ _ _ _ _ (@da_c _ _ _ _ _ _ (@d_fr _ _ _ _ (d_var 2)) (@da_nil _ _) rfl))) (@da_c _ _ _ _ _ _ (@d_fr _ _ _ _ (@d_tup _ _ _ _ _ _ (@da_c _ _ _ _ _ _ (@d_fr _ _ _ _ (d_var 2)) (@da_c _ _ _ _ _ _ (@d_fr _ _ _ _ (d_var 3)) (@da_c _ _ _ _ _ _ (@d_fr _ _ _ _ (d_var 3)) (@da_nil _ _) rfl) rfl) rfl))) (@da_c _ _ _ _ _ _ (@d_fr _ _ _ _ (@d_tup _ _ _ _ _ _ (@da_nil _ _))) (@da_nil _ _) rfl) rfl) rfl) rfl) rfl) rfl) rfl))))) (@s_cons _ _ _ _ _ _ _ (s_set 4 nd (@d_fr _ _ _ _ (@d_bin _ _ _ _ _ _ _ _ _ o_add (d_var 4) (@d_lst _ _ _ _ _ (@da_c _ _ _ _ _ _ (@d_fr _ _ _ _ (@d_lst _ _ _ _ _ (@da_c _ _ _ _ _ _ (@d_fr _ _ _ _ (d_var 2)) (@da_c _ _ _ _ _ _ (@d_fr _ _ _ _ (d_var 3)) (@da_nil _ _) rfl) rfl))) (@da_c _ _ _ _ _ _ (@d_fr _ _ _ _ (@d_bin _ _ _ _ _ _ _ _ _ o_add (d_var 2) (d_var 3))) (@da_c _ _ _ _ _ _ (@d_fr _ _ _ _ d_non) (@da_c _ _ _ _ _ _ (@d_fr _ _ _ _ d_bl) (@da_c _ _ _ _ _ _ (@d_fr _ _ _ _ d_int) (@da_c _ _ _ _ _ _ (@d_fr _ _ _ _ (@d_tup _ _ _ _ _ _ (@da_c _ _ _ _ _ _ (@d_fr _ _ _ _ (@d_lst _ _ _ _ _ (@da_c _ _ _ _ _ _ (@d_fr _ _ _ _ d_str) (@da_nil _ _) rfl))) (@da_c _ _ _ _ _ _ (@d_fr _ _ _ _ (d_var 3)) (@da_nil _ _) rfl) rfl))) (@da_c _ _ _ _ _ _ (@d_fr _ _ _ _ (@d_tup _ _ _ _ _ _ (@da_c _ _ _ _ _ _ (@d_fr _ _ _ _ (@d_dict0 _ _ _)) (@da_c _ _ _ _ _ _ (@d_fr _ _ _ _ (d_var 3)) (@da_nil _ _) rfl) rfl))) (@da_c _ _ _ _ _ _ (@d_fr _ _ _ _ (@d_tup _ _ _ _ _ _ (@da_c _ _ _ _ _ _ (@d_fr _ _ _ _ d_str) (@da_c _ _ _ _ _ _ (@d_fr _ _ _ _ (d_var 3)) (@da_nil _ _) rfl) rfl))) (@da_nil _ _) rfl) rfl) rfl) rfl) rfl) rfl) rfl) rfl))))) (@s_one _ _ _ _ _ (@s_ret _ _ _ _ _ _ (@d_ix _ _ _ _ _ _ _ (d_var 4) (d_call (G_Ptake.mono (by decide)) len_Ptake hr rfl m_Ptake k_Ptake b_Ptake (@da_c _ _ _ _ _ _ (d_var 0) (@da_c _ _ _ _ _ _ (@d_fr _ _ _ _ d_int) (@da_nil _ _) rfl) rfl)) (by intro _ _; rfl))))))))
theorem sc_Pbent : FnScope ["_law_pen_here", "_law_who_here", "_law_way", "_law_at_here"] ["_law_pen_here", "_law_who_here"] (defScope s_Pbent) := ⟨rfl, rfl, rfl, by decide +kernel, rfl, by decide +kernel, by decide +kernel⟩
theorem fn_Pbent {P : Program} {w : World} {K : W.Frag} {mg : Str → Option Value} {base : Heap} {f : Addr} {fd : FuncData} (F : Fun K "_law_bent" "_law_bent" s_Pbent f fd) {a_Ptake : Addr} {d_Ptake : FuncData} (G_Ptake : FnOk P w K mg base CX0 lv_Ptake a_Ptake d_Ptake ["_law_pen_here", "_law_size"] (spOf K 2 (S_Ptake))) (b_Ptake : Binds K d_Ptake ["_law_pen_here", "_law_size"] []) (k_Ptake : W.keepIn K (.ref a_Ptake) = true) (m_Ptake : mg "_law_take" = some (.ref a_Ptake)) {a_Ppart : Addr} {d_Ppart : FuncData} (G_Ppart : FnOk P w K mg base CX0 lv_Ppart a_Ppart d_Ppart ["_law_pen_here", "_law_part_here"] (spOf K 2 (S_Ppart))) (b_Ppart : Binds K d_Ppart ["_law_pen_here", "_law_part_here"] []) (k_Ppart : W.keepIn K (.ref a_Ppart) = true) (m_Ppart : mg "_law_part" = some (.ref a_Ppart)) {a_Pwho : Addr} {d_Pwho : FuncData} (G_Pwho : FnOk P w K mg base CX0 lv_Pwho a_Pwho d_Pwho ["_law_pen_here", "_law_many"] (spOf K 2 (S_Pwho))) (b_Pwho : Binds K d_Pwho ["_law_pen_here", "_law_many"] []) (k_Pwho : W.keepIn K (.ref a_Pwho) = true) (m_Pwho : mg "_law_who" = some (.ref a_Pwho)) (m_len : mg "len" = none) (m_tuple : mg "tuple" = none) (m_list : mg "list" = none) :
    FnOk P w K mg base CX0 (pl_Pbent + 1) f fd ["_law_pen_here", "_law_who_here"] (spOf K 2 (wFun (some 0) 2 4 t_Pbent)) := by
  refine f_ok (io := (some 0)) F sc_Pbent fun cdv _ A outer s H E hr => ?_
  have nd := sc_Pbent.nd
  unfold t_Pbent
  exact (@s_cons _ _ _ _ _ _ _ (s_set 2 nd (@d_fr _ _ _ _ (d_call (G_Ptake.mono (by decide)) len_Ptake hr rfl m_Ptake k_Ptake b_Ptake (@da_c _ _ _ _ _ _ (d_var 0) (@da_c _ _ _ _ _ _ (@d_fr _ _ _ _ d_int) (@da_nil _ _) rfl) rfl)))) (@s_cons _ _ _ _ _ _ _ (s_set 3 nd (@d_fr _ _ _ _ (d_call (G_Ptake.mono (by decide)) len_Ptake hr rfl m_Ptake k_Ptake b_Ptake (@da_c _ _ _ _ _ _ (d_var 0) (@da_c _ _ _ _ _ _ (@d_fr _ _ _ _ (d_callB c_len rfl m_len bt_len (@da_c _ _ _ _ _ _ (d_var 1) (@da_nil _ _) rfl))) (@da_nil _ _) rfl) rfl)))) (@s_cons _ _ _ _ _ _ _ (@s_if _ _ _ _ _ _ _ _ _ _ (dt_cmp (o_eq (rm hr)) (d_var 2) d_int (nomark _)) (@s_one _ _ _ _ _ (@s_ret _ _ _ _ _ _ (d_callTy c_tuple rfl m_tuple bt_tuple (@da_c _ _ _ _ _ _ (d_rev (d_var 1)) (@da_nil _ _) rfl)))) s_nil) (@s_cons _ _ _ _ _ _ _ (@s_if _ _ _ _ _ _ _ _ _ _ (dt_cmp (o_eq (rm hr)) (d_var 2) d_int (nomark _)) (@s_one _ _ _ _ _ (@s_ret _ _ _ _ _ _ (d_callTy c_tuple rfl m_tuple bt_tuple (@da_c _ _ _ _ _ _ (@d_bin _ _ _ _ _ _ _ _ _ o_add (d_slice2 (d_var 1) (do_some (d_var 3)) do_none) (d_slice2 (d_var 1) do_none (do_some (d_var 3)))) (@da_nil _ _) rfl)))) s_nil) (@s_cons _ _ _ _ _ _ _ (@s_if _ _ _ _ _ _ _ _ _ _ (dt_cmp (o_eq (rm hr)) (d_var 2) d_int (nomark _)) (@s_one _ _ _ _ _ (@s_ret _ _ _ _ _ _ (d_callTy c_tuple rfl m_tuple bt_tuple (@da_c _ _ _ _ _ _ (@d_bin _ _ _ _ _ _ _ _ _ o_add (d_slice2 (d_var 1) do_none (do_some (@d_bin _ _ _ _ _ _ _ _ _ o_add (d_var 3) d_int))) (d_slice2 (d_var 1) (do_some (d_var 3)) do_none)) (@da_nil _ _) rfl)))) s_nil) (@s_cons _ _ _ _ _ _ _ (@s_if _ _ _ _ _ _ _ _ _ _ (dt_cmp o_lt (d_var 2) d_int (nomark _)) (@s_one _ _ _ _ _ (@s_ret _ _ _ _ _ _ (d_callTy c_tuple rfl m_tuple bt_tuple (@da_c _ _ _ _ _ _ (@d_bin _ _ _ _ _ _ _ _ _ o_add (@d_bin _ _ _ _ _ _ _ _ _ o_add (d_slice2 (d_var 1) do_none (do_some (d_var 3))) (@d_lst _ _ _ _ _ (@da_c _ _ _ _ _ _ (@d_fr _ _ _ _ (d_call (G_Ppart.mono (by decide)) len_Ppart hr rfl m_Ppart k_Ppart b_Ppart (@da_c _ _ _ _ _ _ (d_var 0) (@da_c _ _ _ _ _ _ (@d_fr _ _ _ _ (@d_ix _ _ _ _ _ _ _ (d_var 1) (d_var 3) (by intro _ _; rfl))) (@da_nil _ _) rfl) rfl))) (@da_nil _ _) rfl))) (d_slice2 (d_var 1) (do_some (@d_bin _ _ _ _ _ _ _ _ _ o_add (d_var 3) d_int)) do_none)) (@da_nil _ _) rfl)))) s_nil) (@s_cons _ _ _ _ _ _ _ (@s_if _ _ _ _ _ _ _ _ _ _ (dt_cmp (o_eq (rm hr)) (d_var 2) d_int (nomark _)) (@s_one _ _ _ _ _ (@s_ret _ _ _ _ _ _ (d_callTy c_tuple rfl m_tuple bt_tuple (@da_c _ _ _ _ _ _ (d_call (G_Pwho.mono (by decide)) len_Pwho hr rfl m_Pwho k_Pwho b_Pwho (@da_c _ _ _ _ _ _ (d_var 0) (@da_c _ _ _ _ _ _ (@d_fr _ _ _ _ (@d_bin _ _ _ _ _ _ _ _ _ o_add d_int (d_call (G_Ptake.mono (by decide)) len_Ptake hr rfl m_Ptake k_Ptake b_Ptake (@da_c _ _ _ _ _ _ (d_var 0) (@da_c _ _ _ _ _ _ (@d_fr _ _ _ _ d_int) (@da_nil _ _) rfl) rfl)))) (@da_nil _ _) rfl) rfl)) (@da_nil _ _) rfl)))) s_nil) (@s_cons _ _ _ _ _ _ _ (@s_if _ _ _ _ _ _ _ _ _ _ (dt_cmp (o_eq (rm hr)) (d_var 2) d_int (nomark _)) (@s_one _ _ _ _ _ (@s_ret _ _ _ _ _ _ (d_callTy c_list rfl m_list bt_list (@da_c _ _ _ _ _ _ (d_var 1) (@da_nil _ _) rfl)))) s_nil) (@s_cons _ _ _ _ _ _ _ (@s_if _ _ _ _ _ _ _ _ _ _ (dt_cmp (o_eq (rm hr)) (d_var 2) d_int (nomark _)) (@s_one _ _ _ _ _ (@s_ret _ _ _ _ _ _ (@d_ix _ _ _ _ _ _ _ (@d_lst _ _ _ _ _ (@da_c _ _ _ _ _ _ (@d_fr _ _ _ _ (@d_tup _ _ _ _ _ _ (@da_nil _ _))) (@da_c _ _ _ _ _ _ (@d_fr _ _ _ _ d_non) (@da_c _ _ _ _ _ _ (@d_fr _ _ _ _ d_str) (@da_c _ _ _ _ _ _ (@d_fr _ _ _ _ d_int) (@da_c _ _ _ _ _ _ (@d_fr _ _ _ _ d_bl) (@da_c _ _ _ _ _ _ (@d_fr _ _ _ _ (@d_dict0 _ _ _)) (@da_c _ _ _ _ _ _ (@d_fr _ _ _ _ (@d_lst _ _ _ _ _ (@da_nil _ _))) (@da_c _ _ _ _ _ _ (@d_fr _ _ _ _ (@d_tup _ _ _ _ _ _ (@da_c _ _ _ _ _ _ (@d_fr _ _ _ _ d_str) (@da_c _ _ _ _ _ _ (@d_fr _ _ _ _ d_str) (@da_nil _ _) rfl) rfl))) (@da_c _ _ _ _ _ _ (@d_fr _ _ _ _ (@d_tup _ _ _ _ _ _ (@da_c _ _ _ _ _ _ (@d_fr _ _ _ _ (@d_tup _ _ _ _ _ _ (@da_c _ _ _ _ _ _ (@d_fr _ _ _ _ d_str) (@da_c _ _ _ _ _ _ (@d_fr _ _ _ _ d_str) (@da_nil _ _) rfl) rfl))) (@da_nil _ _) rfl))) (@da_nil _ _) rfl) rfl) rfl) rfl) rfl) rfl) rfl) rfl) rfl)) (d_call (G_Ptake.mono (by decide)) len_Ptake hr rfl m_Ptake k_Ptake b_Ptake (@da_c _ _ _ _ _ _ (d_var 0) (@da_c _ _ _ _ _ _ (@d_fr _ _ _ _ d_int) (@da_nil _ _) rfl) rfl)) (by intro _ _; rfl)))) s_nil) (@s_one _ _ _ _ _ (@s_ret _ _ _ _ _ _ (d_callTy c_tuple rfl m_tuple bt_tuple (@da_c _ _ _ _ _ _ (d_var 1) (@da_nil _ _) rfl)))))))))))))
theorem sc_Pis_name : FnScope ["_law_thing", "_law_letters"] ["_law_thing"] (defScope s_Pis_name) := ⟨rfl, rfl, rfl, by decide +kernel, rfl, by decide +kernel, by decide +kernel⟩
theorem fn_Pis_name {P : Program} {w : World} {K : W.Frag} {mg : Str → Option Value} {base : Heap} {f : Addr} {fd : FuncData} (F : Fun K "_law_is_name" "_law_is_name" s_Pis_name f fd) (m_isinstance : mg "isinstance" = none) (m_str : mg "str" = none) (m_len : mg "len" = none) :
    FnOk P w K mg base CX0 (pl_Pis_name + 1) f fd ["_law_thing"] (spOf K 1 (wFun none 1 2 t_Pis_name)) := by
  refine f_ok (io := none) F sc_Pis_name fun cdv _ A outer s H E hr => ?_
  have nd := sc_Pis_name.nd
  unfold t_Pis_name
  exact (s_cons (s_set 1 nd (d_fr d_str)) (s_cons (s_if (DW.dt (dw_or (dt_not (dt_tru (d_isi (.inl rfl) rfl m_isinstance rfl m_str bt_str (d_var 0) bt_isinstance))) (dw_or (dt_cmp o_lt (d_callB c_len rfl m_len bt_len (da_cons (d_var 0) da_nil)) d_int (nomark _)) (dw_or1 (dt_cmp o_gt (d_callB c_len rfl m_len bt_len (da_cons (d_var 0) da_nil)) d_int (nomark _)))))) (s_one (s_ret d_bl)) s_nil) (s_one (s_ret (d_cmp (o_eq (rm hr)) (d_comp (N := ["_law_sign", "_law_letters"]) (mp := [none, some 1]) (fun _ _ h => h) rfl ⟨rfl, by decide +kernel, by decide +kernel, by decide +kernel, by decide +kernel, ⟨(by first | exact .inl rfl | exact .inr rfl), ⟨rfl, rfl, (by first | exact .inl rfl | exact .inr rfl), trivial⟩⟩⟩ (di_seqX (d_fr (d_var 0))) (fun _ _ _ => (dg_name 0 (show List.Nodup ([("_law_sign" : Str), ("_law_letters" : Str)] : List Str) by decide +kernel))) (fun _ _ _ => (dif_one (dt_cmp (o_ne (rm hr)) (d_sm sm_count PySem.F.slot_str_count PySem.F.type_str_count (d_var 1) (da_cons (d_var 0) da_nil)) d_int (nomark _)))) (fun _ _ _ => (d_fr (d_var 0)))) (d_lst da_nil) (nomark _))))))
theorem sc_Pless : FnScope ["_law_one", "_law_other", "_law_letters", "_law_k"] ["_law_one", "_law_other"] (defScope s_Pless) := ⟨rfl, rfl, rfl, by decide +kernel, rfl, by decide +kernel, by decide +kernel⟩
theorem fn_Pless {P : Program} {w : World} {K : W.Frag} {mg : Str → Option Value} {base : Heap} {f : Addr} {fd : FuncData} (F : Fun K "_law_less" "_law_less" s_Pless f fd) (m_range : mg "range" = none) (m_min : mg "min" = none) (m_len : mg "len" = none) :
    FnOk P w K mg base CX0 (pl_Pless + 1) f fd ["_law_one", "_law_other"] (spOf K 2 (wFun none 2 4 t_Pless)) := by
  refine f_ok (io := none) F sc_Pless fun cdv _ A outer s H E hr => ?_
  have nd := sc_Pless.nd
  unfold t_Pless
  exact (s_cons (s_set 2 nd (d_fr d_str)) (s_cons (s_for PassesOwn.never rfl (di_range1 rfl m_range (da_cons (d_callB (c_min rfl) rfl m_min bt_min (da_cons (d_callB c_len rfl m_len bt_len (da_cons (d_var 0) da_nil)) (da_cons (d_callB c_len rfl m_len bt_len (da_cons (d_var 1) da_nil)) da_nil))) da_nil)) (dg_name 3 nd) (s_one (s_if (dt_cmp (o_ne (rm hr)) (d_ix (d_var 0) (d_var 3)) (d_ix (d_var 1) (d_var 3)) (nomark _)) (s_one (s_ret (d_cmp o_lt (d_sm sm_index PySem.F.slot_str_index PySem.F.type_str_index (d_var 2) (da_cons (d_ix (d_var 0) (d_var 3)) da_nil)) (d_sm sm_index PySem.F.slot_str_index PySem.F.type_str_index (d_var 2) (da_cons (d_ix (d_var 1) (d_var 3)) da_nil)) (nomark _)))) s_nil))) (s_one (s_ret (d_cmp o_lt (d_callB c_len rfl m_len bt_len (da_cons (d_var 0) da_nil)) (d_callB c_len rfl m_len bt_len (da_cons (d_var 1) da_nil)) (nomark _))))))
theorem sc_Pis_part : FnScope ["_law_part_here"] ["_law_part_here"] (defScope s_Pis_part) := ⟨rfl, rfl, rfl, by decide +kernel, rfl, by decide +kernel, by decide +kernel⟩
theorem fn_Pis_part {P : Program} {w : World} {K : W.Frag} {mg : Str → Option Value} {base : Heap} {f : Addr} {fd : FuncData} (F : Fun K "_law_is_part" "_law_is_part" s_Pis_part f fd) {a_Pis_name : Addr} {d_Pis_name : FuncData} (G_Pis_name : FnOk P w K mg base CX0 lv_Pis_name a_Pis_name d_Pis_name ["_law_thing"] (spOf K 1 (S_Pis_name))) (b_Pis_name : Binds K d_Pis_name ["_law_thing"] []) (k_Pis_name : W.keepIn K (.ref a_Pis_name) = true) (m_Pis_name : mg "_law_is_name" = some (.ref a_Pis_name)) (m_isinstance : mg "isinstance" = none) (m_tuple : mg "tuple" = none) (m_len : mg "len" = none) (m_str : mg "str" = none) :
    FnOk P w K mg base CX0 (pl_Pis_part + 1) f fd ["_law_part_here"] (spOf K 1 (wFun none 1 1 t_Pis_part)) := by
  refine f_ok (io := none) F sc_Pis_part fun cdv _ A outer s H E hr => ?_
  have nd := sc_Pis_part.nd
  unfold t_Pis_part
  exact (s_cons (s_if (DW.dt (dw_or (dt_not (dt_tru (d_isi (.inr (.inl rfl)) rfl m_isinstance rfl m_tuple bt_tuple (d_var 0) bt_isinstance))) (dw_or (dt_cmp (o_ne (rm hr)) (d_callB c_len rfl m_len bt_len (da_cons (d_var 0) da_nil)) d_int (nomark _)) (dw_or1 (dt_not (dt_tru (d_isi (.inl rfl) rfl m_isinstance rfl m_str bt_str (d_ix (d_var 0) d_int) bt_isinstance))))))) (s_one (s_ret d_bl)) s_nil) (s_one (s_ret (d_and (d_cmp o_in (d_ix (d_var 0) d_int) (d_tup (da_cons (d_fr d_str) (da_cons (d_fr d_str) (da_cons (d_fr d_str) da_nil)))) (by with_unfolding_all rfl)) (d_one (d_call (G_Pis_name.mono (by decide)) len_Pis_name hr rfl m_Pis_name k_Pis_name b_Pis_name (da_cons (d_fr (d_ix (d_var 0) d_int)) da_nil)))))))
theorem sc_Pdue : FnScope ["_law_thing", "_law_k", "_law_one", "_law_other", "_law_rises_here"] ["_law_thing"] (defScope s_Pdue) := ⟨rfl, rfl, rfl, by decide +kernel, rfl, by decide +kernel, by decide +kernel⟩
theorem fn_Pdue {P : Program} {w : World} {K : W.Frag} {mg : Str → Option Value} {base : Heap} {f : Addr} {fd : FuncData} (F : Fun K "_law_due" "_law_due" s_Pdue f fd) {a_Pis_part : Addr} {d_Pis_part : FuncData} (G_Pis_part : FnOk P w K mg base CX0 lv_Pis_part a_Pis_part d_Pis_part ["_law_part_here"] (spOf K 1 (S_Pis_part))) (b_Pis_part : Binds K d_Pis_part ["_law_part_here"] []) (k_Pis_part : W.keepIn K (.ref a_Pis_part) = true) (m_Pis_part : mg "_law_is_part" = some (.ref a_Pis_part)) {a_Pless : Addr} {d_Pless : FuncData} (G_Pless : FnOk P w K mg base CX0 lv_Pless a_Pless d_Pless ["_law_one", "_law_other"] (spOf K 2 (S_Pless))) (b_Pless : Binds K d_Pless ["_law_one", "_law_other"] []) (k_Pless : W.keepIn K (.ref a_Pless) = true) (m_Pless : mg "_law_less" = some (.ref a_Pless)) (m_isinstance : mg "isinstance" = none) (m_tuple : mg "tuple" = none) (m_len : mg "len" = none) (m_all : mg "all" = none) (m_range : mg "range" = none) :
    FnOk P w K mg base CX0 (pl_Pdue + 1) f fd ["_law_thing"] (spOf K 1 (wFun none 1 5 t_Pdue)) := by
  refine f_ok (io := none) F sc_Pdue fun cdv _ A outer s H E hr => ?_
  have nd := sc_Pdue.nd
  unfold t_Pdue
  exact (s_cons (s_if (DW.dt (dw_or (dt_not (dt_tru (d_isi (.inr (.inl rfl)) rfl m_isinstance rfl m_tuple bt_tuple (d_var 0) bt_isinstance))) (dw_or (dt_cmp o_lt (d_callB c_len rfl m_len bt_len (da_cons (d_var 0) da_nil)) d_int (nomark _)) (dw_or1 (dt_cmp o_gt (d_callB c_len rfl m_len bt_len (da_cons (d_var 0) da_nil)) d_int (nomark _)))))) (s_one (s_ret d_bl)) s_nil) (s_cons (s_if (dt_not (dt_tru (d_callB (c_allL rfl) rfl m_all bt_all (da_cons (d_comp (N := ["_law_part_here"]) (mp := [none]) (fun _ _ h => h) rfl ⟨rfl, by decide +kernel, by decide +kernel, by decide +kernel, by decide +kernel, ⟨(by first | exact .inl rfl | exact .inr rfl), trivial⟩⟩ (di_seq (d_fr (d_var 0))) (fun _ _ _ => (dg_name 0 (show List.Nodup ([("_law_part_here" : Str)] : List Str) by decide +kernel))) (fun _ _ _ => dif_nil) (fun _ _ _ => (d_fr (d_call (G_Pis_part.mono (by decide)) len_Pis_part hr rfl m_Pis_part k_Pis_part b_Pis_part (da_cons (d_fr (d_var 0)) da_nil))))) da_nil)))) (s_one (s_ret d_bl)) s_nil) (s_cons (s_for PassesOwn.never rfl (di_range2 rfl m_range (da_cons d_int (da_cons (d_callB c_len rfl m_len bt_len (da_cons (d_var 0) da_nil)) da_nil))) (dg_name 1 nd) (s_cons (s_par 2 3 rfl nd (da_cons (d_fr (d_ix (d_var 0) (d_bin o_sub (d_var 1) d_int))) (da_cons (d_fr (d_ix (d_var 0) (d_var 1))) da_nil))) (s_cons (s_set 4 nd (d_fr (d_or (d_call (G_Pless.mono (by decide)) len_Pless hr rfl m_Pless k_Pless b_Pless (da_cons (d_fr (d_ix (d_var 2) d_int)) (da_cons (d_fr (d_ix (d_var 3) d_int)) da_nil))) (d_one (d_and (d_cmp (o_eq (rm hr)) (d_ix (d_var 2) d_int) (d_ix (d_var 3) d_int) (nomark _)) (d_one (d_call (G_Pless.mono (by decide)) len_Pless hr rfl m_Pless k_Pless b_Pless (da_cons (d_fr (d_ix (d_var 2) d_int)) (da_cons (d_fr (d_ix (d_var 3) d_int)) da_nil))))))))) (s_one (s_if (dt_not (dt_tru (d_var 4))) (s_one (s_ret d_bl)) s_nil))))) (s_one (s_ret d_bl)))))
theorem sc_law : FnScope ["_law_script", "_law_k", "_law_pen_here", "_law_who_here", "_law_thing", "_law_kept", "_law_found"] ["_law_script"] (defScope s_law) := ⟨rfl, rfl, rfl, by decide +kernel, rfl, by decide +kernel, by decide +kernel⟩
theorem fn_law {P : Program} {w : World} {K : W.Frag} {mg : Str → Option Value} {base : Heap} {f : Addr} {fd : FuncData} (F : Fun K "law" "law" s_law f fd) {a_Ppen : Addr} {d_Ppen : FuncData} (G_Ppen : FnOk P w K mg base CX0 lv_Ppen a_Ppen d_Ppen ["_law_script", "_law_k"] (spOf K 2 (S_Ppen))) (b_Ppen : Binds K d_Ppen ["_law_script", "_law_k"] []) (k_Ppen : W.keepIn K (.ref a_Ppen) = true) (m_Ppen : mg "_law_pen" = some (.ref a_Ppen)) {a_Pwho : Addr} {d_Pwho : FuncData} (G_Pwho : FnOk P w K mg base CX0 lv_Pwho a_Pwho d_Pwho ["_law_pen_here", "_law_many"] (spOf K 2 (S_Pwho))) (b_Pwho : Binds K d_Pwho ["_law_pen_here", "_law_many"] []) (k_Pwho : W.keepIn K (.ref a_Pwho) = true) (m_Pwho : mg "_law_who" = some (.ref a_Pwho)) {a_Ptake : Addr} {d_Ptake : FuncData} (G_Ptake : FnOk P w K mg base CX0 lv_Ptake a_Ptake d_Ptake ["_law_pen_here", "_law_size"] (spOf K 2 (S_Ptake))) (b_Ptake : Binds K d_Ptake ["_law_pen_here", "_law_size"] []) (k_Ptake : W.keepIn K (.ref a_Ptake) = true) (m_Ptake : mg "_law_take" = some (.ref a_Ptake)) {a_is_who : Addr} {d_is_who : FuncData} (G_is_who : FnOk P w K mg base CX0 lv_is_who a_is_who d_is_who ["thing"] (spOf K 1 (S_is_who))) (b_is_who : Binds K d_is_who ["thing"] []) (k_is_who : W.keepIn K (.ref a_is_who) = true) (m_is_who : mg "is_who" = some (.ref a_is_who)) {a_Pbent : Addr} {d_Pbent : FuncData} (G_Pbent : FnOk P w K mg base CX0 lv_Pbent a_Pbent d_Pbent ["_law_pen_here", "_law_who_here"] (spOf K 2 (S_Pbent))) (b_Pbent : Binds K d_Pbent ["_law_pen_here", "_law_who_here"] []) (k_Pbent : W.keepIn K (.ref a_Pbent) = true) (m_Pbent : mg "_law_bent" = some (.ref a_Pbent)) {a_Pdue : Addr} {d_Pdue : FuncData} (G_Pdue : FnOk P w K mg base CX0 lv_Pdue a_Pdue d_Pdue ["_law_thing"] (spOf K 1 (S_Pdue))) (b_Pdue : Binds K d_Pdue ["_law_thing"] []) (k_Pdue : W.keepIn K (.ref a_Pdue) = true) (m_Pdue : mg "_law_due" = some (.ref a_Pdue)) (m_range : mg "range" = none) (m_tuple : mg "tuple" = none) (m_repr : mg "repr" = none) (m_isinstance : mg "isinstance" = none) (m_bool : mg "bool" = none) :
    FnOk P w K mg base CX0 (pl_law + 1) f fd ["_law_script"] (spOf K 1 (wFun none 1 7 t_law)) := by
  refine f_ok (io := none) F sc_law fun cdv _ A outer s H E hr => ?_
  have nd := sc_law.nd
  unfold t_law
  exact (s_cons (s_for PassesOwn.never rfl (di_range1 rfl m_range (da_cons d_int da_nil)) (dg_name 1 nd) (s_cons (s_own 2 nd (d_call (G_Ppen.mono (by decide)) len_Ppen hr rfl m_Ppen k_Ppen b_Ppen (da_cons (d_fr (d_var 0)) (da_cons (d_fr (d_var 1)) da_nil)))) (s_cons (s_set 3 nd (d_fr (d_call (G_Pwho.mono (by decide)) len_Pwho hr rfl m_Pwho k_Pwho b_Pwho (da_cons (d_var 2) (da_cons (d_fr (d_bin o_add d_int (d_call (G_Ptake.mono (by decide)) len_Ptake hr rfl m_Ptake k_Ptake b_Ptake (da_cons (d_var 2) (da_cons (d_fr d_int) da_nil))))) da_nil))))) (s_cons (s_if (dt_cmp o_notB (d_call (G_is_who.mono (by decide)) len_is_who hr rfl m_is_who k_is_who b_is_who (da_cons (d_fr (d_callTy c_tuple rfl m_tuple bt_tuple (da_cons (d_var 3) da_nil))) da_nil)) d_bl (nomark _)) (s_one (s_ret d_bl)) s_nil) (s_cons (s_set 4 nd (d_fr (d_call (G_Pbent.mono (by decide)) len_Pbent hr rfl m_Pbent k_Pbent b_Pbent (da_cons (d_var 2) (da_cons (d_fr (d_var 3)) da_nil))))) (s_cons (s_set 5 nd (d_fr (d_repr hr rfl m_repr (d_var 4) bt_repr))) (s_cons (s_set 6 nd (d_fr (d_call (G_is_who.mono (by decide)) len_is_who hr rfl m_is_who k_is_who b_is_who (da_cons (d_fr (d_var 4)) da_nil)))) (s_one (s_if (DW.dt (dw_or (dt_not (dt_tru (d_isi (.inr (.inr (.inr (.inr (.inl rfl))))) rfl m_isinstance rfl m_bool bt_bool (d_var 6) bt_isinstance))) (dw_or (dt_cmp (o_ne (rm hr)) (d_var 6) (d_call (G_Pdue.mono (by decide)) len_Pdue hr rfl m_Pdue k_Pdue b_Pdue (da_cons (d_fr (d_var 4)) da_nil)) (nomark _)) (dw_or1 (dt_cmp (o_ne (rm hr)) (d_repr hr rfl m_repr (d_var 4) bt_repr) (d_var 5) (nomark _)))))) (s_one (s_ret d_bl)) s_nil))))))))) (s_one (s_ret (d_cmp o_isB (d_call (G_is_who.mono (by decide)) len_is_who hr rfl m_is_who k_is_who b_is_who (da_cons (d_fr (d_tup da_nil)) da_nil)) d_bl (nomark _)))))
end FW.k03
namespace FW.k03
open PySem PySem.Spec PyProof.Rows L2
theorem spOf_imp {P : Program} {w : World} {K : W.Frag} {mg : Str → Option Value} {base : Heap} {k n : Nat} {f : Addr} {fd : FuncData} {ps : List Str} {S S' : FS} (h : FnOk P w K mg base CX0 k f fd ps (spOf K n S')) (i : ∀ as Q, S as Q → S' as Q) : FnOk P w K mg base CX0 k f fd ps (spOf K n S) :=
  h.imp fun vs H Q E ⟨h1, as, QT, h2, h3, h4⟩ => ⟨h1, as, QT, h2, i as QT h3, h4⟩
theorem all_mk {l : W.OpenLaw} {w : World} {K : W.Frag} {h : Heap} {mg : Str → Option Value} {fa f1 f2 f3 f4 f5 f6 f7 f8 f9 f10 f11 f12 f13 f14 f15 f16 f17 f18 f19 : Addr} (X : K.In h) (G : h.Ns mainGlobals mg) (hfa : mg "law" = some (.ref fa))
    {od1 an1 od2 an2 od3 an3 od4 an4 od5 an5 od6 an6 od7 an7 od8 an8 od9 an9 od10 an10 od11 an11 od12 an12 od13 an13 od14 an14 od15 an15 od16 an16 od17 an17 od18 an18 od19 an19 : Option Addr} {sl1 sl2 sl3 sl4 sl5 sl6 sl7 sl8 sl9 sl10 sl11 sl12 sl13 sl14 sl15 sl16 sl17 sl18 sl19 : Array (Option Value)} {oc1 kV1 dc1 pm1 cd1 ct1 oc2 kV2 dc2 pm2  ct2 oc3 kV3 dc3 pm3  ct3 oc4 kV4 dc4 pm4 cd4 ct4 oc5 kV5 dc5 pm5  ct5 oc6 kV6 dc6 pm6 cd6 ct6 oc7 kV7 dc7 pm7 cd7 ct7 oc8 kV8 dc8 pm8 cd8 ct8 oc9 kV9 dc9 pm9 cd9 ct9 oc10 kV10 dc10 pm10 cd10 ct10 oc11 kV11 dc11 pm11 cd11 ct11 oc12 kV12 dc12 pm12 cd12 ct12 oc13 kV13 dc13 pm13 cd13 ct13 oc14 kV14 dc14 pm14 cd14 ct14 oc15 kV15 dc15 pm15 cd15 ct15 oc16 kV16 dc16 pm16 cd16 ct16 oc17 kV17 dc17 pm17 cd17 ct17 oc18 kV18 dc18 pm18 cd18 ct18 oc19 kV19 dc19 pm19 cd19 ct19 : Value} {gc2 gc3 gc5 : Addr}
    (a1 : W.nsIn K mainGlobals "is_tuple_from_to" = some (some (.ref f1))) (l1 : K.lookup f1 = some ⟨oc1, od1, .func (W.fnOf "is_tuple_from_to" "is_tuple_from_to" (defArgs s_is_tuple_from_to) (defBody s_is_tuple_from_to) (defScope s_is_tuple_from_to) .none kV1 dc1 pm1 an1 cd1 ct1), sl1⟩) (c1 : W.codeIn K cd1 "is_tuple_from_to" = true) (k1 : W.keepIn K (.ref f1) = true)
    (a2 : W.nsIn K mainGlobals "is_rising" = some (some (.ref f2))) (l2 : K.lookup f2 = some ⟨oc2, od2, .func (W.fnOf "is_rising" "is_rising" (defArgs s_is_rising) (defBody s_is_rising) (defScope s_is_rising) .none kV2 dc2 pm2 an2 (.ref gc2) ct2), sl2⟩) (c2 : W.codeIn K (.ref gc2) "is_rising" = true) (k2 : W.keepIn K (.ref f2) = true) (h2 : W.codeHdIn K gc2 23 = true)
    (a3 : W.nsIn K mainGlobals "is_name" = some (some (.ref f3))) (l3 : K.lookup f3 = some ⟨oc3, od3, .func (W.fnOf "is_name" "is_name" (defArgs s_is_name) (defBody s_is_name) (defScope s_is_name) .none kV3 dc3 pm3 an3 (.ref gc3) ct3), sl3⟩) (c3 : W.codeIn K (.ref gc3) "is_name" = true) (k3 : W.keepIn K (.ref f3) = true) (h3 : W.codeHdIn K gc3 30 = true)
    (a4 : W.nsIn K mainGlobals "is_who_part" = some (some (.ref f4))) (l4 : K.lookup f4 = some ⟨oc4, od4, .func (W.fnOf "is_who_part" "is_who_part" (defArgs s_is_who_part) (defBody s_is_who_part) (defScope s_is_who_part) .none kV4 dc4 pm4 an4 cd4 ct4), sl4⟩) (c4 : W.codeIn K cd4 "is_who_part" = true) (k4 : W.keepIn K (.ref f4) = true)
    (a5 : W.nsIn K mainGlobals "is_who" = some (some (.ref f5))) (l5 : K.lookup f5 = some ⟨oc5, od5, .func (W.fnOf "is_who" "is_who" (defArgs s_is_who) (defBody s_is_who) (defScope s_is_who) .none kV5 dc5 pm5 an5 (.ref gc5) ct5), sl5⟩) (c5 : W.codeIn K (.ref gc5) "is_who" = true) (k5 : W.keepIn K (.ref f5) = true) (h5 : W.codeHdIn K gc5 45 = true)
    (a6 : W.nsIn K mainGlobals "_law_at" = some (some (.ref f6))) (l6 : K.lookup f6 = some ⟨oc6, od6, .func (W.fnOf "_law_at" "_law_at" (defArgs s_Pat) (defBody s_Pat) (defScope s_Pat) .none kV6 dc6 pm6 an6 cd6 ct6), sl6⟩) (c6 : W.codeIn K cd6 "_law_at" = true) (k6 : W.keepIn K (.ref f6) = true)
    (a7 : W.nsIn K mainGlobals "_law_pen" = some (some (.ref f7))) (l7 : K.lookup f7 = some ⟨oc7, od7, .func (W.fnOf "_law_pen" "_law_pen" (defArgs s_Ppen) (defBody s_Ppen) (defScope s_Ppen) .none kV7 dc7 pm7 an7 cd7 ct7), sl7⟩) (c7 : W.codeIn K cd7 "_law_pen" = true) (k7 : W.keepIn K (.ref f7) = true)
    (a8 : W.nsIn K mainGlobals "_law_take" = some (some (.ref f8))) (l8 : K.lookup f8 = some ⟨oc8, od8, .func (W.fnOf "_law_take" "_law_take" (defArgs s_Ptake) (defBody s_Ptake) (defScope s_Ptake) .none kV8 dc8 pm8 an8 cd8 ct8), sl8⟩) (c8 : W.codeIn K cd8 "_law_take" = true) (k8 : W.keepIn K (.ref f8) = true)
    (a9 : W.nsIn K mainGlobals "_law_text" = some (some (.ref f9))) (l9 : K.lookup f9 = some ⟨oc9, od9, .func (W.fnOf "_law_text" "_law_text" (defArgs s_Ptext) (defBody s_Ptext) (defScope s_Ptext) .none kV9 dc9 pm9 an9 cd9 ct9), sl9⟩) (c9 : W.codeIn K cd9 "_law_text" = true) (k9 : W.keepIn K (.ref f9) = true)
    (a10 : W.nsIn K mainGlobals "_law_name" = some (some (.ref f10))) (l10 : K.lookup f10 = some ⟨oc10, od10, .func (W.fnOf "_law_name" "_law_name" (defArgs s_Pname) (defBody s_Pname) (defScope s_Pname) .none kV10 dc10 pm10 an10 cd10 ct10), sl10⟩) (c10 : W.codeIn K cd10 "_law_name" = true) (k10 : W.keepIn K (.ref f10) = true)
    (a11 : W.nsIn K mainGlobals "_law_near" = some (some (.ref f11))) (l11 : K.lookup f11 = some ⟨oc11, od11, .func (W.fnOf "_law_near" "_law_near" (defArgs s_Pnear) (defBody s_Pnear) (defScope s_Pnear) .none kV11 dc11 pm11 an11 cd11 ct11), sl11⟩) (c11 : W.codeIn K cd11 "_law_near" = true) (k11 : W.keepIn K (.ref f11) = true)
    (a12 : W.nsIn K mainGlobals "_law_who" = some (some (.ref f12))) (l12 : K.lookup f12 = some ⟨oc12, od12, .func (W.fnOf "_law_who" "_law_who" (defArgs s_Pwho) (defBody s_Pwho) (defScope s_Pwho) .none kV12 dc12 pm12 an12 cd12 ct12), sl12⟩) (c12 : W.codeIn K cd12 "_law_who" = true) (k12 : W.keepIn K (.ref f12) = true)
    (a13 : W.nsIn K mainGlobals "_law_part" = some (some (.ref f13))) (l13 : K.lookup f13 = some ⟨oc13, od13, .func (W.fnOf "_law_part" "_law_part" (defArgs s_Ppart) (defBody s_Ppart) (defScope s_Ppart) .none kV13 dc13 pm13 an13 cd13 ct13), sl13⟩) (c13 : W.codeIn K cd13 "_law_part" = true) (k13 : W.keepIn K (.ref f13) = true)
    (a14 : W.nsIn K mainGlobals "_law_bent" = some (some (.ref f14))) (l14 : K.lookup f14 = some ⟨oc14, od14, .func (W.fnOf "_law_bent" "_law_bent" (defArgs s_Pbent) (defBody s_Pbent) (defScope s_Pbent) .none kV14 dc14 pm14 an14 cd14 ct14), sl14⟩) (c14 : W.codeIn K cd14 "_law_bent" = true) (k14 : W.keepIn K (.ref f14) = true)
    (a15 : W.nsIn K mainGlobals "_law_is_name" = some (some (.ref f15))) (l15 : K.lookup f15 = some ⟨oc15, od15, .func (W.fnOf "_law_is_name" "_law_is_name" (defArgs s_Pis_name) (defBody s_Pis_name) (defScope s_Pis_name) .none kV15 dc15 pm15 an15 cd15 ct15), sl15⟩) (c15 : W.codeIn K cd15 "_law_is_name" = true) (k15 : W.keepIn K (.ref f15) = true)
    (a16 : W.nsIn K mainGlobals "_law_less" = some (some (.ref f16))) (l16 : K.lookup f16 = some ⟨oc16, od16, .func (W.fnOf "_law_less" "_law_less" (defArgs s_Pless) (defBody s_Pless) (defScope s_Pless) .none kV16 dc16 pm16 an16 cd16 ct16), sl16⟩) (c16 : W.codeIn K cd16 "_law_less" = true) (k16 : W.keepIn K (.ref f16) = true)
    (a17 : W.nsIn K mainGlobals "_law_is_part" = some (some (.ref f17))) (l17 : K.lookup f17 = some ⟨oc17, od17, .func (W.fnOf "_law_is_part" "_law_is_part" (defArgs s_Pis_part) (defBody s_Pis_part) (defScope s_Pis_part) .none kV17 dc17 pm17 an17 cd17 ct17), sl17⟩) (c17 : W.codeIn K cd17 "_law_is_part" = true) (k17 : W.keepIn K (.ref f17) = true)
    (a18 : W.nsIn K mainGlobals "_law_due" = some (some (.ref f18))) (l18 : K.lookup f18 = some ⟨oc18, od18, .func (W.fnOf "_law_due" "_law_due" (defArgs s_Pdue) (defBody s_Pdue) (defScope s_Pdue) .none kV18 dc18 pm18 an18 cd18 ct18), sl18⟩) (c18 : W.codeIn K cd18 "_law_due" = true) (k18 : W.keepIn K (.ref f18) = true)
    (a19 : W.nsIn K mainGlobals "law" = some (some (.ref f19))) (l19 : K.lookup f19 = some ⟨oc19, od19, .func (W.fnOf "law" "law" (defArgs s_law) (defBody s_law) (defScope s_law) .none kV19 dc19 pm19 an19 cd19 ct19), sl19⟩) (c19 : W.codeIn K cd19 "law" = true) (k19 : W.keepIn K (.ref f19) = true)
    {tk_MOST_LETTERS : Tok} (zc_MOST_LETTERS : W.nsIn K mainGlobals "MOST_LETTERS" = some (some (.int 6 tk_MOST_LETTERS))) {tk_LETTERS : Tok} (zc_LETTERS : W.nsIn K mainGlobals "LETTERS" = some (some (.str (Str.ofString "abcdefghijklmnopqrstuvwxyz") tk_LETTERS))) {tk_MOST_PARTS : Tok} (zc_MOST_PARTS : W.nsIn K mainGlobals "MOST_PARTS" = some (some (.int 6 tk_MOST_PARTS))) {ad_MARKS : Addr} {es_MARKS : Array DictEntry} {n_MARKS : Nat} (zd_MARKS : W.nsIn K mainGlobals "MARKS" = some (some (.ref ad_MARKS))) (ld_MARKS : K.lookup ad_MARKS = some ⟨.type "dict", none, .dict es_MARKS n_MARKS, #[]⟩) (kl_MARKS : W.KeysLit w.params es_MARKS.toList) (kk_MARKS : keysAre es_MARKS.toList [Str.ofString "group", Str.ofString "hand", Str.ofString "office"] = true) (ns_MARKS : (ad_MARKS == sysModules) = false)
    (z_len : W.nsIn K mainGlobals "len" = some none) (z_isinstance : W.nsIn K mainGlobals "isinstance" = some none) (z_tuple : W.nsIn K mainGlobals "tuple" = some none) (z_all : W.nsIn K mainGlobals "all" = some none) (z_range : W.nsIn K mainGlobals "range" = some none) (z_str : W.nsIn K mainGlobals "str" = some none) (z_sorted : W.nsIn K mainGlobals "sorted" = some none) (z_set : W.nsIn K mainGlobals "set" = some none) (z_list : W.nsIn K mainGlobals "list" = some none) (z_min : W.nsIn K mainGlobals "min" = some none) (z_repr : W.nsIn K mainGlobals "repr" = some none) (z_bool : W.nsIn K mainGlobals "bool" = some none) :
    ∃ fd : FuncData, (∀ (s : Shared) (v : Value), BindsTo s fd ⟨[v], []⟩ [("_law_script", v)]) ∧ ∀ base : Heap, K.In base → base.Ns mainGlobals mg → FnOk l.prog w K mg base CX0 lv_law fa fd ["_law_script"] (spOf K 1 S_law) := by
  have e := hfa.symm.trans (W.mg_of X G a19)
  cases e
  have F_is_tuple_from_to := fun_mk (st := s_is_tuple_from_to) l1 c1 k1
  have b_is_tuple_from_to := F_is_tuple_from_to.binds (ps := ["thing", "least", "most"]) fun _ _ _ _ _ _ us hl => match us, hl with | [_, _, _], _ => rfl
  have m_is_tuple_from_to := W.mg_of X G a1
  have k_is_tuple_from_to := k1
  have F_is_rising := fun_mk (st := s_is_rising) l2 c2 k2
  have FC_is_rising : FunC K _ _ _ _ _ _ _ := ⟨F_is_rising, rfl, h2, by show 23 ∈ [23, 30, 45]; decide⟩
  have b_is_rising := F_is_rising.binds (ps := ["things"]) fun _ _ _ _ _ _ us hl => match us, hl with | [_], _ => rfl
  have m_is_rising := W.mg_of X G a2
  have k_is_rising := k2
  have F_is_name := fun_mk (st := s_is_name) l3 c3 k3
  have FC_is_name : FunC K _ _ _ _ _ _ _ := ⟨F_is_name, rfl, h3, by show 30 ∈ [23, 30, 45]; decide⟩
  have b_is_name := F_is_name.binds (ps := ["thing"]) fun _ _ _ _ _ _ us hl => match us, hl with | [_], _ => rfl
  have m_is_name := W.mg_of X G a3
  have k_is_name := k3
  have F_is_who_part := fun_mk (st := s_is_who_part) l4 c4 k4
  have b_is_who_part := F_is_who_part.binds (ps := ["thing"]) fun _ _ _ _ _ _ us hl => match us, hl with | [_], _ => rfl
  have m_is_who_part := W.mg_of X G a4
  have k_is_who_part := k4
  have F_is_who := fun_mk (st := s_is_who) l5 c5 k5
  have FC_is_who : FunC K _ _ _ _ _ _ _ := ⟨F_is_who, rfl, h5, by show 45 ∈ [23, 30, 45]; decide⟩
  have b_is_who := F_is_who.binds (ps := ["thing"]) fun _ _ _ _ _ _ us hl => match us, hl with | [_], _ => rfl
  have m_is_who := W.mg_of X G a5
  have k_is_who := k5
  have F_Pat := fun_mk (st := s_Pat) l6 c6 k6
  have b_Pat := F_Pat.binds (ps := ["_law_script", "_law_k"]) fun _ _ _ _ _ _ us hl => match us, hl with | [_, _], _ => rfl
  have m_Pat := W.mg_of X G a6
  have k_Pat := k6
  have F_Ppen := fun_mk (st := s_Ppen) l7 c7 k7
  have b_Ppen := F_Ppen.binds (ps := ["_law_script", "_law_k"]) fun _ _ _ _ _ _ us hl => match us, hl with | [_, _], _ => rfl
  have m_Ppen := W.mg_of X G a7
  have k_Ppen := k7
  have F_Ptake := fun_mk (st := s_Ptake) l8 c8 k8
  have b_Ptake := F_Ptake.binds (ps := ["_law_pen_here", "_law_size"]) fun _ _ _ _ _ _ us hl => match us, hl with | [_, _], _ => rfl
  have m_Ptake := W.mg_of X G a8
  have k_Ptake := k8
  have F_Ptext := fun_mk (st := s_Ptext) l9 c9 k9
  have b_Ptext := F_Ptext.binds (ps := ["_law_pen_here", "_law_most"]) fun _ _ _ _ _ _ us hl => match us, hl with | [_, _], _ => rfl
  have m_Ptext := W.mg_of X G a9
  have k_Ptext := k9
  have F_Pname := fun_mk (st := s_Pname) l10 c10 k10
  have b_Pname := F_Pname.binds (ps := ["_law_pen_here"]) fun _ _ _ _ _ _ us hl => match us, hl with | [_], _ => rfl
  have m_Pname := W.mg_of X G a10
  have k_Pname := k10
  have F_Pnear := fun_mk (st := s_Pnear) l11 c11 k11
  have b_Pnear := F_Pnear.binds (ps := ["_law_pen_here", "_law_base"]) fun _ _ _ _ _ _ us hl => match us, hl with | [_, _], _ => rfl
  have m_Pnear := W.mg_of X G a11
  have k_Pnear := k11
  have F_Pwho := fun_mk (st := s_Pwho) l12 c12 k12
  have b_Pwho := F_Pwho.binds (ps := ["_law_pen_here", "_law_many"]) fun _ _ _ _ _ _ us hl => match us, hl with | [_, _], _ => rfl
  have m_Pwho := W.mg_of X G a12
  have k_Pwho := k12
  have F_Ppart := fun_mk (st := s_Ppart) l13 c13 k13
  have b_Ppart := F_Ppart.binds (ps := ["_law_pen_here", "_law_part_here"]) fun _ _ _ _ _ _ us hl => match us, hl with | [_, _], _ => rfl
  have m_Ppart := W.mg_of X G a13
  have k_Ppart := k13
  have F_Pbent := fun_mk (st := s_Pbent) l14 c14 k14
  have b_Pbent := F_Pbent.binds (ps := ["_law_pen_here", "_law_who_here"]) fun _ _ _ _ _ _ us hl => match us, hl with | [_, _], _ => rfl
  have m_Pbent := W.mg_of X G a14
  have k_Pbent := k14
  have F_Pis_name := fun_mk (st := s_Pis_name) l15 c15 k15
  have b_Pis_name := F_Pis_name.binds (ps := ["_law_thing"]) fun _ _ _ _ _ _ us hl => match us, hl with | [_], _ => rfl
  have m_Pis_name := W.mg_of X G a15
  have k_Pis_name := k15
  have F_Pless := fun_mk (st := s_Pless) l16 c16 k16
  have b_Pless := F_Pless.binds (ps := ["_law_one", "_law_other"]) fun _ _ _ _ _ _ us hl => match us, hl with | [_, _], _ => rfl
  have m_Pless := W.mg_of X G a16
  have k_Pless := k16
  have F_Pis_part := fun_mk (st := s_Pis_part) l17 c17 k17
  have b_Pis_part := F_Pis_part.binds (ps := ["_law_part_here"]) fun _ _ _ _ _ _ us hl => match us, hl with | [_], _ => rfl
  have m_Pis_part := W.mg_of X G a17
  have k_Pis_part := k17
  have F_Pdue := fun_mk (st := s_Pdue) l18 c18 k18
  have b_Pdue := F_Pdue.binds (ps := ["_law_thing"]) fun _ _ _ _ _ _ us hl => match us, hl with | [_], _ => rfl
  have m_Pdue := W.mg_of X G a18
  have k_Pdue := k18
  have F_law := fun_mk (st := s_law) l19 c19 k19
  have m_len := W.mg_none_of X G z_len
  have m_isinstance := W.mg_none_of X G z_isinstance
  have m_tuple := W.mg_none_of X G z_tuple
  have m_all := W.mg_none_of X G z_all
  have m_range := W.mg_none_of X G z_range
  have m_str := W.mg_none_of X G z_str
  have m_sorted := W.mg_none_of X G z_sorted
  have m_set := W.mg_none_of X G z_set
  have m_list := W.mg_none_of X G z_list
  have m_min := W.mg_none_of X G z_min
  have m_repr := W.mg_none_of X G z_repr
  have m_bool := W.mg_none_of X G z_bool
  have g_MOST_LETTERS := W.mg_of X G zc_MOST_LETTERS
  have g_LETTERS := W.mg_of X G zc_LETTERS
  have g_MOST_PARTS := W.mg_of X G zc_MOST_PARTS
  have gk_MARKS : GDictK l.prog w K mg "MARKS" [Str.ofString "group", Str.ofString "hand", Str.ofString "office"] := ⟨_, _, _, W.mg_of X G zd_MARKS, ld_MARKS, kl_MARKS, kk_MARKS, ns_MARKS⟩
  refine ⟨W.fnOf "law" "law" (defArgs s_law) (defBody s_law) (defScope s_law) .none kV19 dc19 pm19 an19 cd19 ct19, fun s v => .of_eq rfl, fun base _ _ => ?_⟩
  have G_is_tuple_from_to := spOf_imp (mg := mg) (fn_is_tuple_from_to (P := l.prog) (w := w) (base := base) F_is_tuple_from_to m_len m_isinstance m_tuple) rd_is_tuple_from_to
  have G_is_rising := spOf_imp (mg := mg) (fn_is_rising (P := l.prog) (w := w) (base := base) FC_is_rising m_all m_range m_len) rd_is_rising
  have G_is_name := spOf_imp (mg := mg) (fn_is_name (P := l.prog) (w := w) (base := base) FC_is_name m_isinstance m_str m_len m_all g_MOST_LETTERS g_LETTERS) rd_is_name
  have G_is_who_part := spOf_imp (mg := mg) (fn_is_who_part (P := l.prog) (w := w) (base := base) F_is_who_part G_is_tuple_from_to b_is_tuple_from_to k_is_tuple_from_to m_is_tuple_from_to G_is_name b_is_name k_is_name m_is_name m_isinstance m_str gk_MARKS) rd_is_who_part
  have G_is_who := spOf_imp (mg := mg) (fn_is_who (P := l.prog) (w := w) (base := base) FC_is_who G_is_tuple_from_to b_is_tuple_from_to k_is_tuple_from_to m_is_tuple_from_to G_is_rising b_is_rising k_is_rising m_is_rising G_is_who_part b_is_who_part k_is_who_part m_is_who_part m_all g_MOST_PARTS) rd_is_who
  have G_Pat := spOf_imp (mg := mg) (fn_Pat (P := l.prog) (w := w) (base := base) F_Pat m_len) rd_Pat
  have G_Ppen := spOf_imp (mg := mg) (fn_Ppen (P := l.prog) (w := w) (base := base) F_Ppen G_Pat b_Pat k_Pat m_Pat) rd_Ppen
  have G_Ptake := spOf_imp (mg := mg) (fn_Ptake (P := l.prog) (w := w) (base := base) F_Ptake) rd_Ptake
  have G_Ptext := spOf_imp (mg := mg) (fn_Ptext (P := l.prog) (w := w) (base := base) F_Ptext G_Ptake b_Ptake k_Ptake m_Ptake m_range) rd_Ptext
  have G_Pname := spOf_imp (mg := mg) (fn_Pname (P := l.prog) (w := w) (base := base) F_Pname G_Ptake b_Ptake k_Ptake m_Ptake G_Ptext b_Ptext k_Ptext m_Ptext) rd_Pname
  have G_Pnear := spOf_imp (mg := mg) (fn_Pnear (P := l.prog) (w := w) (base := base) F_Pnear G_Ptake b_Ptake k_Ptake m_Ptake G_Pname b_Pname k_Pname m_Pname m_len) rd_Pnear
  have G_Pwho := spOf_imp (mg := mg) (fn_Pwho (P := l.prog) (w := w) (base := base) F_Pwho G_Pname b_Pname k_Pname m_Pname G_Pnear b_Pnear k_Pnear m_Pnear G_Ptake b_Ptake k_Ptake m_Ptake m_range m_sorted m_set) rd_Pwho
  have G_Ppart := spOf_imp (mg := mg) (fn_Ppart (P := l.prog) (w := w) (base := base) F_Ppart G_Ptake b_Ptake k_Ptake m_Ptake) rd_Ppart
  have G_Pbent := spOf_imp (mg := mg) (fn_Pbent (P := l.prog) (w := w) (base := base) F_Pbent G_Ptake b_Ptake k_Ptake m_Ptake G_Ppart b_Ppart k_Ppart m_Ppart G_Pwho b_Pwho k_Pwho m_Pwho m_len m_tuple m_list) rd_Pbent
  have G_Pis_name := spOf_imp (mg := mg) (fn_Pis_name (P := l.prog) (w := w) (base := base) F_Pis_name m_isinstance m_str m_len) rd_Pis_name
  have G_Pless := spOf_imp (mg := mg) (fn_Pless (P := l.prog) (w := w) (base := base) F_Pless m_range m_min m_len) rd_Pless
  have G_Pis_part := spOf_imp (mg := mg) (fn_Pis_part (P := l.prog) (w := w) (base := base) F_Pis_part G_Pis_name b_Pis_name k_Pis_name m_Pis_name m_isinstance m_tuple m_len m_str) rd_Pis_part
  have G_Pdue := spOf_imp (mg := mg) (fn_Pdue (P := l.prog) (w := w) (base := base) F_Pdue G_Pis_part b_Pis_part k_Pis_part m_Pis_part G_Pless b_Pless k_Pless m_Pless m_isinstance m_tuple m_len m_all m_range) rd_Pdue
  exact spOf_imp (fn_law (P := l.prog) (w := w) (base := base) F_law G_Ppen b_Ppen k_Ppen m_Ppen G_Pwho b_Pwho k_Pwho m_Pwho G_Ptake b_Ptake k_Ptake m_Ptake G_is_who b_is_who k_is_who m_is_who G_Pbent b_Pbent k_Pbent m_Pbent G_Pdue b_Pdue k_Pdue m_Pdue m_range m_tuple m_repr m_isinstance m_bool) rd_law
theorem script_lst {K : W.Frag} {H : Hp} {a : Addr} {vs : List V} (o : L2.Only H) (h : SqL K H a vs) : LstAt K H a vs := by
  rcases h with (h | h) | h
  · rcases o a with e | ⟨_, _, e⟩ | ⟨_, e⟩ <;> rw [h] at e <;> cases e
  · exact .inl h
  · exact .inr h
theorem law_sp {K : W.Frag} {H : Hp} {a : Addr} {ns : List Int} (hl : ns.length ≤ 63) (o : L2.Only H) (h : SqL K H a (ns.map V.int)) : spOf K 1 S_law [.ref a] H (fun v _ => v = .bl true) fun _ _ _ => False := by
  have hr : Rep K H (zs ns) (.ref a) := by
    unfold zs; rw [rep_lst]; exact ⟨a, _, rfl, script_lst o h, Reps.ints ns⟩
  refine ⟨rfl, [.val (zs ns)], fun r _ => r = .val (.bl true), ⟨rfl, fun i t e => ?_, fun i xs e => ?_, fun i j xs ys p e => ?_⟩, ⟨ns, rfl, hl, rfl⟩, fun r as' e => ?_⟩
  · cases i with
    | zero => cases e; exact ⟨_, rfl, hr⟩
    | succ i => cases e
  · cases i with
    | zero => cases e
    | succ i => cases e
  · cases i with
    | zero => cases e
    | succ i => cases e
  · subst e
    refine ⟨trivial, fun v H' _ _ r => ?_⟩
    have r' : Rep K H' (.bl true) v := r
    rw [rep_bl] at r'
    exact r'
theorem walk {l : W.OpenLaw} {q : Program} {loose : List Str} {XP : (Str → Option Value) → Heap → Prop} {YP : World → Heap → Prop} {d : DefRec} {K : Params → W.Frag} (hn : l.most = some 63) (hdf : d.params.defaults = [])
    (hY : ∀ (w : World) (h : Heap), YP w h → (K w.params).In h)
    (F : ∀ (w : World) (mg : Str → Option Value) (fa : Addr) (h : Heap), (K w.params).In h → h.Ns mainGlobals mg → mg d.name = some (.ref fa) →
      ∃ fd : FuncData, (∀ (s : Shared) (u : Value), BindsTo s fd ⟨[u], []⟩ [("_law_script", u)]) ∧ ∀ base : Heap, (K w.params).In base → base.Ns mainGlobals mg → FnOk l.prog w (K w.params) mg base CX0 lv_law fa fd ["_law_script"] (spOf (K w.params) 1 S_law))
    (hT : ∀ (w : World) (mg mb : Str → Option Value) (h : Heap) (mean : ExcName → Option Value), (K w.params).In h → Top q (W.looseW q loose) mean mg mb h → ∀ Q ∈ Tabs.l, ∃ c, h.TableAt c Q #[]) (hKT : ∀ (w : World), ∀ Q ∈ Tabs.l, (K w.params).lookup Q = none) :
    W.WalkO q loose XP YP l.row.toRowW d [] (fun f vs => PySem.call f vs) :=
  L2.walk_of (n := 63) (k := lv_law) (x := "_law_script") (CX := fun _ => CX0) (sp := fun w => spOf (K w.params) 1 S_law) hn (by decide) hdf ⟨rfl, by decide, by decide, rfl⟩ hY F hT hKT (fun _ _ _ _ hl o hS => law_sp hl o hS) fun _ _ _ _ _ z => z
end FW.k03
open PySem PySem.W PyProof.Rows
set_option maxRecDepth 100000 in
set_option maxHeartbeats 0 in
theorem PySem.Challenge.cw_leavebook_k03_whos_known_holds : PySem.Challenge.rw_leavebook_k03_whos_known.Holds := by
  w_on; o_law; k_head; (case hw => w_witness2)
  k_fill
  refine FW.k03.walk (l := PySem.Challenge.rw_leavebook_k03_whos_known) rfl rfl (fun w h Y => W.kIn_of Y) ?F ?Tb ?Nt
  case F =>
    intro w mg fa h KX G hmg
    refine' FW.k03.all_mk KX G hmg ?a1 ?l1 ?c1 ?k1 ?a2 ?l2 ?c2 ?k2 ?h2 ?a3 ?l3 ?c3 ?k3 ?h3 ?a4 ?l4 ?c4 ?k4 ?a5 ?l5 ?c5 ?k5 ?h5 ?a6 ?l6 ?c6 ?k6 ?a7 ?l7 ?c7 ?k7 ?a8 ?l8 ?c8 ?k8 ?a9 ?l9 ?c9 ?k9 ?a10 ?l10 ?c10 ?k10 ?a11 ?l11 ?c11 ?k11 ?a12 ?l12 ?c12 ?k12 ?a13 ?l13 ?c13 ?k13 ?a14 ?l14 ?c14 ?k14 ?a15 ?l15 ?c15 ?k15 ?a16 ?l16 ?c16 ?k16 ?a17 ?l17 ?c17 ?k17 ?a18 ?l18 ?c18 ?k18 ?a19 ?l19 ?c19 ?k19 ?zc_MOST_LETTERS ?zc_LETTERS ?zc_MOST_PARTS ?zd_MARKS ?ld_MARKS ?kl_MARKS ?kk_MARKS ?ns_MARKS ?z_len ?z_isinstance ?z_tuple ?z_all ?z_range ?z_str ?z_sorted ?z_set ?z_list ?z_min ?z_repr ?z_bool
    (case a1 => k_is); (case l1 => k_is); (case c1 => k_is); (case k1 => k_is)
    (case a2 => k_is); (case l2 => k_is); (case c2 => k_is); (case k2 => k_is); (case h2 => kernel_rfl)
    (case a3 => k_is); (case l3 => k_is); (case c3 => k_is); (case k3 => k_is); (case h3 => kernel_rfl)
    (case a4 => k_is); (case l4 => k_is); (case c4 => k_is); (case k4 => k_is)
    (case a5 => k_is); (case l5 => k_is); (case c5 => k_is); (case k5 => k_is); (case h5 => kernel_rfl)
    (case a6 => k_is); (case l6 => k_is); (case c6 => k_is); (case k6 => k_is)
    (case a7 => k_is); (case l7 => k_is); (case c7 => k_is); (case k7 => k_is)
    (case a8 => k_is); (case l8 => k_is); (case c8 => k_is); (case k8 => k_is)
    (case a9 => k_is); (case l9 => k_is); (case c9 => k_is); (case k9 => k_is)
    (case a10 => k_is); (case l10 => k_is); (case c10 => k_is); (case k10 => k_is)
    (case a11 => k_is); (case l11 => k_is); (case c11 => k_is); (case k11 => k_is)
    (case a12 => k_is); (case l12 => k_is); (case c12 => k_is); (case k12 => k_is)
    (case a13 => k_is); (case l13 => k_is); (case c13 => k_is); (case k13 => k_is)
    (case a14 => k_is); (case l14 => k_is); (case c14 => k_is); (case k14 => k_is)
    (case a15 => k_is); (case l15 => k_is); (case c15 => k_is); (case k15 => k_is)
    (case a16 => k_is); (case l16 => k_is); (case c16 => k_is); (case k16 => k_is)
    (case a17 => k_is); (case l17 => k_is); (case c17 => k_is); (case k17 => k_is)
    (case a18 => k_is); (case l18 => k_is); (case c18 => k_is); (case k18 => k_is)
    (case a19 => k_is); (case l19 => k_is); (case c19 => k_is); (case k19 => k_is)
    (case zc_MOST_LETTERS => k_is)
    (case zc_LETTERS => k_is)
    (case zc_MOST_PARTS => k_is)
    (case zd_MARKS => k_is); (case ld_MARKS => k_is); (case kl_MARKS => k_keys)
    (case kk_MARKS => kernel_rfl); (case ns_MARKS => rfl)
    (case z_len => k_is)
    (case z_isinstance => k_is)
    (case z_tuple => k_is)
    (case z_all => k_is)
    (case z_range => k_is)
    (case z_str => k_is)
    (case z_sorted => k_is)
    (case z_set => k_is)
    (case z_list => k_is)
    (case z_min => k_is)
    (case z_repr => k_is)
    (case z_bool => k_is)
  case Nt =>
    intro w Q hQ
    have hQ' : Q ∈ [23, 30, 45] := hQ
    simp only [List.mem_cons, List.not_mem_nil, or_false] at hQ'
    rcases hQ' with rfl | rfl | rfl <;> kernel_rfl
  case Tb =>
    intro w mg mb h mean KX T Q hQ
    have hQ' : Q ∈ [23, 30, 45] := hQ
    simp only [List.mem_cons, List.not_mem_nil, or_false] at hQ'
    rcases hQ' with rfl | rfl | rfl
    · have z := W.tab_of (x := "is_rising") (c := 27) (P := 23) T KX rfl (by kernel_rfl)
      exact ⟨_, z.1.tab z.2⟩
    · have z := W.tab_of (x := "is_name") (c := 34) (P := 30) T KX rfl (by kernel_rfl)
      exact ⟨_, z.1.tab z.2⟩
    · have z := W.tab_of (x := "is_who") (c := 49) (P := 45) T KX rfl (by kernel_rfl)
      exact ⟨_, z.1.tab z.2⟩
