import PyProof.Rows.All
import Wide.All
import OpenK.AllK
import Wide.FinOn
import PyProof.EqAt
import PyProof.EqKinds
import PyProof.TupleCall
import KE.BitLaws
import PyProof.ListStr
import PyProof.ListRange
import PyProof.TupleOfGen
import KE.KUnpackStar
import KE.KIsAll
import KE.KCallOwn
import PyProof.ExcInit
import KE.KFromBytes
import PyProof.InstStoreFacts
import PyProof.ExcAttrAll.ValueError
import KE.KLam
import KE.KTryMore
import PyProof.RulesDel
import PyProof.RulesAs
import PyProof.ExcAttrAll.TypeError
import PyProof.ExcAttrAll.OverflowError
import PyProof.ExcAttrAll.RuntimeError
import PyProof.ExcAttrAll.LookupError
import PyProof.ExcAttrAll.Exception
import PyProof.DictCompW
import PyProof.SetNew
import PyProof.CallFns
import PyProof.SetKind
import PyProof.DictKinds
import PyProof.Rows.SetFrom
import PyProof.Rows.SortShellAny
import KE.KRevIter
import PyProof.TupleKey
import PyProof.Rows.StrJoinMade
import PySem.Challenge.RW_leastfail_k23_whole_quick_as_cut_down
set_option Elab.async false
set_option linter.all false
set_option maxRecDepth 100000
namespace L2
open PySem PySem.Spec PyProof.Rows

abbrev Key := Sum Int Str
def keyIs : Key → Value → Bool
  | .inl k, v => Value.isInt k v
  | .inr x, v => Value.isStrOf x v
def keyH (w : World) : Key → Int
  | .inl k => hashInt k
  | .inr x => hashStr w x
theorem keyIs_shape : ∀ {k : Key} {v : Value}, keyIs k v = true → (∃ i t, k = Sum.inl i ∧ v = Value.int i t) ∨ (∃ x t, k = Sum.inr x ∧ v = Value.str x t)
  | .inl i, v, h => by
    obtain ⟨t, e⟩ := Value.isInt_shape (k := i) (v := v) h
    exact .inl ⟨i, t, rfl, e⟩
  | .inr x, v, h => by
    obtain ⟨t, e⟩ := Value.isStrOf_shape (x := x) (v := v) h
    exact .inr ⟨x, t, rfl, e⟩
theorem keyIs_int (i : Int) (t : Tok) : keyIs (.inl i) (.int i t) = true := by simp [keyIs, Value.isInt]
theorem keyIs_str (x : Str) (t : Tok) : keyIs (.inr x) (.str x t) = true := by simp [keyIs, Value.isStrOf]
theorem key_ll (a b : Int) : decide ((Sum.inl a : Key) = Sum.inl b) = (a == b) := by
  by_cases e : a = b
  · subst e; simp
  · have h : ¬ (Sum.inl a : Key) = Sum.inl b := fun q => e (Sum.inl.inj q)
    rw [decide_eq_false h]
    exact (beq_eq_false_iff_ne.mpr e).symm
theorem key_rr (a b : Str) : decide ((Sum.inr a : Key) = Sum.inr b) = decide (a = b) := by
  by_cases e : a = b
  · subst e; simp
  · have h : ¬ (Sum.inr a : Key) = Sum.inr b := fun q => e (Sum.inr.inj q)
    rw [decide_eq_false h, decide_eq_false e]
theorem key_lr (a : Int) (b : Str) : decide ((Sum.inl a : Key) = Sum.inr b) = false := decide_eq_false (fun q => nomatch q)
theorem key_rl (a : Str) (b : Int) : decide ((Sum.inr a : Key) = Sum.inl b) = false := decide_eq_false (fun q => nomatch q)

def mixKind (prog : Program) (w : World) : PySem.KeyKind prog w Key where
  is := keyIs
  hash := keyH w
  inj := fun v a b ha hb => by
    rcases keyIs_shape ha with ⟨i, t, rfl, rfl⟩ | ⟨x, t, rfl, rfl⟩
    · rcases keyIs_shape hb with ⟨j, u, rfl, e⟩ | ⟨y, u, rfl, e⟩
      · injection e with e1 _; rw [e1]
      · exact nomatch e
    · rcases keyIs_shape hb with ⟨j, u, rfl, e⟩ | ⟨y, u, rfl, e⟩
      · exact nomatch e
      · injection e with e1 _; rw [e1]
  byValue := fun k v h => by
    rcases keyIs_shape h with ⟨i, t, rfl, rfl⟩ | ⟨x, t, rfl, rfl⟩ <;> rfl
  pyHash := fun hv h => by
    rcases keyIs_shape hv with ⟨i, t, rfl, rfl⟩ | ⟨x, t, rfl, rfl⟩
    · exact wpAny_pyHash_int h
    · exact wpAny_pyHash_str h
  eqBool := fun hu hv h => by
    rcases keyIs_shape hu with ⟨i, t, rfl, rfl⟩ | ⟨x, t, rfl, rfl⟩
    · rcases keyIs_shape hv with ⟨j, u, rfl, rfl⟩ | ⟨y, u, rfl, rfl⟩
      · rw [key_ll] at h; exact wpAny_eqBool_int h
      · rw [key_lr] at h; exact SeqAt.EqAt.int_str i t y u _ _ _ _ h
    · rcases keyIs_shape hv with ⟨j, u, rfl, rfl⟩ | ⟨y, u, rfl, rfl⟩
      · rw [key_rl] at h; exact SeqAt.EqAt.str_int x t j u _ _ _ _ h
      · rw [key_rr] at h; exact wpAny_eqBool_str h
  «strs» := fun k x t v h => by
    rcases keyIs_shape h with ⟨i, u, rfl, e⟩ | ⟨y, u, rfl, e⟩
    · exact nomatch e
    · injection e with e1 _
      subst e1
      cases v <;> rfl

theorem mixKind_int (prog : Program) (w : World) (i : Int) (t : Tok) : (mixKind prog w).is (.inl i) (.int i t) = true := keyIs_int i t
theorem mixKind_str (prog : Program) (w : World) (x : Str) (t : Tok) : (mixKind prog w).is (.inr x) (.str x t) = true := keyIs_str x t
end L2

namespace L2
open PySem PySem.Spec PyProof.Rows

inductive V where
  | non | bl (b : Bool) | int (i : Int) | str (x : Str) | byt (b : Array UInt8) | flt (b : UInt64) | ref (a : Addr) | ty (n : String)
  deriving DecidableEq

def RelV : V → Value → Prop
  | .non, u => u = Value.none
  | .bl b, u => u = Value.bool b
  | .int i, u => ∃ t, u = Value.int i t
  | .str x, u => ∃ t, u = Value.str x t
  | .byt b, u => ∃ t, u = Value.bytes b t
  | .flt b, u => ∃ t, u = Value.float b t
  | .ref a, u => u = Value.ref a
  | .ty n, u => u = Value.type n

abbrev Vals : List V → List Value → Prop := Paired RelV
theorem Vals.length {xs : List V} {us : List Value} (r : Vals xs us) : xs.length = us.length := Paired.length r
theorem Vals.get : ∀ {xs : List V} {us : List Value} {i : Nat} {x : V}, Vals xs us → xs[i]? = some x → ∃ u, us[i]? = some u ∧ RelV x u
  | _, _, _, _, .nil, e => by simp at e
  | _, _, 0, _, .cons r _, e => by simp at e; subst e; exact ⟨_, rfl, r⟩
  | _, _, i + 1, x, .cons _ t, e => by
    obtain ⟨u, h1, h2⟩ := Vals.get (i := i) (x := x) t (by simpa using e)
    exact ⟨u, by simpa using h1, h2⟩
theorem Vals.set {x : V} {u : Value} (r : RelV x u) : ∀ {xs : List V} {us : List Value} (i : Nat), Vals xs us → Vals (xs.set i x) (us.set i u)
  | _, _, _, .nil => .nil
  | _, _, 0, .cons _ t => .cons r t
  | _, _, i + 1, .cons q t => .cons q (Vals.set r i t)
theorem Vals.append : ∀ {xs ys : List V} {us ws : List Value}, Vals xs us → Vals ys ws → Vals (xs ++ ys) (us ++ ws)
  | _, _, _, _, .nil, s => s
  | _, _, _, _, .cons r t, s => .cons r (Vals.append t s)
theorem Vals.take : ∀ {xs : List V} {us : List Value} (n : Nat), Vals xs us → Vals (xs.take n) (us.take n)
  | _, _, 0, _ => .nil
  | _, _, _ + 1, .nil => .nil
  | _, _, n + 1, .cons r t => .cons r (Vals.take n t)
theorem Vals.drop : ∀ {xs : List V} {us : List Value} (n : Nat), Vals xs us → Vals (xs.drop n) (us.drop n)
  | _, _, 0, r => r
  | _, _, _ + 1, .nil => .nil
  | _, _, n + 1, .cons _ t => Vals.drop n t
theorem Vals.none_of : ∀ {xs : List V} {us : List Value} {i : Nat}, Vals xs us → xs[i]? = none → us[i]? = none := fun {xs us i} r e => by
  have h1 := r.length
  have h2 : xs.length ≤ i := List.getElem?_eq_none_iff.mp e
  exact List.getElem?_eq_none_iff.mpr (by omega)

def RelO : Option V → Option Value → Prop
  | some v, some u => RelV v u
  | none, none => True
  | _, _ => False
def KV {κ : Type} : List (κ × V) → List (κ × Value) → Prop := Paired fun (p : κ × V) (q : κ × Value) => p.1 = q.1 ∧ RelV p.2 q.2

def kV : Key → V
  | .inl i => .int i
  | .inr x => .str x

inductive HO where
  /-- a list -/
  | lst (xs : List V)
  /-- a tuple (never changes) -/
  | tup (xs : List V)
  /-- a dict whose keys are ints and texts; one whose keys are tuples of ints and texts (the empty one is both) -/
  | dK (kvs : List (Key × V)) | dT (kvs : List (List Key × V))
  /-- a set of ints: its members, its size -/
  | set (S : Int → Bool) (n : Nat)
  /-- an instance of the class at C, its dict at dx, its attributes -/
  | ins (C dx : Addr) (fs : List (Str × V))
  /-- the dict of the instance at x -/
  | own (x : Addr)
  /-- the dict of an exception -/
  | xd (fs : List (Str × V))
  /-- a bound method, f of x -/
  | met (f x : Addr)
  /-- a range object lo, lo + 1, .. below hi -/
  | rng (lo hi : Int)
  /-- a thing that is known to the object (the script; a dict while a loop walks it): read, never written while it is so -/
  | frz (o : Obj) (u : HO)
  /-- a code object's table -/
  | tbl (ps : Array Value)
  /-- any other thing, by what is true of its one object (a def of one's own: SetO a S n := HO.ext fun h => ..) -/
  | ext (φ : Heap → Prop)

abbrev Hp := Addr → Option HO
def upd (H : Hp) (a : Addr) (o : HO) : Hp := fun b => if b = a then some o else H b
theorem upd_same {H : Hp} {a : Addr} {o : HO} : upd H a o a = some o := by unfold upd; rw [if_pos rfl]
theorem upd_ne {H : Hp} {a b : Addr} {o : HO} (h : b ≠ a) : upd H a o b = H b := by unfold upd; rw [if_neg h]
theorem upd_upd {H : Hp} {a : Addr} {o u : HO} : upd (upd H a o) a u = upd H a u := by
  funext b; unfold upd; split <;> rfl
theorem ne_of {H : Hp} {a b : Addr} {o u : HO} (h : H a = some o) (h' : H b = some u) (d : o ≠ u) : a ≠ b := by
  intro e; subst e; rw [h] at h'; exact d (Option.some.inj h')
theorem ne_of_none {H : Hp} {a b : Addr} {o : HO} (h : H a = some o) (h' : H b = none) : a ≠ b := by
  intro e; subst e; rw [h] at h'; cases h'

section
variable (P : Program) (w : World)
def ObjOk (H : Hp) (h : Heap) (a : Addr) : HO → Prop
  | .lst xs => xs.length ≤ sizeLine ∧ ∃ (its : List Value) (n : Nat), Vals xs its ∧ h.get? a = some { cls := .type "list", data := .seq its.toArray n }
  | .tup xs => xs.length ≤ sizeLine ∧ ∃ its : List Value, Vals xs its ∧ IsTup h a its.toArray
  | .dK kvs => kvs.length ≤ sizeLine ∧ (a == sysModules) = false ∧ ∃ vs, KV kvs vs ∧ h.DictOf (mixKind P w) a vs
  | .dT kvs => kvs.length ≤ sizeLine ∧ (a == sysModules) = false ∧ ∃ xs : List (List Key × Addr × Value),
      Paired (fun (p : List Key × V) (q : List Key × Addr × Value) => p.1 = q.1 ∧ H q.2.1 = some (.tup (p.1.map kV)) ∧ RelV p.2 q.2.2) kvs xs ∧
      ∃ o es ep, h.get? a = some o ∧ o.ExactDict ∧ o.data = .dict es ep ∧ es.toList = xs.map (entryOfKey (tupleKind (mixKind P w))) ∧ (xs.map (·.1)).Nodup
  | .set S n => h.SetOf (intKind P w) a S n
  | .ins C dx fs => H dx = some (.own a) ∧ fs.length ≤ 1000 ∧ dx ≠ a ∧ h.get? a = some (PySem.W.instObj C dx) ∧
      ∃ mA, h.Ns1 dx mA ∧ (∀ f, RelO (fs.lookup f) (mA f)) ∧ PySem.Within mA (fs.map (·.1))
  | .own _ => ∃ o, h.get? a = some o
  | .xd fs => ∃ mA, h.Ns1 a mA ∧ ∀ f, RelO (fs.lookup f) (mA f)
  | .rng lo hi => ∃ t u v, h.get? a = some { cls := .type "range", data := .fields #[.int lo t, .int hi u, .int 1 v] }
  | .frz o u => h.get? a = some o ∧ ObjOk H h a u
  | .tbl ps => h.get? a = some { cls := .none, data := .fields ps }
  | .met f x => h.get? a = some (PySem.W.methodObj (.ref f) (.ref x))
  | .ext φ => φ h ∧ (∃ o, h.get? a = some o) ∧ ∀ h1 h2 : Heap, φ h1 → (∀ o, h1.get? a = some o → h2.get? a = some o) → φ h2
def HOk (H : Hp) (h : Heap) : Prop := ∀ a o, H a = some o → ObjOk P w H h a o
end

section
variable {P : Program} {w : World} {H H' : Hp} {h h' : Heap} {a : Addr} {o : HO}
theorem ObjOk.lt (x : ObjOk P w H h a o) : a < h.objs.size := by
  cases o with
  | lst xs => obtain ⟨_, _, _, _, e⟩ := x; exact Heap.lt_size e
  | tup xs => obtain ⟨_, _, _, p⟩ := x; exact p.lt
  | dK kvs => obtain ⟨_, _, _, _, o, _, _, e, _⟩ := x; exact Heap.lt_size e
  | dT kvs => obtain ⟨_, _, _, _, o, _, _, e, _⟩ := x; exact Heap.lt_size e
  | set S n => obtain ⟨o, _, _, _, e, _⟩ := x; exact Heap.lt_size e
  | ins C dx fs => obtain ⟨_, _, _, e, _⟩ := x; exact Heap.lt_size e
  | own y => obtain ⟨_, e⟩ := x; exact Heap.lt_size e
  | xd fs => obtain ⟨_, ⟨_, _, _, e, _⟩, _⟩ := x; exact Heap.lt_size e
  | rng lo hi => obtain ⟨_, _, _, e⟩ := x; exact Heap.lt_size e
  | frz ob u => obtain ⟨e, _⟩ := x; exact Heap.lt_size e
  | tbl ps => exact Heap.lt_size (show h.get? a = some _ from x)
  | met f y => exact Heap.lt_size (show h.get? a = some _ from x)
  | ext φ => obtain ⟨_, ⟨_, e⟩, _⟩ := x; exact Heap.lt_size e
theorem Paired.mapP {α β : Type} {F G : α → β → Prop} : ∀ {l₁ : List α} {l₂ : List β}, Paired F l₁ l₂ → (∀ a b, F a b → G a b) → Paired G l₁ l₂
  | _, _, .nil, _ => .nil
  | _, _, .cons r t, f => .cons (f _ _ r) (Paired.mapP t f)
theorem ObjOk.stay (x : ObjOk P w H h a o) (k : ∀ b u, (b = a ∨ H b = some (.own a)) → h.get? b = some u → h'.get? b = some u)
    (ho : ∀ b, H b = some (.own a) → H' b = some (.own a)) (ht : ∀ b xs, H b = some (.tup xs) → H' b = some (.tup xs)) : ObjOk P w H' h' a o := by
  induction o with
  | lst xs => obtain ⟨z, its, n, r, e⟩ := x; exact ⟨z, its, n, r, k _ _ (.inl rfl) e⟩
  | tup xs => obtain ⟨z, its, r, ob, e, c⟩ := x; exact ⟨z, its, r, ob, k _ _ (.inl rfl) e, c⟩
  | dK kvs => obtain ⟨z, y, vs, r, ob, es, ep, e, c⟩ := x; exact ⟨z, y, vs, r, ob, es, ep, k _ _ (.inl rfl) e, c⟩
  | dT kvs =>
    obtain ⟨z, y, xs, r, ob, es, ep, e, c⟩ := x
    exact ⟨z, y, xs, Paired.mapP r fun p q z => ⟨z.1, ht _ _ z.2.1, z.2.2⟩, ob, es, ep, k _ _ (.inl rfl) e, c⟩
  | set S n => obtain ⟨ob, es, ep, t, e, c⟩ := x; exact ⟨ob, es, ep, t, k _ _ (.inl rfl) e, c⟩
  | ins C dx fs =>
    obtain ⟨d, z, ne, e, mA, ⟨od, es, ep, e2, c⟩, r⟩ := x
    exact ⟨ho _ d, z, ne, k _ _ (.inl rfl) e, mA, ⟨od, es, ep, k _ _ (.inr d) e2, c⟩, r⟩
  | own y => obtain ⟨ob, e⟩ := x; exact ⟨ob, k _ _ (.inl rfl) e⟩
  | xd fs => obtain ⟨mA, ⟨od, es, ep, e, c⟩, r⟩ := x; exact ⟨mA, ⟨od, es, ep, k _ _ (.inl rfl) e, c⟩, r⟩
  | rng lo hi => obtain ⟨t, u, v, e⟩ := x; exact ⟨t, u, v, k _ _ (.inl rfl) e⟩
  | frz ob u ih => obtain ⟨e, q⟩ := x; exact ⟨k _ _ (.inl rfl) e, ih q⟩
  | tbl ps =>
    have e : h.get? a = some { cls := .none, data := .fields ps } := x
    show h'.get? a = some { cls := .none, data := .fields ps }
    exact k a _ (.inl rfl) e
  | met f y =>
    have e : h.get? a = some (PySem.W.methodObj (.ref f) (.ref y)) := x
    show h'.get? a = some (PySem.W.methodObj (.ref f) (.ref y))
    exact k a _ (.inl rfl) e
  | ext φ => obtain ⟨p, ⟨o, e⟩, st⟩ := x; exact ⟨st _ _ p fun o q => k _ _ (.inl rfl) q, ⟨o, k _ _ (.inl rfl) e⟩, st⟩
theorem HOk.lt (x : HOk P w H h) (e : H a = some o) : a < h.objs.size := (x a o e).lt
theorem HOk.fresh (x : HOk P w H h) (e : h.objs.size ≤ a) : H a = none := by
  cases q : H a with
  | none => rfl
  | some u => exact absurd (Nat.lt_of_lt_of_le (x.lt q) e) (Nat.lt_irrefl _)
theorem HOk.kept (x : HOk P w H h) (k : ∀ b u, h.get? b = some u → h'.get? b = some u) : HOk P w H h' := fun a o e =>
  (x a o e).stay (fun b u _ q => k b u q) (fun _ q => q) fun _ _ q => q
theorem HOk.laid (x : HOk P w H h) (k : ∀ b u, h.get? b = some u → h'.get? b = some u) (hp : h.objs.size ≤ a) (new : ObjOk P w (upd H a o) h' a o) : HOk P w (upd H a o) h' := fun b u e => by
  have hn := x.fresh hp
  by_cases hb : b = a
  · subst hb; rw [upd_same] at e; cases e; exact new
  · rw [upd_ne hb] at e
    exact (x b u e).stay (fun c v _ q => k c v q) (fun c q => by rw [upd_ne (ne_of_none q hn)]; exact q) fun c xs q => by rw [upd_ne (ne_of_none q hn)]; exact q
end

def Rd (H : Hp) (a : Addr) (u : HO) : Prop := H a = some u ∨ ∃ o, H a = some (.frz o u)
theorem Rd.of {H : Hp} {a : Addr} {u : HO} (h : H a = some u) : Rd H a u := .inl h
theorem Rd.ok {P : Program} {w : World} {H : Hp} {h : Heap} {a : Addr} {u : HO} (r : Rd H a u) (x : HOk P w H h) : ObjOk P w H h a u := by
  rcases r with r | ⟨o, r⟩
  · exact x a u r
  · obtain ⟨_, q⟩ := x a _ r
    exact q
def Mut : Option HO → Prop
  | some (.lst _) => True
  | some (.dK _) => True
  | some (.dT _) => True
  | some (.set _ _) => True
  | some (.ins _ _ _) => True
  | some (.ext _) => True
  | _ => False
section
variable {P : Program} {w : World} {H : Hp} {h h' : Heap} {x e : Addr} {o' : HO}
theorem HOk.write (ok : HOk P w H h) (mu : Mut (H x)) (he : e = x ∨ H e = some (.own x)) (k : ∀ b u, b ≠ e → h.get? b = some u → h'.get? b = some u) (heo : ∃ u, h'.get? e = some u)
    (new : ObjOk P w (upd H x o') h' x o') : HOk P w (upd H x o') h' := fun b u q => by
  have nown : ∀ c y, H c = some (.own y) → c ≠ x := fun c y r z => by subst z; rw [r] at mu; exact mu
  have ntup : ∀ c xs, H c = some (.tup xs) → c ≠ x := fun c xs r z => by subst z; rw [r] at mu; exact mu
  by_cases hb : b = x
  · subst hb; rw [upd_same] at q; cases q; exact new
  · rw [upd_ne hb] at q
    by_cases hbe : b = e
    · have q' : H b = some (.own x) := by
        rcases he with z | z
        · exact absurd (hbe.trans z) hb
        · rw [hbe]; exact z
      rw [q] at q'; cases q'
      obtain ⟨v, hv⟩ := heo
      exact ⟨v, by rw [hbe]; exact hv⟩
    · refine (ok b u q).stay (fun c v hc r => k c v ?_ r) (fun c r => by rw [upd_ne (nown c b r)]; exact r) fun c xs r => by rw [upd_ne (ntup c xs r)]; exact r
      rcases hc with rfl | hc
      · exact hbe
      · rintro rfl
        rcases he with z | z
        · exact nown c b hc z
        · rw [hc] at z; cases z; exact hb rfl
end

structure Un (fs ex : List Addr) (H H' : Hp) (h h' : Heap) : Prop where
  keep : ∀ b o, h.get? b = some o → H b = none → b ∉ fs → b ∉ ex → h'.get? b = some o
  slot : ∀ b o, h.get? b = some o → H b = none → b ∈ fs → b ∉ ex → ∃ sl, h'.get? b = some { o with slots := sl }
  free : ∀ b o, h.get? b = some o → H b = none → b ∉ ex → H' b = none
  there : ∀ b o, h.get? b = some o → b ∉ ex → ∃ o', h'.get? b = some o'
  tups : ∀ b xs, H b = some (.tup xs) → H' b = some (.tup xs)
  frzs : ∀ b o u, H b = some (.frz o u) → H' b = some (.frz o u)
  tbls : ∀ b ps, H b = some (.tbl ps) → ∃ more, H' b = some (.tbl (ps ++ more))
section
variable {fs fs' ex ex' : List Addr} {H H1 H2 : Hp} {h h1 h2 h' : Heap} {a x e : Addr} {o : HO}
theorem Un.any (u : Un fs ex H H1 h h1) {b : Addr} {ob : Obj} (q : h.get? b = some ob) (n : H b = none) (hx : b ∉ ex) : ∃ sl, h1.get? b = some { ob with slots := sl } := by
  by_cases hb : b ∈ fs
  · exact u.slot b ob q n hb hx
  · exact ⟨ob.slots, u.keep b ob q n hb hx⟩
theorem Un.trans (a : Un fs ex H H1 h h1) (b : Un fs ex H1 H2 h1 h2) : Un fs ex H H2 h h2 where
  keep := fun c ob q n hc hx => b.keep c ob (a.keep c ob q n hc hx) (a.free c ob q n hx) hc hx
  slot := fun c ob q n hc hx => by
    obtain ⟨sl, e1⟩ := a.slot c ob q n hc hx
    obtain ⟨sl', e2⟩ := b.slot c _ e1 (a.free c ob q n hx) hc hx
    exact ⟨sl', e2⟩
  free := fun c ob q n hx => by
    obtain ⟨o', e1⟩ := a.there c ob q hx
    exact b.free c o' e1 (a.free c ob q n hx) hx
  there := fun c ob q hx => by
    obtain ⟨o', e1⟩ := a.there c ob q hx
    exact b.there c o' e1 hx
  tups := fun c xs q => b.tups c xs (a.tups c xs q)
  frzs := fun c ob xs q => b.frzs c ob xs (a.frzs c ob xs q)
  tbls := fun c ps q => by
    obtain ⟨m1, e1⟩ := a.tbls c ps q
    obtain ⟨m2, e2⟩ := b.tbls c _ e1
    exact ⟨m1 ++ m2, by rw [e2, Array.append_assoc]⟩
theorem Un.kept (k : ∀ b u, h.get? b = some u → h'.get? b = some u) : Un fs ex H H h h' :=
  ⟨fun b ob q _ _ _ => k b ob q, fun b ob q _ _ _ => ⟨ob.slots, k b ob q⟩, fun _ _ _ n _ => n, fun b ob q _ => ⟨ob, k b ob q⟩, fun _ _ q => q, fun _ _ _ q => q, fun _ ps q => ⟨#[], by rw [q]; simp⟩⟩
theorem Un.refl : Un fs ex H H h h := Un.kept fun _ _ q => q
theorem Un.laid (k : ∀ b u, h.get? b = some u → h'.get? b = some u) (hp : h.objs.size ≤ a) (hn : H a = none) : Un fs ex H (upd H a o) h h' where
  keep := fun b u q _ _ _ => k b u q
  slot := fun b u q _ _ _ => ⟨u.slots, k b u q⟩
  free := fun b u q n _ => by rw [upd_ne (Nat.ne_of_lt (Nat.lt_of_lt_of_le (Heap.lt_size q) hp))]; exact n
  there := fun b u q _ => ⟨u, k b u q⟩
  tups := fun b xs q => by rw [upd_ne (ne_of_none q hn)]; exact q
  frzs := fun b u xs q => by rw [upd_ne (ne_of_none q hn)]; exact q
  tbls := fun b ps q => ⟨#[], by rw [upd_ne (ne_of_none q hn), q]; simp⟩
theorem Un.write (mu : Mut (H x)) (he : e = x ∨ H e = some (.own x)) (k : ∀ b u, b ≠ e → h.get? b = some u → h'.get? b = some u) (heo : ∃ u, h'.get? e = some u) : Un fs ex H (upd H x o) h h' := by
  have hx : ∀ b, H b = none → b ≠ x := fun b n z => by subst z; rw [n] at mu; exact mu
  have hb : ∀ b, H b = none → b ≠ e := fun b n z => by
    subst z
    rcases he with r | r
    · exact hx b n r
    · rw [n] at r; cases r
  have hm : ∀ b u, H b = some u → ¬ Mut (some u) → b ≠ x := fun b u q nm z => by subst z; rw [q] at mu; exact nm mu
  refine ⟨fun b u q n _ _ => k b u (hb b n) q, fun b u q n _ _ => ⟨u.slots, k b u (hb b n) q⟩, fun b u q n _ => by rw [upd_ne (hx b n)]; exact n, fun b u q _ => ?_,
    fun b xs q => by rw [upd_ne (hm b _ q fun z => z)]; exact q, fun b u xs q => by rw [upd_ne (hm b _ q fun z => z)]; exact q, fun b ps q => ⟨#[], by rw [upd_ne (hm b _ q fun z => z), q]; simp⟩⟩
  by_cases hbe : b = e
  · subst hbe; exact heo
  · exact ⟨u, k b u hbe q⟩
theorem Un.mono (u : Un fs ex H H1 h h1) (hs : ∀ b ∈ fs, b ∈ fs') (hx : ∀ b ∈ ex, b ∈ ex') : Un fs' ex' H H1 h h1 :=
  ⟨fun b ob q n hb he => u.keep b ob q n (fun z => hb (hs b z)) fun z => he (hx b z), fun _ _ q n _ he => u.any q n fun z => he (hx _ z), fun b ob q n he => u.free b ob q n fun z => he (hx b z), fun b ob q he => u.there b ob q fun z => he (hx b z), u.tups, u.frzs, u.tbls⟩
end

def trk (h : Heap) (H : Hp) : List Addr := (List.range h.objs.size).filter fun a => (H a).isSome
def hidT (h : Heap) (H : Hp) : Heap := PySem.W.hideAll h (trk h H)
theorem hidT_size (h : Heap) (H : Hp) : (hidT h H).objs.size = h.objs.size := PySem.W.hideAll_size _ _
theorem hidT_get {h : Heap} {H : Hp} {b : Addr} {o : Obj} (e : h.get? b = some o) (n : H b = none) : (hidT h H).get? b = some o :=
  PySem.W.hideAll_get _ e fun hm => by
    have q : (H b).isSome = true := (List.mem_filter.mp hm).2
    rw [n] at q; simp at q
theorem of_hidT {h : Heap} {H : Hp} {b : Addr} {o : Obj} (e : (hidT h H).get? b = some o) : h.get? b = some o ∧ H b = none := by
  have e' : h.get? b = some o := PySem.W.of_hideAll (trk h H) e
  refine ⟨e', ?_⟩
  cases q : H b with
  | none => rfl
  | some x =>
    have hm : b ∈ trk h H := List.mem_filter.mpr ⟨List.mem_range.mpr (Heap.lt_size e'), by simp [q]⟩
    have z : (hidT h H).get? b = none := PySem.W.hideAll_none (trk h H) hm
    rw [z] at e; cases e

def allNews (g h : Heap) (L : Addr) : List (Addr × Obj) := (List.range h.objs.size).filterMap fun a => if a = L ∨ (g.get? a).isSome = true then none else (h.get? a).map fun o => (a, o)
def rest (g h : Heap) (L d : Addr) : List (Addr × Obj) := (allNews g h L).filter fun p => decide (p.1 ≠ d)
end L2

namespace L2
open PySem PySem.Spec PyProof.Rows

structure Mod (K : PySem.W.Frag) (mg : Str → Option Value) (base : Heap) : Prop where
  kin : K.In base
  glob : base.Ns mainGlobals mg
  blt : ∃ mb, base.Ns builtinsNs mb ∧ ∀ x : Str, x ≠ "__name__" → mb x = bootBuiltins x
  nolimit : base.NoLimit

structure Cx where
  prog : Program
  w : World
  K : PySem.W.Frag
  mg : Str → Option Value
  base : Heap
  A : Around
  N : List Str
  s_0 : Shared
  H_0 : Hp
  env : Env
  outer : List Env
  stack : List Env
  ex : List Addr
  fn : Str → Bool
  calm : Bool
  pn : List (Addr × Obj)
  xe : Value → Shared → Prop
def frs (l : List Env) : List Addr := l.filterMap (·.frame)
abbrev Cx.fs (X : Cx) : List Addr := frs X.outer

def Vis (sc : Scope) (x : Str) : Prop := sc.names.lookup x = some .local ∨ sc.names.lookup x = some .cell ∨ sc.names.lookup x = some .free
def Loc (sc : Scope) (x : Str) : Prop := sc.names.lookup x = some .local ∨ sc.names.lookup x = some .cell
def Look (env : Env) (h : Heap) (m : Str → Option Value) (x : Str) (u : Value) : Prop :=
  (env.kindOf x = some .local ∧ m x = some u) ∨ ((env.kindOf x = some .cell ∨ env.kindOf x = some .free) ∧ ∃ c, env.cells.lookup x = some c ∧ h.IsCell c (some u))

structure Cx.Ok (X : Cx) : Prop where
  mod : Mod X.K X.mg X.base
  kind : X.env.scope.kind = .function
  glob : X.env.globals = mainGlobals
  blt : X.env.builtins = builtinsNs
  above : X.s_0.heap.objs.size ≤ X.env.locals
  inj : ∀ x y c, X.env.cells.lookup x = some c → X.env.cells.lookup y = some c → x = y
  has : ∀ x, (X.env.kindOf x = some .cell ∨ X.env.kindOf x = some .free) → ∃ c, X.env.cells.lookup x = some c
  cab : ∀ x c, X.fn x = true → X.env.cells.lookup x = some c → X.s_0.heap.objs.size ≤ c
  hd : X.calm = true → X.A.handled = none
  frames : X.A.frames = some X.stack
  stk : X.stack = X.outer ∨ (X.stack = X.env :: X.outer ∧ X.env.frame = some X.env.locals)
  exf : ∀ b ∈ X.ex, b ≠ X.env.locals ∧ ∀ x c, X.env.cells.lookup x = some c → c ≠ b
  bs : ∀ b o, X.base.get? b = some o → X.s_0.heap.get? b = some o ∧ X.H_0 b = none
  bsz : X.base.objs.size ≤ X.s_0.heap.objs.size
  noex : ∀ b o, X.base.get? b = some o → b ∉ X.ex
  exfs : ∀ b ∈ X.ex, b ∉ X.fs
  funs : X.s_0.heap.FunFrames X.base X.outer
  frf : ∀ b ∈ X.fs, X.H_0 b = none

structure Inv (X : Cx) (pins : List (Addr × Obj)) (σ : List (Option V)) (H : Hp) (s : Shared) : Prop where
  ok : X.Ok
  os : s.os = X.s_0.os
  bare : AllBare s.gens
  base : Un X.fs X.ex X.H_0 H X.s_0.heap s.heap
  loc : ∃ m, s.heap.Ns X.env.locals m ∧ ∀ (i : Nat) (x : Str) (v : V), X.N[i]? = some x → σ[i]? = some (some v) → Vis X.env.scope x → ∃ u, RelV v u ∧ Look X.env s.heap m x u
  cell : ∀ x c, X.env.cells.lookup x = some c → ∃ v, s.heap.IsCell c v
  free : H X.env.locals = none
  freeC : ∀ x c, X.env.cells.lookup x = some c → H c = none ∨ (X.fn x = false ∧ ∃ o y, H c = some (.frz o (.own y)))
  pin : ∀ p ∈ X.pn ++ pins, s.heap.get? p.1 = some p.2 ∧ H p.1 = none ∧ p.1 ≠ X.env.locals ∧ p.1 ∉ X.fs ∧ ∀ v, p.2.data ≠ .cell v
  hok : HOk X.prog X.w H s.heap
  len : σ.length = X.N.length

section
variable {X : Cx} {pins : List (Addr × Obj)} {σ : List (Option V)} {H H' : Hp} {s : Shared} {h' : Heap}

theorem Cx.Ok.nofr (ok : X.Ok) {b : Addr} {o : Obj} (e : X.base.get? b = some o) : b ∉ X.fs := fun hb => by
  have := (ok.funs.mem hb).1
  rw [e] at this; cases this
theorem Inv.bs (I : Inv X pins σ H s) : ∀ b o, X.base.get? b = some o → s.heap.get? b = some o ∧ H b = none := fun b o e =>
  ⟨I.base.keep b o (I.ok.bs b o e).1 (I.ok.bs b o e).2 (I.ok.nofr e) (I.ok.noex b o e), I.base.free b o (I.ok.bs b o e).1 (I.ok.bs b o e).2 (I.ok.noex b o e)⟩
theorem Inv.bk (I : Inv X pins σ H s) : ∀ b o, X.base.get? b = some o → s.heap.get? b = some o := fun b o e => (I.bs b o e).1
theorem Inv.mod (I : Inv X pins σ H s) : Mod X.K X.mg X.base := I.ok.mod
theorem Inv.kIn (I : Inv X pins σ H s) : X.K.In s.heap := I.ok.mod.kin.keeps I.bk
theorem Inv.nolimit (I : Inv X pins σ H s) : s.heap.NoLimit := I.ok.mod.nolimit.keeps I.bk
theorem Inv.fr (I : Inv X pins σ H s) : ∃ m, Fr X.base X.env.locals s.heap m :=
  let ⟨m, hn, _⟩ := I.loc
  ⟨m, hn, I.bk, Nat.le_trans I.ok.bsz I.ok.above⟩
theorem Inv.lt (I : Inv X pins σ H s) : X.env.locals < s.heap.objs.size := let ⟨_, hn, _⟩ := I.loc; hn.lt
theorem Inv.sz (I : Inv X pins σ H s) : X.s_0.heap.objs.size ≤ s.heap.objs.size := Nat.le_trans I.ok.above (Nat.le_of_lt I.lt)
theorem Inv.nofs (I : Inv X pins σ H s) {a : Addr} (h : s.heap.objs.size ≤ a) : a ∉ X.fs := fun hb => by
  obtain ⟨_, o, ho, _⟩ := I.ok.funs.mem hb
  exact absurd (Nat.lt_of_lt_of_le (Heap.lt_size ho) (Nat.le_trans I.sz h)) (Nat.lt_irrefl _)
theorem Inv.cne (I : Inv X pins σ H s) : ∀ x c, X.env.cells.lookup x = some c → c ≠ X.env.locals := fun x c e z => by
  obtain ⟨v, o, ho, hd⟩ := I.cell x c e
  obtain ⟨m, ⟨o', es, ep, ho', hd', _⟩, _⟩ := I.loc
  rw [z, ho'] at ho; cases ho; rw [hd'] at hd; cases hd
theorem Inv.funs (I : Inv X pins σ H s) : s.heap.FunFrames X.base X.outer := by
  have all : ∀ (l : List Env), (∀ b ∈ frs l, b ∈ X.fs) → X.s_0.heap.FunFrames X.base l → s.heap.FunFrames X.base l := by
    intro l
    induction l with
    | nil => intro _ _; trivial
    | cons env r ih =>
      intro hs hl
      obtain ⟨hk, ⟨L, o, hf, hn, ho, hd⟩, hr⟩ := hl
      have hL : L ∈ X.fs := hs L (by unfold frs; rw [List.filterMap_cons, hf]; exact List.mem_cons_self)
      obtain ⟨sl, e⟩ := I.base.slot L o ho (I.ok.frf L hL) hL fun z => I.ok.exfs L z hL
      exact ⟨hk, ⟨L, _, hf, hn, e, hd⟩, ih (fun b hb => hs b (by unfold frs; rw [List.filterMap_cons, hf]; exact List.mem_cons_of_mem _ hb)) hr⟩
  exact all X.outer (fun _ hb => hb) I.ok.funs

theorem Inv.stack (I : Inv X pins σ H s) : s.heap.FunFrames X.base X.stack := by
  rcases I.ok.stk with e | ⟨e, hf⟩
  · rw [e]; exact I.funs
  · rw [e]
    obtain ⟨m, hn, _⟩ := I.loc
    refine .cons (by rw [I.ok.kind]; decide) hf hn ?_ I.funs
    exact Heap.get?_none_of_le (Nat.le_trans I.ok.bsz I.ok.above)
theorem Inv.stkSub (I : Inv X pins σ H s) : ∀ b ∈ frs X.stack, b ∈ X.env.locals :: X.fs := fun b hb => by
  rcases I.ok.stk with e | ⟨e, hf⟩
  · rw [e] at hb; exact List.mem_cons_of_mem _ hb
  · rw [e] at hb
    unfold frs at hb
    rw [List.filterMap_cons, hf] at hb
    exact hb
theorem Inv.stkFree (I : Inv X pins σ H s) : ∀ b ∈ frs X.stack, H b = none := fun b hb => by
  rcases List.mem_cons.mp (I.stkSub b hb) with e | hb
  · rw [e]; exact I.free
  · obtain ⟨_, o, ho, _⟩ := I.ok.funs.mem hb
    exact I.base.free b o ho (I.ok.frf b hb) fun z => I.ok.exfs b z hb

theorem Inv.step {g' : Array GenState} {t' : Nat} {d' : Drawn} {ch : List Addr} (I : Inv X pins σ H s)
    (hch : ∀ b ∈ ch, (b ∈ X.ex ∨ X.s_0.heap.objs.size ≤ b) ∧ b ≠ X.env.locals ∧ (∀ x c, X.env.cells.lookup x = some c → c ≠ b) ∧ ∀ p ∈ X.pn ++ pins, p.1 ≠ b)
    (keep : ∀ b o, b ≠ X.env.locals → b ∉ X.fs → b ∉ ch → s.heap.get? b = some o → H b = none → h'.get? b = some o)
    (slot : ∀ b o, b ≠ X.env.locals → b ∈ X.fs → b ∉ ch → s.heap.get? b = some o → H b = none → ∃ sl, h'.get? b = some { o with slots := sl }) (free : ∀ b o, b ∉ ch → s.heap.get? b = some o → H b = none → H' b = none)
    (there : ∀ b o, b ∉ ch → s.heap.get? b = some o → ∃ o', h'.get? b = some o')
    (tups : ∀ b xs, H b = some (.tup xs) → H' b = some (.tup xs)) (frzs : ∀ b o u, H b = some (.frz o u) → H' b = some (.frz o u)) (tbls : ∀ b ps, H b = some (.tbl ps) → ∃ more, H' b = some (.tbl (ps ++ more)))
    (ns : ∀ m, s.heap.Ns X.env.locals m → h'.Ns X.env.locals m) (hok : HOk X.prog X.w H' h') (hg : AllBare g') :
    Inv X pins σ H' { s with heap := h', gens := g', drawn := d', toks := t' } := by
  have neL : ∀ b o, X.s_0.heap.get? b = some o → b ≠ X.env.locals := fun b o e => Nat.ne_of_lt (Nat.lt_of_lt_of_le (Heap.lt_size e) I.ok.above)
  have neC : ∀ b o, X.s_0.heap.get? b = some o → b ∉ X.ex → b ∉ ch := fun b o e hx hb => by
    rcases (hch b hb).1 with z | z
    · exact hx z
    · exact absurd (Nat.lt_of_lt_of_le (Heap.lt_size e) z) (Nat.lt_irrefl _)
  have cellK : ∀ x c, X.env.cells.lookup x = some c → ∀ v, s.heap.IsCell c v → h'.IsCell c v := fun x c e v ⟨o, ho, hd⟩ => by
    have nch : c ∉ ch := fun z => (hch c z).2.2.1 x c e rfl
    rcases I.freeC x c e with fc | ⟨_, o2, y, fc⟩
    · by_cases hc : c ∈ X.fs
      · obtain ⟨sl, q⟩ := slot c o (I.cne x c e) hc nch ho fc
        exact ⟨_, q, hd⟩
      · exact ⟨o, keep c o (I.cne x c e) hc nch ho fc, hd⟩
    · have e1 : s.heap.get? c = some o2 := (show ObjOk X.prog X.w H s.heap c (.frz o2 (.own y)) from I.hok c _ fc).1
      rw [ho] at e1
      cases e1
      exact ⟨o, (show ObjOk X.prog X.w H' h' c (.frz o (.own y)) from hok c _ (frzs c _ _ fc)).1, hd⟩
  refine ⟨I.ok, I.os, hg, ⟨fun b o e n hb hx => ?_, fun b o e n hb hx => ?_, fun b o e n hx => ?_, fun b o e hx => ?_, fun b xs e => tups b xs (I.base.tups b xs e), fun b o xs e => frzs b o xs (I.base.frzs b o xs e), fun b ps e => ?_⟩, ?_, fun x c e => ?_, ?_, fun x c e => ?_, fun p hp => ?_, hok, I.len⟩
  · exact keep b o (neL b o e) hb (neC b o e hx) (I.base.keep b o e n hb hx) (I.base.free b o e n hx)
  · obtain ⟨sl, e1⟩ := I.base.slot b o e n hb hx
    obtain ⟨sl', e2⟩ := slot b _ (neL b o e) hb (neC b o e hx) e1 (I.base.free b o e n hx)
    exact ⟨sl', e2⟩
  · obtain ⟨o', e1⟩ := I.base.there b o e hx
    exact free b o' (neC b o e hx) e1 (I.base.free b o e n hx)
  · obtain ⟨o', e1⟩ := I.base.there b o e hx
    exact there b o' (neC b o e hx) e1
  · obtain ⟨m1, e1⟩ := I.base.tbls b ps e
    obtain ⟨m2, e2⟩ := tbls b _ e1
    exact ⟨m1 ++ m2, by rw [e2, Array.append_assoc]⟩
  · obtain ⟨m, hn, hl⟩ := I.loc
    refine ⟨m, ns m hn, fun i x v e1 e2 e3 => ?_⟩
    obtain ⟨u, r, l⟩ := hl i x v e1 e2 e3
    refine ⟨u, r, ?_⟩
    rcases l with l | ⟨k, c, e, z⟩
    · exact .inl l
    · exact .inr ⟨k, c, e, cellK x c e _ z⟩
  · obtain ⟨v, z⟩ := I.cell x c e
    exact ⟨v, cellK x c e v z⟩
  · obtain ⟨m, ⟨o, _, _, ho, _⟩, _⟩ := I.loc
    exact free _ o (fun z => (hch _ z).2.1 rfl) ho I.free
  · obtain ⟨v, o, ho, hd⟩ := I.cell x c e
    rcases I.freeC x c e with fc | ⟨hf, o2, y, fc⟩
    · exact .inl (free c o (fun z => (hch c z).2.2.1 x c e rfl) ho fc)
    · exact .inr ⟨hf, o2, y, frzs c _ _ fc⟩
  · obtain ⟨e, n, ne, nf, d⟩ := I.pin p hp
    have nch : p.1 ∉ ch := fun z => (hch p.1 z).2.2.2 p hp rfl
    exact ⟨keep p.1 p.2 ne nf nch e n, free p.1 p.2 nch e n, ne, nf, d⟩
theorem Inv.un {t' : Nat} (I : Inv X pins σ H s) (u : Un X.fs [] H H' s.heap h') (hok : HOk X.prog X.w H' h') : Inv X pins σ H' { s with heap := h', toks := t' } := by
  obtain ⟨m, ⟨o, es, ep, ho, r⟩, _⟩ := id I.loc
  obtain ⟨sl, hL⟩ := u.any ho I.free (by simp)
  exact I.step (g' := s.gens) (d' := s.drawn) (ch := []) (fun _ z => nomatch z) (fun b o _ hb _ e n => u.keep b o e n hb (by simp)) (fun b o _ hb _ e n => u.slot b o e n hb (by simp)) (fun b o _ e n => u.free b o e n (by simp)) (fun b o _ e => u.there b o e (by simp)) u.tups u.frzs u.tbls (fun m' hm => by
    obtain ⟨o', es', ep', ho', r'⟩ := hm
    rw [ho] at ho'; cases ho'
    exact ⟨_, es', ep', hL, r'⟩) hok I.bare
theorem Inv.call {g' : Array GenState} {t' : Nat} {d' : Drawn} {ch : List Addr} (I : Inv X pins σ H s) (u : Un (frs X.stack) ch H H' s.heap h') (hok : HOk X.prog X.w H' h') (hg : AllBare g')
    (hch : ∀ b ∈ ch, (b ∈ X.ex ∨ X.s_0.heap.objs.size ≤ b) ∧ b ≠ X.env.locals ∧ (∀ x c, X.env.cells.lookup x = some c → c ≠ b) ∧ ∀ p ∈ X.pn ++ pins, p.1 ≠ b) :
    Inv X pins σ H' { s with heap := h', gens := g', drawn := d', toks := t' } := by
  obtain ⟨m, ⟨o, es, ep, ho, r⟩, _⟩ := id I.loc
  obtain ⟨sl, hL⟩ := u.any ho I.free fun z => (hch _ z).2.1 rfl
  exact I.step (ch := ch) hch (fun b o hL hb hc e n => u.keep b o e n (fun z => (List.mem_cons.mp (I.stkSub b z)).elim hL hb) hc) (fun b o _ _ hc e n => u.any e n hc) (fun b o hc e n => u.free b o e n hc) (fun b o hc e => u.there b o e hc) u.tups u.frzs u.tbls (fun m' hm => by
    obtain ⟨o', es', ep', ho', r'⟩ := hm
    rw [ho] at ho'; cases ho'
    exact ⟨_, es', ep', hL, r'⟩) hok hg
theorem Inv.turned {t' : Nat} {it : Addr} (I : Inv X pins σ H s) (k : ∀ b o, b ≠ it → s.heap.get? b = some o → h'.get? b = some o) (hn : H it = none) (hL : it ≠ X.env.locals)
    (h1 : it ∈ X.ex ∨ X.s_0.heap.objs.size ≤ it) (h2 : ∀ x c, X.env.cells.lookup x = some c → c ≠ it) (h3 : ∀ p ∈ X.pn ++ pins, p.1 ≠ it) : Inv X pins σ H { s with heap := h', toks := t' } := by
  have nit : ∀ b u, H b = some u → b ≠ it := fun b u e z => by rw [z, hn] at e; cases e
  refine I.step (g' := s.gens) (d' := s.drawn) (ch := [it]) (fun b hb => ?_) (fun b o _ _ hc e _ => k b o (fun z => hc (by simp [z])) e) (fun b o _ _ hc e _ => ⟨o.slots, k b o (fun z => hc (by simp [z])) e⟩) (fun _ _ _ _ n => n)
    (fun b o hc e => ⟨o, k b o (fun z => hc (by simp [z])) e⟩) (fun _ _ e => e) (fun _ _ _ e => e) (fun b ps e => ⟨#[], by rw [e]; simp⟩) (fun m hm => ?_) (fun b u e => ?_) I.bare
  · have e : b = it := by simpa using hb
    subst e
    exact ⟨h1, hL, h2, h3⟩
  · obtain ⟨o, es, ep, ho, r⟩ := hm
    exact ⟨o, es, ep, k _ o (Ne.symm hL) ho, r⟩
  · refine (I.hok b u e).stay (fun c v hc q => k c v ?_ q) (fun _ q => q) fun _ _ q => q
    rcases hc with z | z
    · rw [z]; exact nit b u e
    · exact nit c _ z
theorem Inv.tok (I : Inv X pins σ H s) (t : Nat) : Inv X pins σ H { s with toks := t } := I.un (h' := s.heap) (t' := t) Un.refl I.hok
theorem Inv.kept {t' : Nat} (I : Inv X pins σ H s) (k : ∀ b u, s.heap.get? b = some u → h'.get? b = some u) : Inv X pins σ H { s with heap := h', toks := t' } := I.un (Un.kept k) (I.hok.kept k)
theorem Inv.laid {a : Addr} {o : HO} {t' : Nat} (I : Inv X pins σ H s) (k : ∀ b u, s.heap.get? b = some u → h'.get? b = some u) (hp : s.heap.objs.size ≤ a) (new : ObjOk X.prog X.w (upd H a o) h' a o) :
    Inv X pins σ (upd H a o) { s with heap := h', toks := t' } := I.un (Un.laid k hp (I.hok.fresh hp)) (I.hok.laid k hp new)
theorem Inv.write {x e : Addr} {o : HO} {t' : Nat} (I : Inv X pins σ H s) (mu : Mut (H x)) (he : e = x ∨ H e = some (.own x)) (k : ∀ b u, b ≠ e → s.heap.get? b = some u → h'.get? b = some u) (heo : ∃ u, h'.get? e = some u)
    (new : ObjOk X.prog X.w (upd H x o) h' x o) : Inv X pins σ (upd H x o) { s with heap := h', toks := t' } := I.un (Un.write mu he k heo) (I.hok.write mu he k heo new)
theorem Inv.weak {σ' : List (Option V)} (I : Inv X pins σ H s) (hl : σ'.length = σ.length) (w : ∀ (i : Nat) v, σ'[i]? = some (some v) → σ[i]? = some (some v)) : Inv X pins σ' H s :=
  ⟨I.ok, I.os, I.bare, I.base, let ⟨m, hn, hl'⟩ := I.loc; ⟨m, hn, fun i x v e1 e2 e3 => hl' i x v e1 (w i v e2) e3⟩, I.cell, I.free, I.freeC, I.pin, I.hok, hl.trans I.len⟩
theorem Inv.pins_of {pins' : List (Addr × Obj)} (I : Inv X pins σ H s) (h : ∀ p ∈ pins', s.heap.get? p.1 = some p.2 ∧ H p.1 = none ∧ p.1 ≠ X.env.locals ∧ p.1 ∉ X.fs ∧ ∀ v, p.2.data ≠ .cell v) : Inv X pins' σ H s :=
  ⟨I.ok, I.os, I.bare, I.base, I.loc, I.cell, I.free, I.freeC, fun p hp => (List.mem_append.mp hp).elim (fun z => I.pin p (List.mem_append_left _ z)) (h p), I.hok, I.len⟩

theorem nodup_ix {N : List Str} (hN : N.Nodup) {i j : Nat} {x : Str} (a : N[i]? = some x) (b : N[j]? = some x) : i = j := by
  obtain ⟨h1, e1⟩ := List.getElem?_eq_some_iff.mp a
  obtain ⟨h2, e2⟩ := List.getElem?_eq_some_iff.mp b
  exact (List.getElem_inj hN).mp (e1.trans e2.symm)

theorem store_ok2 {M : Model} {A : Around} {E : Value → Shared → Prop} {i : Nat} {x : Str} {v : V} {u : Value} {Q : Unit → Shared → Prop} (I : Inv X pins σ H s) (hN : X.N.Nodup) (hi : X.N[i]? = some x) (hx : Loc X.env.scope x) (r : RelV v u)
    (h : ∀ s', Inv X pins (σ.set i (some v)) H s' → (∃ a, Heap.SameBut a s.heap s'.heap ∧ (a = X.env.locals ∨ X.env.cells.lookup x = some a)) → Q () s') (hf : X.fn x = true ∨ X.env.scope.names.lookup x = some .local := by first | exact .inl rfl | exact .inr rfl | assumption) : wpAny M A (storeName X.env x u) Q E s := by
  obtain ⟨m, hn, hl⟩ := id I.loc
  have hcls : (X.env.scope.kind == .class || (X.env.scope.kind == .module && X.env.locals != X.env.globals)) = false := by rw [I.ok.kind]; rfl
  have hiσ : i < σ.length := by rw [I.len]; exact (List.getElem?_eq_some_iff.mp hi).1
  have cne := I.cne
  have tracked : ∀ {a : Addr} {h' : Heap}, (∃ o, s.heap.get? a = some o ∧ H a = none) → Heap.SameBut a s.heap h' → HOk X.prog X.w H h' := fun {a h'} ha hs b ob e => by
    obtain ⟨_, _, hfree⟩ := ha
    refine (I.hok b ob e).stay (fun c w' hc q => (hs.2 c ?_).trans q) (fun _ q => q) fun _ _ q => q
    rintro rfl
    rcases hc with rfl | hc
    · rw [hfree] at e; cases e
    · rw [hfree] at hc; cases hc
  rcases hx with hk | hk
  · refine wpAny_storeName_local hk hn (fun h' hn' hs => ?_) hcls
    obtain ⟨oL, _, _, hoL, _⟩ := id hn
    refine h _ ⟨I.ok, I.os, I.bare, ⟨fun b o e n hb hx => ?_, fun b o e n hb hx => ?_, I.base.free, fun b o e hx => ?_, I.base.tups, I.base.frzs, I.base.tbls⟩, ⟨_, hn', fun j y v' e1 e2 e3 => ?_⟩, fun y c e => ?_, I.free, I.freeC, fun p hp => ?_, tracked ⟨oL, hoL, I.free⟩ hs, by simpa using I.len⟩ ⟨_, hs, .inl rfl⟩
    · exact (hs.2 b (Nat.ne_of_lt (Nat.lt_of_lt_of_le (Heap.lt_size e) I.ok.above))).trans (I.base.keep b o e n hb hx)
    · obtain ⟨sl, e1⟩ := I.base.slot b o e n hb hx
      exact ⟨sl, (hs.2 b (Nat.ne_of_lt (Nat.lt_of_lt_of_le (Heap.lt_size e) I.ok.above))).trans e1⟩
    · obtain ⟨o', e1⟩ := I.base.there b o e hx
      exact ⟨o', (hs.2 b (Nat.ne_of_lt (Nat.lt_of_lt_of_le (Heap.lt_size e) I.ok.above))).trans e1⟩
    · by_cases hj : j = i
      · subst hj
        rw [hi] at e1; cases e1
        rw [List.getElem?_set_self hiσ] at e2
        cases e2
        exact ⟨u, r, .inl ⟨hk, by simp⟩⟩
      · rw [List.getElem?_set_ne (Ne.symm hj)] at e2
        obtain ⟨u', r', q⟩ := hl j y v' e1 e2 e3
        refine ⟨u', r', ?_⟩
        rcases q with ⟨k, e⟩ | ⟨k, c, e, z⟩
        · refine .inl ⟨k, ?_⟩
          have : y ≠ x := fun e => hj (nodup_ix hN e1 (e ▸ hi))
          simp [this, e]
        · exact .inr ⟨k, c, e, z.sameBut hs (cne y c e)⟩
    · obtain ⟨w', z⟩ := I.cell y c e
      exact ⟨w', z.sameBut hs (cne y c e)⟩
    · obtain ⟨e, n, ne, nf, d⟩ := I.pin p hp
      exact ⟨(hs.2 p.1 ne).trans e, n, ne, nf, d⟩
  · have hfn : X.fn x = true := by
      rcases hf with z | z
      · exact z
      · rw [z] at hk; cases hk
    obtain ⟨c, hc⟩ := I.ok.has x (.inl hk)
    obtain ⟨w', z⟩ := I.cell x c hc
    refine wpAny_storeName_cell I.ok.kind hk hc z (fun h' hc' hs => ?_)
    obtain ⟨oc, hoc, hocd⟩ := id z
    refine h { s with heap := h' } ⟨I.ok, I.os, I.bare, ⟨fun b o e n hb hx => ?_, fun b o e n hb hx => ?_, I.base.free, fun b o e hx => ?_, I.base.tups, I.base.frzs, I.base.tbls⟩, ⟨m, hn.sameBut hs (Ne.symm (cne x c hc)), fun j y v' e1 e2 e3 => ?_⟩, fun y c' e => ?_, I.free, I.freeC, fun p hp => ?_, tracked ⟨oc, hoc, (I.freeC x c hc).resolve_right fun z => by rw [hfn] at z; exact absurd z.1 (by decide)⟩ hs, by simpa using I.len⟩ ⟨c, hs, .inr hc⟩
    · exact (hs.2 b (Nat.ne_of_lt (Nat.lt_of_lt_of_le (Heap.lt_size e) (I.ok.cab x c hfn hc)))).trans (I.base.keep b o e n hb hx)
    · obtain ⟨sl, e1⟩ := I.base.slot b o e n hb hx
      exact ⟨sl, (hs.2 b (Nat.ne_of_lt (Nat.lt_of_lt_of_le (Heap.lt_size e) (I.ok.cab x c hfn hc)))).trans e1⟩
    · obtain ⟨o', e1⟩ := I.base.there b o e hx
      exact ⟨o', (hs.2 b (Nat.ne_of_lt (Nat.lt_of_lt_of_le (Heap.lt_size e) (I.ok.cab x c hfn hc)))).trans e1⟩
    · by_cases hj : j = i
      · subst hj
        rw [hi] at e1; cases e1
        rw [List.getElem?_set_self hiσ] at e2
        cases e2
        exact ⟨u, r, .inr ⟨.inl hk, c, hc, hc'⟩⟩
      · rw [List.getElem?_set_ne (Ne.symm hj)] at e2
        obtain ⟨u', r', q⟩ := hl j y v' e1 e2 e3
        refine ⟨u', r', ?_⟩
        rcases q with q | ⟨k, c', e, z'⟩
        · exact .inl q
        · refine .inr ⟨k, c', e, z'.sameBut hs ?_⟩
          rintro rfl
          exact hj (nodup_ix hN e1 (I.ok.inj _ _ _ e hc ▸ hi))
    · by_cases hcc : c' = c
      · subst hcc; exact ⟨_, hc'⟩
      · obtain ⟨w2, z2⟩ := I.cell y c' e
        exact ⟨w2, z2.sameBut hs hcc⟩
    · obtain ⟨e, n, ne, nf, d⟩ := I.pin p hp
      refine ⟨(hs.2 p.1 ?_).trans e, n, ne, nf, d⟩
      intro q
      rw [q, hoc] at e
      have q' : oc = p.2 := Option.some.inj e
      exact d w' (by rw [← q']; exact hocd)
theorem store_ok {M : Model} {A : Around} {E : Value → Shared → Prop} {i : Nat} {x : Str} {v : V} {u : Value} {Q : Unit → Shared → Prop} (I : Inv X pins σ H s) (hN : X.N.Nodup) (hi : X.N[i]? = some x) (hx : Loc X.env.scope x) (r : RelV v u)
    (h : ∀ s', Inv X pins (σ.set i (some v)) H s' → Q () s') (hf : X.fn x = true ∨ X.env.scope.names.lookup x = some .local := by first | exact .inl rfl | exact .inr rfl | assumption) : wpAny M A (storeName X.env x u) Q E s :=
  store_ok2 I hN hi hx r (fun s' I' _ => h s' I') hf
theorem Inv.call' {s' : Shared} {ch : List Addr} (I : Inv X pins σ H s) (ho : s'.os = s.os) (u : Un (frs X.stack) ch H H' s.heap s'.heap) (hok : HOk X.prog X.w H' s'.heap) (hg : AllBare s'.gens)
    (hch : ∀ b ∈ ch, (b ∈ X.ex ∨ X.s_0.heap.objs.size ≤ b) ∧ b ≠ X.env.locals ∧ (∀ x c, X.env.cells.lookup x = some c → c ≠ b) ∧ ∀ p ∈ X.pn ++ pins, p.1 ≠ b) : Inv X pins σ H' s' := by
  obtain ⟨h', g', d', t', o'⟩ := s'
  have e : o' = s.os := ho
  subst e
  exact I.call (g' := g') (t' := t') (d' := d') u hok hg hch
end

abbrev XK := Value → Option Addr → Hp → Prop
abbrev St := List (Option V)
abbrev VK := V → Hp → Prop
abbrev TE := St → Hp → VK → Prop
abbrev TT := St → Hp → (Bool → Hp → Prop) → Prop
abbrev TA := St → Hp → (List V → Hp → Prop) → Prop
structure Ends where
  nx : St → Hp → Prop
  rt : VK
  bk : St → Hp → Prop := fun _ _ => False
  ct : St → Hp → Prop := fun _ _ => False
abbrev TS := Ends → St → Hp → Prop

def EP (X : Cx) (pins : List (Addr × Obj)) (σ : St) (Q : VK) (u : Value) (s' : Shared) : Prop := ∃ v H', Inv X pins σ H' s' ∧ RelV v u ∧ Q v H'
def TP (X : Cx) (pins : List (Addr × Obj)) (σ : St) (Q : Bool → Hp → Prop) (b : Bool) (s' : Shared) : Prop := ∃ H', Inv X pins σ H' s' ∧ Q b H'
def AP (X : Cx) (pins : List (Addr × Obj)) (σ : St) (Q : List V → Hp → Prop) (us : List Value) (s' : Shared) : Prop := ∃ vs H', Inv X pins σ H' s' ∧ Vals vs us ∧ Q vs H'
def SP (X : Cx) (pins : List (Addr × Obj)) (D : Ends) (f : Flow) (s' : Shared) : Prop :=
  match f with
  | .next => ∃ σ' H', Inv X pins σ' H' s' ∧ D.nx σ' H'
  | .brk => ∃ σ' H', Inv X pins σ' H' s' ∧ D.bk σ' H'
  | .cont => ∃ σ' H', Inv X pins σ' H' s' ∧ D.ct σ' H'
  | .ret u => ∃ v σ' H', Inv X pins σ' H' s' ∧ RelV v u ∧ D.rt v H'

structure PE (X : Cx) (e : Expr) (t : TE) : Prop where
  run : ∀ (pins : List (Addr × Obj)) (s : Shared) (σ : St) (H : Hp) (Q : VK), Inv X pins σ H s → t σ H Q → wpAny (model X.prog X.w) X.A (eval e X.env) (EP X pins σ Q) X.xe s
instance {X : Cx} {e : Expr} {t : TE} : CoeFun (PE X e t) (fun _ => ∀ (pins : List (Addr × Obj)) (s : Shared) (σ : St) (H : Hp) (Q : VK), Inv X pins σ H s → t σ H Q → wpAny (model X.prog X.w) X.A (eval e X.env) (EP X pins σ Q) X.xe s) := ⟨PE.run⟩
structure PT (X : Cx) (e : Expr) (t : TT) : Prop where
  run : ∀ (pins : List (Addr × Obj)) (s : Shared) (σ : St) (H : Hp) (Q : Bool → Hp → Prop), Inv X pins σ H s → t σ H Q → wpAny (model X.prog X.w) X.A (isTrue e X.env (eval e X.env)) (TP X pins σ Q) X.xe s
instance {X : Cx} {e : Expr} {t : TT} : CoeFun (PT X e t) (fun _ => ∀ (pins : List (Addr × Obj)) (s : Shared) (σ : St) (H : Hp) (Q : Bool → Hp → Prop), Inv X pins σ H s → t σ H Q → wpAny (model X.prog X.w) X.A (isTrue e X.env (eval e X.env)) (TP X pins σ Q) X.xe s) := ⟨PT.run⟩
structure PW (X : Cx) (e : Expr) (t : TT) : Prop where
  run : ∀ (whole : Sem Value) (pins : List (Addr × Obj)) (s : Shared) (σ : St) (H : Hp) (Q : Bool → Hp → Prop), Inv X pins σ H s → t σ H Q → wpAny (model X.prog X.w) X.A (isTrue e X.env whole) (TP X pins σ Q) X.xe s
instance {X : Cx} {e : Expr} {t : TT} : CoeFun (PW X e t) (fun _ => ∀ (whole : Sem Value) (pins : List (Addr × Obj)) (s : Shared) (σ : St) (H : Hp) (Q : Bool → Hp → Prop), Inv X pins σ H s → t σ H Q → wpAny (model X.prog X.w) X.A (isTrue e X.env whole) (TP X pins σ Q) X.xe s) := ⟨PW.run⟩
theorem PW.pt {X : Cx} {e : Expr} {t : TT} (h : PW X e t) : PT X e t := ⟨h.run _⟩
structure PA (X : Cx) (es : List Expr) (t : TA) : Prop where
  run : ∀ (pos : Pos) (pins : List (Addr × Obj)) (s : Shared) (σ : St) (H : Hp) (Q : List V → Hp → Prop), Inv X pins σ H s → t σ H Q → wpAny (model X.prog X.w) X.A (spliced (backTo pos (starEach es X.env))) (AP X pins σ Q) X.xe s
instance {X : Cx} {es : List Expr} {t : TA} : CoeFun (PA X es t) (fun _ => ∀ (pos : Pos) (pins : List (Addr × Obj)) (s : Shared) (σ : St) (H : Hp) (Q : List V → Hp → Prop), Inv X pins σ H s → t σ H Q → wpAny (model X.prog X.w) X.A (spliced (backTo pos (starEach es X.env))) (AP X pins σ Q) X.xe s) := ⟨PA.run⟩
structure PS (X : Cx) (st : Stmt) (t : TS) : Prop where
  run : ∀ (pins : List (Addr × Obj)) (s : Shared) (σ : St) (H : Hp) (D : Ends), Inv X pins σ H s → t D σ H → wpAny (model X.prog X.w) X.A (exec st X.env) (SP X pins D) X.xe s
instance {X : Cx} {st : Stmt} {t : TS} : CoeFun (PS X st t) (fun _ => ∀ (pins : List (Addr × Obj)) (s : Shared) (σ : St) (H : Hp) (D : Ends), Inv X pins σ H s → t D σ H → wpAny (model X.prog X.w) X.A (exec st X.env) (SP X pins D) X.xe s) := ⟨PS.run⟩
structure PSs (X : Cx) (st : List Stmt) (t : TS) : Prop where
  run : ∀ (pins : List (Addr × Obj)) (s : Shared) (σ : St) (H : Hp) (D : Ends), Inv X pins σ H s → t D σ H → wpAny (model X.prog X.w) X.A (execs st X.env) (SP X pins D) X.xe s
instance {X : Cx} {st : List Stmt} {t : TS} : CoeFun (PSs X st t) (fun _ => ∀ (pins : List (Addr × Obj)) (s : Shared) (σ : St) (H : Hp) (D : Ends), Inv X pins σ H s → t D σ H → wpAny (model X.prog X.w) X.A (execs st X.env) (SP X pins D) X.xe s) := ⟨PSs.run⟩
theorem thn {α : Type} {t : Sem α} {Q Q' : α → Shared → Prop} {M : Model} {A : Around} {E : Value → Shared → Prop} {s : Shared} (h : wpAny M A t Q E s) (hQ : ∀ a s, Q a s → Q' a s) : wpAny M A t Q' E s := wpAny_mono h hQ fun _ _ x => x
end L2

namespace L2
open PySem PySem.Spec PyProof.Rows
section
variable {X : Cx}

def tVar (i : Nat) : TE := fun σ H Q => ∃ v, σ[i]? = some (some v) ∧ Q v H
def tC (v : V) : TE := fun _ H Q => Q v H
theorem pe_var {i : Nat} {x : Str} {pos : Pos} (hN : X.N[i]? = some x) (hv : Vis X.env.scope x) (hd : (x == ("__debug__" : Str)) = false := by decide) (hcd : (x == ("__classdict__" : Str)) = false := by decide) : PE X (.Name x pos) (tVar i) := by
  refine ⟨?_⟩
  intro pins s σ H Q I h
  obtain ⟨v, e, h⟩ := h
  obtain ⟨m, hn, hl⟩ := I.loc
  obtain ⟨u, r, l⟩ := hl i x v hN e hv
  have fin : EP X pins σ Q u s := ⟨v, H, I, r, h⟩
  rcases l with ⟨hk, hm⟩ | ⟨hk, c, hc, hcell⟩
  · exact wpAny_Name (wpAny_loadName_local I.ok.kind hk hn hm fin) hd
  · rcases hk with hk | hk
    · exact wpAny_Name (wpAny_loadName_cell I.ok.kind hk hc hcell fin) hd
    · exact wpAny_Name (wpAny_loadName_free I.ok.kind hk hc hcell fin hcd) hd
theorem pe_int {i j pos} : PE X (.Constant (.int i) j pos) (tC (.int i)) := ⟨fun _ _ _ H _ I h => wpAny_Constant_int ⟨.int i, H, I.tok _, ⟨_, rfl⟩, h⟩⟩
theorem pe_bl {b j pos} : PE X (.Constant (.bool b) j pos) (tC (.bl b)) := ⟨fun _ _ _ H _ I h => Constant_bool ⟨.bl b, H, I, rfl, h⟩⟩
theorem pe_non {j pos} : PE X (.Constant .none j pos) (tC .non) := ⟨fun _ _ _ H _ I h => Constant_none ⟨.non, H, I, rfl, h⟩⟩
theorem pe_str {x j pos} : PE X (.Constant (.str x) j pos) (tC (.str x)) := ⟨fun _ _ _ H _ I h => Calls.Constant_str ⟨.str x, H, I.tok _, ⟨_, rfl⟩, h⟩⟩
def Gl (X : Cx) (x : Str) : Prop := X.env.kindOf x = some .globalImplicit
theorem ld_glob {E : Value → Shared → Prop} {pins : List (Addr × Obj)} {s : Shared} {σ : St} {H : Hp} {x : Str} {u : Value} {pos : Pos} {Q : Value → Shared → Prop} (I : Inv X pins σ H s) (hg : Gl X x) (hm : X.mg x = some u) (h : Q u s)
    (hd : (x == ("__debug__" : Str)) = false := by decide) : wpAny (model X.prog X.w) X.A (eval (.Name x pos) X.env) Q E s :=
  Calls.Name_function_global I.ok.kind hg (Calls.loadGlobal_global (by rw [I.ok.glob]; exact I.mod.glob.keeps I.bk) hm h) hd
theorem ld_blt {E : Value → Shared → Prop} {pins : List (Addr × Obj)} {s : Shared} {σ : St} {H : Hp} {x : Str} {u : Value} {pos : Pos} {Q : Value → Shared → Prop} (I : Inv X pins σ H s) (hg : Gl X x) (hm : X.mg x = none) (hv : bootBuiltins x = some u) (h : Q u s)
    (hn : x ≠ "__name__" := by decide) (hd : (x == ("__debug__" : Str)) = false := by decide) : wpAny (model X.prog X.w) X.A (eval (.Name x pos) X.env) Q E s := by
  obtain ⟨mb, h1, h2⟩ := I.mod.blt
  exact Calls.Name_function_global I.ok.kind hg (Calls.loadGlobal_builtin (by rw [I.ok.glob]; exact I.mod.glob.keeps I.bk) hm (by rw [I.ok.blt]; exact h1.keeps I.bk) ((h2 x hn).trans hv) h) hd
theorem pe_glob {x : Str} {v : V} {u : Value} {pos : Pos} (hg : Gl X x) (hm : X.mg x = some u) (r : RelV v u) (hd : (x == ("__debug__" : Str)) = false := by decide) : PE X (.Name x pos) (tC v) := ⟨fun _ _ _ H _ I h => ld_glob I hg hm ⟨v, H, I, r, h⟩ hd⟩
theorem pe_bltn {x : Str} {v : V} {u : Value} {pos : Pos} (hg : Gl X x) (hm : X.mg x = none) (hv : bootBuiltins x = some u) (r : RelV v u) (hn : x ≠ "__name__" := by decide) (hd : (x == ("__debug__" : Str)) = false := by decide) : PE X (.Name x pos) (tC v) := ⟨fun _ _ _ H _ I h => ld_blt I hg hm hv ⟨v, H, I, r, h⟩ hn hd⟩
variable {a b : Expr} {ta tb : TE} {pos : Pos}
structure PC (X : Cx) (op : CmpOp) (a b : Expr) (t : TE) : Prop where
  run : ∀ (pins : List (Addr × Obj)) (s : Shared) (σ : St) (H : Hp) (Q : VK), Inv X pins σ H s → t σ H Q →
    wpAny (model X.prog X.w) X.A (eval a X.env) (fun v s₁ => wpAny (model X.prog X.w) X.A (eval b X.env) (fun u s₂ => wpAny (model X.prog X.w) X.A (compareOp op v u) (EP X pins σ Q) X.xe s₂) X.xe s₁) X.xe s
instance {X : Cx} {op : CmpOp} {a b : Expr} {t : TE} : CoeFun (PC X op a b t) (fun _ => ∀ (pins : List (Addr × Obj)) (s : Shared) (σ : St) (H : Hp) (Q : VK), Inv X pins σ H s → t σ H Q →
    wpAny (model X.prog X.w) X.A (eval a X.env) (fun v s₁ => wpAny (model X.prog X.w) X.A (eval b X.env) (fun u s₂ => wpAny (model X.prog X.w) X.A (compareOp op v u) (EP X pins σ Q) X.xe s₂) X.xe s₁) X.xe s) := ⟨PC.run⟩
theorem nobehind (b : Expr) {op : CmpOp} (h : op ≠ .In) (h2 : op ≠ .NotIn) : behindInMarks op b = false := by
  have e1 : (op == CmpOp.In) = false := by cases op <;> first | rfl | exact absurd rfl h
  have e2 : (op == CmpOp.NotIn) = false := by cases op <;> first | rfl | exact absurd rfl h2
  cases b <;> simp [behindInMarks, e1, e2]
def tB (t : TE) : TT := fun σ H Q => t σ H fun x H1 => ∃ c, x = .bl c ∧ Q c H1
theorem pt_cmp {op : CmpOp} {t : TE} (h : PC X op a b t) (h1 : behindInMarks op b = false := by first | exact nobehind _ (by decide) (by decide) | rfl) : PT X (.Compare a [op] [b] pos) (tB t) := by
  refine ⟨?_⟩
  intro pins s σ H Q I hw
  refine wpAny_isTrue_Compare1 (thn (h pins s σ H _ I hw) fun v s1 h1 => thn h1 fun u s2 h2 => thn h2 fun c s3 ⟨x, H1, I1, r1, q1⟩ => ?_) h1
  obtain ⟨d, rfl, q⟩ := q1
  cases r1
  exact wpAny_truthy_bool ⟨H1, I1, q⟩
theorem pt_val {e : Expr} {t : TE} (h : PE X e t) (he : ∀ whole, isTrue e X.env whole = (do let v ← whole; standAt e.pos; holding [v] (truthy v)) := by intro _; rfl) : PT X e (tB t) := by
  refine ⟨?_⟩
  intro pins s σ H Q I hw
  refine isTrue_plain (thn (h pins s σ H _ I hw) fun v s1 ⟨x, H1, I1, r1, q1⟩ => ?_) (he _)
  obtain ⟨d, rfl, q⟩ := q1
  cases r1
  exact wpAny_truthy_bool ⟨H1, I1, q⟩

variable {tA tB' : TT} {rest : List Expr}
def tAnd (t u : TT) : TT := fun σ H Q => t σ H fun c H1 => if c = true then u σ H1 Q else Q false H1
def tOr (t u : TT) : TT := fun σ H Q => t σ H fun c H1 => if c = true then Q true H1 else u σ H1 Q
def tNot (t : TT) : TT := fun σ H Q => t σ H fun c H1 => Q (!c) H1
theorem pw_and1 (ha : PT X a tA) : PW X (.BoolOp .And [a] pos) tA := by
  refine ⟨?_⟩
  intro wh pins s σ H Q I h
  refine isTrue_and (thn (ha pins s σ H Q I h) fun c s1 e => ?_)
  cases c with
  | true => exact isTrue_and_nil e
  | false => exact e
theorem pw_or1 (ha : PT X a tA) : PW X (.BoolOp .Or [a] pos) tA := by
  refine ⟨?_⟩
  intro wh pins s σ H Q I h
  refine isTrue_or (thn (ha pins s σ H Q I h) fun c s1 e => ?_)
  cases c with
  | false => exact isTrue_or_nil e
  | true => exact e
theorem pw_and (ha : PT X a tA) (hb : PW X (.BoolOp .And (b :: rest) pos) tB') : PW X (.BoolOp .And (a :: b :: rest) pos) (tAnd tA tB') := by
  refine ⟨?_⟩
  intro wh pins s σ H Q I h
  refine isTrue_and (thn (ha pins s σ H _ I h) fun c s1 ⟨H1, I1, q1⟩ => ?_)
  cases c with
  | true => exact hb wh pins s1 σ H1 Q I1 q1
  | false => exact ⟨H1, I1, q1⟩
theorem pw_or (ha : PT X a tA) (hb : PW X (.BoolOp .Or (b :: rest) pos) tB') : PW X (.BoolOp .Or (a :: b :: rest) pos) (tOr tA tB') := by
  refine ⟨?_⟩
  intro wh pins s σ H Q I h
  refine isTrue_or (thn (ha pins s σ H _ I h) fun c s1 ⟨H1, I1, q1⟩ => ?_)
  cases c with
  | true => exact ⟨H1, I1, q1⟩
  | false => exact hb wh pins s1 σ H1 Q I1 q1
theorem pt_not (ha : PT X a tA) : PT X (.UnaryOp .Not a pos) (tNot tA) := by
  refine ⟨?_⟩
  intro pins s σ H Q I h
  exact isTrue_not (ha pins s σ H (fun c H1 => Q (!c) H1) I h)
def tAndV (ta tb : TE) : TE := fun σ H Q => ta σ H fun x H1 => ∃ c, x = .bl c ∧ if c = true then tb σ H1 Q else Q (.bl false) H1
def tNotV (ta : TE) : TE := fun σ H Q => ta σ H fun x H1 => ∃ c, x = .bl c ∧ Q (.bl (!c)) H1
theorem pe_one {op} {t : TE} (h : PE X a t) : PE X (.BoolOp op [a] pos) t := ⟨fun pins s σ H Q I hw => BoolOp_one (h pins s σ H Q I hw)⟩
theorem pe_and (ha : PE X a ta) (hb : PE X (.BoolOp .And (b :: rest) pos) tb) : PE X (.BoolOp .And (a :: b :: rest) pos) (tAndV ta tb) := by
  refine ⟨?_⟩
  intro pins s σ H Q I h
  refine BoolOp_and (thn (ha pins s σ H _ I h) fun v s1 ⟨x, H1, I1, r1, q1⟩ => ?_)
  obtain ⟨c, rfl, q1⟩ := q1
  cases r1
  refine wpAny_truthy_bool ?_
  cases c with
  | true => exact hb pins s1 σ H1 Q I1 q1
  | false => exact ⟨.bl false, H1, I1, rfl, q1⟩
theorem pe_not (ha : PE X a ta) : PE X (.UnaryOp .Not a pos) (tNotV ta) := by
  refine ⟨?_⟩
  intro pins s σ H Q I h
  refine UnaryOp_ (thn (ha pins s σ H _ I h) fun v s1 ⟨x, H1, I1, r1, q1⟩ => ?_)
  obtain ⟨c, rfl, q1⟩ := q1
  cases r1
  exact not_of (wpAny_truthy_bool ⟨.bl (!c), H1, I1, rfl, q1⟩)
def tIf (t : TT) (ta tb : TE) : TE := fun σ H Q => t σ H fun c H1 => if c = true then ta σ H1 Q else tb σ H1 Q
theorem pe_ifExp {c : Expr} (hc : PT X c tA) (ha : PE X a ta) (hb : PE X b tb) : PE X (.IfExp c a b pos) (tIf tA ta tb) := by
  refine ⟨?_⟩
  intro pins s σ H Q I h
  refine wpAny_IfExp (thn (hc pins s σ H _ I h) fun d s1 ⟨H1, I1, q1⟩ => ?_)
  cases d with
  | true => exact ha pins s1 σ H1 Q I1 q1
  | false => exact hb pins s1 σ H1 Q I1 q1
end
end L2

namespace L2
open PySem PySem.Spec PyProof.Rows

def SqL (K : PySem.W.Frag) (H : Hp) (a : Addr) (xs : List V) : Prop :=
  Rd H a (.lst xs) ∨
    ∃ (o : Obj) (its : Array Value) (n : Nat), K.lookup a = some o ∧ o.cls = .type "list" ∧ o.dict = none ∧ o.data = .seq its n ∧ its.size ≤ sizeLine ∧ Vals xs its.toList
def SqT (K : PySem.W.Frag) (H : Hp) (a : Addr) (xs : List V) : Prop :=
  Rd H a (.tup xs) ∨
    ∃ (o : Obj) (its : Array Value) (n : Nat), K.lookup a = some o ∧ o.cls = .type "tuple" ∧ o.data = .seq its n ∧ its.size ≤ sizeLine ∧ Vals xs its.toList
def absV : Value → Option V
  | .none => some .non
  | .bool b => some (.bl b)
  | .int i _ => some (.int i)
  | .str x _ => some (.str x)
  | .bytes b _ => some (.byt b)
  | .float b _ => some (.flt b)
  | .ref a => some (.ref a)
  | .type n => some (.ty n)
  | _ => none
theorem RelV.abs {x : V} {u : Value} (r : RelV x u) : absV u = some x := by
  cases x with
  | non => cases r; rfl
  | bl _ => cases r; rfl
  | int _ => obtain ⟨t, rfl⟩ := r; rfl
  | str _ => obtain ⟨t, rfl⟩ := r; rfl
  | byt _ => obtain ⟨t, rfl⟩ := r; rfl
  | flt _ => obtain ⟨t, rfl⟩ := r; rfl
  | ref _ => cases r; rfl
  | ty _ => cases r; rfl
theorem RelV.inj {x y : V} {u : Value} (r : RelV x u) (q : RelV y u) : x = y := Option.some.inj (r.abs.symm.trans q.abs)
theorem Vals.inj : ∀ {xs ys : List V} {us : List Value}, Vals xs us → Vals ys us → xs = ys
  | _, _, _, .nil, .nil => rfl
  | _, _, _, .cons r t, .cons r' t' => by rw [r.inj r', Vals.inj t t']
section
variable {X : Cx} {pins : List (Addr × Obj)} {σ : St} {H : Hp} {s : Shared} {a : Addr} {xs ys : List V}
theorem SqL.of {K : PySem.W.Frag} (h : H a = some (.lst xs)) : SqL K H a xs := .inl (.inl h)
theorem SqT.of {K : PySem.W.Frag} (h : H a = some (.tup xs)) : SqT K H a xs := .inl (.inl h)
theorem Inv.list (I : Inv X pins σ H s) (h : SqL X.K H a xs) : ∃ its : List Value, Vals xs its ∧ PlainL s.heap a its.toArray ∧ xs.length ≤ sizeLine := by
  rcases h with h | ⟨o, its, n, hk, hc, hd, hs, hz, r⟩
  · obtain ⟨z, its, n, r, e⟩ := h.ok I.hok
    exact ⟨its, r, ⟨_, n, e, rfl, rfl, rfl⟩, z⟩
  · refine ⟨its.toList, r, ⟨o, n, I.kIn a o hk, hc, hd, by simpa using hs⟩, ?_⟩
    have e := r.length
    simp only [Array.length_toList] at e
    omega
theorem Inv.tuple (I : Inv X pins σ H s) (h : SqT X.K H a xs) : ∃ its : List Value, Vals xs its ∧ IsTup s.heap a its.toArray ∧ xs.length ≤ sizeLine := by
  rcases h with h | ⟨o, its, n, hk, hc, hs, hz, r⟩
  · obtain ⟨z, its, r, p⟩ := h.ok I.hok
    exact ⟨its, r, p, z⟩
  · refine ⟨its.toList, r, ⟨o, I.kIn a o hk, hc, n, by simpa using hs⟩, ?_⟩
    have e := r.length
    simp only [Array.length_toList] at e
    omega
theorem Inv.list_inj (I : Inv X pins σ H s) (h : SqL X.K H a xs) (h' : SqL X.K H a ys) : xs = ys := by
  obtain ⟨its, r, ⟨o, n, e, _, _, d⟩, _⟩ := I.list h
  obtain ⟨its', r', ⟨o', n', e', _, _, d'⟩, _⟩ := I.list h'
  rw [e] at e'; cases e'
  rw [d] at d'
  injection d' with d1 _
  have : its = its' := by simpa using congrArg Array.toList d1
  subst this
  exact r.inj r'
theorem Inv.tuple_inj (I : Inv X pins σ H s) (h : SqT X.K H a xs) (h' : SqT X.K H a ys) : xs = ys := by
  obtain ⟨its, r, ⟨o, e, _, n, d⟩, _⟩ := I.tuple h
  obtain ⟨its', r', ⟨o', e', _, n', d'⟩, _⟩ := I.tuple h'
  rw [e] at e'; cases e'
  rw [d] at d'
  injection d' with d1 _
  have : its = its' := by simpa using congrArg Array.toList d1
  subst this
  exact r.inj r'
end

abbrev Cx.wish (X : Cx) (E : Value → Shared → Prop) : Cx := { X with xe := E }
abbrev Cx.nox (X : Cx) : Cx := X.wish fun _ _ => False
theorem Cx.Ok.wish {X : Cx} (ok : X.Ok) (E : Value → Shared → Prop) : (X.wish E).Ok :=
  ⟨ok.mod, ok.kind, ok.glob, ok.blt, ok.above, ok.inj, ok.has, ok.cab, ok.hd, ok.frames, ok.stk, ok.exf, ok.bs, ok.bsz, ok.noex, ok.exfs, ok.funs, ok.frf⟩
theorem Cx.Ok.unwish {X : Cx} {E : Value → Shared → Prop} (ok : (X.wish E).Ok) : X.Ok :=
  ⟨ok.mod, ok.kind, ok.glob, ok.blt, ok.above, ok.inj, ok.has, ok.cab, ok.hd, ok.frames, ok.stk, ok.exf, ok.bs, ok.bsz, ok.noex, ok.exfs, ok.funs, ok.frf⟩
section
variable {X : Cx} {pins : List (Addr × Obj)} {σ : St} {H : Hp} {s : Shared} {E : Value → Shared → Prop}
theorem Inv.wish (I : Inv X pins σ H s) (E : Value → Shared → Prop) : Inv (X.wish E) pins σ H s := ⟨I.ok.wish E, I.os, I.bare, I.base, I.loc, I.cell, I.free, I.freeC, I.pin, I.hok, I.len⟩
theorem Inv.unwish (I : Inv (X.wish E) pins σ H s) : Inv X pins σ H s := ⟨I.ok.unwish, I.os, I.bare, I.base, I.loc, I.cell, I.free, I.freeC, I.pin, I.hok, I.len⟩
theorem SP.unwish {D : Ends} {f : Flow} {s' : Shared} (h : SP (X.wish E) pins D f s') : SP X pins D f s' := by
  cases f with
  | next => obtain ⟨σ', H', I, q⟩ := h; exact ⟨σ', H', I.unwish, q⟩
  | brk => obtain ⟨σ', H', I, q⟩ := h; exact ⟨σ', H', I.unwish, q⟩
  | cont => obtain ⟨σ', H', I, q⟩ := h; exact ⟨σ', H', I.unwish, q⟩
  | ret u => obtain ⟨v, σ', H', I, r, q⟩ := h; exact ⟨v, σ', H', I.unwish, r, q⟩
theorem PE.nox {e : Expr} {t : TE} (h : PE X.nox e t) : PE X e t := ⟨fun pins s σ H Q I hw =>
  wpAny_mono (h pins s σ H Q (I.wish _) hw) (fun _ _ ⟨v, H', I', r, q⟩ => ⟨v, H', I'.unwish, r, q⟩) fun _ _ z => False.elim z⟩
theorem PT.nox {e : Expr} {t : TT} (h : PT X.nox e t) : PT X e t := ⟨fun pins s σ H Q I hw =>
  wpAny_mono (h pins s σ H Q (I.wish _) hw) (fun _ _ ⟨H', I', q⟩ => ⟨H', I'.unwish, q⟩) fun _ _ z => False.elim z⟩
theorem PSs.nox {st : List Stmt} {t : TS} (h : PSs X.nox st t) : PSs X st t := ⟨fun pins s σ H D I hw =>
  wpAny_mono (h pins s σ H D (I.wish _) hw) (fun _ _ q => q.unwish) fun _ _ z => False.elim z⟩
end

section
variable {X : Cx} {st : Stmt} {rest : List Stmt} {t u : TS} {e : Expr} {te : TE} {pos : Pos}
def tNext : TS := fun D σ H => D.nx σ H
def tSeq (t u : TS) : TS := fun D σ H => t { D with nx := u D } σ H
theorem pss_nil : PSs X [] tNext := ⟨fun _ _ σ H _ I h => wpAny_execs_nil ⟨σ, H, I, h⟩⟩
theorem pss_cons (h1 : PS X st t) (h2 : PSs X rest u) : PSs X (st :: rest) (tSeq t u) := by
  refine ⟨?_⟩
  intro pins s σ H D I h
  refine wpAny_execs_cons (thn (h1 pins s σ H { D with nx := u D } I h) fun f s1 q => ?_)
  cases f with
  | next =>
    obtain ⟨σ', H', I', q⟩ := q
    exact h2 pins s1 σ' H' D I' q
  | ret v => exact q
  | brk => exact q
  | cont => exact q
theorem pss_one (h1 : PS X st t) : PSs X [st] t := by
  refine ⟨?_⟩
  intro pins s σ H D I h
  refine wpAny_execs_cons (thn (h1 pins s σ H D I h) fun f s1 q => ?_)
  cases f with
  | next => exact wpAny_execs_nil q
  | ret v => exact q
  | brk => exact q
  | cont => exact q
theorem Inv.quiet {pins : List (Addr × Obj)} {σ : St} {H : Hp} {s : Shared} (I : Inv X pins σ H s) : interactive X.env = false := by simp [interactive, I.ok.kind]
def tDrop (te : TE) : TS := fun D σ H => te σ H fun _ H1 => D.nx σ H1
theorem ps_expr (he : PE X e te) (hs : swapsWith e none pos.line X.env = pure false := by rfl) : PS X (.Expr e pos) (tDrop te) := by
  refine ⟨?_⟩
  intro pins s σ H D I h
  exact wpAny_Expr_any (thn (he pins s σ H _ I h) fun v s1 ⟨x, H1, I1, r1, q1⟩ => ⟨σ, H1, I1, q1⟩) I.quiet hs
def tRet (te : TE) : TS := fun D σ H => te σ H D.rt
theorem ps_ret (he : PE X e te) : PS X (.Return (some e) pos) (tRet te) := by
  refine ⟨?_⟩
  intro pins s σ H D I h
  exact wpAny_Return_some (thn (he pins s σ H _ I h) fun v s1 ⟨x, H1, I1, r1, q1⟩ => ⟨x, σ, H1, I1, r1, q1⟩)
def tIfS (c : TT) (t u : TS) : TS := fun D σ H => c σ H fun b H1 => if b = true then t D σ H1 else u D σ H1
theorem ps_if {c : Expr} {a b : List Stmt} {tc : TT} (hc : PT X c tc) (ha : PSs X a t) (hb : PSs X b u) : PS X (.If c a b pos) (tIfS tc t u) := by
  refine ⟨?_⟩
  intro pins s σ H D I h
  refine wpAny_If (thn (hc pins s σ H _ I h) fun d s1 ⟨H1, I1, q1⟩ => ?_)
  cases d with
  | true => exact ha pins s1 σ H1 D I1 q1
  | false => exact hb pins s1 σ H1 D I1 q1
def tNever : TS := fun _ _ _ => False
theorem pss_never {sts : List Stmt} : PSs X sts tNever := ⟨fun _ _ _ _ _ _ h => h.elim⟩
end

abbrev TG := V → St → Hp → (St → Hp → Prop) → Prop
abbrev TGs := List V → St → Hp → (St → Hp → Prop) → Prop
structure PG (X : Cx) (target : Expr) (t : TG) : Prop where
  run : ∀ (pins : List (Addr × Obj)) (s : Shared) (σ : St) (H : Hp) (v : V) (u : Value) (Q : St → Hp → Prop), Inv X pins σ H s → RelV v u → t v σ H Q →
    wpAny (model X.prog X.w) X.A (assign target X.env u) (fun _ s' => ∃ σ' H', Inv X pins σ' H' s' ∧ Q σ' H') X.xe s
instance {X : Cx} {target : Expr} {t : TG} : CoeFun (PG X target t) (fun _ => ∀ (pins : List (Addr × Obj)) (s : Shared) (σ : St) (H : Hp) (v : V) (u : Value) (Q : St → Hp → Prop), Inv X pins σ H s → RelV v u → t v σ H Q →
    wpAny (model X.prog X.w) X.A (assign target X.env u) (fun _ s' => ∃ σ' H', Inv X pins σ' H' s' ∧ Q σ' H') X.xe s) := ⟨PG.run⟩
structure PGs (X : Cx) (ts : List Expr) (t : TGs) : Prop where
  run : ∀ (pins : List (Addr × Obj)) (s : Shared) (σ : St) (H : Hp) (vs : List V) (us : List Value) (Q : St → Hp → Prop), Inv X pins σ H s → Vals vs us → t vs σ H Q →
    wpAny (model X.prog X.w) X.A (assignInOrder ((assignEach ts X.env).map (·.2)) us) (fun _ s' => ∃ σ' H', Inv X pins σ' H' s' ∧ Q σ' H') X.xe s
instance {X : Cx} {ts : List Expr} {t : TGs} : CoeFun (PGs X ts t) (fun _ => ∀ (pins : List (Addr × Obj)) (s : Shared) (σ : St) (H : Hp) (vs : List V) (us : List Value) (Q : St → Hp → Prop), Inv X pins σ H s → Vals vs us → t vs σ H Q →
    wpAny (model X.prog X.w) X.A (assignInOrder ((assignEach ts X.env).map (·.2)) us) (fun _ s' => ∃ σ' H', Inv X pins σ' H' s' ∧ Q σ' H') X.xe s) := ⟨PGs.run⟩
abbrev TSet := V → V → V → Hp → (Hp → Prop) → Prop
def PSet (X : Cx) (t : TSet) : Prop :=
  ∀ (pins : List (Addr × Obj)) (s : Shared) (σ : St) (H : Hp) (o i v : V) (ov iv u : Value) (Q : Hp → Prop), Inv X pins σ H s → RelV o ov → RelV i iv → RelV v u → t o i v H Q →
    wpAny (model X.prog X.w) X.A (setItem ov iv u) (fun _ s' => ∃ H', Inv X pins σ H' s' ∧ Q H') X.xe s
section
variable {X : Cx} {pos : Pos}
def gName (i : Nat) : TG := fun v σ H Q => Q (σ.set i (some v)) H
theorem pg_name {i : Nat} {x : Str} (hN : X.N.Nodup) (hi : X.N[i]? = some x) (hx : Loc X.env.scope x) (hf : X.fn x = true ∨ X.env.scope.names.lookup x = some .local := by first | exact .inl rfl | exact .inr rfl | assumption) : PG X (.Name x pos) (gName i) := by
  refine ⟨?_⟩
  intro pins s σ H v u Q I r h
  exact wpAny_assign_Name (store_ok I hN hi hx r (fun s' I' => ⟨_, H, I', h⟩) hf)
def gNil : TGs := fun vs σ H Q => vs = [] ∧ Q σ H
def gCons (t : TG) (u : TGs) : TGs := fun vs σ H Q => ∃ v r, vs = v :: r ∧ t v σ H fun σ' H' => u r σ' H' Q
theorem pgs_nil : PGs X [] gNil := by
  refine ⟨?_⟩
  intro pins s σ H vs us Q I r h
  obtain ⟨e, h⟩ := h
  subst e
  cases r
  exact assignInOrder_nil ⟨σ, H, I, h⟩
theorem pgs_cons {e : Expr} {es : List Expr} {t : TG} {u : TGs} (h1 : PG X e t) (h2 : PGs X es u)
    (hs : (assignEach (e :: es) X.env).map (·.2) = assign e X.env :: (assignEach es X.env).map (·.2) := by rfl) : PGs X (e :: es) (gCons t u) := by
  refine ⟨?_⟩
  intro pins s σ H vs us Q I r h
  obtain ⟨v, vr, e1, h⟩ := h
  subst e1
  cases r with
  | cons r rr =>
    rw [hs]
    refine assignInOrder_cons (thn (h1 pins s σ H _ _ _ I r h) fun _ s1 ⟨σ1, H1, I1, q1⟩ => ?_)
    exact h2 pins s1 σ1 H1 _ _ Q I1 rr q1
def gTup (K : PySem.W.Frag) (n : Nat) (t : TGs) : TG := fun v σ H Q => ∃ a xs, v = .ref a ∧ SqT K H a xs ∧ xs.length = n ∧ t xs σ H Q
theorem pg_tup {es : List Expr} {k : Nat} {t : TGs} {n : Nat} (hc : X.calm = true) (h : PGs X es t)
    (hn : (assignEach es X.env).length = n := by rfl) (hst : (assignEach es X.env).findIdx? (·.1) = none := by rfl) : PG X (.Tuple es k pos) (gTup X.K n t) := by
  refine ⟨?_⟩
  intro pins s σ H v u Q I r hw
  obtain ⟨a, xs, e1, hq, hl, hw⟩ := hw
  subst e1
  cases r
  obtain ⟨its, rv, ht, hz⟩ := I.tuple hq
  refine assign_Tuple_tuple (I.ok.hd hc) ht (by simp [hn, ← hl, rv.length]) hst fun h' hx => ?_
  have I1 : Inv X pins σ H { s with heap := h' } := I.kept (t' := s.toks) fun b o e => hx b o (Nat.ne_of_lt (Heap.lt_size e)) e
  exact h pins _ σ H xs _ Q I1 (by simpa using rv) hw
def gSub (to ti : TE) (t : TSet) : TG := fun v σ H Q => to σ H fun o H1 => ti σ H1 fun i H2 => t o i v H2 fun H3 => Q σ H3
theorem pg_sub {o i : Expr} {to ti : TE} {t : TSet} (ho : PE X o to) (hi : PE X i ti) (hs : PSet X t)
    (ha : ∀ v, assign (.Subscript o i pos) X.env v = (do
      let ov ← holding [v] (eval o X.env)
      let iv ← holding [v, ov] (eval i X.env)
      standAt pos
      holding [v, ov, iv] (setItem ov iv v)
      release [v, ov, iv] []) := by intro _; rfl) : PG X (.Subscript o i pos) (gSub to ti t) := by
  refine ⟨?_⟩
  intro pins s σ H v u Q I r h
  rw [ha]
  refine wpAny_bind (wpAny_holding (thn (ho pins s σ H _ I h) fun ov s1 ⟨x, H1, I1, r1, q1⟩ => ?_))
  refine wpAny_bind (wpAny_holding (thn (hi pins s1 σ H1 _ I1 q1) fun iv s2 ⟨y, H2, I2, r2, q2⟩ => ?_))
  refine wpAny_bind (wpAny_standAt (wpAny_bind (wpAny_holding (thn (hs pins s2 σ H2 x y v ov iv u _ I2 r1 r2 r q2) fun _ s3 ⟨H3, I3, q3⟩ => ?_))))
  exact wpAny_release ⟨σ, H3, I3, q3⟩
def tAsg (te : TE) (g : TG) : TS := fun D σ H => te σ H fun x H1 => g x σ H1 D.nx
theorem ps_asg {tg e : Expr} {te : TE} {g : TG} (he : PE X e te) (hg : PG X tg g) (hs : swapsWithSole [tg] e pos.line X.env = pure false := by rfl) (hw : swappedStores [tg] e X.env = pure none := by rfl)
    (h1 : (assignEach [tg] X.env).map (·.2) = [assign tg X.env] := by rfl) : PS X (.Assign [tg] e pos) (tAsg te g) := by
  refine ⟨?_⟩
  intro pins s σ H D I h
  refine wpAny_Assign_stores (thn (he pins s σ H _ I h) fun v s1 ⟨x, H1, I1, r1, q1⟩ => ?_) hs hw
  rw [h1]
  exact thn (hg pins s1 σ H1 x v _ I1 r1 q1) fun _ s2 q => q
theorem ps_set {i : Nat} {x : Str} {e : Expr} {te : TE} {pos' : Pos} (hN : X.N.Nodup) (hi : X.N[i]? = some x) (hx : Loc X.env.scope x) (he : PE X e te) (hs : swapsWith e (some (.Name x pos')) pos.line X.env = pure false := by rfl) (hf : X.fn x = true ∨ X.env.scope.names.lookup x = some .local := by first | exact .inl rfl | exact .inr rfl | assumption) :
    PS X (.Assign [.Name x pos'] e pos) (tAsg te (gName i)) := by
  refine ⟨?_⟩
  intro pins s σ H D I h
  refine wpAny_Assign_Name (thn (he pins s σ H _ I h) fun v s1 ⟨y, H1, I1, r1, q1⟩ => ?_) hs
  exact store_ok I1 hN hi hx r1 (fun s2 I2 => ⟨_, H1, I2, q1⟩) hf
def tPar (i j : Nat) (ta : TA) : TS := fun D σ H => ta σ H fun vs H1 => ∃ v w, vs = [v, w] ∧ D.nx ((σ.set i (some v)).set j (some w)) H1
theorem ps_par {i j : Nat} {x y : Str} {a b : Expr} {ta : TA} {px py pt : Pos} {kt k2 pt2} (hc : X.calm = true) (hN : X.N.Nodup) (hi : X.N[i]? = some x) (hj : X.N[j]? = some y) (hij : i ≠ j)
    (hx : X.env.scope.names.lookup x = some .local) (hy : X.env.scope.names.lookup y = some .local) (ha : PA X [a, b] ta)
    (hw : swappedStores [.Tuple [.Name x px, .Name y py] kt pt] (.Tuple [a, b] k2 pt2) X.env = pure (some [x, y]))
    (hs : swapsWithSole [.Tuple [.Name x px, .Name y py] kt pt] (.Tuple [a, b] k2 pt2) pos.line X.env = pure false := by rfl) :
    PS X (.Assign [.Tuple [.Name x px, .Name y py] kt pt] (.Tuple [a, b] k2 pt2) pos) (tPar i j ta) := by
  refine ⟨?_⟩
  intro pins s σ H D I h
  rw [exec_Assign_arm]
  refine wpAny_bind (wpAny_standAt ?_)
  rw [hs]
  refine wpAny_bind (wpAny_pure ?_)
  rw [if_neg (by decide)]
  refine wpAny_bind (Tuple_ (thn (ha _ pins s σ H _ I h) fun us s1 ⟨vs, H1, I1, r1, q1⟩ => ?_))
  obtain ⟨v, w, e1, q1⟩ := q1
  subst e1
  obtain ⟨u1, u2, rfl, rv, rw'⟩ : ∃ u1 u2, us = [u1, u2] ∧ RelV v u1 ∧ RelV w u2 := by
    cases r1 with
    | cons p q =>
      cases q with
      | cons p' q' =>
        cases q'
        exact ⟨_, _, rfl, p, p'⟩
  refine wpAny_newObj_type ?_ (by show 2 ≤ sizeLine; decide)
  have I2 : Inv X pins σ H1 { s1 with heap := s1.heap.push { cls := .type "tuple", data := .seq [u1, u2].toArray } } := I1.kept (t' := s1.toks) fun b o e => Heap.get?_push_of_some _ e
  rw [hw]
  refine wpAny_bind (wpAny_pure ?_)
  show wpAny (model X.prog X.w) X.A (do rule "assign.swapped-stores"; let items ← unpackItems (.ref s1.heap.objs.size) 2 none; assignInOrder [fun v => bindName X.env y v, fun v => bindName X.env x v] items.reverse; pure Flow.next) _ _ _
  refine wpAny_bind (wpAny_rule (wpAny_bind (unpackItems_tuple (items := #[u1, u2]) (I.ok.hd hc) (IsTup.new s1.heap _) fun h' hx' => ?_)))
  have I3 := I2.kept (h' := h') (t' := s1.toks) fun b o e => hx' b o (Nat.ne_of_lt (Heap.lt_size e)) e
  show wpAny _ _ (assignInOrder [fun v => bindName X.env y v, fun v => bindName X.env x v] [u2, u1] >>= fun _ => pure Flow.next) _ _ _
  refine wpAny_bind (assignInOrder_cons (wpAny_bindName (store_ok I3 hN hj (.inl hy) rw' (fun s2 I4 => ?_) (.inr hy))))
  refine assignInOrder_cons (wpAny_bindName (store_ok I4 hN hi (.inl hx) rv (fun s3 I5 => assignInOrder_nil (wpAny_pure ?_)) (.inr hx)))
  rw [List.set_comm _ _ (Ne.symm hij)] at I5
  exact ⟨_, H1, I5, q1⟩
end

section
variable {X : Cx} {pos : Pos}
def tWhile (c : TT) (tb : TS) : TS := fun D σ H => ∃ W : Nat → St → Hp → Prop, (∃ m, W m σ H) ∧ ∀ m σ H, W m σ H →
  c σ H fun b H1 => if b = true then ∃ N : St → Hp → Prop, (∀ σ' H', N σ' H' → ∃ m', m' < m ∧ W m' σ' H') ∧ tb { D with nx := N, ct := N, bk := D.nx } σ H1 else D.nx σ H1
theorem ps_while {c : Expr} {body : List Stmt} {tc : TT} {tb : TS} (hp : PassesOwn (model X.prog X.w) X.A X.env X.xe) (hc : PT X c tc) (hb : PSs X body tb) : PS X (.While c body [] pos) (tWhile tc tb) := by
  refine ⟨?_⟩
  intro pins s σ H D I h
  obtain ⟨W, ⟨m0, w0⟩, turn⟩ := h
  refine wpAny_While (codeAny_whileLoop (fun n s' => ∃ σ' H', Inv X pins σ' H' s' ∧ W n σ' H') ?_ m0 ⟨σ, H, I, w0⟩)
  rintro n s1 ⟨σ1, H1, I1, w1⟩
  refine wpAny_passesOwn hp (thn (hc pins s1 σ1 H1 _ I1 (turn n σ1 H1 w1)) fun b s2 ⟨H2, I2, q2⟩ => ?_)
  cases b with
  | true =>
    obtain ⟨N, hN, q2⟩ := q2
    rw [if_pos rfl]
    refine wpAny_passesOwn hp (thn (hb pins s2 σ1 H2 _ I2 q2) fun f s3 q3 => ?_)
    cases f with
    | next =>
      obtain ⟨σ3, H3, I3, n3⟩ := q3
      obtain ⟨m', hm, w3⟩ := hN σ3 H3 n3
      exact ⟨m', hm, σ3, H3, I3, w3⟩
    | cont =>
      obtain ⟨σ3, H3, I3, n3⟩ := q3
      obtain ⟨m', hm, w3⟩ := hN σ3 H3 n3
      exact ⟨m', hm, σ3, H3, I3, w3⟩
    | brk => exact q3
    | ret v => exact q3
  | false =>
    rw [if_neg Bool.false_ne_true]
    exact wpAny_execs_nil ⟨σ1, H2, I2, q2⟩
end

structure It where
  go : Nat → Hp → Prop
  yld : Nat → Hp → V → Hp → Prop
  stop : Nat → Hp → Prop
def FpOk (X : Cx) (pins : List (Addr × Obj)) (H : Hp) (b : Addr) : Prop :=
  H b = none ∧ b ≠ X.env.locals ∧ b ∉ X.fs ∧ (b ∈ X.ex ∨ X.s_0.heap.objs.size ≤ b) ∧ (∀ x c, X.env.cells.lookup x = some c → c ≠ b) ∧ ∀ p ∈ X.pn ++ pins, p.1 ≠ b
theorem Inv.fpOk {X : Cx} {pins : List (Addr × Obj)} {σ : St} {H H' : Hp} {s : Shared} {b : Addr} (I : Inv X pins σ H s) (hb : s.heap.objs.size ≤ b) (hn : H' b = none) : FpOk X pins H' b := by
  refine ⟨hn, Nat.ne_of_gt (Nat.lt_of_lt_of_le I.lt hb), I.nofs hb, .inr (Nat.le_trans I.sz hb), fun x c e z => ?_, fun p hp z => ?_⟩
  · obtain ⟨v, q⟩ := I.cell x c e
    exact absurd (Nat.lt_of_lt_of_le q.lt (by rw [z]; exact hb)) (Nat.lt_irrefl _)
  · exact absurd (Nat.lt_of_lt_of_le (Heap.lt_size (I.pin p hp).1) (by rw [z]; exact hb)) (Nat.lt_irrefl _)
structure Turn (P : Program) (w : World) (K : PySem.W.Frag) (tg : Expr) (J : It) (fp : List Addr) (it : Addr) (tn : Nat → Heap → Prop) : Prop where
  mem : it ∈ fp
  obj : ∀ i h, tn i h → ∀ b ∈ fp, ∃ o, h.get? b = some o ∧ ∀ v, o.data ≠ .cell v
  keep : ∀ i h h', tn i h → (∀ b ∈ fp, ∀ o, h.get? b = some o → h'.get? b = some o) → tn i h'
  item : ∀ (X : Cx), X.prog = P → X.w = w → X.K = K → X.calm = true → ∀ (i : Nat) (pins : List (Addr × Obj)) (s : Shared) (σ : St) (H : Hp) (E : Value → Shared → Prop), Inv X pins σ H s → (∀ b ∈ fp, FpOk X pins H b) → tn i s.heap → J.go i H →
    wpAny (model P w) X.A (pyNext (.ref it)) (fun r s1 => ∃ u, r = some u ∧
      wpAny (model P w) X.A (letOwnedTupleGo tg (.ref it) u) (fun _ s2 => ∃ x H', Inv X pins σ H' s2 ∧ RelV x u ∧ J.yld i H x H' ∧ tn (i + 1) s2.heap ∧ ∀ b ∈ fp, H' b = none) E s1) E s
  done : ∀ (X : Cx), X.prog = P → X.w = w → X.K = K → X.calm = true → ∀ (i : Nat) (pins : List (Addr × Obj)) (s : Shared) (σ : St) (H : Hp) (E : Value → Shared → Prop), Inv X pins σ H s → (∀ b ∈ fp, FpOk X pins H b) → tn i s.heap → J.stop i H →
    wpAny (model P w) X.A (pyNext (.ref it)) (fun r s1 => r = none ∧ Inv X pins σ H s1) E s
  self : ∀ (A : Around) (i : Nat) (s : Shared) (Q : Value → Shared → Prop) (E : Value → Shared → Prop), tn i s.heap → Q (.ref it) s → wpAny (model P w) A (pyIter (.ref it)) Q E s
abbrev TI := St → Hp → (It → Hp → Prop) → Prop
def PIE (X : Cx) (pins : List (Addr × Obj)) (σ : St) (tg : Expr) (R : It → Hp → Prop) (itv : Value) (s2 : Shared) : Prop :=
  ∃ (it : Addr) (fp : List Addr) (tn : Nat → Heap → Prop) (J : It) (H' : Hp), itv = .ref it ∧ Inv X pins σ H' s2 ∧ Turn X.prog X.w X.K tg J fp it tn ∧ tn 0 s2.heap ∧ (∀ b ∈ fp, FpOk X pins H' b) ∧ R J H'
structure PI (X : Cx) (tg iter : Expr) (wi : TI) : Prop where
  run : ∀ (pins : List (Addr × Obj)) (s : Shared) (σ : St) (H : Hp) (R : It → Hp → Prop), Inv X pins σ H s → wi σ H R →
    wpAny (model X.prog X.w) X.A (eval iter X.env) (fun v s1 => wpAny (model X.prog X.w) X.A (pyIter v) (PIE X pins σ tg R) X.xe s1) X.xe s
instance {X : Cx} {tg iter : Expr} {wi : TI} : CoeFun (PI X tg iter wi) (fun _ => ∀ (pins : List (Addr × Obj)) (s : Shared) (σ : St) (H : Hp) (R : It → Hp → Prop), Inv X pins σ H s → wi σ H R →
    wpAny (model X.prog X.w) X.A (eval iter X.env) (fun v s1 => wpAny (model X.prog X.w) X.A (pyIter v) (PIE X pins σ tg R) X.xe s1) X.xe s) := ⟨PI.run⟩
theorem go_of {M : Model} {A : Around} {E : Value → Shared → Prop} {s : Shared} {tg : Expr} {it : Addr} {u : Value} {o : Obj} {n : String} {vs : Array Value} {Q : Unit → Shared → Prop} (ho : s.heap.get? it = some o) (hc : o.cls = .type n) (hd : o.data = .fields vs)
    (hn : ["enumerate", "zip", "dict_itemiterator", "dict_reverseitemiterator", "odict_iterator", "itertools.zip_longest", "itertools.pairwise"].contains n = false) (hQ : Q () s) : wpAny M A (letOwnedTupleGo tg (.ref it) u) Q E s := by
  unfold letOwnedTupleGo
  cases tg <;> first
    | exact wpAny_pure hQ
    | (cases u <;> first
        | exact wpAny_pure hQ
        | (refine wpAny_bind (wpAny_load ho ?_)
           rw [hc, hd]
           show wpAny M A (if (["enumerate", "zip", "dict_itemiterator", "dict_reverseitemiterator", "odict_iterator", "itertools.zip_longest", "itertools.pairwise"].contains n && vs[0]? == some (rawInt _)) = true then _ else _) Q E s
           rw [if_neg (by intro h; rw [hn, Bool.false_and] at h; cases h)]
           exact wpAny_pure hQ))

def Itl (K : PySem.W.Frag) (a : Addr) : It :=
  ⟨fun i H => ∃ xs x, SqL K H a xs ∧ xs[i]? = some x, fun i H x H' => H' = H ∧ ∀ xs, SqL K H a xs → xs[i]? = some x, fun i H => ∃ xs, SqL K H a xs ∧ xs.length ≤ i⟩
def Itt (K : PySem.W.Frag) (a : Addr) : It :=
  ⟨fun i H => ∃ xs x, SqT K H a xs ∧ xs[i]? = some x, fun i H x H' => H' = H ∧ ∀ xs, SqT K H a xs → xs[i]? = some x, fun i H => ∃ xs, SqT K H a xs ∧ xs.length ≤ i⟩
def Itr (lo : Int) (n : Nat) : It := ⟨fun i _ => i < n, fun i H x H' => H' = H ∧ x = .int (lo + i), fun i _ => n ≤ i⟩
theorem turn_list {P : Program} {w : World} {K : PySem.W.Frag} {tg : Expr} (a it : Addr) : Turn P w K tg (Itl K a) [it] it (fun i h => h.IsListIter it a i) where
  mem := by simp
  obj := fun i h st b hb => by
    have e : b = it := by simpa using hb
    subst e
    obtain ⟨o, e, c, d⟩ := st
    exact ⟨o, e, fun v z => by rw [d] at z; cases z⟩
  keep := fun i h h' st k => st.at fun o e => k it (by simp) o e
  item := by
    intro X hP hw hK hc i pins s σ H E I hf st hg
    subst hP hw hK
    obtain ⟨xs, x, hq, hx⟩ := hg
    obtain ⟨its, rv, p, hz⟩ := I.list hq
    obtain ⟨u, hu, ru⟩ := rv.get hx
    obtain ⟨f0, f1, f2, f3, f4, f5⟩ := hf it (by simp)
    refine wpAny_pyNext_list_item st p.isList (x := u) (by simpa using hu) fun h' st' sb => ?_
    have I1 : Inv X pins σ H { s with heap := h' } := I.turned (t' := s.toks) (fun b o hb e => (sb.2 b hb).trans e) f0 f1 f3 f4 f5
    obtain ⟨o, e, c, d⟩ := id st'
    exact ⟨u, rfl, go_of (s := { s with heap := h' }) e c d (by decide) ⟨x, H, I1, ru, ⟨rfl, fun ys hy => by rw [I.list_inj hy hq]; exact hx⟩, st', fun b hb => (hf b hb).1⟩⟩
  done := by
    intro X hP hw hK hc i pins s σ H E I hf st hg
    subst hP hw hK
    obtain ⟨xs, hq, hx⟩ := hg
    obtain ⟨its, rv, p, hz⟩ := I.list hq
    obtain ⟨f0, f1, f2, f3, f4, f5⟩ := hf it (by simp)
    have hl := rv.length
    exact wpAny_pyNext_list_end (I.ok.hd hc) st p.isList (by simp; omega) fun h' eb => ⟨rfl, I.turned (t' := s.toks) (fun b o hb e => eb b o hb e) f0 f1 f3 f4 f5⟩
  self := fun _ _ _ _ _ st h => wpAny_pyIter_listiter st h
theorem turn_tuple {P : Program} {w : World} {K : PySem.W.Frag} {tg : Expr} (a it : Addr) : Turn P w K tg (Itt K a) [it] it (fun i h => h.IsTupleIter it a i) where
  mem := by simp
  obj := fun i h st b hb => by
    have e : b = it := by simpa using hb
    subst e
    obtain ⟨o, e, c, d⟩ := st
    exact ⟨o, e, fun v z => by rw [d] at z; cases z⟩
  keep := fun i h h' st k => st.at fun o e => k it (by simp) o e
  item := by
    intro X hP hw hK hc i pins s σ H E I hf st hg
    subst hP hw hK
    obtain ⟨xs, x, hq, hx⟩ := hg
    obtain ⟨its, rv, p, hz⟩ := I.tuple hq
    obtain ⟨u, hu, ru⟩ := rv.get hx
    obtain ⟨f0, f1, f2, f3, f4, f5⟩ := hf it (by simp)
    refine wpAny_pyNext_tuple_item st (show s.heap.IsTuple a its.toArray from p) (x := u) (by simpa using hu) fun h' st' sb => ?_
    have I1 : Inv X pins σ H { s with heap := h' } := I.turned (t' := s.toks) (fun b o hb e => (sb.2 b hb).trans e) f0 f1 f3 f4 f5
    obtain ⟨o, e, c, d⟩ := id st'
    exact ⟨u, rfl, go_of (s := { s with heap := h' }) e c d (by decide) ⟨x, H, I1, ru, ⟨rfl, fun ys hy => by rw [I.tuple_inj hy hq]; exact hx⟩, st', fun b hb => (hf b hb).1⟩⟩
  done := by
    intro X hP hw hK hc i pins s σ H E I hf st hg
    subst hP hw hK
    obtain ⟨xs, hq, hx⟩ := hg
    obtain ⟨its, rv, p, hz⟩ := I.tuple hq
    obtain ⟨f0, f1, f2, f3, f4, f5⟩ := hf it (by simp)
    have hl := rv.length
    exact wpAny_pyNext_tuple_end (I.ok.hd hc) st (show s.heap.IsTuple a its.toArray from p) (by simp; omega) fun h' eb => ⟨rfl, I.turned (t' := s.toks) (fun b o hb e => eb b o hb e) f0 f1 f3 f4 f5⟩
  self := fun _ _ _ _ _ st h => wpAny_pyIter_tupleiter st h
theorem turn_range {P : Program} {w : World} {K : PySem.W.Frag} {tg : Expr} (it : Addr) (lo : Int) (n : Nat) : Turn P w K tg (Itr lo n) [it] it (fun i h => IsRangeIter h it (lo + (i : Nat) * 1) ((n : Int) - (i : Nat)) 1) where
  mem := by simp
  obj := fun i h st b hb => by
    have e : b = it := by simpa using hb
    subst e
    exact ⟨_, st, fun v z => by
      have z' : Data.fields _ = Data.cell v := z
      cases z'⟩
  keep := fun i h h' st k => k it (by simp) _ st
  item := by
    intro X hP hw hK hc i pins s σ H E I hf st hg
    subst hP hw hK
    obtain ⟨f0, f1, f2, f3, f4, f5⟩ := hf it (by simp)
    have W := Walks.range (prog := X.prog) (w := X.w) (I.ok.hd hc) it lo 1 n
    refine W.item i s _ _ hg st fun v h' tk hv st' kk => ?_
    obtain ⟨t, rfl⟩ := hv
    have I1 : Inv X pins σ H { s with heap := h', toks := tk } := I.turned (fun b o hb e => kk b o (by simpa using hb) e) f0 f1 f3 f4 f5
    refine ⟨_, rfl, go_of (s := { s with heap := h', toks := tk }) (n := "range_iterator") st' rfl rfl (by decide) ⟨.int (lo + i), H, I1, ⟨t, ?_⟩, ⟨rfl, rfl⟩, st', fun b hb => (hf b hb).1⟩⟩
    rw [Int.mul_one]
  done := by
    intro X hP hw hK hc i pins s σ H E I hf st hg
    subst hP hw hK
    obtain ⟨f0, f1, f2, f3, f4, f5⟩ := hf it (by simp)
    exact wpAny_pyNext_range_end (I.ok.hd hc) st (by have : n ≤ i := hg; omega) fun h' eb => ⟨rfl, I.turned (t' := s.toks) (fun b o hb e => eb b o hb e) f0 f1 f3 f4 f5⟩
  self := fun _ _ _ _ _ st h => wpAny_pyIter_rangeiter st h
end L2

namespace L2
open PySem PySem.Spec PyProof.Rows
section
variable {X : Cx} {tg : Expr}
def iList (K : PySem.W.Frag) (tl : TE) : TI := fun σ H R => tl σ H fun x H1 => ∃ a, x = .ref a ∧ (∃ xs, SqL K H1 a xs) ∧ R (Itl K a) H1
def iTup (K : PySem.W.Frag) (tl : TE) : TI := fun σ H R => tl σ H fun x H1 => ∃ a, x = .ref a ∧ (∃ xs, SqT K H1 a xs) ∧ R (Itt K a) H1
theorem pi_list {l : Expr} {tl : TE} (hl : PE X l tl) : PI X tg l (iList X.K tl) := by
  refine ⟨?_⟩
  intro pins s σ H R I h
  refine thn (hl pins s σ H _ I h) fun v s1 ⟨x, H1, I1, r1, q1⟩ => ?_
  obtain ⟨a, e, ⟨xs, hq⟩, q⟩ := q1
  subst e
  cases r1
  obtain ⟨its, rv, p, hz⟩ := I1.list hq
  refine wpAny_pyIter_list p.isList ?_
  refine ⟨s1.heap.objs.size, [s1.heap.objs.size], _, _, H1, rfl, I1.kept (t' := s1.toks) fun b o e => Heap.get?_push_of_some _ e, turn_list a _, ⟨_, Heap.get?_push_size _ rfl, rfl, rfl⟩, fun b hb => ?_, q⟩
  have e : b = s1.heap.objs.size := by simpa using hb
  subst e
  exact I1.fpOk (Nat.le_refl _) (I1.hok.fresh (Nat.le_refl _))
theorem pi_tup {l : Expr} {tl : TE} (hl : PE X l tl) : PI X tg l (iTup X.K tl) := by
  refine ⟨?_⟩
  intro pins s σ H R I h
  refine thn (hl pins s σ H _ I h) fun v s1 ⟨x, H1, I1, r1, q1⟩ => ?_
  obtain ⟨a, e, ⟨xs, hq⟩, q⟩ := q1
  subst e
  cases r1
  obtain ⟨its, rv, p, hz⟩ := I1.tuple hq
  refine wpAny_pyIter_tuple (show s1.heap.IsTuple a its.toArray from p) ?_
  refine ⟨s1.heap.objs.size, [s1.heap.objs.size], _, _, H1, rfl, I1.kept (t' := s1.toks) fun b o e => Heap.get?_push_of_some _ e, turn_tuple a _, ⟨_, Heap.get?_push_size _ rfl, rfl, rfl⟩, fun b hb => ?_, q⟩
  have e : b = s1.heap.objs.size := by simpa using hb
  subst e
  exact I1.fpOk (Nat.le_refl _) (I1.hok.fresh (Nat.le_refl _))
theorem range_it {pins : List (Addr × Obj)} {σ : St} {H : Hp} {s : Shared} {R : It → Hp → Prop} {E : Value → Shared → Prop} {lo hi : Int} {t u v : Tok} {tk : Nat} (I : Inv X pins σ H s) (h1 : -(2 ^ 62) ≤ lo) (h2 : lo < 2 ^ 62) (h3 : -(2 ^ 62) ≤ hi) (h4 : hi < 2 ^ 62)
    (q : R (Itr lo (hi - lo).toNat) H) : wpAny (model X.prog X.w) X.A (pyIter (.ref s.heap.objs.size)) (PIE X pins σ tg R) E { s with heap := s.heap.push { cls := .type "range", data := .fields #[.int lo t, .int hi u, .int 1 v] }, toks := tk } := by
  refine wpAny_pyIter_range (IsRange.new ..) (small_one h1 h2 h3 h4) ?_
  have I1 : Inv X pins σ H { s with heap := s.heap.push { cls := .type "range", data := .fields #[.int lo t, .int hi u, .int 1 v] }, toks := tk } := I.kept fun b o e => Heap.get?_push_of_some _ e
  refine ⟨(s.heap.push { cls := .type "range", data := .fields #[.int lo t, .int hi u, .int 1 v] }).objs.size, [(s.heap.push { cls := .type "range", data := .fields #[.int lo t, .int hi u, .int 1 v] }).objs.size], _, _, H, rfl,
    I1.kept (t' := tk) fun b o e => Heap.get?_push_of_some _ e, turn_range _ lo (hi - lo).toNat, ?_, fun b hb => ?_, q⟩
  · have e1 : lo + ((0 : Nat) : Int) * 1 = lo := by simp
    have e2 : (((hi - lo).toNat : Nat) : Int) - ((0 : Nat) : Int) = Builtin.Range.rangeSize lo hi 1 := by rw [rangeSize_one]; split <;> omega
    show IsRangeIter _ _ (lo + ((0 : Nat) : Int) * 1) ((((hi - lo).toNat : Nat) : Int) - ((0 : Nat) : Int)) 1
    rw [e1, e2]
    exact Heap.get?_push_size _ rfl
  · have e : b = (s.heap.push { cls := .type "range", data := .fields #[.int lo t, .int hi u, .int 1 v] }).objs.size := by simpa using hb
    subst e
    exact I1.fpOk (Nat.le_refl _) (I1.hok.fresh (Nat.le_refl _))
def iRng1 (ta : TA) : TI := fun σ H R => ta σ H fun vs H1 => ∃ j : Int, vs = [.int j] ∧ -(2 ^ 62) ≤ j ∧ j < 2 ^ 62 ∧ R (Itr 0 j.toNat) H1
def iRng2 (ta : TA) : TI := fun σ H R => ta σ H fun vs H1 => ∃ i j : Int, vs = [.int i, .int j] ∧ (-(2 ^ 62) ≤ i ∧ i < 2 ^ 62 ∧ -(2 ^ 62) ≤ j ∧ j < 2 ^ 62) ∧ R (Itr i (j - i).toNat) H1
theorem pi_range1 {a : Expr} {ta : TA} {p pos : Pos} (hg : Gl X "range") (hm : X.mg "range" = none) (ha : PA X [a] ta) (hs : starEach [a] X.env = [(false, eval a X.env)] := by rfl) : PI X tg (.Call (.Name "range" p) [a] [] pos) (iRng1 ta) := by
  refine ⟨?_⟩
  intro pins s σ H R I h
  refine Call_ (ld_blt I hg hm boot_range (PyProof.Rows.callWith_type1 (thn (ha pos pins s σ H _ I h) fun us s1 ⟨vs, H1, I1, r1, q1⟩ => ?_) hs rfl))
  obtain ⟨j, e, q1, q2, q⟩ := q1
  subst e
  cases r1 with
  | cons r rr =>
    cases rr
    obtain ⟨t, rfl⟩ := r
    exact call_range_1 (range_it I1 (by omega) (by omega) q1 q2 (by simpa using q))
theorem pi_range2 {a b : Expr} {ta : TA} {p pos : Pos} (hg : Gl X "range") (hm : X.mg "range" = none) (ha : PA X [a, b] ta) (hs : starEach [a, b] X.env = [(false, eval a X.env), (false, eval b X.env)] := by rfl) (hs2 : starEach [b] X.env = [(false, eval b X.env)] := by rfl) :
    PI X tg (.Call (.Name "range" p) [a, b] [] pos) (iRng2 ta) := by
  refine ⟨?_⟩
  intro pins s σ H R I h
  refine Call_ (ld_blt I hg hm boot_range (PyProof.Rows.callWith_type1 (thn (ha pos pins s σ H _ I h) fun us s1 ⟨vs, H1, I1, r1, q1⟩ => ?_) (by rw [hs, hs2]) (by rw [hs2]; rfl)))
  obtain ⟨i, j, e, ⟨q1, q2, q3, q4⟩, q⟩ := q1
  subst e
  cases r1 with
  | cons r rr =>
    cases rr with
    | cons r' rr =>
      cases rr
      obtain ⟨t, rfl⟩ := r
      obtain ⟨t', rfl⟩ := r'
      exact call_range_2 (range_it I1 q1 q2 q3 q4 q)

def tFor (wi : TI) (g : TG) (tb : TS) : TS := fun D σ H => wi σ H fun J H1 => ∃ W : Nat → Nat → St → Hp → Prop, (∃ m, W 0 m σ H1) ∧ ∀ i m σ H, W i m σ H →
  (J.stop i H ∧ D.nx σ H) ∨ (J.go i H ∧ ∃ N : St → Hp → Prop, (∀ σ' H', N σ' H' → ∃ m', m' < m ∧ W (i + 1) m' σ' H') ∧ ∀ x H', J.yld i H x H' → g x σ H' fun σ2 H2 => tb { D with nx := N, ct := N, bk := D.nx } σ2 H2)
def pinsAt (fp : List Addr) (h : Heap) : List (Addr × Obj) := fp.filterMap fun b => (h.get? b).map fun o => (b, o)
theorem mem_pinsAt {fp : List Addr} {h : Heap} {b : Addr} {o : Obj} (hb : b ∈ fp) (e : h.get? b = some o) : (b, o) ∈ pinsAt fp h := List.mem_filterMap.mpr ⟨b, hb, by rw [e]; rfl⟩
theorem of_pinsAt {fp : List Addr} {h : Heap} {p : Addr × Obj} (hp : p ∈ pinsAt fp h) : p.1 ∈ fp ∧ h.get? p.1 = some p.2 := by
  obtain ⟨b, hb, e⟩ := List.mem_filterMap.mp hp
  cases q : h.get? b with
  | none => rw [q] at e; cases e
  | some o =>
    rw [q] at e
    have e' : (b, o) = p := Option.some.inj e
    subst e'
    exact ⟨hb, q⟩
theorem Inv.pinned {pins : List (Addr × Obj)} {σ : St} {H : Hp} {s : Shared} {fp : List Addr} (I : Inv X pins σ H s) (hf : ∀ b ∈ fp, FpOk X pins H b) (ho : ∀ b ∈ fp, ∃ o, s.heap.get? b = some o ∧ ∀ v, o.data ≠ .cell v) : Inv X (pins ++ pinsAt fp s.heap) σ H s :=
  I.pins_of fun p hp => (List.mem_append.mp hp).elim (fun z => I.pin p (List.mem_append_right _ z)) fun z => by
    obtain ⟨hb, e⟩ := of_pinsAt z
    obtain ⟨f0, f1, f2, _⟩ := hf p.1 hb
    obtain ⟨o, e', d⟩ := ho p.1 hb
    rw [e] at e'; cases e'
    exact ⟨e, f0, f1, f2, d⟩
theorem Inv.unpinned {pins pl : List (Addr × Obj)} {σ : St} {H : Hp} {s : Shared} (I : Inv X (pins ++ pl) σ H s) : Inv X pins σ H s := I.pins_of fun p hp => I.pin p (List.mem_append_right _ (List.mem_append_left _ hp))
theorem ps_for {iter : Expr} {body : List Stmt} {wi : TI} {g : TG} {tb : TS} {pos : Pos} (hp : PassesOwn (model X.prog X.w) X.A X.env X.xe) (hc : X.calm = true) (hi : PI X tg iter wi) (hg : PG X tg g) (hb : PSs X body tb)
    (hs : ∀ x, foldedSetIterable iter X.env x = pure x := by intro _; rfl) : PS X (.For tg iter body [] pos) (tFor wi g tb) := by
  refine ⟨?_⟩
  intro pins s σ H D I h
  refine wpAny_For (thn (hi pins s σ H _ I h) fun v s1 h1 => thn h1 fun itv s2 h2 => ?_) hs
  obtain ⟨it, fp, tn, J, H2, e, I2, T, st2, f2, W, ⟨m0, w0⟩, turn⟩ := h2
  subst e
  -- what stays true of the iterator's objects through the loop
  have stat : ∀ {H' : Hp}, (∀ b ∈ fp, H' b = none) → ∀ b ∈ fp, FpOk X pins H' b := fun hn b hb => ⟨hn b hb, (f2 b hb).2⟩
  refine codeAny_forLoop_any (fun n s' => ∃ i σ' H', Inv X pins σ' H' s' ∧ tn i s'.heap ∧ (∀ b ∈ fp, H' b = none) ∧ W i n σ' H') ?_ m0 ⟨0, σ, H2, I2, st2, fun b hb => (f2 b hb).1, w0⟩
  rintro n s3 ⟨i, σ3, H3, I3, st3, fr3, w3⟩
  rcases turn i n σ3 H3 w3 with ⟨stop, qn⟩ | ⟨go, N, hN, step⟩
  · refine wpAny_passesOwn hp (thn (T.done X rfl rfl rfl hc i pins s3 σ3 H3 X.xe I3 (stat fr3) st3 stop) fun r s4 ⟨hr, I4⟩ => ?_)
    subst hr
    exact wpAny_execs_nil ⟨σ3, H3, I4, qn⟩
  · refine wpAny_passesOwn hp (thn (T.item X rfl rfl rfl hc i pins s3 σ3 H3 X.xe I3 (stat fr3) st3 go) fun r s4 ⟨u, hr, h4⟩ => ?_)
    subst hr
    refine wpAny_passesOwn hp (thn h4 fun _ s5 ⟨x, H5, I5, r5, y5, st5, fr5⟩ => ?_)
    have I5' := I5.pinned (stat fr5) (T.obj _ _ st5)
    refine wpAny_passesOwn hp (thn (hg _ s5 σ3 H5 x u _ I5' r5 (step x H5 y5)) fun _ s6 ⟨σ6, H6, I6, q6⟩ => ?_)
    refine wpAny_passesOwn hp (thn (hb _ s6 σ6 H6 _ I6 q6) fun f s7 q7 => ?_)
    have again : ∀ {σ7 : St} {H7 : Hp}, Inv X (pins ++ pinsAt fp s5.heap) σ7 H7 s7 → N σ7 H7 → ∃ m, m < n ∧ ∃ i σ' H', Inv X pins σ' H' s7 ∧ tn i s7.heap ∧ (∀ b ∈ fp, H' b = none) ∧ W i m σ' H' := fun {σ7 H7} I7 n7 => by
      obtain ⟨m', hm, w7⟩ := hN σ7 H7 n7
      refine ⟨m', hm, i + 1, σ7, H7, I7.unpinned, T.keep _ _ _ st5 fun b hb o e => (I7.pin (b, o) (List.mem_append_right _ (List.mem_append_right _ (mem_pinsAt hb e)))).1, fun b hb => ?_, w7⟩
      obtain ⟨o, e, d⟩ := T.obj _ _ st5 b hb
      exact (I7.pin (b, o) (List.mem_append_right _ (List.mem_append_right _ (mem_pinsAt hb e)))).2.1
    cases f with
    | next => obtain ⟨σ7, H7, I7, n7⟩ := q7; exact again I7 n7
    | cont => obtain ⟨σ7, H7, I7, n7⟩ := q7; exact again I7 n7
    | brk => obtain ⟨σ7, H7, I7, q7⟩ := q7; exact ⟨σ7, H7, I7.unpinned, q7⟩
    | ret v => obtain ⟨x7, σ7, H7, I7, r7, q7⟩ := q7; exact ⟨x7, σ7, H7, I7.unpinned, r7, q7⟩
end

theorem for_list {K : PySem.W.Frag} {a : Addr} {xs : List V} {g : TG} {tb : TS} {D : Ends} {σ : St} {H : Hp} (Pv : Nat → St → Hp → Prop) (h0 : Pv 0 σ H) (hl : ∀ i σ H, i ≤ xs.length → Pv i σ H → SqL K H a xs)
    (hs : ∀ i x σ H, xs[i]? = some x → Pv i σ H → g x σ H fun σ2 H2 => tb { D with nx := Pv (i + 1), ct := Pv (i + 1), bk := D.nx } σ2 H2) (hd : ∀ σ H, Pv xs.length σ H → D.nx σ H) :
    ∃ W : Nat → Nat → St → Hp → Prop, (∃ m, W 0 m σ H) ∧ ∀ i m σ H, W i m σ H →
      ((Itl K a).stop i H ∧ D.nx σ H) ∨ ((Itl K a).go i H ∧ ∃ N : St → Hp → Prop, (∀ σ' H', N σ' H' → ∃ m', m' < m ∧ W (i + 1) m' σ' H') ∧ ∀ x H', (Itl K a).yld i H x H' → g x σ H' fun σ2 H2 => tb { D with nx := N, ct := N, bk := D.nx } σ2 H2) := by
  refine ⟨fun i m σ H => m = xs.length - i ∧ i ≤ xs.length ∧ Pv i σ H, ⟨xs.length, by simp, Nat.zero_le _, h0⟩, ?_⟩
  rintro i m σ H ⟨rfl, hi, p⟩
  have q := hl i σ H hi p
  by_cases hlt : i < xs.length
  · refine .inr ⟨⟨xs, xs[i], q, by simp [hlt]⟩, Pv (i + 1), fun σ' H' p' => ⟨xs.length - (i + 1), by omega, rfl, hlt, p'⟩, fun x H' y => ?_⟩
    obtain ⟨e, y⟩ := y
    subst e
    exact hs i x σ _ (y xs q) p
  · have e : i = xs.length := by omega
    subst e
    exact .inl ⟨⟨xs, q, Nat.le_refl _⟩, hd σ H p⟩
theorem for_tup {K : PySem.W.Frag} {a : Addr} {xs : List V} {g : TG} {tb : TS} {D : Ends} {σ : St} {H : Hp} (Pv : Nat → St → Hp → Prop) (h0 : Pv 0 σ H) (hl : ∀ i σ H, i ≤ xs.length → Pv i σ H → SqT K H a xs)
    (hs : ∀ i x σ H, xs[i]? = some x → Pv i σ H → g x σ H fun σ2 H2 => tb { D with nx := Pv (i + 1), ct := Pv (i + 1), bk := D.nx } σ2 H2) (hd : ∀ σ H, Pv xs.length σ H → D.nx σ H) :
    ∃ W : Nat → Nat → St → Hp → Prop, (∃ m, W 0 m σ H) ∧ ∀ i m σ H, W i m σ H →
      ((Itt K a).stop i H ∧ D.nx σ H) ∨ ((Itt K a).go i H ∧ ∃ N : St → Hp → Prop, (∀ σ' H', N σ' H' → ∃ m', m' < m ∧ W (i + 1) m' σ' H') ∧ ∀ x H', (Itt K a).yld i H x H' → g x σ H' fun σ2 H2 => tb { D with nx := N, ct := N, bk := D.nx } σ2 H2) := by
  refine ⟨fun i m σ H => m = xs.length - i ∧ i ≤ xs.length ∧ Pv i σ H, ⟨xs.length, by simp, Nat.zero_le _, h0⟩, ?_⟩
  rintro i m σ H ⟨rfl, hi, p⟩
  have q := hl i σ H hi p
  by_cases hlt : i < xs.length
  · refine .inr ⟨⟨xs, xs[i], q, by simp [hlt]⟩, Pv (i + 1), fun σ' H' p' => ⟨xs.length - (i + 1), by omega, rfl, hlt, p'⟩, fun x H' y => ?_⟩
    obtain ⟨e, y⟩ := y
    subst e
    exact hs i x σ _ (y xs q) p
  · have e : i = xs.length := by omega
    subst e
    exact .inl ⟨⟨xs, q, Nat.le_refl _⟩, hd σ H p⟩
theorem for_range {lo : Int} {n : Nat} {g : TG} {tb : TS} {D : Ends} {σ : St} {H : Hp} (Pv : Nat → St → Hp → Prop) (h0 : Pv 0 σ H)
    (hs : ∀ i σ H, i < n → Pv i σ H → g (.int (lo + i)) σ H fun σ2 H2 => tb { D with nx := Pv (i + 1), ct := Pv (i + 1), bk := D.nx } σ2 H2) (hd : ∀ σ H, Pv n σ H → D.nx σ H) :
    ∃ W : Nat → Nat → St → Hp → Prop, (∃ m, W 0 m σ H) ∧ ∀ i m σ H, W i m σ H →
      ((Itr lo n).stop i H ∧ D.nx σ H) ∨ ((Itr lo n).go i H ∧ ∃ N : St → Hp → Prop, (∀ σ' H', N σ' H' → ∃ m', m' < m ∧ W (i + 1) m' σ' H') ∧ ∀ x H', (Itr lo n).yld i H x H' → g x σ H' fun σ2 H2 => tb { D with nx := N, ct := N, bk := D.nx } σ2 H2) := by
  refine ⟨fun i m σ H => m = n - i ∧ i ≤ n ∧ Pv i σ H, ⟨n, by simp, Nat.zero_le _, h0⟩, ?_⟩
  rintro i m σ H ⟨rfl, hi, p⟩
  by_cases hlt : i < n
  · refine .inr ⟨hlt, Pv (i + 1), fun σ' H' p' => ⟨n - (i + 1), by omega, rfl, hlt, p'⟩, fun x H' y => ?_⟩
    obtain ⟨e, y⟩ := y
    subst e y
    exact hs i σ _ hlt p
  · have e : i = n := by omega
    subst e
    exact .inl ⟨Nat.le_refl _, hd σ H p⟩
end L2

namespace L2
open PySem PySem.Spec PyProof.Rows

abbrev R2 := V → V → Hp → VK → Prop
def OpR (X : Cx) (f : Value → Value → Sem Value) (r : R2) : Prop :=
  ∀ (pins : List (Addr × Obj)) (s : Shared) (σ : St) (H : Hp) (x y : V) (v u : Value) (Q : VK), Inv X pins σ H s → RelV x v → RelV y u → r x y H Q →
    wpAny (model X.prog X.w) X.A (f v u) (EP X pins σ Q) X.xe s
def UnR (X : Cx) (f : Value → Sem Value) (r : V → Hp → VK → Prop) : Prop :=
  ∀ (pins : List (Addr × Obj)) (s : Shared) (σ : St) (H : Hp) (x : V) (v : Value) (Q : VK), Inv X pins σ H s → RelV x v → r x H Q →
    wpAny (model X.prog X.w) X.A (f v) (EP X pins σ Q) X.xe s
def CallR (X : Cx) (f : Value) (r : List V → Hp → VK → Prop) : Prop :=
  ∀ (pins : List (Addr × Obj)) (s : Shared) (σ : St) (H : Hp) (xs : List V) (us : List Value) (Q : VK), Inv X pins σ H s → Vals xs us → r xs H Q →
    wpAny (model X.prog X.w) X.A (call f us) (EP X pins σ Q) X.xe s
def TruR (X : Cx) (r : V → Hp → (Bool → Hp → Prop) → Prop) : Prop :=
  ∀ (pins : List (Addr × Obj)) (s : Shared) (σ : St) (H : Hp) (x : V) (v : Value) (Q : Bool → Hp → Prop), Inv X pins σ H s → RelV x v → r x H Q →
    wpAny (model X.prog X.w) X.A (truthy v) (TP X pins σ Q) X.xe s

def tOp (r : R2) (ta tb : TE) : TE := fun σ H Q => ta σ H fun x H1 => tb σ H1 fun y H2 => r x y H2 Q
def tUn (r : V → Hp → VK → Prop) (ta : TE) : TE := fun σ H Q => ta σ H fun x H1 => r x H1 Q
def rI (C : Int → Int → Prop) (g : Int → Int → V) : R2 := fun x y H Q => ∃ i j, x = .int i ∧ y = .int j ∧ C i j ∧ Q (g i j) H
def rI0 (g : Int → Int → V) : R2 := fun x y H Q => ∃ i j, x = .int i ∧ y = .int j ∧ Q (g i j) H
def rU (g : Int → V) : V → Hp → VK → Prop := fun x H Q => ∃ i, x = .int i ∧ Q (g i) H

section
variable {X : Cx} {a b c : Expr} {ta tb tc : TE} {pos : Pos}

theorem binT (ha : PE X a ta) (hb : PE X b tb) {pins : List (Addr × Obj)} {s : Shared} {σ : St} {H : Hp} {R : V → V → Hp → Prop} (I : Inv X pins σ H s)
    (h : ta σ H fun x H1 => tb σ H1 fun y H2 => R x y H2) {Q : Value → Shared → Prop} {f : Value → Value → Sem Value}
    (hf : ∀ v u s2 x y H2, Inv X pins σ H2 s2 → RelV x v → RelV y u → R x y H2 → wpAny (model X.prog X.w) X.A (f v u) Q X.xe s2) :
    wpAny (model X.prog X.w) X.A (eval a X.env) (fun v s₁ => wpAny (model X.prog X.w) X.A (eval b X.env) (fun u s₂ => wpAny (model X.prog X.w) X.A (f v u) Q X.xe s₂) X.xe s₁) X.xe s := by
  refine thn (ha pins s σ H _ I h) fun v s1 ⟨x, H1, I1, r1, q1⟩ => ?_
  refine thn (hb pins s1 σ H1 _ I1 q1) fun u s2 ⟨y, H2, I2, r2, q2⟩ => ?_
  exact hf v u s2 x y H2 I2 r1 r2 q2

theorem pe_op {op : Operator} {r : R2} (ho : OpR X (binaryOp op) r) (ha : PE X a ta) (hb : PE X b tb) : PE X (.BinOp a op b pos) (tOp r ta tb) := by
  refine ⟨?_⟩
  intro pins s σ H Q I h
  exact wpAny_BinOp (binT ha hb I h fun v u s2 x y H2 I2 rx ry q => ho pins s2 σ H2 x y v u Q I2 rx ry q)
theorem pe_un {op : UnaryOp} {r : V → Hp → VK → Prop} (ho : UnR X (unaryOp op) r) (ha : PE X a ta) : PE X (.UnaryOp op a pos) (tUn r ta) := by
  refine ⟨?_⟩
  intro pins s σ H Q I h
  exact UnaryOp_ (thn (ha pins s σ H _ I h) fun v s1 ⟨x, H1, I1, r1, q1⟩ => ho pins s1 σ H1 x v Q I1 r1 q1)
theorem opI {f : Value → Value → Sem Value} {C : Int → Int → Prop} {g : Int → Int → Int}
    (rule : ∀ (i j : Int) (t u : Tok) (s : Shared) (Q : Value → Shared → Prop) (E : Value → Shared → Prop), C i j → Q (.int (g i j) s.toks) { s with toks := s.toks + 1 } → wpAny (model X.prog X.w) X.A (f (.int i t) (.int j u)) Q E s) :
    OpR X f (rI C fun i j => .int (g i j)) := by
  intro pins s σ H x y v u Q I rx ry h
  obtain ⟨i, j, rfl, rfl, hc, q⟩ := h
  obtain ⟨t, rfl⟩ := rx
  obtain ⟨t', rfl⟩ := ry
  exact rule i j t t' s _ _ hc ⟨.int (g i j), H, I.tok _, ⟨_, rfl⟩, q⟩
theorem opI0 {f : Value → Value → Sem Value} {g : Int → Int → Int}
    (rule : ∀ (i j : Int) (t u : Tok) (s : Shared) (Q : Value → Shared → Prop) (E : Value → Shared → Prop), Q (.int (g i j) s.toks) { s with toks := s.toks + 1 } → wpAny (model X.prog X.w) X.A (f (.int i t) (.int j u)) Q E s) :
    OpR X f (rI0 fun i j => .int (g i j)) := by
  intro pins s σ H x y v u Q I rx ry h
  obtain ⟨i, j, rfl, rfl, q⟩ := h
  obtain ⟨t, rfl⟩ := rx
  obtain ⟨t', rfl⟩ := ry
  exact rule i j t t' s _ _ ⟨.int (g i j), H, I.tok _, ⟨_, rfl⟩, q⟩
theorem opB0 {f : Value → Value → Sem Value} {g : Int → Int → Bool}
    (rule : ∀ (i j : Int) (t u : Tok) (s : Shared) (Q : Value → Shared → Prop) (E : Value → Shared → Prop), Q (.bool (g i j)) s → wpAny (model X.prog X.w) X.A (f (.int i t) (.int j u)) Q E s) :
    OpR X f (rI0 fun i j => .bl (g i j)) := by
  intro pins s σ H x y v u Q I rx ry h
  obtain ⟨i, j, rfl, rfl, q⟩ := h
  obtain ⟨t, rfl⟩ := rx
  obtain ⟨t', rfl⟩ := ry
  exact rule i j t t' s _ _ ⟨.bl (g i j), H, I, rfl, q⟩

def CDiv (i j : Int) : Prop := 0 < j ∧ j < 1073741824
def CPow (i j : Int) : Prop := 0 ≤ j ∧ j ≤ 1000000 ∧ i.natAbs < 2 ^ 64
def CMul (i j : Int) : Prop := (-(2 ^ 64) < i ∧ i < 2 ^ 64) ∨ (-(2 ^ 64) < j ∧ j < 2 ^ 64)
theorem CMul.ok {i j : Int} (h : CMul i j) : IntMulOk i j := by
  rcases h with ⟨h1, h2⟩ | ⟨h1, h2⟩
  · exact .of_left (intBits_le_64 h1 h2)
  · exact .of_right (intBits_le_64 h1 h2)
theorem op_add : OpR X (binaryOp .Add) (rI0 fun i j => .int (i + j)) := opI0 fun _ _ _ _ _ _ _ q => add_int q
theorem op_sub : OpR X (binaryOp .Sub) (rI0 fun i j => .int (i - j)) := opI0 fun _ _ _ _ _ _ _ q => sub_int q
theorem op_mul : OpR X (binaryOp .Mult) (rI CMul fun i j => .int (i * j)) := opI fun _ _ _ _ _ _ _ hc q => mul_int q hc.ok
theorem op_fdiv : OpR X (binaryOp .FloorDiv) (rI CDiv fun i j => .int (i / j)) := opI fun i j _ _ _ _ _ hc q => by
  have h1 : (0 : Int) < j := hc.1
  have h2 : j < 1073741824 := hc.2
  exact floordiv_int (by omega) (by rw [Int.fdiv_eq_ediv_of_nonneg i (by omega)]; exact q) (.inl (PyProof.noPylong_small (by omega)))
theorem op_mod : OpR X (binaryOp .Mod) (rI (fun _ j => 0 < j) fun i j => .int (i % j)) := opI fun i j _ _ _ _ _ hc q => by
  have h1 : (0 : Int) < j := hc
  exact mod_int' (by omega) (by rw [Int.fmod_eq_emod_of_nonneg i (by omega)]; exact q)
theorem op_pow : OpR X (binaryOp .Pow) (rI CPow fun i j => .int (i ^ j.toNat)) := opI fun _ _ _ _ _ _ _ hc q => pow_int_small hc.1 hc.2.1 hc.2.2 q
theorem op_shl : OpR X (binaryOp .LShift) (rI CPow fun i j => .int (i * 2 ^ j.toNat)) := opI fun _ _ _ _ _ _ _ hc q => lshift_int_small hc.1 hc.2.1 hc.2.2 q
theorem unI {f : Value → Sem Value} {g : Int → Int}
    (rule : ∀ (i : Int) (t : Tok) (s : Shared) (Q : Value → Shared → Prop) (E : Value → Shared → Prop), Q (.int (g i) s.toks) { s with toks := s.toks + 1 } → wpAny (model X.prog X.w) X.A (f (.int i t)) Q E s) :
    UnR X f (rU fun i => .int (g i)) := by
  intro pins s σ H x v Q I rx h
  obtain ⟨i, rfl, q⟩ := h
  obtain ⟨t, rfl⟩ := rx
  exact rule i t s _ _ ⟨.int (g i), H, I.tok _, ⟨_, rfl⟩, q⟩
theorem un_neg : UnR X (unaryOp .USub) (rU fun i => .int (-i)) := unI fun _ _ _ _ _ q => neg_int q
end

def scal : V → V → Bool
  | .non, .non => true | .non, .int _ => true | .int _, .non => true | .non, .bl _ => true | .bl _, .non => true | .non, .str _ => true | .str _, .non => true
  | .int _, .int _ => true | .bl _, .bl _ => true | .str _, .str _ => true | .byt _, .byt _ => true
  | .int _, .str _ => true | .str _, .int _ => true | .bl _, .str _ => true | .str _, .bl _ => true
  | _, _ => false
def rEq : R2 := fun x y H Q => scal x y = true ∧ Q (.bl (decide (x = y))) H
def rNe : R2 := fun x y H Q => scal x y = true ∧ Q (.bl (!decide (x = y))) H

theorem dec_int {i j : Int} : decide (V.int i = V.int j) = (i == j) := by
  rw [Bool.eq_iff_iff]
  simp
theorem dec_bl {i j : Bool} : decide (V.bl i = V.bl j) = (i == j) := by
  rw [Bool.eq_iff_iff]
  simp
theorem dec_str {i j : Str} : decide (V.str i = V.str j) = (i == j) := by
  rw [Bool.eq_iff_iff]
  simp
theorem dec_byt {i j : Array UInt8} : decide (V.byt i = V.byt j) = (i.toList == j.toList) := by
  rw [Bool.eq_iff_iff]
  cases i
  cases j
  simp

section
variable {X : Cx} {a b c : Expr} {ta tb tc : TE} {pos : Pos}
theorem fin_bl {pins : List (Addr × Obj)} {σ : St} {H : Hp} {s : Shared} {Q : VK} {k k' : Bool} (I : Inv X pins σ H s) (q : Q (.bl k) H) (e : k = k') : EP X pins σ Q (.bool k') s := by
  subst e
  exact ⟨.bl k, H, I, rfl, q⟩
theorem op_eq : OpR X (compareOp .Eq) rEq := by
  intro pins s σ H x y v u Q I rx ry h
  obtain ⟨hs, q⟩ := h
  cases x with
  | non =>
    cases rx
    cases y with
    | non => cases ry; exact PySem.EqNone.eq_none_none (fin_bl I q (by simp))
    | bl j => cases ry; exact PySem.EqNone.eq_none_bool (fin_bl I q (by simp))
    | int j => obtain ⟨t', rfl⟩ := ry; exact PySem.EqNone.eq_none_int (fin_bl I q (by simp))
    | str j => obtain ⟨t', rfl⟩ := ry; exact PySem.EqNone.eq_none_str (fin_bl I q (by simp))
    | _ => exact absurd (show false = true from hs) Bool.false_ne_true
  | bl i =>
    cases rx
    cases y with
    | non => cases ry; exact PySem.EqNone.eq_bool_none (fin_bl I q (by simp))
    | bl j => cases ry; exact eq_bool (fin_bl I q dec_bl)
    | str j => obtain ⟨t', rfl⟩ := ry; exact PySem.EqMixed.eq_bool_str (fin_bl I q (by simp))
    | _ => exact absurd (show false = true from hs) Bool.false_ne_true
  | int i =>
    obtain ⟨t, rfl⟩ := rx
    cases y with
    | non => cases ry; exact PySem.EqNone.eq_int_none (fin_bl I q (by simp))
    | int j => obtain ⟨t', rfl⟩ := ry; exact eq_int (fin_bl I q dec_int)
    | str j => obtain ⟨t', rfl⟩ := ry; exact PySem.EqMixed.eq_int_str (fin_bl I q (by simp))
    | _ => exact absurd (show false = true from hs) Bool.false_ne_true
  | str i =>
    obtain ⟨t, rfl⟩ := rx
    cases y with
    | non => cases ry; exact PySem.EqNone.eq_str_none (fin_bl I q (by simp))
    | bl j => cases ry; exact PySem.EqMixed.eq_str_bool (fin_bl I q (by simp))
    | int j => obtain ⟨t', rfl⟩ := ry; exact PySem.EqMixed.eq_str_int (fin_bl I q (by simp))
    | str j => obtain ⟨t', rfl⟩ := ry; exact eq_str (fin_bl I q dec_str)
    | _ => exact absurd (show false = true from hs) Bool.false_ne_true
  | byt i =>
    obtain ⟨t, rfl⟩ := rx
    cases y with
    | byt j => obtain ⟨t', rfl⟩ := ry; exact PySem.W.eq_bytes (fin_bl I q dec_byt)
    | _ => exact absurd (show false = true from hs) Bool.false_ne_true
  | _ => cases y <;> exact absurd (show false = true from hs) Bool.false_ne_true
theorem op_ne : OpR X (compareOp .NotEq) rNe := by
  intro pins s σ H x y v u Q I rx ry h
  obtain ⟨hs, q⟩ := h
  cases x with
  | non =>
    cases rx
    cases y with
    | non => cases ry; exact PySem.EqNone.ne_none_none (fin_bl I q (by simp))
    | bl j => cases ry; exact PySem.EqNone.ne_none_bool (fin_bl I q (by simp))
    | int j => obtain ⟨t', rfl⟩ := ry; exact PySem.EqNone.ne_none_int (fin_bl I q (by simp))
    | str j => obtain ⟨t', rfl⟩ := ry; exact PySem.EqNone.ne_none_str (fin_bl I q (by simp))
    | _ => exact absurd (show false = true from hs) Bool.false_ne_true
  | bl i =>
    cases rx
    cases y with
    | non => cases ry; exact PySem.EqNone.ne_bool_none (fin_bl I q (by simp))
    | bl j => cases ry; exact ne_bool (fin_bl I q (congrArg not dec_bl))
    | str j => obtain ⟨t', rfl⟩ := ry; exact PySem.EqMixed.ne_bool_str (fin_bl I q (by simp))
    | _ => exact absurd (show false = true from hs) Bool.false_ne_true
  | int i =>
    obtain ⟨t, rfl⟩ := rx
    cases y with
    | non => cases ry; exact PySem.EqNone.ne_int_none (fin_bl I q (by simp))
    | int j => obtain ⟨t', rfl⟩ := ry; exact ne_int (fin_bl I q (congrArg not dec_int))
    | str j => obtain ⟨t', rfl⟩ := ry; exact PySem.EqMixed.ne_int_str (fin_bl I q (by simp))
    | _ => exact absurd (show false = true from hs) Bool.false_ne_true
  | str i =>
    obtain ⟨t, rfl⟩ := rx
    cases y with
    | non => cases ry; exact PySem.EqNone.ne_str_none (fin_bl I q (by simp))
    | bl j => cases ry; exact PySem.EqMixed.ne_str_bool (fin_bl I q (by simp))
    | int j => obtain ⟨t', rfl⟩ := ry; exact PySem.EqMixed.ne_str_int (fin_bl I q (by simp))
    | str j => obtain ⟨t', rfl⟩ := ry; exact ne_str (fin_bl I q (congrArg not dec_str))
    | _ => exact absurd (show false = true from hs) Bool.false_ne_true
  | byt i =>
    obtain ⟨t, rfl⟩ := rx
    cases y with
    | byt j => obtain ⟨t', rfl⟩ := ry; exact PySem.W.ne_bytes (fin_bl I q (congrArg not dec_byt))
    | _ => exact absurd (show false = true from hs) Bool.false_ne_true
  | _ => cases y <;> exact absurd (show false = true from hs) Bool.false_ne_true

theorem op_lt : OpR X (compareOp .Lt) (rI0 fun i j => .bl (decide (i < j))) := opB0 fun _ _ _ _ _ _ _ q => lt_int q
theorem op_le : OpR X (compareOp .LtE) (rI0 fun i j => .bl (decide (i ≤ j))) := opB0 fun _ _ _ _ _ _ _ q => le_int q
theorem op_gt : OpR X (compareOp .Gt) (rI0 fun i j => .bl (decide (j < i))) := opB0 fun _ _ _ _ _ _ _ q => gt_int q
theorem op_ge : OpR X (compareOp .GtE) (rI0 fun i j => .bl (decide (j ≤ i))) := opB0 fun _ _ _ _ _ _ _ q => ge_int q
def isObj : HO → Bool
  | .lst _ => true
  | .ins _ _ _ => true
  | _ => false
theorem obj_there {pins : List (Addr × Obj)} {s : Shared} {σ : St} {H : Hp} {a : Addr} {o : HO} (I : Inv X pins σ H s) (h : H a = some o) (p : isObj o = true) : ∃ ob, s.heap.get? a = some ob ∧ ob.cls ≠ .type "tuple" := by
  cases o with
  | lst xs =>
    obtain ⟨_, its, n, _, e⟩ : xs.length ≤ sizeLine ∧ ∃ (its : List Value) (n : Nat), Vals xs its ∧ s.heap.get? a = some { cls := .type "list", data := .seq its.toArray n } := I.hok a _ h
    exact ⟨_, e, (by show Value.type "list" ≠ .type "tuple"; decide +kernel)⟩
  | ins C dx fs =>
    have x := I.hok a _ h
    obtain ⟨_, _, _, e, _⟩ := x
    exact ⟨_, e, (by show Value.ref C ≠ .type "tuple"; exact fun z => by cases z)⟩
  | _ => exact absurd (show false = true from p) Bool.false_ne_true
theorem nomark (b : Expr) {op : CmpOp} (h : op ≠ .In := by decide) (h2 : op ≠ .NotIn := by decide) : behindInMarks op b = false := by
  have e1 : (op == CmpOp.In) = false := by cases op <;> first | rfl | exact absurd rfl h
  have e2 : (op == CmpOp.NotIn) = false := by cases op <;> first | rfl | exact absurd rfl h2
  cases b <;> simp [behindInMarks, e1, e2]
theorem pe_cmpR {op : CmpOp} {r : R2} (ho : OpR X (compareOp op) r) (ha : PE X a ta) (hb : PE X b tb) (hm : behindInMarks op b = false) : PE X (.Compare a [op] [b] pos) (tOp r ta tb) := by
  refine ⟨?_⟩
  intro pins s σ H Q I h
  exact wpAny_Compare1 (binT ha hb I h fun v u s2 x y H2 I2 rx ry q => ho pins s2 σ H2 x y v u Q I2 rx ry q) hm
def tTest (t : TE) : TT := fun σ H Q => t σ H fun x H' => ∃ k, x = .bl k ∧ Q k H'
theorem pt_cmpR {op : CmpOp} {r : R2} (ho : OpR X (compareOp op) r) (ha : PE X a ta) (hb : PE X b tb) (hm : behindInMarks op b = false) : PT X (.Compare a [op] [b] pos) (tTest (tOp r ta tb)) := by
  refine ⟨?_⟩
  intro pins s σ H Q I h
  refine wpAny_isTrue_Compare1 (thn (ha pins s σ H _ I h) fun v s1 ⟨x, H1, I1, r1, q1⟩ => thn (hb pins s1 σ H1 _ I1 q1) fun u s2 ⟨y, H2, I2, r2, q2⟩ =>
    thn (ho pins s2 σ H2 x y v u _ I2 r1 r2 q2) fun c s3 ⟨z, H3, I3, r3, k, e, q3⟩ => ?_) hm
  subst e
  cases r3
  exact wpAny_truthy_bool ⟨H3, I3, q3⟩
def tChain (r r' : R2) (ta tb tc : TE) : TE := fun σ H Q => ta σ H fun x H1 => tb σ H1 fun y H2 => r x y H2 fun z H3 => ∃ k, z = .bl k ∧
  (if k = true then tc σ H3 fun w' H4 => r' y w' H4 Q else Q (.bl false) H3)
theorem pe_chain {op op' : CmpOp} {r r' : R2} (ho : OpR X (compareOp op) r) (ho' : OpR X (compareOp op') r') (ha : PE X a ta) (hb : PE X b tb) (hc : PE X c tc)
    (hm : lastMarks [op, op'] [b, c] = false := by with_unfolding_all rfl) : PE X (.Compare a [op, op'] [b, c] pos) (tChain r r' ta tb tc) := by
  refine ⟨?_⟩
  intro pins s σ H Q I h
  refine Compare_chain (thn (ha pins s σ H _ I h) fun v s1 ⟨x, H1, I1, r1, q1⟩ => chain_link (thn (hb pins s1 σ H1 _ I1 q1) fun u s2 ⟨y, H2, I2, r2, q2⟩ =>
    thn (ho pins s2 σ H2 x y v u _ I2 r1 r2 q2) fun d s3 ⟨z, H3, I3, r3, k, e, q3⟩ => ?_)) hm
  subst e
  cases r3
  refine wpAny_truthy_bool ?_
  cases k with
  | false => exact ite_ff ⟨.bl false, H3, I3, rfl, q3⟩
  | true => exact ite_tt (chain_last (thn (hc pins s3 σ H3 _ I3 q3) fun w' s4 ⟨z', H4, I4, r4, q4⟩ => ho' pins s4 σ H4 y z' u w' Q I4 r2 r4 q4))
def TruV (K : PySem.W.Frag) (x : V) (H : Hp) (k : Bool) : Prop :=
  match x with
  | .non => k = false
  | .bl b => k = b
  | .int i => k = (i != 0)
  | .str y => y.length ≤ sizeLine ∧ k = ((y.length : Int) != 0)
  | .byt y => y.size ≤ sizeLine ∧ k = ((y.size : Int) != 0)
  | .ref p => (∃ xs, SqL K H p xs ∧ k = !xs.isEmpty) ∨ (∃ xs, SqT K H p xs ∧ k = !xs.isEmpty) ∨ ∃ kvs, H p = some (.dK kvs) ∧ k = !kvs.isEmpty
  | _ => False
theorem isEmpty_kv {κ : Type} {kvs : List (κ × V)} {vs : List (κ × Value)} (r : KV kvs vs) : (!vs.isEmpty) = !kvs.isEmpty := by
  cases r <;> rfl
theorem isEmpty_of {xs : List V} {its : List Value} (r : Vals xs its) : (!its.toArray.isEmpty) = !xs.isEmpty := by
  cases r <;> simp
theorem line63 : (sizeLine : Nat) < 2 ^ 63 := by rw [sizeLine_eq]; decide
theorem tru_ok : TruR X (fun x H Q => ∃ k, TruV X.K x H k ∧ Q k H) := by
  intro pins s σ H x v Q I rx h
  obtain ⟨k, e, q⟩ := h
  have hl := line63
  have hs : sizeLine = 16777216 := sizeLine_eq
  cases x with
  | non =>
    cases rx
    have e' : k = false := e
    subst e'
    exact truthy_none ⟨H, I, q⟩
  | bl b =>
    cases rx
    have e' : k = b := e
    subst e'
    exact wpAny_truthy_bool ⟨H, I, q⟩
  | int i =>
    obtain ⟨t, rfl⟩ := rx
    have e' : k = (i != 0) := e
    subst e'
    exact PySem.P.truthy_int ⟨H, I, q⟩
  | str y =>
    obtain ⟨t, rfl⟩ := rx
    obtain ⟨hy, e'⟩ : y.length ≤ sizeLine ∧ k = ((y.length : Int) != 0) := e
    subst e'
    exact PySem.P.truthy_str (by omega) ⟨H, I.tok _, q⟩
  | byt y =>
    obtain ⟨t, rfl⟩ := rx
    obtain ⟨hy, e'⟩ : y.size ≤ sizeLine ∧ k = ((y.size : Int) != 0) := e
    subst e'
    exact PySem.W.truthy_bytes (by omega) ⟨H, I.tok _, q⟩
  | ref p =>
    cases rx
    have e' : (∃ xs, SqL X.K H p xs ∧ k = !xs.isEmpty) ∨ (∃ xs, SqT X.K H p xs ∧ k = !xs.isEmpty) ∨ ∃ kvs, H p = some (.dK kvs) ∧ k = !kvs.isEmpty := e
    rcases e' with ⟨xs, hx, e'⟩ | ⟨xs, hx, e'⟩ | ⟨kvs, hx, e'⟩
    · subst e'
      obtain ⟨its, r, pl, hz⟩ := I.list hx
      have hlen := r.length
      exact wpAny_truthy_list pl.isList (by simp only [List.size_toArray]; omega) ⟨H, I.tok _, by rw [isEmpty_of r]; exact q⟩
    · subst e'
      obtain ⟨its, r, pl, hz⟩ := I.tuple hx
      have hlen := r.length
      exact truthy_tuple pl (by simp only [List.size_toArray]; omega) ⟨H, I.tok _, by rw [isEmpty_of r]; exact q⟩
    · subst e'
      obtain ⟨hz, hS, vs, r, m⟩ : kvs.length ≤ sizeLine ∧ (p == sysModules) = false ∧ ∃ vs, KV kvs vs ∧ s.heap.DictOf (mixKind X.prog X.w) p vs := I.hok p _ hx
      have hlen : kvs.length = vs.length := Paired.length r
      exact wpAny_truthy_dict hS m (by omega) ⟨H, I.tok _, by rw [isEmpty_kv r]; exact q⟩
  | _ => exact (show False from e).elim
theorem pt_truth (ha : PE X a ta) (he : ∀ whole, isTrue a X.env whole = (do let v ← whole; standAt a.pos; holding [v] (truthy v))) :
    PT X a (fun σ H Q => ta σ H fun x H' => ∃ k, TruV X.K x H' k ∧ Q k H') := by
  refine ⟨?_⟩
  intro pins s σ H Q I h
  exact isTrue_plain (thn (ha pins s σ H _ I h) fun v s1 ⟨x, H1, I1, r1, q1⟩ => tru_ok pins s1 σ H1 x v Q I1 r1 q1) (he _)

theorem vals1 {x : V} {us : List Value} (r : Vals [x] us) : ∃ u, us = [u] ∧ RelV x u := by
  cases r with
  | cons r1 r2 => cases r2; exact ⟨_, rfl, r1⟩
theorem vals2 {x y : V} {us : List Value} (r : Vals [x, y] us) : ∃ u w', us = [u, w'] ∧ RelV x u ∧ RelV y w' := by
  cases r with
  | cons r1 r2 =>
    cases r2 with
    | cons r3 r4 => cases r4; exact ⟨_, _, rfl, r1, r3⟩
theorem call_max2 (hc : X.calm = true) : CallR X (.builtin "max") (fun xs H Q => ∃ i j, xs = [.int i, .int j] ∧ Q (.int (if j > i then j else i)) H) := by
  intro pins s σ H xs us Q I r h
  obtain ⟨i, j, rfl, q⟩ := h
  obtain ⟨u, w', rfl, ⟨t, rfl⟩, ⟨t', rfl⟩⟩ := vals2 r
  refine max_two_ints (I.ok.hd hc) fun h' tk k => ⟨_, H, I.kept k, ?_, q⟩
  by_cases hj : j > i
  · rw [if_pos hj, if_pos hj]; exact ⟨_, rfl⟩
  · rw [if_neg hj, if_neg hj]; exact ⟨_, rfl⟩
theorem call_min2 (hc : X.calm = true) : CallR X (.builtin "min") (fun xs H Q => ∃ i j, xs = [.int i, .int j] ∧ Q (.int (if j < i then j else i)) H) := by
  intro pins s σ H xs us Q I r h
  obtain ⟨i, j, rfl, q⟩ := h
  obtain ⟨u, w', rfl, ⟨t, rfl⟩, ⟨t', rfl⟩⟩ := vals2 r
  refine min_two_ints (I.ok.hd hc) fun h' tk k => ⟨_, H, I.kept k, ?_, q⟩
  by_cases hj : j < i
  · rw [if_pos hj, if_pos hj]; exact ⟨_, rfl⟩
  · rw [if_neg hj, if_neg hj]; exact ⟨_, rfl⟩
theorem call_int1 : CallR X (.type "int") (fun xs H Q => (∃ i, xs = [.int i] ∧ Q (.int i) H) ∨ ∃ k, xs = [.bl k] ∧ Q (.int (if k then 1 else 0)) H) := by
  intro pins s σ H xs us Q I r h
  rcases h with ⟨i, rfl, q⟩ | ⟨k, rfl, q⟩
  · obtain ⟨u, rfl, t, rfl⟩ := vals1 r
    exact call_int_int ⟨.int i, H, I, ⟨_, rfl⟩, q⟩
  · obtain ⟨u, rfl, r1⟩ := vals1 r
    cases r1
    exact call_int_bool ⟨.int (if k then 1 else 0), H, I.tok _, ⟨_, rfl⟩, q⟩
end
end L2

namespace L2
open PySem PySem.Spec PyProof.Rows

structure ObjM (h : Heap) (x dx C : Addr) (mA : Str → Option Value) : Prop where
  obj : h.get? x = some (PySem.W.instObj C dx)
  ns : h.Ns1 dx mA
  ne : dx ≠ x

theorem lookIn_ns {h : Heap} {dx : Addr} {mA : Str → Option Value} (n : h.Ns1 dx mA) : ∃ od, h.get? dx = some od ∧ ∀ name, PySem.W.lookIn name od = some (mA name) := by
  obtain ⟨o, es, ep, ho, hd, hk, _, hm⟩ := n
  refine ⟨o, ho, fun name => ?_⟩
  have e := hm name
  unfold nsFind findBy at e
  rw [← Array.find?_toList] at e
  unfold PySem.W.lookIn
  rw [hd]
  dsimp only
  split
  · rename_i y q
    rw [q] at e
    exact congrArg some e
  · rename_i q
    rw [q] at e
    have a : es.toList.any (·.refKey) = false := by
      rw [List.any_eq_false]
      intro y hy
      obtain ⟨z, t, hkey⟩ := hk y (Array.mem_toList_iff.mp hy)
      simp [DictEntry.refKey, hkey]
    have a' : ¬ es.toList.any (·.refKey) = true := by rw [a]; exact Bool.false_ne_true
    rw [if_neg a']
    exact congrArg some e

theorem ObjM.look {h : Heap} {x dx C : Addr} {mA : Str → Option Value} (I : ObjM h x dx C mA) : ∃ od, PySem.W.InstAt h x (PySem.W.instObj C dx) C (some od) ∧ ∀ name, PySem.W.lookIn name od = some (mA name) :=
  let ⟨od, ho, hl⟩ := lookIn_ns I.ns
  ⟨od, ⟨I.obj, rfl, rfl, ho⟩, hl⟩

section
variable {prog : Program} {w : World} {A : Around} {E : Value → Shared → Prop} {s : Shared} {K : PySem.W.Frag} {x dx C f : Addr} {mA : Str → Option Value} {name : Str} {v : Value}

theorem get_map {expr : Bool} {Q : Value → Shared → Prop} (X : K.In s.heap) (I : ObjM s.heap x dx C mA) (hg : PySem.W.plainGet K C name = true) (hh : PySem.W.hasDictIn K C = true)
    (ha : PySem.W.findIn K (.ref C) name = some none) (hv : mA name = some v) (hv' : PySem.W.handedIn v = true) (h : Q v { s with toks := s.toks + 1 }) :
    wpAny (model prog w) A (getAttr (.ref x) name expr) Q E s := by
  obtain ⟨od, J, hl⟩ := I.look
  exact PySem.W.get_value X J (PySem.W.plainGet_of hg).1 (PySem.W.findObj_own hh ha rfl (by rw [hl, hv])) hv' h

theorem get_meth {pl : Sem Bool} {Q : Value × List Value → Shared → Prop} (X : K.In s.heap) (I : ObjM s.heap x dx C mA) (hg : PySem.W.plainGet K C name = true)
    (hf : PySem.W.findIn K (.ref C) name = some (some (.ref f))) (ht : PySem.W.isFn K (.ref f) = true) (hv : mA name = none) (h : Q (.ref f, [.ref x]) s) :
    wpAny (model prog w) A (getMethod (.ref x) name pl) Q E s := by
  obtain ⟨od, J, hl⟩ := I.look
  exact PySem.W.method_fn X J (PySem.W.plainGet_of hg).1 (PySem.W.plainGet_of hg).2 hf (beq_iff_eq.mp ht) (by show (PySem.W.lookIn name od).map (·.isSome) = some false; rw [hl, hv]; rfl) h

theorem set_map {ns : List Str} {Q : Unit → Shared → Prop} (X : K.In s.heap) (I : ObjM s.heap x dx C mA)
    (hs : PySem.W.findIn K (.ref C) "__setattr__" = some (some (.builtin "object.__setattr__"))) (hp : PySem.W.plainOver K C = true) (ht : PySem.W.takerIn K C name = some none) (hh : PySem.W.hasDictIn K C = true)
    (hw : PySem.Within mA ns) (hsz : ns.length ≤ sizeLine)
    (h : ∀ h', ObjM h' x dx C (fun y => if y = name then some v else mA y) → Heap.SameBut dx s.heap h' → Q () { s with heap := h', toks := s.toks + 2 }) :
    wpAny (model prog w) A (setAttr (.ref x) name v) Q E s := by
  obtain ⟨od, J, hl⟩ := I.look
  refine PySem.W.set_plain X J hs (PySem.W.osa_open (s := { s with toks := s.toks + 1 }) (r := none) X J hp ht fun b => ?_)
  obtain ⟨cd, hc, hd'⟩ := PySem.W.any_some hh
  have hx : s.heap.get? x = some ⟨.ref C, some dx, .plain, #[]⟩ := I.obj
  refine wpAny_bind (wpAny_pure (wpAny_bind (wpAny_bind (wpAny_loadPart hx (wpAny_bind (PySem.W.Looks.here (s := { s with toks := s.toks + 1 }) (PySem.W.looks_clsIn X hc) ?_))))))
  rw [hd']
  refine wpAny_pure (a := some dx) (wpAny_bind (wpAny_pure (wpAny_bind ?_)))
  refine wpAny_nsSet1 (s := { s with toks := s.toks + 1 }) I.ns fun h' hn2 hs2 => ?_
  obtain ⟨oD, esD, epD, hoD, hdD, hcD⟩ := hn2.count (PySem.Within.cons name v hw)
  refine wpAny_bind (wpAny_lookBehind hoD (by rw [hdD]; exact pastItsLine_dict (Nat.le_trans hcD (by rw [List.length_cons]; omega))) ?_)
  exact wpAny_pure (h _ ⟨(hs2.2 _ (Ne.symm I.ne)).trans I.obj, hn2, I.ne⟩ hs2)

theorem make_map {R : Result → Shared → Prop} {vs : List Value} {kw : List (Str × Value)} (X : K.In s.heap) (hm : PySem.W.makesIn K C = true)
    (hi : PySem.W.findIn K (.ref C) "__init__" = some (some (.ref f))) (hf : PySem.W.typeIn K (.ref f) = some (.type "function"))
    (h : codeAny (model prog w) (A.under (.builtin "type.__call__" ⟨.ref C :: vs, kw⟩)) (.call (.ref f) ⟨.ref (s.heap.objs.size + 1) :: vs, kw⟩) (PySem.W.InitBack (s.heap.objs.size + 1) R)
      { s with heap := (s.heap.push PySem.W.emptyDict).push (PySem.W.instObj C s.heap.objs.size) }) :
    codeAny (model prog w) A (.call (.ref C) ⟨vs, kw⟩) R s := by
  obtain ⟨hh, g, d, t, os⟩ := s
  exact PySem.W.make_core (PySem.W.makes_of X hm) (PySem.W.looks_findIn X hi) (fun self => PySem.W.bind_fn X self hf) (.inl rfl) h
end

def putF (f : Str) (v : V) : List (Str × V) → List (Str × V)
  | [] => [(f, v)]
  | (g, x) :: r => if g = f then (g, v) :: r else (g, x) :: putF f v r
theorem lookup_putF (f g : Str) (v : V) : ∀ fs : List (Str × V), (putF f v fs).lookup g = if g = f then some v else fs.lookup g
  | [] => by
    show List.lookup g [(f, v)] = _
    by_cases h : g = f
    · have hb : (g == f) = true := beq_iff_eq.mpr h
      simp only [List.lookup, hb, if_pos h]
    · have hb : (g == f) = false := beq_eq_false_iff_ne.mpr h
      simp only [List.lookup, hb, if_neg h]
  | (k, x) :: r => by
    have ih := lookup_putF f g v r
    rw [show putF f v ((k, x) :: r) = (if k = f then (k, v) :: r else (k, x) :: putF f v r) from rfl]
    by_cases hk : k = f
    · rw [if_pos hk]
      by_cases h : g = k
      · have hb : (g == k) = true := beq_iff_eq.mpr h
        simp only [List.lookup, hb, if_pos (h.trans hk)]
      · have hb : (g == k) = false := beq_eq_false_iff_ne.mpr h
        simp only [List.lookup, hb, if_neg (fun e : g = f => h (e.trans hk.symm))]
    · rw [if_neg hk]
      by_cases h : g = k
      · have hb : (g == k) = true := beq_iff_eq.mpr h
        simp only [List.lookup, hb, if_neg (fun e : g = f => hk (h.symm.trans e))]
      · have hb : (g == k) = false := beq_eq_false_iff_ne.mpr h
        simp only [List.lookup, hb]
        exact ih
theorem keys_putF (f : Str) (v : V) : ∀ fs : List (Str × V), f ∈ (putF f v fs).map (·.1) ∧ ∀ g, g ∈ fs.map (·.1) → g ∈ (putF f v fs).map (·.1)
  | [] => ⟨by simp [putF], fun g h => by simp at h⟩
  | (k, x) :: r => by
    obtain ⟨i1, i2⟩ := keys_putF f v r
    rw [show putF f v ((k, x) :: r) = (if k = f then (k, v) :: r else (k, x) :: putF f v r) from rfl]
    by_cases hk : k = f
    · rw [if_pos hk]
      subst hk
      exact ⟨by simp, fun g h => by simpa using h⟩
    · rw [if_neg hk]
      refine ⟨?_, fun g h => ?_⟩
      · rw [List.map_cons]
        exact List.mem_cons_of_mem _ i1
      · rw [List.map_cons] at h ⊢
        rcases List.mem_cons.mp h with e | e
        · exact List.mem_cons.mpr (.inl e)
        · exact List.mem_cons_of_mem _ (i2 g e)
theorem length_putF (f : Str) (v : V) : ∀ fs : List (Str × V), (putF f v fs).length ≤ fs.length + 1
  | [] => by simp [putF]
  | (k, x) :: r => by
    have ih := length_putF f v r
    rw [show putF f v ((k, x) :: r) = (if k = f then (k, v) :: r else (k, x) :: putF f v r) from rfl]
    by_cases hk : k = f
    · rw [if_pos hk, List.length_cons, List.length_cons]; omega
    · rw [if_neg hk, List.length_cons, List.length_cons]; omega

theorem RelO.some_of {v : V} {o : Option Value} (r : RelO (some v) o) : ∃ u, o = some u ∧ RelV v u := by
  cases o with
  | none => exact (show False from r).elim
  | some u => exact ⟨u, rfl, r⟩
theorem RelO.none_of {o : Option Value} (r : RelO none o) : o = none := by
  cases o with
  | none => rfl
  | some u => exact (show False from r).elim
theorem handed_of {v : V} {u : Value} (r : RelV v u) : PySem.W.handedIn u = true := by
  cases v with
  | non => cases (show u = Value.none from r); rfl
  | bl b => cases (show u = Value.bool b from r); rfl
  | int i => obtain ⟨t, e⟩ := (show ∃ t, u = Value.int i t from r); cases e; rfl
  | str x => obtain ⟨t, e⟩ := (show ∃ t, u = Value.str x t from r); cases e; rfl
  | byt b => obtain ⟨t, e⟩ := (show ∃ t, u = Value.bytes b t from r); cases e; rfl
  | flt b => obtain ⟨t, e⟩ := (show ∃ t, u = Value.float b t from r); cases e; rfl
  | ref a => cases (show u = Value.ref a from r); rfl
  | ty n => cases (show u = Value.type n from r); rfl

section
variable {P : Program} {w : World} {H H' : Hp} {h h' : Heap} {a C dx : Addr} {fs fs' : List (Str × V)}
theorem ins_get (hok : HOk P w H h) (e : H a = some (.ins C dx fs)) : ∃ mA, ObjM h a dx C mA ∧ (∀ f, RelO (fs.lookup f) (mA f)) ∧ PySem.Within mA (fs.map (·.1)) ∧ fs.length ≤ 1000 ∧ H dx = some (.own a) := by
  obtain ⟨d, z, ne, ob, mA, n, r, q⟩ := (show ObjOk P w H h a (.ins C dx fs) from hok a _ e)
  exact ⟨mA, ⟨ob, n, ne⟩, r, q, z, d⟩
end

structure Cls (K : PySem.W.Frag) (C : Addr) : Prop where
  pg : PySem.W.plainGet K C Str.empty = true
  hd : PySem.W.hasDictIn K C = true
  po : PySem.W.plainOver K C = true
  sa : PySem.W.findIn K (.ref C) "__setattr__" = some (some (.builtin "object.__setattr__"))
theorem Cls.get {K : PySem.W.Frag} {C : Addr} (c : Cls K C) (f : Str) : PySem.W.plainGet K C f = true := c.pg
def NoAttr (K : PySem.W.Frag) (C : Addr) (f : Str) : Prop := PySem.W.findIn K (.ref C) f = some none
theorem NoAttr.taker {K : PySem.W.Frag} {C : Addr} {f : Str} (n : NoAttr K C f) : PySem.W.takerIn K C f = some none := by
  unfold PySem.W.takerIn
  rw [show PySem.W.findIn K (.ref C) f = some none from n]
  rfl
structure Con (K : PySem.W.Frag) (C : Addr) (f : Str) (v : V) (u : Value) : Prop where
  at_ : PySem.W.findIn K (.ref C) f = some (some u)
  rel : RelV v u
  get : PySem.W.specialIn K u "__get__" = some none
  cp : PySem.W.copiedNames.contains f = false
structure Meth (K : PySem.W.Frag) (C : Addr) (m : Str) (f : Addr) : Prop where
  at_ : PySem.W.findIn K (.ref C) m = some (some (.ref f))
  fn : PySem.W.isFn K (.ref f) = true
  kp : PySem.W.keepIn K (.ref f) = true

section
variable {X : Cx} {pins : List (Addr × Obj)} {σ : St} {H : Hp} {s : Shared} {a C dx : Addr} {fs : List (Str × V)} {f : Str} {v : V} {A : Around} {E : Value → Shared → Prop}

theorem getattr_ok {b : Bool} {Q : Value → Shared → Prop} (I : Inv X pins σ H s) (e : H a = some (.ins C dx fs)) (c : Cls X.K C) (n : NoAttr X.K C f) (l : fs.lookup f = some v)
    (h : ∀ u s', Inv X pins σ H s' → RelV v u → Q u s') : wpAny (model X.prog X.w) A (getAttr (.ref a) f b) Q E s := by
  obtain ⟨mA, O, r, _, _, _⟩ := ins_get I.hok e
  obtain ⟨u, hu, ru⟩ := RelO.some_of (v := v) (o := mA f) (by rw [← l]; exact r f)
  exact get_map I.kIn O (c.get f) c.hd n hu (handed_of ru) (h u _ (I.tok _) ru)

theorem getmeth_ok {m : Str} {g : Addr} {pl : Sem Bool} {Q : Value × List Value → Shared → Prop} (I : Inv X pins σ H s) (e : H a = some (.ins C dx fs)) (c : Cls X.K C) (k : Meth X.K C m g) (l : fs.lookup m = none)
    (h : Q (.ref g, [.ref a]) s) : wpAny (model X.prog X.w) A (getMethod (.ref a) m pl) Q E s := by
  obtain ⟨mA, O, r, _, _, _⟩ := ins_get I.hok e
  have hn : mA m = none := RelO.none_of (by rw [← l]; exact r m)
  exact get_meth I.kIn O (c.get m) k.at_ k.fn hn h

theorem setattr_ok {y : V} {u : Value} {Q : Unit → Shared → Prop} (I : Inv X pins σ H s) (e : H a = some (.ins C dx fs)) (c : Cls X.K C) (n : NoAttr X.K C f) (hl : fs.length < 1000) (ry : RelV y u)
    (h : ∀ s', Inv X pins σ (upd H a (.ins C dx (putF f y fs))) s' → Q () s') : wpAny (model X.prog X.w) A (setAttr (.ref a) f u) Q E s := by
  obtain ⟨mA, O, r, wi, _, ho⟩ := ins_get I.hok e
  have hz : (fs.map (·.1)).length ≤ sizeLine := by rw [List.length_map, sizeLine_eq]; omega
  refine set_map I.kIn O c.sa c.po n.taker c.hd wi hz fun h' O' sb => h _ ?_
  have hd : ∃ o, h'.get? dx = some o := let ⟨o, _, _, e', _⟩ := O'.ns; ⟨o, e'⟩
  refine I.write (x := a) (e := dx) (by rw [e]; exact True.intro) (.inr ho) (fun b q hb z => (sb.2 b hb).trans z) hd ?_
  refine ⟨by rw [upd_ne O.ne]; exact ho, ?_, O.ne, O'.obj, _, O'.ns, fun g => ?_, fun g hg => ?_⟩
  · have := length_putF f y fs; omega
  · show RelO ((putF f y fs).lookup g) (if g = f then some u else mA g)
    rw [lookup_putF]
    by_cases q : g = f
    · rw [if_pos q, if_pos q]; exact ry
    · rw [if_neg q, if_neg q]; exact r g
  · by_cases q : g = f
    · rw [q]; exact (keys_putF f y fs).1
    · refine (keys_putF f y fs).2 g (wi g fun z => hg ?_)
      show (if g = f then some u else mA g) = none
      rw [if_neg q]; exact z

theorem Inv.made (I : Inv X pins σ H s) : Inv X pins σ (upd (upd H s.heap.objs.size (.own (s.heap.objs.size + 1))) (s.heap.objs.size + 1) (.ins C s.heap.objs.size []))
    { s with heap := (s.heap.push PySem.W.emptyDict).push (PySem.W.instObj C s.heap.objs.size) } := by
  have e1 : (s.heap.push PySem.W.emptyDict).get? s.heap.objs.size = some PySem.W.emptyDict := Heap.get?_push_size s.heap rfl
  have e2 : ((s.heap.push PySem.W.emptyDict).push (PySem.W.instObj C s.heap.objs.size)).get? (s.heap.objs.size + 1) = some (PySem.W.instObj C s.heap.objs.size) := by
    have := Heap.get?_push_size (s.heap.push PySem.W.emptyDict) (o := PySem.W.instObj C s.heap.objs.size) rfl
    rwa [Heap.size_push] at this
  have e3 : (s.heap.push PySem.W.emptyDict).Ns s.heap.objs.size (fun _ => none) := ⟨PySem.W.emptyDict, #[], _, e1, rfl, (fun e he => absurd he (by simp)), fun _ => rfl⟩
  have I1 := I.laid (a := s.heap.objs.size) (o := .own (s.heap.objs.size + 1)) (h' := s.heap.push PySem.W.emptyDict) (t' := s.toks) (fun b u q => Heap.get?_push_of_some _ q) (Nat.le_refl _) ⟨_, e1⟩
  refine I1.laid (a := s.heap.objs.size + 1) (o := .ins C s.heap.objs.size []) (t' := s.toks) (fun b u q => Heap.get?_push_of_some _ q) (Nat.le_of_eq (Heap.size_push _ _)) ?_
  have ne : s.heap.objs.size ≠ s.heap.objs.size + 1 := Nat.ne_of_lt (Nat.lt_succ_self _)
  refine ⟨by rw [upd_ne ne, upd_same], Nat.zero_le _, ne, e2, fun _ => none, (Heap.Ns1.of_empty e3).at fun o q => Heap.get?_push_of_some _ q, fun _ => True.intro, fun y hy => absurd rfl hy⟩

theorem attr_of {prog : Program} {w : World} {env : Env} {e : Expr} {f : Str} {pos : Pos} {s : Shared} {Q : Value → Shared → Prop} (hb : attributeBase e f env (eval e env) = eval e env)
    (h : wpAny (model prog w) A (eval e env) (fun o s₁ => wpAny (model prog w) A (getAttr o f true) Q E s₁) E s) : wpAny (model prog w) A (eval (.Attribute e f pos) env) Q E s :=
  Attribute_any_ h (by rw [arm_eval_Attribute, hb])
end

def tFld (K : PySem.W.Frag) (ta : TE) (f : Str) : TE := fun σ H Q => ta σ H fun x H1 => ∃ a C dx fs v, x = .ref a ∧ H1 a = some (.ins C dx fs) ∧ Cls K C ∧ NoAttr K C f ∧ fs.lookup f = some v ∧ Q v H1
def sFld (K : PySem.W.Frag) (ta tv : TE) (f : Str) : TS := fun D σ H => tv σ H fun y H1 => ta σ H1 fun x H2 => ∃ a C dx fs, x = .ref a ∧ H2 a = some (.ins C dx fs) ∧ Cls K C ∧ NoAttr K C f ∧ fs.length < 1000 ∧
  D.nx σ (upd H2 a (.ins C dx (putF f y fs)))
section
variable {X : Cx} {o e value : Expr} {f : Str} {pos pos' tpos : Pos} {ta tv : TE}
theorem pe_fld (he : PE X e ta) (hb : attributeBase e f X.env (eval e X.env) = eval e X.env) : PE X (.Attribute e f pos) (tFld X.K ta f) := by
  refine ⟨?_⟩
  intro pins s σ H Q I h
  refine attr_of hb (thn (he pins s σ H _ I h) fun u s1 ⟨x, H1, I1, rx, a, C, dx, fs, v, ex, ea, c, n, l, q⟩ => ?_)
  subst ex
  obtain rfl : u = Value.ref a := rx
  exact getattr_ok I1 ea c n l fun u' s2 I2 ru => ⟨v, H1, I2, ru, q⟩
theorem ps_fld (ha : PE X o ta) (hv : PE X value tv) (hs : swapsWith value (some (.Attribute o f pos')) pos.line X.env = pure false) : PS X (.Assign [.Attribute o f pos'] value pos) (sFld X.K ta tv f) := by
  refine ⟨?_⟩
  intro pins s σ H D I h
  refine plainObj_wpAny_Assign_Attribute (thn (hv pins s σ H _ I h) fun u s1 ⟨y, H1, I1, ry, q⟩ => thn (ha pins s1 σ H1 _ I1 q) fun ov s2 ⟨x, H2, I2, rx, a, C, dx, fs, ex, ea, c, n, l, q2⟩ => ?_) hs
  subst ex
  obtain rfl : ov = Value.ref a := rx
  exact setattr_ok I2 ea c n l ry fun s3 I3 => ⟨σ, _, I3, q2⟩
end

section
variable {X : Cx} {pins : List (Addr × Obj)} {σ : St} {H : Hp} {s : Shared} {A : Around} {E : Value → Shared → Prop} {Q : Value → Shared → Prop} {c : Value} {b : Bool}
inductive TyOf (K : PySem.W.Frag) (H : Hp) : V → Value → Prop where
  | non : TyOf K H .non (.type "NoneType")
  | bl (x : Bool) : TyOf K H (.bl x) (.type "bool")
  | int (i : Int) : TyOf K H (.int i) (.type "int")
  | str (x : Str) : TyOf K H (.str x) (.type "str")
  | flt (x : UInt64) : TyOf K H (.flt x) (.type "float")
  | lst {a : Addr} {xs : List V} (e : H a = some (.lst xs)) : TyOf K H (.ref a) (.type "list")
  | frz {a : Addr} {o : Obj} {xs : List V} (e : H a = some (.frz o (.lst xs))) : TyOf K H (.ref a) (.type "list")
  | tup {a : Addr} {xs : List V} (e : H a = some (.tup xs)) : TyOf K H (.ref a) (.type "tuple")
  | dK {a : Addr} {kvs : List (Key × V)} (e : H a = some (.dK kvs)) : TyOf K H (.ref a) (.type "dict")
  | dT {a : Addr} {kvs : List (List Key × V)} (e : H a = some (.dT kvs)) : TyOf K H (.ref a) (.type "dict")
  | ins {a C dx : Addr} {fs : List (Str × V)} (e : H a = some (.ins C dx fs)) (cl : Cls K C) (ha : PySem.W.findIn K (.ref C) "__class__" = some (some (.builtin "object.__class__")))
      (hn : PySem.W.specialIn K (.builtin "object.__class__") "__get__" = some (some (.builtin "getset_descriptor.__get__"))) (htk : PySem.W.takesIn K (.builtin "object.__class__") = some true)
      (hm : PySem.W.mroIn K C (.type "object") = some true) : TyOf K H (.ref a) (.ref C)
theorem isinst_ok {x : V} {u t : Value} (I : Inv X pins σ H s) (rx : RelV x u) (ty : TyOf X.K H x t) (e : PySem.W.kitOne X.K t c = some b) (h : ∀ tk, Q (.bool b) { s with toks := tk }) :
    wpAny (model X.prog X.w) A (call (.builtin "isinstance") [u, c]) Q E s := by
  cases ty with
  | non => cases (show u = Value.none from rx); exact PySem.W.kia_one PySem.W.kitx_none I.kIn True.intro e (fun z => nomatch z) h
  | bl y => cases (show u = Value.bool y from rx); exact PySem.W.kia_one PySem.W.kitx_bool I.kIn True.intro e (fun z => nomatch z) h
  | int i => obtain ⟨t, q⟩ := (show ∃ t, u = Value.int i t from rx); cases q; exact PySem.W.kia_one PySem.W.kitx_int I.kIn True.intro e (fun z => nomatch z) h
  | str y => obtain ⟨t, q⟩ := (show ∃ t, u = Value.str y t from rx); cases q; exact PySem.W.kia_one PySem.W.kitx_str I.kIn True.intro e (fun z => nomatch z) h
  | flt y => obtain ⟨t, q⟩ := (show ∃ t, u = Value.float y t from rx); cases q; exact PySem.W.kia_one PySem.W.kitx_float I.kIn True.intro e (fun z => nomatch z) h
  | @lst a xs ea =>
    cases (show u = Value.ref a from rx)
    obtain ⟨_, _, n, _, h1⟩ := (show ObjOk X.prog X.w H s.heap a (.lst xs) from I.hok a _ ea)
    exact PySem.W.kia_one PySem.W.kitx_list I.kIn ⟨_, h1, rfl⟩ e (fun z => nomatch z) h
  | @frz a ob xs ea =>
    cases (show u = Value.ref a from rx)
    obtain ⟨_, _, _, n, _, h1⟩ := (show ObjOk X.prog X.w H s.heap a (.frz ob (.lst xs)) from I.hok a _ ea)
    exact PySem.W.kia_one PySem.W.kitx_list I.kIn ⟨_, h1, rfl⟩ e (fun z => nomatch z) h
  | @tup a xs ea =>
    cases (show u = Value.ref a from rx)
    obtain ⟨_, _, _, p⟩ := (show ObjOk X.prog X.w H s.heap a (.tup xs) from I.hok a _ ea)
    obtain ⟨o, h1, h2, _⟩ := p
    exact PySem.W.kia_one PySem.W.kitx_tuple I.kIn ⟨o, h1, h2⟩ e (fun z => nomatch z) h
  | @dK a kvs ea =>
    cases (show u = Value.ref a from rx)
    obtain ⟨_, _, vs, _, p⟩ := (show ObjOk X.prog X.w H s.heap a (.dK kvs) from I.hok a _ ea)
    obtain ⟨o, es, ep, h1, h2, _⟩ := p
    exact PySem.W.kia_one PySem.W.kitx_dict I.kIn ⟨o, h1, h2.1⟩ e (fun z => nomatch z) h
  | @dT a kvs ea =>
    cases (show u = Value.ref a from rx)
    obtain ⟨_, _, xs, _, o, es, ep, h1, h2, _⟩ := (show ObjOk X.prog X.w H s.heap a (.dT kvs) from I.hok a _ ea)
    exact PySem.W.kia_one PySem.W.kitx_dict I.kIn ⟨o, h1, h2.1⟩ e (fun z => nomatch z) h
  | @ins a C dx fs ea cl ha hn htk hm =>
    cases (show u = Value.ref a from rx)
    obtain ⟨mA, O, _⟩ := ins_get I.hok ea
    obtain ⟨od, J, _⟩ := O.look
    exact PySem.W.kia_one (PySem.W.kitx_own (cl.get _) cl.hd ha hn htk hm) I.kIn J e (fun z => nomatch z) h
end
end L2

namespace L2
open PySem PySem.Spec PyProof.Rows

structure Room (k : Nat) (A : Around) : Prop where
  hd : A.handled = none
  dp : A.depth + 3 * k + 5 < recursionLimit
  un : A.units + 16 * k + 200 < cLine
  gd : A.guards = some []
theorem Room.mono {j k : Nat} {A : Around} (r : Room k A) (h : j ≤ k) : Room j A := ⟨r.hd, by have := r.dp; omega, by have := r.un; omega, r.gd⟩
theorem Room.deeper {k : Nat} {A : Around} (r : Room (k + 1) A) (env : Env) : Room k (A.deeper env) :=
  ⟨r.hd, by have := r.dp; show A.depth + 1 + 3 * k + 5 < _; omega, by have := r.un; show A.units + 3 + 16 * k + 200 < _; omega, r.gd⟩
theorem Room.in1 {k : Nat} {A : Around} (r : Room (k + 1) A) : Room k A.in1 :=
  ⟨r.hd, by have := r.dp; show A.depth + 3 * k + 5 < _; omega, by have := r.un; show A.units + 1 + 16 * k + 200 < _; omega, r.gd⟩
theorem make_depth {A : Around} {C : Addr} {us : List Value} {kw : List (Str × Value)} : (A.under (.builtin "type.__call__" ⟨.ref C :: us, kw⟩)).depth = A.depth + 1 := by
  first | rfl | simp [Around.under, Code.weight, Code.isCreation, Code.isGuard, Code.isCaller, Code.frames, Code.isFrame, guardIds]
theorem make_units {A : Around} {C : Addr} {us : List Value} {kw : List (Str × Value)} : (A.under (.builtin "type.__call__" ⟨.ref C :: us, kw⟩)).units = A.units + 1 := by
  first | rfl | simp [Around.under, Code.cUnits, Code.frames, Code.isFrame]
theorem Room.make {k : Nat} {A : Around} (r : Room (k + 1) A) (C : Addr) (us : List Value) (kw : List (Str × Value)) : Room k (A.under (.builtin "type.__call__" ⟨.ref C :: us, kw⟩)) :=
  ⟨r.hd, by have := r.dp; rw [make_depth]; omega, by have := r.un; rw [make_units]; omega, by first | exact r.gd | (simpa [Around.under, Code.guards, Code.isGuard, guardIds] using r.gd)⟩
theorem Room.depth {k : Nat} {A : Around} (r : Room k A) : A.depth < recursionLimit := by have := r.dp; omega
theorem Room.units {k : Nat} {A : Around} (r : Room k A) : A.units + 64 < cLine := by have := r.un; omega
def tNil : TA := fun _ H Q => Q [] H
def tCons (ta : TE) (tr : TA) : TA := fun σ H Q => ta σ H fun x H1 => tr σ H1 fun xs H2 => Q (x :: xs) H2
section
variable {X : Cx} {e : Expr} {es : List Expr} {te : TE} {t : TA} {pos : Pos}
theorem pa_nil : PA X [] tNil := ⟨fun _ _ _ _ H Q I h => Calls.spliced_nil ⟨[], H, I, .nil, h⟩⟩
theorem pa_cons (ha : PE X e te) (hr : PA X es t) (hs : starEach (e :: es) X.env = (false, eval e X.env) :: starEach es X.env := by rfl) : PA X (e :: es) (tCons te t) := by
  refine ⟨?_⟩
  intro pos pins s σ H Q I h
  rw [hs]
  show wpAny _ _ (spliced ((false, eval e X.env) :: backTo pos (starEach es X.env))) _ _ s
  refine Calls.spliced_cons (thn (ha pins s σ H _ I h) fun u s1 ⟨x, H1, I1, r1, q1⟩ => ?_)
  exact thn (hr pos pins s1 σ H1 _ I1 q1) fun us s2 ⟨xs, H2, I2, r2, q2⟩ => ⟨x :: xs, H2, I2, .cons r1 r2, q2⟩

def tTup (t : TA) : TE := fun σ H Q => t σ H fun xs H1 => xs.length ≤ sizeLine ∧ ∀ p, H1 p = none → Q (.ref p) (upd H1 p (.tup xs))
def tLst (t : TA) : TE := fun σ H Q => t σ H fun xs H1 => xs.length ≤ sizeLine ∧ ∀ p, H1 p = none → Q (.ref p) (upd H1 p (.lst xs))
theorem pe_tup {x1} (h : PA X es t) : PE X (.Tuple es x1 pos) (tTup t) := by
  refine ⟨?_⟩
  intro pins s σ H Q I hq
  refine wpAny_Tuple_spliced (thn (h pos pins s σ H _ I hq) fun us s1 ⟨xs, H1, I1, r, z, q⟩ => ⟨by rw [← r.length]; exact z, ?_⟩)
  have hf : H1 s1.heap.objs.size = none := I1.hok.fresh (Nat.le_refl _)
  refine ⟨.ref s1.heap.objs.size, upd H1 s1.heap.objs.size (.tup xs), I1.laid (t' := s1.toks) (fun b u e => Heap.get?_push_of_some _ e) (Nat.le_refl _) ?_, rfl, q _ hf⟩
  exact ⟨z, us, r, ⟨_, Heap.get?_push_size _ rfl, rfl, _, rfl⟩⟩
theorem pe_lst (h : PA X es t) : PE X (.List es pos) (tLst t) := by
  refine ⟨?_⟩
  intro pins s σ H Q I hq
  refine wpAny_List_spliced (thn (h pos pins s σ H _ I hq) fun us s1 ⟨xs, H1, I1, r, z, q⟩ => ⟨by rw [← r.length]; exact z, ?_⟩)
  have hf : H1 s1.heap.objs.size = none := I1.hok.fresh (Nat.le_refl _)
  refine ⟨.ref s1.heap.objs.size, upd H1 s1.heap.objs.size (.lst xs), I1.laid (t' := s1.toks) (fun b u e => Heap.get?_push_of_some _ e) (Nat.le_refl _) ?_, rfl, q _ hf⟩
  exact ⟨z, us, 0, r, Heap.get?_push_size _ rfl⟩
end

abbrev Sp := List V → Hp → VK → XK → Prop
abbrev CXT := List Env → Hp → Shared → XK → Value → Shared → Prop

structure Env0 (P : Program) (w : World) (K : PySem.W.Frag) (mg : Str → Option Value) (base : Heap) (A : Around) (outer : List Env) (s : Shared) (H : Hp) : Prop where
  frames : A.frames = some outer
  mod : Mod K mg base
  bs : ∀ b o, base.get? b = some o → s.heap.get? b = some o ∧ H b = none
  bsz : base.objs.size ≤ s.heap.objs.size
  funs : s.heap.FunFrames base outer
  frf : ∀ b ∈ frs outer, H b = none
  hok : HOk P w H s.heap
  bare : AllBare s.gens
def CE (outer : List Env) (P : Program) (w : World) (H : Hp) (s : Shared) (Q : VK) (u : Value) (s' : Shared) : Prop :=
  ∃ v H', s'.os = s.os ∧ AllBare s'.gens ∧ Un (frs outer) [] H H' s.heap s'.heap ∧ HOk P w H' s'.heap ∧ RelV v u ∧ Q v H'
def CR (CX : CXT) (outer : List Env) (P : Program) (w : World) (H : Hp) (s : Shared) (Q : VK) (E : XK) (r : Result) (s' : Shared) : Prop :=
  match r with
  | .ok (.ret u) => CE outer P w H s Q u s'
  | .ok _ => False
  | .error e => CX outer H s E e s'
structure FnOk (P : Program) (w : World) (K : PySem.W.Frag) (mg : Str → Option Value) (base : Heap) (CX : CXT) (k : Nat) (f : Addr) (fd : FuncData) (ps : List Str) (sp : Sp) : Prop where
  len : ∀ vs H Q E, sp vs H Q E → vs.length = ps.length
  run : ∀ (A : Around) (outer : List Env) (s : Shared) (H : Hp) (args : Args) (us : List Value) (vs : List V) (Q : VK) (E : XK), Room k A → Env0 P w K mg base A outer s H → BindsTo s fd args (ps.zip us) → Vals vs us → sp vs H Q E →
    codeAny (model P w) A (.call (.ref f) args) (CR CX outer P w H s Q E) s
theorem FnOk.mono {P : Program} {w : World} {K : PySem.W.Frag} {mg : Str → Option Value} {base : Heap} {CX : CXT} {j k : Nat} {f : Addr} {fd : FuncData} {ps : List Str} {sp : Sp} (F : FnOk P w K mg base CX j f fd ps sp) (h : j ≤ k) :
    FnOk P w K mg base CX k f fd ps sp := ⟨F.len, fun A outer s H args us vs Q E hr => F.run A outer s H args us vs Q E (hr.mono h)⟩
theorem FnOk.imp {P : Program} {w : World} {K : PySem.W.Frag} {mg : Str → Option Value} {base : Heap} {CX : CXT} {k : Nat} {f : Addr} {fd : FuncData} {ps : List Str} {sp sp' : Sp} (F : FnOk P w K mg base CX k f fd ps sp)
    (h : ∀ vs H Q E, sp' vs H Q E → sp vs H Q E) : FnOk P w K mg base CX k f fd ps sp' :=
  ⟨fun vs H Q E q => F.len vs H Q E (h _ _ _ _ q), fun A outer s H args us vs Q E hr he hb hv hs => F.run A outer s H args us vs Q E hr he hb hv (h _ _ _ _ hs)⟩

theorem Env0.make {P : Program} {w : World} {K : PySem.W.Frag} {mg : Str → Option Value} {base : Heap} {A : Around} {outer : List Env} {s : Shared} {H : Hp} (e : Env0 P w K mg base A outer s H) (C : Addr) (us : List Value) (kw : List (Str × Value)) :
    Env0 P w K mg base (A.under (.builtin "type.__call__" ⟨.ref C :: us, kw⟩)) outer s H := ⟨by first | exact e.frames | (simpa [Around.under, Code.envs, Code.isFrame, pushEnvs] using e.frames), e.mod, e.bs, e.bsz, e.funs, e.frf, e.hok, e.bare⟩
theorem Env0.in1 {P : Program} {w : World} {K : PySem.W.Frag} {mg : Str → Option Value} {base : Heap} {A : Around} {outer : List Env} {s : Shared} {H : Hp} (e : Env0 P w K mg base A outer s H) :
    Env0 P w K mg base A.in1 outer s H := ⟨e.frames, e.mod, e.bs, e.bsz, e.funs, e.frf, e.hok, e.bare⟩

section
variable {X : Cx} {pins : List (Addr × Obj)} {σ : St} {H : Hp} {s s' : Shared}
theorem Inv.env0 (I : Inv X pins σ H s) : Env0 X.prog X.w X.K X.mg X.base X.A X.stack s H :=
  ⟨I.ok.frames, I.ok.mod, I.bs, Nat.le_trans I.ok.bsz I.sz, I.stack, I.stkFree, I.hok, I.bare⟩
theorem Inv.after {Q : VK} {u : Value} (I : Inv X pins σ H s) (h : CE X.stack X.prog X.w H s Q u s') : EP X pins σ Q u s' := by
  obtain ⟨v, H', os, bare, un, hok, r, q⟩ := h
  obtain ⟨hh, g, d, t, os'⟩ := s'
  obtain rfl : os' = s.os := os
  exact ⟨v, H', I.call (h' := hh) (g' := g) (d' := d) (t' := t) (ch := []) un hok bare (fun b z => absurd z (by simp)), r, q⟩
end

def tCall (sp : Sp) (dvs : List V) (E : XK) (t : TA) : TE := fun σ H Q => t σ H fun vs H1 => sp (vs ++ dvs) H1 Q E
def tMeth (C : Addr) (m : Str) (sp : Sp) (dvs : List V) (E : XK) (ta : TE) (t : TA) : TE := fun σ H Q => ta σ H fun x H1 => ∃ a dx fs, x = .ref a ∧ H1 a = some (.ins C dx fs) ∧ fs.lookup m = none ∧
  t σ H1 fun vs H2 => sp (x :: (vs ++ dvs)) H2 Q E
def tMake (C : Addr) (sp : Sp) (dvs : List V) (E : XK) (t : TA) : TE := fun σ H Q => t σ H fun vs H1 => ∀ x dx, H1 x = none → H1 dx = none → dx ≠ x →
  sp (.ref x :: (vs ++ dvs)) (upd (upd H1 dx (.own x)) x (.ins C dx [])) (fun v H2 => v = .non ∧ Q (.ref x) H2) E

def Binds (K : PySem.W.Frag) (fd : FuncData) (ps : List Str) (ds : List Value) : Prop :=
  ∀ (s : Shared) (us : List Value), K.In s.heap → (us ++ ds).length = ps.length → BindsTo s fd ⟨us, []⟩ (ps.zip (us ++ ds))
theorem Binds.all {K : PySem.W.Frag} {fd : FuncData} {ps : List Str} (h : ∀ us : List Value, us.length = ps.length → bindArgs fd ⟨us, []⟩ = pure (ps.zip us)) : Binds K fd ps [] := fun s us _ hl => by
  rw [List.append_nil] at hl ⊢
  exact .of_eq (h us hl)

def Passes (CX : CXT) (X : Cx) (E : XK) : Prop := ∀ (pins : List (Addr × Obj)) (σ : St) (H : Hp) (s : Shared) (e : Value) (s' : Shared), Inv X pins σ H s → CX X.stack H s E e s' → X.xe e s'

section
variable {X : Cx} {CX : CXT} {k : Nat} {f C : Addr} {fd : FuncData} {ps : List Str} {sp : Sp} {dvs : List V} {ds : List Value} {E : XK} {x m : Str} {p pos apos : Pos} {e o : Expr} {es : List Expr} {ta : TE} {t : TA}

theorem run_fn {pins : List (Addr × Obj)} {σ : St} {H : Hp} {s : Shared} {Q : VK} {us : List Value} {vs : List V} (F : FnOk X.prog X.w X.K X.mg X.base CX k f fd ps sp) (hr : Room k X.A) (hb : Binds X.K fd ps ds) (hd : Vals dvs ds) (hx : Passes CX X E)
    (I : Inv X pins σ H s) (r : Vals vs us) (h : sp (vs ++ dvs) H Q E) : wpAny (model X.prog X.w) X.A (call (.ref f) us) (EP X pins σ Q) X.xe s := by
  have r2 : Vals (vs ++ dvs) (us ++ ds) := r.append hd
  have hl : (us ++ ds).length = ps.length := by rw [← r2.length]; exact F.len _ _ _ _ h
  refine wpAny_call (codeAny_mono (F.run X.A X.stack s H ⟨us, []⟩ (us ++ ds) (vs ++ dvs) Q E hr I.env0 (hb s us I.kIn hl) r2 h) fun r s' hq => ?_)
  cases r with
  | error e => exact hx pins σ H s e s' I hq
  | ok fl =>
    cases fl with
    | ret u => exact I.after hq
    | next => exact False.elim hq
    | brk => exact False.elim hq
    | cont => exact False.elim hq

theorem pe_call (F : FnOk X.prog X.w X.K X.mg X.base CX k f fd ps sp) (hr : Room k X.A) (hg : Gl X x) (hm : X.mg x = some (.ref f)) (hk : PySem.W.keepIn X.K (.ref f) = true) (hb : Binds X.K fd ps ds) (hd : Vals dvs ds) (hx : Passes CX X E)
    (ha : PA X (e :: es) t) (hdb : (x == ("__debug__" : Str)) = false := by decide) (he : starEach (e :: es) X.env = (false, eval e X.env) :: starEach es X.env := by rfl) (hpl : (backTo pos (starEach es X.env)).any (·.1) = false := by rfl) :
    PE X (.Call (.Name x p) (e :: es) [] pos) (tCall sp dvs E t) := by
  refine ⟨?_⟩
  intro pins s σ H Q I h
  refine wpAny_Call_Name_kw (ld_glob I hg hm ?_ hdb)
  refine PySem.W.callWith_K (h₀ := X.base) I.ok.mod.kin hk (thn (ha pos pins s σ H _ I h) fun us s1 ⟨vs, H1, I1, r, q⟩ => ⟨I1.kIn, ?_⟩) he hpl
  exact run_fn F hr hb hd hx I1 r q
theorem pe_meth {pl : Sem Bool} (he : PE X o ta) (c : Cls X.K C) (hm : Meth X.K C m f) (F : FnOk X.prog X.w X.K X.mg X.base CX k f fd ps sp) (hr : Room k X.A) (hb : Binds X.K fd ps ds) (hd : Vals dvs ds) (hx : Passes CX X E) (ha : PA X (e :: es) t)
    (hst : starEach (e :: es) X.env = (false, eval e X.env) :: starEach es X.env := by rfl) (hpl : (backTo pos (starEach es X.env)).any (·.1) = false := by rfl)
    (ht : eval (.Call (.Attribute o m apos) (e :: es) [] pos) X.env = (do
      let ov ← eval o X.env
      standAt apos.atName
      let (f, first) ← holding [ov] (getMethod ov m pl)
      callWith pos f first (backTo pos (starEach (e :: es) X.env)) (backToKw pos (keywordEach [] X.env))) := by rfl) :
    PE X (.Call (.Attribute o m apos) (e :: es) [] pos) (tMeth C m sp dvs E ta t) := by
  refine ⟨?_⟩
  intro pins s σ H Q I h
  refine PySem.W.methodCall_KW (pl := pl) (thn (he pins s σ H _ I h) fun u s1 ⟨x, H1, I1, rx, a, dx, fs, ex, ea, l, q⟩ => ?_) ht
  subst ex
  obtain rfl : u = Value.ref a := rx
  refine getmeth_ok I1 ea c hm l ?_
  refine PySem.W.callWith_K (first := [.ref a]) (h₀ := X.base) I.ok.mod.kin hm.kp (thn (ha pos pins s1 σ H1 _ I1 q) fun us s2 ⟨vs, H2, I2, r, q2⟩ => ⟨I2.kIn, ?_⟩) hst hpl
  exact run_fn (us := .ref a :: us) (vs := .ref a :: vs) F hr hb hd hx I2 (.cons rfl r) q2
theorem pe_meth0 {pl : Sem Bool} (he : PE X o ta) (c : Cls X.K C) (hm : Meth X.K C m f) (F : FnOk X.prog X.w X.K X.mg X.base CX k f fd ps sp) (hr : Room k X.A) (hb : Binds X.K fd ps ds) (hd : Vals dvs ds) (hx : Passes CX X E)
    (ht : eval (.Call (.Attribute o m apos) [] [] pos) X.env = (do
      let ov ← eval o X.env
      standAt apos.atName
      let (f, first) ← holding [ov] (getMethod ov m pl)
      callWith pos f first (backTo pos (starEach [] X.env)) (backToKw pos (keywordEach [] X.env))) := by rfl) :
    PE X (.Call (.Attribute o m apos) [] [] pos) (tMeth C m sp dvs E ta tNil) := by
  refine ⟨?_⟩
  intro pins s σ H Q I h
  refine PySem.W.methodCall_KW (pl := pl) (thn (he pins s σ H _ I h) fun u s1 ⟨x, H1, I1, rx, a, dx, fs, ex, ea, l, q⟩ => ?_) ht
  subst ex
  obtain rfl : u = Value.ref a := rx
  refine getmeth_ok I1 ea c hm l ?_
  exact PySem.W.callWith_K0 (first := [.ref a]) I1.kIn hm.kp (run_fn (us := [.ref a]) (vs := [.ref a]) F hr hb hd hx I1 (.cons rfl .nil) q)

structure Mk (K : PySem.W.Frag) (C f : Addr) : Prop where
  makes : PySem.W.makesIn K C = true
  init : PySem.W.findIn K (.ref C) "__init__" = some (some (.ref f))
  fn : PySem.W.isFn K (.ref f) = true
  kp : PySem.W.keepIn K (.ref C) = true

theorem run_make {pins : List (Addr × Obj)} {σ : St} {H : Hp} {s : Shared} {Q : VK} {us : List Value} {vs : List V} (M : Mk X.K C f) (F : FnOk X.prog X.w X.K X.mg X.base CX k f fd ps sp) (hr : Room (k + 1) X.A) (hb : Binds X.K fd ps ds) (hd : Vals dvs ds)
    (hx : Passes CX X E) (I : Inv X pins σ H s) (r : Vals vs us)
    (h : ∀ x dx, H x = none → H dx = none → dx ≠ x → sp (.ref x :: (vs ++ dvs)) (upd (upd H dx (.own x)) x (.ins C dx [])) (fun v H2 => v = .non ∧ Q (.ref x) H2) E) :
    wpAny (model X.prog X.w) X.A (call (.ref C) us) (EP X pins σ Q) X.xe s := by
  have hq := h (s.heap.objs.size + 1) s.heap.objs.size (I.hok.fresh (Nat.le_succ _)) (I.hok.fresh (Nat.le_refl _)) (Nat.ne_of_lt (Nat.lt_succ_self _))
  have I2 := Inv.made (C := C) I
  have r2 : Vals (V.ref (s.heap.objs.size + 1) :: (vs ++ dvs)) (Value.ref (s.heap.objs.size + 1) :: (us ++ ds)) := .cons rfl (r.append hd)
  have hl : (Value.ref (s.heap.objs.size + 1) :: us ++ ds).length = ps.length := by
    have e := r2.length
    rw [F.len _ _ _ _ hq] at e
    exact e.symm
  refine wpAny_call (make_map (f := f) I.kIn M.makes M.init (beq_iff_eq.mp M.fn) (codeAny_mono (F.run _ X.stack _ _ ⟨Value.ref (s.heap.objs.size + 1) :: us, []⟩ (Value.ref (s.heap.objs.size + 1) :: (us ++ ds)) _ _ E (hr.make C us [])
    (I2.env0.make C us []) (hb _ (Value.ref (s.heap.objs.size + 1) :: us) I2.kIn hl) r2 hq) fun r s' hq' => ?_))
  cases r with
  | error e => exact hx pins σ _ _ e s' I2 hq'
  | ok fl =>
    cases fl with
    | ret u =>
      obtain ⟨v, H', I3, rv, ev, q3⟩ := I2.after hq'
      subst ev
      exact ⟨rv, ⟨V.ref (s.heap.objs.size + 1), H', I3, rfl, q3⟩⟩
    | next => exact False.elim hq'
    | brk => exact False.elim hq'
    | cont => exact False.elim hq'
theorem pe_make (M : Mk X.K C f) (F : FnOk X.prog X.w X.K X.mg X.base CX k f fd ps sp) (hr : Room (k + 1) X.A) (hg : Gl X x) (hm : X.mg x = some (.ref C)) (hb : Binds X.K fd ps ds) (hd : Vals dvs ds) (hx : Passes CX X E)
    (ha : PA X (e :: es) t) (hdb : (x == ("__debug__" : Str)) = false := by decide) (he : starEach (e :: es) X.env = (false, eval e X.env) :: starEach es X.env := by rfl) (hpl : (backTo pos (starEach es X.env)).any (·.1) = false := by rfl) :
    PE X (.Call (.Name x p) (e :: es) [] pos) (tMake C sp dvs E t) := by
  refine ⟨?_⟩
  intro pins s σ H Q I h
  refine wpAny_Call_Name_kw (ld_glob I hg hm ?_ hdb)
  refine PySem.W.callWith_K (h₀ := X.base) I.ok.mod.kin M.kp (thn (ha pos pins s σ H _ I h) fun us s1 ⟨vs, H1, I1, r, q⟩ => ⟨I1.kIn, ?_⟩) he hpl
  exact run_make M F hr hb hd hx I1 r q
end

structure PK (X : Cx) (kws : List Keyword) (t : TA) : Prop where
  run : ∀ (pos : Pos) (pins : List (Addr × Obj)) (s : Shared) (σ : St) (H : Hp) (Q : List V → Hp → Prop), Inv X pins σ H s → t σ H Q → wpAny (model X.prog X.w) X.A (evalAll ((backToKw pos (keywordEach kws X.env)).map (·.2))) (AP X pins σ Q) X.xe s
instance {X : Cx} {kws : List Keyword} {t : TA} : CoeFun (PK X kws t) (fun _ => ∀ (pos : Pos) (pins : List (Addr × Obj)) (s : Shared) (σ : St) (H : Hp) (Q : List V → Hp → Prop), Inv X pins σ H s → t σ H Q → wpAny (model X.prog X.w) X.A (evalAll ((backToKw pos (keywordEach kws X.env)).map (·.2))) (AP X pins σ Q) X.xe s) := ⟨PK.run⟩
section
variable {X : Cx} {CX : CXT} {k : Nat} {f C : Addr} {fd : FuncData} {ps ks : List Str} {sp : Sp} {E : XK} {x m : Str} {p pos apos kpos : Pos} {e o : Expr} {es : List Expr} {kws : List Keyword} {te ta : TE} {t tk : TA} {nm : Option Str}
theorem pk_nil : PK X [] tNil := ⟨fun _ _ _ _ H Q I h => wpAny_evalAll_nil ⟨[], H, I, .nil, h⟩⟩
theorem pk_cons (ha : PE X e te) (hr : PK X kws t) : PK X (⟨nm, e, kpos⟩ :: kws) (tCons te t) := by
  refine ⟨?_⟩
  intro pos pins s σ H Q I h
  show wpAny _ _ (evalAll ((do let v ← eval e X.env; standAt pos; pure v) :: (backToKw pos (keywordEach kws X.env)).map (·.2))) _ _ s
  refine wpAny_evalAll_cons (wpAny_bind (thn (ha pins s σ H _ I h) fun u s1 ⟨x, H1, I1, r1, q1⟩ => wpAny_bind (wpAny_standAt (wpAny_pure ?_))))
  exact thn (hr pos pins s1 σ H1 _ I1 q1) fun us s2 ⟨xs, H2, I2, r2, q2⟩ => ⟨x :: xs, H2, I2, .cons r1 r2, q2⟩

structure KBinds (K : PySem.W.Frag) (fd : FuncData) (ps ks : List Str) (g : List Value → List Value → List Value) (gV : List V → List V → List V) : Prop where
  to : ∀ (s : Shared) (us ws : List Value), K.In s.heap → (g us ws).length = ps.length → BindsTo s fd ⟨us, ks.zip ws⟩ (ps.zip (g us ws))
  rel : ∀ {vs : List V} {us : List Value} {zs : List V} {ws : List Value}, Vals vs us → Vals zs ws → Vals (gV vs zs) (g us ws)
def tCallK (sp : Sp) (gV : List V → List V → List V) (E : XK) (t tk : TA) : TE := fun σ H Q => t σ H fun vs H1 => tk σ H1 fun zs H2 => sp (gV vs zs) H2 Q E
variable {g : List Value → List Value → List Value} {gV : List V → List V → List V}
theorem run_fnk {pins : List (Addr × Obj)} {σ : St} {H : Hp} {s : Shared} {Q : VK} {us ws : List Value} {vs zs : List V} (F : FnOk X.prog X.w X.K X.mg X.base CX k f fd ps sp) (hr : Room k X.A) (hb : KBinds X.K fd ps ks g gV) (hx : Passes CX X E)
    (I : Inv X pins σ H s) (r : Vals vs us) (rz : Vals zs ws) (h : sp (gV vs zs) H Q E) : wpAny (model X.prog X.w) X.A (call (.ref f) us (ks.zip ws)) (EP X pins σ Q) X.xe s := by
  have r2 := hb.rel r rz
  have hl : (g us ws).length = ps.length := by rw [← r2.length]; exact F.len _ _ _ _ h
  refine wpAny_call (codeAny_mono (F.run X.A X.stack s H ⟨us, ks.zip ws⟩ (g us ws) (gV vs zs) Q E hr I.env0 (hb.to s us ws I.kIn hl) r2 h) fun r s' hq => ?_)
  cases r with
  | error e => exact hx pins σ H s e s' I hq
  | ok fl =>
    cases fl with
    | ret u => exact I.after hq
    | next => exact False.elim hq
    | brk => exact False.elim hq
    | cont => exact False.elim hq
end

structure FnScope (N P : List Str) (sc : Scope) : Prop where
  kind : sc.kind = .function
  co : sc.isCoroutine = false
  gen : sc.isGenerator = false
  nd : N.Nodup
  pre : N.take P.length = P
  par : ∀ x ∈ P, sc.names.lookup x = some .local ∨ sc.names.lookup x = some .cell
  nofree : ∀ y ∈ sc.names, y.2 ≠ .free

theorem bindL_out {kindOf : Str → Option NameKind} {x : Str} : ∀ {binds : List (Str × Value)} {m : Str → Option Value}, (∀ v, (x, v) ∉ binds) → bindL kindOf binds m x = m x
  | [], _, _ => rfl
  | (n, v) :: r, m, h => by
    unfold bindL
    rw [bindL_out fun w hw => h w (List.mem_cons_of_mem _ hw)]
    split
    · have : x ≠ n := by rintro rfl; exact h v List.mem_cons_self
      simp [this]
    · rfl
theorem bindC_out {kindOf : Str → Option NameKind} {x : Str} : ∀ {binds : List (Str × Value)} {m : Str → Option Value}, (∀ v, (x, v) ∉ binds) → bindC kindOf binds m x = m x
  | [], _, _ => rfl
  | (n, v) :: r, m, h => by
    unfold bindC
    rw [bindC_out fun w hw => h w (List.mem_cons_of_mem _ hw)]
    split
    · rfl
    · have : x ≠ n := by rintro rfl; exact h v List.mem_cons_self
      simp [this]
theorem bindL_get {kindOf : Str → Option NameKind} {x : Str} {v : Value} : ∀ {P : List Str} {vs : List Value} {i : Nat} {m : Str → Option Value}, P.Nodup → P[i]? = some x → vs[i]? = some v → kindOf x = some .local →
    bindL kindOf (P.zip vs) m x = some v
  | [], _, _, _, _, h, _, _ => by simp at h
  | _ :: _, [], _, _, _, _, h, _ => by simp at h
  | p :: P, w :: vs, 0, m, nd, h1, h2, hk => by
    simp at h1 h2; subst h1; subst h2
    show bindL kindOf ((p, w) :: P.zip vs) m p = _
    unfold bindL
    rw [bindL_out fun v hv => (List.nodup_cons.mp nd).1 (List.of_mem_zip hv).1, if_pos hk]
    simp
  | p :: P, w :: vs, i + 1, m, nd, h1, h2, hk => by
    show bindL kindOf ((p, w) :: P.zip vs) m x = _
    unfold bindL
    exact bindL_get (i := i) (List.nodup_cons.mp nd).2 (by simpa using h1) (by simpa using h2) hk
theorem bindC_get {kindOf : Str → Option NameKind} {x : Str} {v : Value} : ∀ {P : List Str} {vs : List Value} {i : Nat} {m : Str → Option Value}, P.Nodup → P[i]? = some x → vs[i]? = some v → kindOf x ≠ some .local →
    bindC kindOf (P.zip vs) m x = some v
  | [], _, _, _, _, h, _, _ => by simp at h
  | _ :: _, [], _, _, _, _, h, _ => by simp at h
  | p :: P, w :: vs, 0, m, nd, h1, h2, hk => by
    simp at h1 h2; subst h1; subst h2
    show bindC kindOf ((p, w) :: P.zip vs) m p = _
    unfold bindC
    rw [bindC_out fun v hv => (List.nodup_cons.mp nd).1 (List.of_mem_zip hv).1, if_neg hk]
    simp
  | p :: P, w :: vs, i + 1, m, nd, h1, h2, hk => by
    show bindC kindOf ((p, w) :: P.zip vs) m x = _
    unfold bindC
    exact bindC_get (i := i) (List.nodup_cons.mp nd).2 (by simpa using h1) (by simpa using h2) hk

def start (N : List Str) (vs : List V) : St := vs.map some ++ List.replicate (N.length - vs.length) none

def cxOf (CX : CXT) (P : Program) (w : World) (K : PySem.W.Frag) (mg : Str → Option Value) (base : Heap) (N : List Str) (qual : Str) (scope : Scope) (f : Addr) (cd : Value) (A : Around) (outer : List Env) (s : Shared) (H : Hp) (E : XK) : Cx where
  prog := P
  w := w
  K := K
  mg := mg
  base := base
  A := A.deeper (envOfC qual scope s.heap.objs.size f cd)
  N := N
  s_0 := s
  H_0 := H
  env := envOfC qual scope s.heap.objs.size f cd
  outer := outer
  stack := envOfC qual scope s.heap.objs.size f cd :: outer
  ex := []
  calm := true
  fn := fun _ => true
  pn := []
  xe := fun e s' => wpAny (model P w) (A.deeper (envOfC qual scope s.heap.objs.size f cd)) (leaving (envOfC qual scope s.heap.objs.size f cd) e) (fun _ s'' => CX outer H s E e s'') (fun e' s'' => CX outer H s E e' s'') s'

theorem cell_has {sc : Scope} {n : Nat} {x : Str} (h : sc.names.lookup x = some .cell) : ∃ c, (cellsFrom n sc.names []).lookup x = some c := by
  have q := PySem.W.cellsFrom_some sc.names n [] (.inl h)
  exact Option.isSome_iff_exists.mp q

theorem inv_start {CX : CXT} {P : Program} {w : World} {K : PySem.W.Frag} {mg : Str → Option Value} {base : Heap} {N ps : List Str} {qual : Str} {scope : Scope} {f : Addr} {cd : Value} {A : Around} {outer : List Env} {s s1 : Shared} {H : Hp} {E : XK} {us : List Value} {vs : List V}
    (S : FnScope N ps scope) (hd : A.handled = none) (e0 : Env0 P w K mg base A outer s H) (hl : vs.length = ps.length) (r : Vals vs us)
    (x : InCallC s s.heap.objs.size (bindL (envOfC qual scope s.heap.objs.size f cd).kindOf (ps.zip us) fun _ => none) (cellsFrom (s.heap.objs.size + 1) scope.names []) (bindC (envOfC qual scope s.heap.objs.size f cd).kindOf (ps.zip us) fun _ => none) s1) :
    Inv (cxOf CX P w K mg base N qual scope f cd A outer s H E) [] (start N vs) H s1 := by
  have hpl : ps.length ≤ N.length := by have := congrArg List.length S.pre; rw [List.length_take] at this; omega
  obtain ⟨h1, tk, rfl, hk⟩ := x.done
  have noA : ∀ b : Addr, b ∉ (cxOf CX P w K mg base N qual scope f cd A outer s H E).ex := fun b z => absurd (show b ∈ ([] : List Addr) from z) (by simp)
  refine ⟨⟨e0.mod, S.kind, rfl, rfl, Nat.le_refl _, fun y z c h1 h2 => ?_, fun y hy => ?_, fun y c _ h => ?_, fun _ => hd, Around.frames_deeper e0.frames, .inr ⟨rfl, rfl⟩, fun b z => absurd z (noA b), e0.bs, e0.bsz, fun b _ _ => noA b, fun b z => absurd z (noA b), e0.funs, e0.frf⟩,
    rfl, e0.bare, Un.kept hk, ⟨_, x.toInCall.ns, fun i y v h1 h2 h3 => ?_⟩, fun y c h => ⟨_, x.cell y c h⟩, e0.hok.fresh (Nat.le_refl _), fun y c h => ?_, fun p hp => absurd (show p ∈ ([] : List (Addr × Obj)) from hp) (by simp), e0.hok.kept hk, ?_⟩
  · exact name_of_addr x.apart (PySem.mem_of_lookup h1) (PySem.mem_of_lookup h2)
  · have hy : scope.names.lookup y = some .cell ∨ scope.names.lookup y = some .free := hy
    rcases hy with hy | hy
    · exact cell_has hy
    · exact absurd rfl (S.nofree _ (PySem.mem_of_lookup hy))
  · exact Nat.le_of_lt (x.above y c (PySem.mem_of_lookup h))
  · have hi : i < vs.length := by
      unfold start at h2
      by_cases hi : i < vs.length
      · exact hi
      · rw [List.getElem?_append_right (by simpa using hi)] at h2
        rw [List.getElem?_replicate] at h2
        split at h2 <;> cases h2
    have ha : vs[i]? = some v := by
      unfold start at h2
      rw [List.getElem?_append_left (by simpa using hi), List.getElem?_map] at h2
      cases e : vs[i]? with
      | none => rw [e] at h2; cases h2
      | some a => rw [e] at h2; cases h2; rfl
    obtain ⟨u, hu, rv⟩ := r.get ha
    have hp : ps[i]? = some y := by
      rw [← S.pre, List.getElem?_take_of_lt (by omega)]; exact h1
    have ndP : ps.Nodup := by rw [← S.pre]; exact S.nd.sublist (List.take_sublist _ _)
    refine ⟨u, rv, ?_⟩
    rcases S.par y (List.mem_of_getElem? hp) with k | k
    · exact .inl ⟨k, bindL_get ndP hp hu k⟩
    · obtain ⟨c, e⟩ := cell_has (n := s.heap.objs.size + 1) k
      refine .inr ⟨.inl k, c, e, ?_⟩
      have q := x.cell y c e
      rw [bindC_get ndP hp hu (by show scope.names.lookup y ≠ _; rw [k]; decide)] at q
      exact q
  · exact .inl (e0.hok.fresh (Nat.le_of_lt (x.above y c (PySem.mem_of_lookup h))))
  · unfold start
    show _ = N.length
    rw [List.length_append, List.length_map, List.length_replicate]
    omega

theorem fn_of {CX : CXT} {P : Program} {w : World} {K : PySem.W.Frag} {mg : Str → Option Value} {base : Heap} {k : Nat} {f : Addr} {name qual : Str} {params : Arguments} {body : List Stmt} {scope : Scope} {dV kV doc pm cdv ct oc : Value} {an od : Option Addr}
    {osl : Array (Option Value)} {N ps : List Str} {sp : Sp} (lk : K.lookup f = some ⟨oc, od, .func (PySem.W.fnOf name qual params body scope dV kV doc pm an cdv ct), osl⟩) (hcd : PySem.W.codeIn K cdv qual = true) (S : FnScope N ps scope)
    (len : ∀ vs H Q E, sp vs H Q E → vs.length = ps.length)
    (hbody : ∀ (A : Around) (outer : List Env) (s : Shared) (H : Hp) (vs : List V) (Q : VK) (E : XK), Room k (A.deeper (envOfC qual scope s.heap.objs.size f cdv)) → sp vs H Q E →
      ∃ t, PSs (cxOf CX P w K mg base N qual scope f cdv A outer s H E) body t ∧ t { nx := fun _ H' => Q .non H', rt := Q } (start N vs) H) :
    FnOk P w K mg base CX (k + 1) f (PySem.W.fnOf name qual params body scope dV kV doc pm an cdv ct) ps sp := by
  refine ⟨len, fun A outer s H args us vs Q E hr e0 hb r hsp => ?_⟩
  have hl := len _ _ _ _ hsp
  have KX : K.In s.heap := e0.mod.kin.keeps fun b o e => (e0.bs b o e).1
  have lim : s.heap.NoLimit := e0.mod.nolimit.keeps fun b o e => (e0.bs b o e).1
  have hkind : ∀ y ∈ ps.zip us, scope.names.lookup y.1 = some .local ∨ (scope.names.lookup y.1 = some .cell ∧ ((cellsFrom (s.heap.objs.size + 1) scope.names []).lookup y.1).isSome = true) := fun ⟨n, v⟩ hy => by
    rcases S.par n (List.of_mem_zip hy).1 with q | q
    · exact .inl q
    · exact .inr ⟨q, PySem.W.cellsFrom_some _ _ _ (.inl q)⟩
  refine codeAny_call_function hr.depth (KX _ _ lk) rfl S.co S.gen rfl (PySem.W.codeRec_of KX hcd) (hb _ _ _ _ ?_)
  refine wpAny_newFunctionEnv_cells S.kind hkind fun env he s1 x => ?_
  subst he
  refine ⟨lim.keeps x.toInCall.keep, codeAny_func ?_⟩
  obtain ⟨t, ht, hq⟩ := hbody A outer s H vs Q E (hr.deeper _) hsp
  have I : Inv (cxOf CX P w K mg base N qual scope f cdv A outer s H E) [] (start N vs) H s1 := inv_start S hr.hd e0 hl r x
  refine wpAny_mono (ht [] s1 (start N vs) H _ I hq) (fun fl s' hs => ?_) fun e s' hs => hs
  have fin : ∀ {σ' : St} {H' : Hp} {v : V} {u : Value}, Inv (cxOf CX P w K mg base N qual scope f cdv A outer s H E) [] σ' H' s' → RelV v u → Q v H' → CE outer P w H s Q u s' :=
    fun {σ' H' v u} J rv q => ⟨v, H', J.os, J.bare, J.base, J.hok, rv, q⟩
  cases fl with
  | ret u =>
    obtain ⟨v, σ', H', J, rv, q⟩ := hs
    exact fin J rv q
  | next =>
    obtain ⟨σ', H', J, q⟩ := hs
    exact fin (v := V.non) (u := Value.none) J rfl q
  | brk =>
    obtain ⟨_, _, _, q⟩ := hs
    exact False.elim q
  | cont =>
    obtain ⟨_, _, _, q⟩ := hs
    exact False.elim q
end L2

namespace L2
open PySem PySem.Spec PyProof.Rows
section
variable {X : Cx} {x : Str} {p pos : Pos} {e : Expr} {es : List Expr} {t : TA} {id T : String} {r : List V → Hp → VK → Prop}

def tCB (r : List V → Hp → VK → Prop) (t : TA) : TE := fun σ H Q => t σ H fun vs H1 => r vs H1 Q
theorem pe_callB (hc : CallR X (.builtin id) r) (hg : Gl X x) (hm : X.mg x = none) (hv : bootBuiltins x = some (.builtin id)) (ha : PA X (e :: es) t) (hn : x ≠ "__name__" := by decide) (hdb : (x == ("__debug__" : Str)) = false := by decide)
    (he : starEach (e :: es) X.env = (false, eval e X.env) :: starEach es X.env := by rfl) (hpl : (backTo pos (starEach es X.env)).any (·.1) = false := by rfl) : PE X (.Call (.Name x p) (e :: es) [] pos) (tCB r t) := by
  refine ⟨?_⟩
  intro pins s σ H Q I h
  refine wpAny_Call_Name_kw (ld_blt I hg hm hv ?_ hn hdb)
  exact PyProof.Rows.callWith_builtin1 (thn (ha pos pins s σ H _ I h) fun us s1 ⟨vs, H1, I1, r1, q1⟩ => hc pins s1 σ H1 vs us Q I1 r1 q1) he hpl
theorem pe_callTy (hc : CallR X (.type T) r) (hg : Gl X x) (hm : X.mg x = none) (hv : bootBuiltins x = some (.type T)) (ha : PA X (e :: es) t) (hn : x ≠ "__name__" := by decide) (hdb : (x == ("__debug__" : Str)) = false := by decide)
    (he : starEach (e :: es) X.env = (false, eval e X.env) :: starEach es X.env := by rfl) (hpl : (backTo pos (starEach es X.env)).any (·.1) = false := by rfl) : PE X (.Call (.Name x p) (e :: es) [] pos) (tCB r t) := by
  refine ⟨?_⟩
  intro pins s σ H Q I h
  refine wpAny_Call_Name_kw (ld_blt I hg hm hv ?_ hn hdb)
  exact PyProof.Rows.callWith_type1 (thn (ha pos pins s σ H _ I h) fun us s1 ⟨vs, H1, I1, r1, q1⟩ => hc pins s1 σ H1 vs us Q I1 r1 q1) he hpl
theorem pe_callTy0 (hc : CallR X (.type T) r) (hg : Gl X x) (hm : X.mg x = none) (hv : bootBuiltins x = some (.type T)) (hn : x ≠ "__name__" := by decide) (hdb : (x == ("__debug__" : Str)) = false := by decide) :
    PE X (.Call (.Name x p) [] [] pos) (tCB r tNil) := by
  refine ⟨?_⟩
  intro pins s σ H Q I h
  refine wpAny_Call_Name_kw (ld_blt I hg hm hv ?_ hn hdb)
  exact PyProof.Rows.callWith_type0 (hc pins s σ H [] [] Q I .nil h)
end
end L2

namespace HT
open PySem PyProof.Rows

section
open PySem.SeqAt
open PySem.AutoSeq1 (wpAny_loadPart')
open PySem.MeetsSeq PySem.MeetsSeq2 PySem.MeetsSeq3

end

section
variable {prog : Program} {w : World} {A : Around} {E : Value → Shared → Prop} {s : Shared}

theorem cat_tup {t b : Addr} {vs ws : List Value} {Q : Value → Shared → Prop} (ht : IsTup s.heap t vs.toArray) (hb : IsTup s.heap b ws.toArray) (hv : vs ≠ [])
    (h1 : ws = [] → Q (.ref t) s) (h2 : ws ≠ [] → Q (.ref s.heap.objs.size) { s with heap := s.heap.push { cls := .type "tuple", data := .seq (vs ++ ws).toArray } })
    (hsz : vs.length + ws.length ≤ sizeLine) : wpAny (model prog w) A (binaryOp .Add (.ref t) (.ref b)) Q E s := by
  obtain ⟨⟨cls, dd, data, sl⟩, ho, hc, n, hd⟩ := id ht
  obtain ⟨⟨cls2, dd2, data2, sl2⟩, ho2, hc2, n2, hd2⟩ := id hb
  simp only at hc hd hc2 hd2
  subst hc hd hc2 hd2
  have e : vs.toArray ++ ws.toArray = (vs ++ ws).toArray := by simp
  by_cases hw : ws = []
  · exact concat_meets ⟨_, ho, rfl⟩ ⟨_, ho2, rfl⟩ noFill_tuple_add seq_tuple_add PySem.F.slot_tuple_add PySem.F.entry_tuple_add (PySem.F.args_tuple_add_2 _ _)
      (tuple_addW1 t b vs.toArray ws.toArray n n2 dd dd2 sl sl2 (by simpa using hv) (by simp [hw])) ⟨ho, ho2, h1 hw⟩
  · refine concat_meets ⟨_, ho, rfl⟩ ⟨_, ho2, rfl⟩ noFill_tuple_add seq_tuple_add PySem.F.slot_tuple_add PySem.F.entry_tuple_add (PySem.F.args_tuple_add_2 _ _)
      (tuple_addW2 t b vs.toArray ws.toArray n n2 dd dd2 sl sl2 (by simpa using hv) (by simpa using hw) (by rw [List.size_toArray, List.size_toArray]; exact hsz)) ⟨ho, ho2, ?_⟩
    rw [e]
    exact h2 hw

def sIx (n d : Nat) : Option Int → Nat
  | none => d
  | some v => if v < 0 then (v + (n : Int)).toNat else min v.toNat n
theorem sIx_nat (n d k : Nat) : sIx n d (some (k : Int)) = min k n := by
  show (if (k : Int) < 0 then ((k : Int) + (n : Int)).toNat else min (k : Int).toNat n) = min k n
  rw [if_neg (by omega), Int.toNat_natCast]
theorem sIx_le (n d : Nat) (hd : d ≤ n) (o : Option Int) : sIx n d o ≤ n := by
  cases o with
  | none => exact hd
  | some v =>
    show (if v < 0 then (v + (n : Int)).toNat else min v.toNat n) ≤ n
    by_cases hv : v < 0
    · rw [if_pos hv]; omega
    · rw [if_neg hv]; exact Nat.min_le_right _ _
theorem clip_eq (v : Int) (n d : Nat) : (if v < 0 then max (v + (n : Int)) 0 else min v (n : Int)) = ((sIx n d (some v) : Nat) : Int) := by
  show (if v < 0 then max (v + (n : Int)) 0 else min v (n : Int)) = (((if v < 0 then (v + (n : Int)).toNat else min v.toNat n) : Nat) : Int)
  by_cases hv : v < 0
  · simp only [if_pos hv]; omega
  · simp only [if_neg hv]; omega
theorem adjust_gen (lo hi : Option Int) (n : Nat) : Builtin.Slice.sliceAdjust lo hi 1 (n : Int) = (((sIx n 0 lo : Nat) : Int), ((sIx n n hi : Nat) : Int)) := by
  have h1 : ¬ ((1 : Int) < 0) := by omega
  unfold Builtin.Slice.sliceAdjust
  simp only [h1, if_false]
  refine Prod.ext ?_ ?_
  · cases lo with
    | none => rfl
    | some v => exact clip_eq v n 0
  · cases hi with
    | none => rfl
    | some v => exact clip_eq v n n
theorem places_gen (i j : Nat) : Builtin.Slice.slicePlaces (i : Int) (j : Int) 1 = j - i := by
  unfold Builtin.Slice.slicePlaces
  have h1 : (1 : Int) > 0 := by omega
  simp only [h1, if_true, Int.ediv_one]
  split <;> omega
theorem slicePart_ {v : Value} {o : Option Int} {Q : Option Int → Shared → Prop} (p : IsPart v o) (h : Q o s) : wpAny (model prog w) A (Builtin.Slice.slicePartIndex v) Q E s := by
  cases p with
  | none => exact slicePart_none h
  | int i t => exact slicePart_int h
theorem sliceApplied_gen {sl : Addr} {vl vu : Value} {lo hi : Option Int} {n : Nat} {Q : Int × Int × Nat → Shared → Prop} (hs : s.heap.IsSliceOf sl vl vu .none) (pl : IsPart vl lo) (pu : IsPart vu hi)
    (h : Q (((sIx n 0 lo : Nat) : Int), 1, sIx n n hi - sIx n 0 lo) s) : wpAny (model prog w) A (Builtin.Slice.sliceApplied (.ref sl) (pure (n : Int))) Q E s := by
  obtain ⟨os, hos, hcs, hds⟩ := id hs
  unfold Builtin.Slice.sliceApplied Builtin.Slice.sliceFields
  refine wpAny_bind (wpAny_bind (wpAny_field hos hds (x := vl) rfl (wpAny_bind (wpAny_field hos hds (x := vu) rfl (wpAny_bind (wpAny_field hos hds (x := .none) rfl (wpAny_pure ?_)))))))
  refine wpAny_bind (slicePart_none ?_)
  show wpAny _ _ (if ((1 : Int) == 0) = true then _ else _) _ _ s
  rw [if_neg (by decide)]
  refine wpAny_bind (slicePart_ pl (wpAny_bind (slicePart_ pu (wpAny_bind (wpAny_pure ?_)))))
  show wpAny _ _ (match Builtin.Slice.sliceAdjust lo hi 1 (n : Int) with | (lo, hi) => pure (lo, (1 : Int), Builtin.Slice.slicePlaces lo hi 1)) _ _ s
  rw [adjust_gen lo hi n]
  show wpAny _ _ (pure (((sIx n 0 lo : Nat) : Int), (1 : Int), Builtin.Slice.slicePlaces ((sIx n 0 lo : Nat) : Int) ((sIx n n hi : Nat) : Int) 1)) _ _ s
  rw [places_gen]
  exact wpAny_pure h
theorem pick_gen (xs : Array Value) (i k : Nat) : ((List.range k).filterMap fun (m : Nat) => xs[((i : Int) + (m : Int) * 1).toNat]?).toArray = ((xs.toList.drop i).take k).toArray := by
  have e : (fun (m : Nat) => xs[((i : Int) + (m : Int) * 1).toNat]?) = fun m => xs[i + m]? := by
    funext m
    have : ((i : Int) + (m : Int) * 1).toNat = i + m := by omega
    rw [this]
  rw [e]
  have := pick_run xs i k
  rw [List.filterMap_map] at this
  have e2 : ((fun x => xs[x]?) ∘ fun x => i + x) = fun m => xs[i + m]? := rfl
  rw [e2] at this
  rw [this]

theorem getItem_tuple_cut {t sl : Addr} {items : Array Value} {vl vu : Value} {lo hi : Option Int} {Q : Value → Shared → Prop} (ht : IsTup s.heap t items) (hs : s.heap.IsSliceOf sl vl vu .none) (pl : IsPart vl lo) (pu : IsPart vu hi)
    (hw : ¬ (sIx items.size 0 lo = 0 ∧ sIx items.size items.size hi = items.size))
    (h : Q (.ref s.heap.objs.size) { s with heap := s.heap.push { cls := .type "tuple", data := .seq ((items.toList.drop (sIx items.size 0 lo)).take (sIx items.size items.size hi - sIx items.size 0 lo)).toArray } })
    (hsz : items.size ≤ sizeLine) : wpAny (model prog w) A (getItem (.ref t) (.ref sl)) Q E s := by
  have htake : sizeOk (.seq ((items.toList.drop (sIx items.size 0 lo)).take (sIx items.size items.size hi - sIx items.size 0 lo)).toArray) := by
    show ((items.toList.drop (sIx items.size 0 lo)).take (sIx items.size items.size hi - sIx items.size 0 lo)).toArray.size ≤ sizeLine
    rw [List.size_toArray, List.length_take, List.length_drop, Array.length_toList]
    omega
  have hj : sIx items.size items.size hi ≤ items.size := sIx_le _ _ (Nat.le_refl _) hi
  obtain ⟨os, hos, hcs, hds⟩ := id hs
  have hTs : s.TypeIs (.ref sl) "slice" := ⟨os, hos, hcs⟩
  unfold getItem
  try with_reducible refine wpAny_holding ?_
  first | refine wpAny_bind (wpAny_pure ?_) | skip
  refine wpAny_bind (wpAny_sequenceKey ht.typeIs (by decide) ?_)
  refine wpAny_bind (wpAny_callSpecial?_slot (name := Str.ofString "__getitem__") ht.typeIs PyProof.Rows.slot_tuple_getitem
    (wpAny_call_entry PyProof.Rows.slot_tuple_getitem ht.typeIs entry_tuple_getitem ?_ (args_tuple_getitem _ _)))
  show wpAny _ _ (Builtin.Tuple.tupleItemsOf (.ref t) >>= _) _ _ s
  refine wpAny_bind (tupleItemsOf_ ht ?_)
  refine wpAny_bind (wpAny_typeOf hTs ?_)
  rw [if_pos (by decide)]
  refine wpAny_bind (sliceApplied_gen hs pl pu ?_)
  have hno : ¬ ((((sIx items.size 0 lo : Nat) : Int) == 0 && (1 : Int) == 1 && (sIx items.size items.size hi - sIx items.size 0 lo) == items.size) = true) := by
    intro q
    rw [Bool.and_eq_true, Bool.and_eq_true] at q
    have q1 : ((sIx items.size 0 lo : Nat) : Int) = 0 := eq_of_beq q.1.1
    have q2 : sIx items.size items.size hi - sIx items.size 0 lo = items.size := eq_of_beq q.2
    exact hw ⟨by omega, by omega⟩
  show wpAny _ _ (if (((sIx items.size 0 lo : Nat) : Int) == 0 && (1 : Int) == 1 && (sIx items.size items.size hi - sIx items.size 0 lo) == items.size) = true then _ else _) _ _ s
  rw [if_neg hno, pick_gen]
  first
    | exact wpAny_bind (m := Builtin.Tuple.tupleExact _) (wpAny_newObj_type (wpAny_pure ⟨_, rfl, wpAny_pure h⟩) htake)
    | exact wpAny_bind (m := Builtin.Tuple.tupleExact _) (wpAny_newObj_type (wpAny_bind (wpAny_pure (wpAny_pure ⟨_, rfl, wpAny_pure h⟩))) htake)
    | exact wpAny_bind (wpAny_bind (m := Builtin.Tuple.tupleExact _) (wpAny_newObj_type (wpAny_pure (wpAny_pure ⟨_, rfl, wpAny_pure h⟩)) htake))
    | exact wpAny_bind (wpAny_bind (m := Builtin.Tuple.tupleExact _) (wpAny_newObj_type (wpAny_pure ⟨_, rfl, wpAny_pure h⟩) htake))
end
end HT

namespace L2
open PySem PySem.Spec PyProof.Rows

abbrev TO := St → Hp → (Option Int → Hp → Prop) → Prop
structure PO (X : Cx) (e : Option Expr) (t : TO) : Prop where
  run : ∀ (pins : List (Addr × Obj)) (s : Shared) (σ : St) (H : Hp) (Q : Option Int → Hp → Prop), Inv X pins σ H s → t σ H Q →
    wpAny (model X.prog X.w) X.A (evalPart e X.env) (fun u s' => ∃ o H', Inv X pins σ H' s' ∧ IsPart u o ∧ Q o H') X.xe s
instance {X : Cx} {e : Option Expr} {t : TO} : CoeFun (PO X e t) (fun _ => ∀ (pins : List (Addr × Obj)) (s : Shared) (σ : St) (H : Hp) (Q : Option Int → Hp → Prop), Inv X pins σ H s → t σ H Q →
    wpAny (model X.prog X.w) X.A (evalPart e X.env) (fun u s' => ∃ o H', Inv X pins σ H' s' ∧ IsPart u o ∧ Q o H') X.xe s) := ⟨PO.run⟩
def tNoPart : TO := fun _ H Q => Q none H
def tPart (t : TE) : TO := fun σ H Q => t σ H fun x H1 => ∃ i, x = .int i ∧ Q (some i) H1

section
variable {X : Cx} {e : Expr} {te : TE} {lo hi : Option Expr} {tl th : TO} {pos p2 : Pos}

theorem po_none : PO X none tNoPart := by
  refine ⟨?_⟩
  intro pins s σ H Q I h
  rw [evalPart_none]
  exact wpAny_pure ⟨none, H, I, .none, h⟩
theorem po_some (h : PE X e te) : PO X (some e) (tPart te) := by
  refine ⟨?_⟩
  intro pins s σ H Q I hw
  rw [evalPart_some]
  refine thn (h pins s σ H _ I hw) fun u s1 ⟨x, H1, I1, r1, q1⟩ => ?_
  obtain ⟨i, rfl, q⟩ := q1
  obtain ⟨t, rfl⟩ := r1
  exact ⟨some i, H1, I1, .int i t, q⟩

def SlR (X : Cx) (r : V → Option Int → Option Int → Hp → VK → Prop) : Prop :=
  ∀ (pins : List (Addr × Obj)) (s : Shared) (σ : St) (H : Hp) (x : V) (v vl vu : Value) (lo hi : Option Int) (sl : Addr) (Q : VK), Inv X pins σ H s → RelV x v → s.heap.IsSliceOf sl vl vu .none → IsPart vl lo → IsPart vu hi → r x lo hi H Q →
    ∃ T id, typeLookup (.type T) "__getitem__" = pure (some (.builtin id)) ∧ s.TypeIs v T ∧ wpAny (model X.prog X.w) X.A (getItem v (.ref sl)) (EP X pins σ Q) X.xe s
def tSl (r : V → Option Int → Option Int → Hp → VK → Prop) (te : TE) (tl th : TO) : TE := fun σ H Q => te σ H fun x H1 => tl σ H1 fun l H2 => th σ H2 fun u H3 => r x l u H3 Q
theorem pe_slice {r : V → Option Int → Option Int → Hp → VK → Prop} (hr : SlR X r) (he : PE X e te) (hl : PO X lo tl) (hu : PO X hi th) : PE X (.Subscript e (.Slice lo hi none p2) pos) (tSl r te tl th) := by
  refine ⟨?_⟩
  intro pins s σ H Q I h
  refine Subscript_ (thn (he pins s σ H _ I h) fun v s1 ⟨x, H1, I1, r1, q1⟩ => ?_)
  refine wpAny_Slice (thn (hl pins s1 σ H1 _ I1 q1) fun vl s2 ⟨l, H2, I2, pl, q2⟩ => thn (hu pins s2 σ H2 _ I2 q2) fun vu s3 ⟨u, H3, I3, pu, q3⟩ => ?_)
  rw [evalPart_none]
  refine wpAny_pure ?_
  have I4 : Inv X pins σ H3 { s3 with heap := s3.heap.push { cls := .type "slice", data := .fields #[vl, vu, .none] } } := I3.kept (t' := s3.toks) fun b ob q => Heap.get?_push_of_some _ q
  obtain ⟨T, id, hT, ht, hg⟩ := hr pins { s3 with heap := s3.heap.push { cls := .type "slice", data := .fields #[vl, vu, .none] } } σ H3 x v vl vu l u s3.heap.objs.size Q I4 r1 (Heap.IsSliceOf.new ..) pl pu q3
  show wpAny (model X.prog X.w) X.A (subscriptTail e (.Slice lo hi none p2) v (.ref s3.heap.objs.size)) (EP X pins σ Q) X.xe { s3 with heap := s3.heap.push { cls := .type "slice", data := .fields #[vl, vu, .none] } }
  exact tail_any (ops := [.ref s3.heap.objs.size, v]) ht hT hg (by with_unfolding_all rfl)

def cutV (xs : List V) (lo hi : Option Int) : List V := (xs.drop (HT.sIx xs.length 0 lo)).take (HT.sIx xs.length xs.length hi - HT.sIx xs.length 0 lo)
theorem cutV_length (xs : List V) (lo hi : Option Int) : (cutV xs lo hi).length ≤ xs.length := by
  unfold cutV
  rw [List.length_take, List.length_drop]
  omega
def rSlT (K : PySem.W.Frag) : V → Option Int → Option Int → Hp → VK → Prop := fun x lo hi H Q => ∃ a xs, x = .ref a ∧ SqT K H a xs ∧
  ¬ (HT.sIx xs.length 0 lo = 0 ∧ HT.sIx xs.length xs.length hi = xs.length) ∧ ∀ p, H p = none → Q (.ref p) (upd H p (.tup (cutV xs lo hi)))
theorem sl_tup : SlR X (rSlT X.K) := by
  intro pins s σ H x v vl vu lo hi sl Q I rx hs pl pu h
  obtain ⟨a, xs, rfl, hx, hw, q⟩ := h
  cases rx
  obtain ⟨its, r, ht, hz⟩ := I.tuple hx
  have hlen : its.toArray.size = xs.length := by rw [List.size_toArray]; exact r.length.symm
  refine ⟨"tuple", _, PyProof.Rows.slot_tuple_getitem.lookup, ht.typeIs, ?_⟩
  refine HT.getItem_tuple_cut ht hs pl pu (by rw [hlen]; exact hw) ?_ (by rw [hlen]; exact hz)
  rw [hlen]
  refine ⟨.ref s.heap.objs.size, _, I.laid (t' := s.toks) (o := .tup (cutV xs lo hi)) (fun b ob q => Heap.get?_push_of_some _ q) (Nat.le_refl _) ?_, rfl, q _ (I.hok.fresh (Nat.le_refl _))⟩
  exact ⟨Nat.le_trans (cutV_length xs lo hi) hz, _, (r.drop (HT.sIx xs.length 0 lo)).take (HT.sIx xs.length xs.length hi - HT.sIx xs.length 0 lo), IsTup.new _ _⟩

def rCatT (K : PySem.W.Frag) : R2 := fun x y H Q => ∃ a b xs ys, x = .ref a ∧ y = .ref b ∧ SqT K H a xs ∧ SqT K H b ys ∧ xs ≠ [] ∧ xs.length + ys.length ≤ sizeLine ∧
  (ys = [] → Q (.ref a) H) ∧ (ys ≠ [] → ∀ p, H p = none → Q (.ref p) (upd H p (.tup (xs ++ ys))))
theorem Vals.nil_iff {xs : List V} {us : List Value} (r : Vals xs us) : us = [] ↔ xs = [] := by
  cases r with
  | nil => simp
  | cons _ _ => simp
theorem op_catT : OpR X (binaryOp .Add) (rCatT X.K) := by
  intro pins s σ H x y v u Q I rx ry h
  obtain ⟨a, b, xs, ys, rfl, rfl, ha, hb, hx, hz, q1, q2⟩ := h
  cases rx
  cases ry
  obtain ⟨its, r1, p1, _⟩ := I.tuple ha
  obtain ⟨its2, r2, p2, _⟩ := I.tuple hb
  refine HT.cat_tup p1 p2 (fun z => hx (r1.nil_iff.mp z)) (fun z => ⟨.ref a, H, I, rfl, q1 (r2.nil_iff.mp z)⟩) (fun z => ?_) (by rw [← r1.length, ← r2.length]; exact hz)
  refine ⟨.ref s.heap.objs.size, _, I.laid (t' := s.toks) (o := .tup (xs ++ ys)) (fun b ob q => Heap.get?_push_of_some _ q) (Nat.le_refl _) ?_, rfl, q2 (fun w => z (r2.nil_iff.mpr w)) _ (I.hok.fresh (Nat.le_refl _))⟩
  exact ⟨by rw [List.length_append]; exact hz, _, r1.append r2, IsTup.new _ _⟩
end
end L2

namespace L2
open PySem PySem.Spec PyProof.Rows

def ixN (n : Nat) (i : Int) : Option Nat := if 0 ≤ i then (if i < n then some i.toNat else none) else if -(n : Int) ≤ i then some (i + n).toNat else none
def atI {α : Type} (xs : List α) (i : Int) : Option α := (ixN xs.length i).bind fun j => xs[j]?
theorem ixN_seq {n : Nat} {i : Int} {j : Nat} (h : ixN n i = some j) : seqIndex? i n = some j ∧ j < n ∧ -(n : Int) ≤ i ∧ i < n := by
  unfold ixN at h
  by_cases h0 : 0 ≤ i
  · rw [if_pos h0] at h
    by_cases h1 : i < n
    · rw [if_pos h1] at h
      have e : i.toNat = j := Option.some.inj h
      exact ⟨by rw [seqIndex_of h0 h1, e], by omega, by omega, h1⟩
    · rw [if_neg h1] at h; cases h
  · rw [if_neg h0] at h
    by_cases h1 : -(n : Int) ≤ i
    · rw [if_pos h1] at h
      have e : (i + n).toNat = j := Option.some.inj h
      exact ⟨by rw [seqIndex_neg (by omega) h1, e], by omega, h1, by omega⟩
    · rw [if_neg h1] at h; cases h
theorem atI_get {α : Type} {xs : List α} {i : Int} {v : α} (h : atI xs i = some v) : ∃ j, seqIndex? i xs.length = some j ∧ xs[j]? = some v ∧ j < xs.length ∧ -(xs.length : Int) ≤ i ∧ i < xs.length := by
  unfold atI at h
  cases e : ixN xs.length i with
  | none => rw [e] at h; cases h
  | some j =>
    rw [e] at h
    obtain ⟨h1, h2, h3, h4⟩ := ixN_seq e
    exact ⟨j, h1, h, h2, h3, h4⟩
theorem atI_nat {α : Type} {xs : List α} {j : Nat} {v : α} (h : xs[j]? = some v) : atI xs (j : Int) = some v := by
  have hj : j < xs.length := (List.getElem?_eq_some_iff.mp h).1
  have e : ixN xs.length (j : Int) = some j := by
    unfold ixN
    rw [if_pos (by omega), if_pos (by omega)]; simp
  unfold atI; rw [e]; exact h
def PlainIx (b : Expr) : Prop := ∀ o i, subscripted b false o i = operate [o, i] (getItem o i)
def IxR (X : Cx) (r : R2) : Prop :=
  ∀ (value slice : Expr) (pins : List (Addr × Obj)) (s : Shared) (σ : St) (H : Hp) (x y : V) (v u : Value) (Q : VK), Inv X pins σ H s → RelV x v → RelV y u → r x y H Q →
    subscripted slice false v u = operate [v, u] (getItem v u) → wpAny (model X.prog X.w) X.A (subscriptTail value slice v u) (EP X pins σ Q) X.xe s
def MtR (X : Cx) (id : String) (r : V → List V → Hp → VK → Prop) : Prop :=
  ∀ (pins : List (Addr × Obj)) (s : Shared) (σ : St) (H : Hp) (x : V) (xs : List V) (v : Value) (us : List Value) (Q : VK), Inv X pins σ H s → RelV x v → Vals xs us → r x xs H Q →
    wpAny (model X.prog X.w) X.A (call (.builtin id) (v :: us)) (EP X pins σ Q) X.xe s
section
variable {X : Cx} {a b : Expr} {ta tb : TE} {pos : Pos}
theorem pe_ix {r : R2} (hr : IxR X r) (ha : PE X a ta) (hb : PE X b tb) (hs : PlainIx b) : PE X (.Subscript a b pos) (tOp r ta tb) := by
  refine ⟨?_⟩
  intro pins s σ H Q I h
  exact Subscript_ (binT ha hb I h fun v u s2 x y H2 I2 rx ry q => hr a b pins s2 σ H2 x y v u Q I2 rx ry q (hs _ _))

def rIxL (K : PySem.W.Frag) : R2 := fun x y H Q => ∃ p xs i v, x = .ref p ∧ y = .int i ∧ SqL K H p xs ∧ atI xs i = some v ∧ Q v H
def rIxT (K : PySem.W.Frag) : R2 := fun x y H Q => ∃ p xs i v, x = .ref p ∧ y = .int i ∧ SqT K H p xs ∧ atI xs i = some v ∧ Q v H
theorem ix_list : IxR X (rIxL X.K) := by
  intro value slice pins s σ H x y v u Q I rx ry h hs
  obtain ⟨p, xs, i, z, rfl, rfl, hq, he, q⟩ := h
  cases rx
  obtain ⟨t, rfl⟩ := ry
  obtain ⟨its, r, pl, hz⟩ := I.list hq
  obtain ⟨j, h1, h2, h3, h4, h5⟩ := atI_get he
  obtain ⟨w, ew, rw'⟩ := r.get h2
  have hl := r.length
  have hn := line63
  have fin : EP X pins σ Q w s := ⟨z, H, I, rw', q⟩
  by_cases h0 : 0 ≤ i
  · have hj : i.toNat = j := by
      rw [seqIndex_of h0 h5] at h1
      exact Option.some.inj h1
    exact item_listR pl.isList h0 (by omega) (by rw [hj]; simpa using ew) fin hs
  · have hj : (i + (its.toArray.size : Int)).toNat = j := by
      rw [seqIndex_neg (by omega) h4] at h1
      rw [List.size_toArray, ← hl]
      exact Option.some.inj h1
    exact subscriptTail_builtinR (x := w) pl.isList.typeIs slot_list_getitem.lookup
      (wpAny_getItem_list_neg (Q := fun r s' => r = w ∧ EP X pins σ Q r s') pl.isList (by omega) (by rw [List.size_toArray] <;> omega) (by omega) (by rw [hj]; simpa using ew) ⟨rfl, fin⟩) hs
theorem ix_tup : IxR X (rIxT X.K) := by
  intro value slice pins s σ H x y v u Q I rx ry h hs
  obtain ⟨p, xs, i, z, rfl, rfl, hq, he, q⟩ := h
  cases rx
  obtain ⟨t, rfl⟩ := ry
  obtain ⟨its, r, pl, hz⟩ := I.tuple hq
  obtain ⟨j, h1, h2, h3, h4, h5⟩ := atI_get he
  obtain ⟨w, ew, rw'⟩ := r.get h2
  have hl := r.length
  have hn := line63
  have fin : EP X pins σ Q w s := ⟨z, H, I, rw', q⟩
  exact subscriptTail_builtinR (x := w) pl.typeIs slot_tuple_getitem.lookup
    (getItem_tuple (j := j) (Q := fun r s' => r = w ∧ EP X pins σ Q r s') pl (by omega) (by omega) (by rw [List.size_toArray, ← hl]; exact h1) (by simpa using ew) ⟨rfl, fin⟩) hs
theorem mapSeq_set (its : List Value) (n j : Nat) (u : Value) : Obj.mapSeq (·.setIfInBounds j u) { cls := .type "list", data := .seq its.toArray n } = { cls := .type "list", data := .seq (its.set j u).toArray n } := by
  simp [Obj.mapSeq]
theorem Inv.lst {pins : List (Addr × Obj)} {σ : St} {H : Hp} {s : Shared} {p : Addr} {xs : List V} (I : Inv X pins σ H s) (h : H p = some (.lst xs)) :
    ∃ (its : List Value) (n : Nat), Vals xs its ∧ s.heap.get? p = some { cls := .type "list", data := .seq its.toArray n } ∧ xs.length ≤ sizeLine := by
  obtain ⟨z, its, n, r, e⟩ := I.hok p _ h
  exact ⟨its, n, r, e, z⟩
theorem Inv.lstUpd {pins : List (Addr × Obj)} {σ : St} {H : Hp} {s : Shared} {p : Addr} {xs ys : List V} {its its' : List Value} {n n' : Nat} {f : Obj → Obj} (I : Inv X pins σ H s) (h : H p = some (.lst xs))
    (ho : s.heap.get? p = some { cls := .type "list", data := .seq its.toArray n }) (hf : f { cls := .type "list", data := .seq its.toArray n } = { cls := .type "list", data := .seq its'.toArray n' }) (r : Vals ys its') (hz : ys.length ≤ sizeLine) (t : Nat) :
    Inv X pins σ (upd H p (.lst ys)) { s with heap := s.heap.update p f, toks := t } := by
  have e : (s.heap.update p f).get? p = some { cls := .type "list", data := .seq its'.toArray n' } := by
    rw [Heap.get?_update_self f ho (by rw [hf] <;> rfl), hf]
  refine I.write (x := p) (e := p) (by rw [h]; trivial) (.inl rfl) (fun b u hb q => (Heap.get?_update_other _ _ (Ne.symm hb)).trans q) ⟨_, e⟩ ?_
  exact ⟨hz, its', n', r, e⟩
def rSetL : V → V → V → Hp → (Hp → Prop) → Prop := fun o i v H Q => ∃ p xs k j, o = .ref p ∧ i = .int k ∧ H p = some (.lst xs) ∧ ixN xs.length k = some j ∧ Q (upd H p (.lst (xs.set j v)))
theorem set_list : PSet X rSetL := by
  intro pins s σ H o i v ov iv u Q I ro ri rv h
  obtain ⟨p, xs, k, j, rfl, rfl, hp, hj, q⟩ := h
  cases ro
  obtain ⟨t, rfl⟩ := ri
  obtain ⟨its, n, r, ho, hz⟩ := I.lst hp
  obtain ⟨h1, h2, h3, h4⟩ := ixN_seq hj
  have hl := r.length
  have hn := line63
  have I' : Inv X pins σ (upd H p (.lst (xs.set j v))) { s with heap := s.heap.update p (Obj.mapSeq (·.setIfInBounds j u)) } :=
    I.lstUpd hp ho (mapSeq_set its n j u) (r.set rv j) (by rw [List.length_set]; exact hz) s.toks
  by_cases h0 : 0 ≤ k
  · have hk : k.toNat = j := by
      rw [seqIndex_of h0 h4] at h1
      exact Option.some.inj h1
    exact PySem.W.ki_setAt ho h0 (by omega) (by rw [List.size_toArray, ← hl]; exact h4) (by rw [hk]; exact ⟨_, I', q⟩)
  · have hk : (k + (its.toArray.size : Int)).toNat = j := by
      rw [seqIndex_neg (by omega) h3] at h1
      rw [List.size_toArray, ← hl]
      exact Option.some.inj h1
    exact PySem.W.ki_setBack ho (by omega) (by rw [List.size_toArray, ← hl]; exact h3) (by omega) (by rw [hk]; exact ⟨_, I', q⟩)

def flatV : V → Bool
  | .non => true
  | .bl _ => true
  | .int _ => true
  | .str _ => true
  | _ => false
def eqV : V → V → Bool
  | .non, .non => true
  | .bl a, .bl b => a == b
  | .bl a, .int b => (if a then 1 else 0) == b
  | .int a, .bl b => a == (if b then 1 else 0)
  | .int a, .int b => a == b
  | .str a, .str b => a == b
  | _, _ => false
theorem eqAt_V {A : Around} {s : Shared} {y x : V} {u v : Value} (ry : RelV y u) (rx : RelV x v) (fy : flatV y = true) (fx : flatV x = true) : SeqAt.EqAt A s u v (eqV y x) := by
  cases y with
  | non =>
    cases ry
    cases x with
    | non => cases rx; exact SeqAt.EqAt.same _
    | bl b => cases rx; exact SeqAt.EqAt.none_bool b
    | int b => obtain ⟨t, rfl⟩ := rx; exact SeqAt.EqAt.none_int b t
    | str b => obtain ⟨t, rfl⟩ := rx; exact SeqAt.EqAt.none_str b t
    | _ => exact absurd (show false = true from fx) Bool.false_ne_true
  | bl a =>
    cases ry
    cases x with
    | non => cases rx; exact SeqAt.EqAt.bool_none a
    | bl b => cases rx; exact SeqAt.EqAt.bool_bool a b
    | int b => obtain ⟨t, rfl⟩ := rx; exact SeqAt.EqAt.bool_int a b t
    | str b => obtain ⟨t, rfl⟩ := rx; exact SeqAt.EqAt.bool_str a b t
    | _ => exact absurd (show false = true from fx) Bool.false_ne_true
  | int a =>
    obtain ⟨t', rfl⟩ := ry
    cases x with
    | non => cases rx; exact SeqAt.EqAt.int_none a t'
    | bl b => cases rx; exact SeqAt.EqAt.int_bool a t' b
    | int b => obtain ⟨t, rfl⟩ := rx; exact SeqAt.EqAt.int_int a t' b t
    | str b => obtain ⟨t, rfl⟩ := rx; exact SeqAt.EqAt.int_str a t' b t
    | _ => exact absurd (show false = true from fx) Bool.false_ne_true
  | str a =>
    obtain ⟨t', rfl⟩ := ry
    cases x with
    | non => cases rx; exact SeqAt.EqAt.str_none a t'
    | bl b => cases rx; exact SeqAt.EqAt.str_bool a t' b
    | int b => obtain ⟨t, rfl⟩ := rx; exact SeqAt.EqAt.str_int a t' b t
    | str b => obtain ⟨t, rfl⟩ := rx; exact SeqAt.EqAt.str_str a t' b t
    | _ => exact absurd (show false = true from fx) Bool.false_ne_true
  | _ => exact absurd (show false = true from fy) Bool.false_ne_true
def eqU (x : V) (u : Value) : Bool := match u with
  | .none => eqV .non x
  | .bool b => eqV (.bl b) x
  | .int i _ => eqV (.int i) x
  | .str z _ => eqV (.str z) x
  | _ => false
theorem eqU_of {x y : V} {u : Value} (r : RelV y u) (f : flatV y = true) : eqU x u = eqV y x := by
  cases y with
  | non => cases r; rfl
  | bl b => cases r; rfl
  | int i => obtain ⟨t, rfl⟩ := r; rfl
  | str z => obtain ⟨t, rfl⟩ := r; rfl
  | _ => exact absurd (show false = true from f) Bool.false_ne_true
theorem any_eqU {x : V} : ∀ {xs : List V} {us : List Value}, Vals xs us → xs.all flatV = true → us.any (eqU x) = xs.any fun y => eqV y x
  | _, _, .nil, _ => rfl
  | y :: xs, u :: us, .cons r t, f => by
    rw [List.all_cons, Bool.and_eq_true] at f
    rw [List.any_cons, List.any_cons, eqU_of r f.1, any_eqU t f.2]
theorem mem_eqAt {A : Around} {s : Shared} {x : V} {v : Value} (rx : RelV x v) (fx : flatV x = true) : ∀ {xs : List V} {us : List Value}, Vals xs us → xs.all flatV = true → ∀ u ∈ us, SeqAt.EqAt A s u v (eqU x u)
  | _, _, .nil, _ => fun u hu => by cases hu
  | y :: xs, u :: us, .cons r t, f => fun u' hu => by
    rw [List.all_cons, Bool.and_eq_true] at f
    rcases List.mem_cons.mp hu with rfl | hu
    · rw [eqU_of r f.1]; exact eqAt_V r rx f.1 fx
    · exact mem_eqAt rx fx t f.2 u' hu
def inV (x : V) (xs : List V) : Bool := xs.any fun y => eqV y x
def rIn (K : PySem.W.Frag) (neg : Bool) : R2 := fun x y H Q => ∃ p xs, y = .ref p ∧ (SqL K H p xs ∨ SqT K H p xs) ∧ flatV x = true ∧ xs.all flatV = true ∧ Q (.bl (if neg then !inV x xs else inV x xs)) H
theorem op_in_seq : OpR X (compareOp .In) (rIn X.K false) := by
  intro pins s σ H x y v u Q I rx ry h
  obtain ⟨p, xs, rfl, hq, fx, fs, q⟩ := h
  cases ry
  rcases hq with hq | hq
  · obtain ⟨its, r, pl, hz⟩ := I.list hq
    refine SeqAt.in_listAt (eqU x) pl.isList (fun w hw => mem_eqAt rx fx r fs w (by simpa using hw)) ⟨.bl _, H, I, rfl, ?_⟩
    rw [show its.toArray.any (eqU x) = its.any (eqU x) by simp, any_eqU r fs]
    exact q
  · obtain ⟨its, r, pl, hz⟩ := I.tuple hq
    refine SeqAt.in_tupleAt (eqU x) pl (fun w hw => mem_eqAt rx fx r fs w (by simpa using hw)) ⟨.bl _, H, I, rfl, ?_⟩
    rw [show its.toArray.any (eqU x) = its.any (eqU x) by simp, any_eqU r fs]
    exact q
theorem op_notIn_seq : OpR X (compareOp .NotIn) (rIn X.K true) := by
  intro pins s σ H x y v u Q I rx ry h
  obtain ⟨p, xs, rfl, hq, fx, fs, q⟩ := h
  cases ry
  rcases hq with hq | hq
  · obtain ⟨its, r, pl, hz⟩ := I.list hq
    refine SeqAt.notIn_listAt (eqU x) pl.isList (fun w hw => mem_eqAt rx fx r fs w (by simpa using hw)) ⟨.bl _, H, I, rfl, ?_⟩
    rw [show its.toArray.any (eqU x) = its.any (eqU x) by simp, any_eqU r fs]
    exact q
  · obtain ⟨its, r, pl, hz⟩ := I.tuple hq
    refine SeqAt.notIn_tupleAt (eqU x) pl (fun w hw => mem_eqAt rx fx r fs w (by simpa using hw)) ⟨.bl _, H, I, rfl, ?_⟩
    rw [show its.toArray.any (eqU x) = its.any (eqU x) by simp, any_eqU r fs]
    exact q
theorem call_len_seq : CallR X (.builtin "len") (fun xs H Q => ∃ p ys, xs = [.ref p] ∧ (SqL X.K H p ys ∨ SqT X.K H p ys) ∧ Q (.int ys.length) H) := by
  intro pins s σ H xs us Q I r h
  obtain ⟨p, ys, rfl, hq, q⟩ := h
  obtain ⟨u, rfl, rx⟩ := vals1 r
  cases rx
  have hn := line63
  rcases hq with hq | hq
  · obtain ⟨its, r', pl, hz⟩ := I.list hq
    have hlen := r'.length
    exact Calls.call_len_list pl.isList (by simp only [List.size_toArray] <;> omega) ⟨.int ys.length, H, I.tok _, ⟨s.toks + 1, by rw [List.size_toArray, hlen]⟩, q⟩
  · obtain ⟨its, r', pl, hz⟩ := I.tuple hq
    have hlen := r'.length
    exact len_tuple pl (by simp only [List.size_toArray] <;> omega) ⟨.int ys.length, H, I.tok _, ⟨s.toks + 1, by rw [List.size_toArray, hlen]⟩, q⟩
theorem call_list_of : CallR X (.type "list") (fun xs H Q => ∃ p ys, xs = [.ref p] ∧ (SqL X.K H p ys ∨ SqT X.K H p ys) ∧ ∀ l, H l = none → Q (.ref l) (upd H l (.lst ys))) := by
  intro pins s σ H xs us Q I r h
  obtain ⟨p, ys, rfl, hq, q⟩ := h
  obtain ⟨u, rfl, rx⟩ := vals1 r
  cases rx
  have fin : ∀ (its : List Value), Vals ys its → ys.length ≤ sizeLine → ∀ (h' : Heap) (c' : Nat), (∀ b o', s.heap.get? b = some o' → h'.get? b = some o') →
      h'.get? s.heap.objs.size = some { cls := .type "list", dict := none, data := .seq its.toArray c', slots := #[] } → EP X pins σ Q (.ref s.heap.objs.size) { s with heap := h' } := fun its r' hz h' c' kp e =>
    ⟨.ref s.heap.objs.size, _, I.laid (t' := s.toks) kp (Nat.le_refl _) (show ObjOk X.prog X.w _ h' _ (.lst ys) from ⟨hz, its, c', r', e⟩), rfl, q _ (I.hok.fresh (Nat.le_refl _))⟩
  rcases hq with hq | hq
  · obtain ⟨its, r', pl, hz⟩ := I.list hq
    have hlen := r'.length
    obtain ⟨o, ho, hc, n, hd⟩ := pl.isList
    exact call_list_seq p (.inl rfl) ho hc hd (fun h' c' kp e => fin its r' hz h' c' kp e) (by simp only [List.size_toArray] <;> omega)
  · obtain ⟨its, r', pl, hz⟩ := I.tuple hq
    have hlen := r'.length
    obtain ⟨o, ho, hc, n, hd⟩ := pl
    exact call_list_seq p (.inr rfl) ho hc hd (fun h' c' kp e => fin its r' hz h' c' kp e) (by simp only [List.size_toArray] <;> omega)
theorem call_tuple_of : CallR X (.type "tuple") (fun xs H Q => ∃ p ys, xs = [.ref p] ∧ ((SqL X.K H p ys ∧ ∀ l, H l = none → Q (.ref l) (upd H l (.tup ys))) ∨ (SqT X.K H p ys ∧ Q (.ref p) H))) := by
  intro pins s σ H xs us Q I r h
  obtain ⟨p, ys, rfl, h⟩ := h
  obtain ⟨u, rfl, rx⟩ := vals1 r
  cases rx
  rcases h with ⟨hq, q⟩ | ⟨hq, q⟩
  · obtain ⟨its, r', pl, hz⟩ := I.list hq
    have hlen := r'.length
    refine call_tuple_list pl.isList (fun h' kp => ?_) (by simp only [List.size_toArray] <;> omega)
    have I1 : Inv X pins σ H { s with heap := h' } := I.kept (t' := s.toks) kp
    have I2 : Inv X pins σ (upd H h'.objs.size (.tup ys)) { s with heap := h'.push { cls := .type "tuple", data := .seq its.toArray } } :=
      I1.laid (t' := s.toks) (fun b o e => Heap.get?_push_of_some _ e) (Nat.le_refl _) (show ObjOk X.prog X.w _ _ _ (.tup ys) from ⟨hz, its, r', IsTup.new _ _⟩)
    exact ⟨.ref h'.objs.size, _, I2, rfl, q _ (I1.hok.fresh (Nat.le_refl _))⟩
  · obtain ⟨its, r', pl, hz⟩ := I.tuple hq
    exact call_tuple_same pl ⟨.ref p, H, I, rfl, q⟩

def tyV (K : PySem.W.Frag) (T : String) (x : V) (H : Hp) : Prop := match x with
  | .str _ => T = "str"
  | .int _ => T = "int"
  | .ref p => (T = "list" ∧ ∃ xs, SqL K H p xs) ∨ (T = "tuple" ∧ ∃ o, K.lookup p = some o ∧ o.cls = .type "tuple" ∧ o.dict = none) ∨
      (T = "dict" ∧ ((∃ kvs, H p = some (.dK kvs)) ∨ ∃ kvs, H p = some (.dT kvs))) ∨ (T = "set" ∧ ∃ S n, H p = some (.set S n))
  | _ => False
theorem tyV_is {pins : List (Addr × Obj)} {σ : St} {H : Hp} {s : Shared} {T : String} {x : V} {v : Value} (I : Inv X pins σ H s) (r : RelV x v) (ty : tyV X.K T x H) :
    s.TypeIs v T ∧ ∀ a, v = .ref a → ∃ ob, s.heap.get? a = some ob ∧ ob.dict = none := by
  cases x with
  | str z =>
    obtain ⟨t, rfl⟩ := r
    cases (show T = "str" from ty)
    exact ⟨typeIs_str s z t, fun _ e => nomatch e⟩
  | int i =>
    obtain ⟨t, rfl⟩ := r
    cases (show T = "int" from ty)
    exact ⟨typeIs_int s i t, fun _ e => nomatch e⟩
  | ref p =>
    cases r
    rcases ty with ⟨rfl, xs, hq⟩ | ⟨rfl, o, hk, hc, hd⟩ | ⟨rfl, hk⟩ | ⟨rfl, S, n, hk⟩
    · obtain ⟨its, _, pl, _⟩ := I.list hq
      refine ⟨pl.isList.typeIs, fun a e => ?_⟩
      cases e
      obtain ⟨o, n, e, c, hd, _⟩ := pl
      exact ⟨o, e, hd⟩
    · refine ⟨⟨o, I.kIn p o hk, hc⟩, fun a e => ?_⟩
      cases e
      exact ⟨o, I.kIn _ o hk, hd⟩
    · have z : ∃ o, s.heap.get? p = some o ∧ o.ExactDict := by
        rcases hk with ⟨kvs, hk⟩ | ⟨kvs, hk⟩
        · obtain ⟨_, _, _, _, o, _, _, e, ex, _⟩ := I.hok p _ hk
          exact ⟨o, e, ex⟩
        · obtain ⟨_, _, _, _, o, _, _, e, ex, _⟩ := I.hok p _ hk
          exact ⟨o, e, ex⟩
      obtain ⟨o, e, ex⟩ := z
      refine ⟨⟨o, e, ex.1⟩, fun a e2 => ?_⟩
      cases e2
      exact ⟨o, e, ex.2.1⟩
    · obtain ⟨o, _, _, _, e, ex, _⟩ := I.hok p _ hk
      refine ⟨⟨o, e, ex.1⟩, fun a e2 => ?_⟩
      cases e2
      exact ⟨o, e, ex.2.1⟩
  | _ => exact False.elim ty
def tBM (K : PySem.W.Frag) (T : String) (r : V → List V → Hp → VK → Prop) (to : TE) (t : TA) : TE := fun σ H Q => to σ H fun x H1 => tyV K T x H1 ∧ t σ H1 fun xs H2 => r x xs H2 Q
variable {o e : Expr} {es : List Expr} {to : TE} {t : TA} {name : Str} {apos cpos : Pos} {T id : String} {r : V → List V → Hp → VK → Prop}
theorem pe_bm (pa : PlainAttrs T) (slot : Slot T name id) (hty : typeOf (.builtin id) = pure (.type "method_descriptor")) (hm : MtR X id r) (ho : PE X o to) (ha : PA X (e :: es) t)
    (hbase : attributeBase o name X.env (eval o X.env) = eval o X.env := by rfl)
    (hfew : ((backTo cpos (starEach (e :: es) X.env)).all (fun x => !x.1) && (backToKw cpos (keywordEach [] X.env)).all (fun x => x.1.isSome)
      && decide ((e :: es).length + ([] : List Keyword).length + (if ([] : List Keyword).isEmpty then 0 else 1) < 30)) = true := by rfl)
    (hline : (apos.endLine == cpos.line) = true := by rfl) (hs : starEach (e :: es) X.env = (false, eval e X.env) :: starEach es X.env := by rfl) (hplain : (backTo cpos (starEach es X.env)).any (·.1) = false := by rfl) :
    PE X (.Call (.Attribute o name apos) (e :: es) [] cpos) (tBM X.K T r to t) := by
  refine ⟨?_⟩
  intro pins s σ H Q I h
  refine wpAny_Call_method_late hbase hfew hline rfl (thn (ho pins s σ H _ I h) fun v s1 ⟨x, H1, I1, r1, ty, q1⟩ => ?_)
  obtain ⟨h1, h2⟩ := tyV_is I1 r1 ty
  refine ⟨T, id, pa, slot, hty, h1, h2, ?_⟩
  have hA := ha cpos pins s1 σ H1 _ I1 q1
  rw [hs] at hA ⊢
  refine Calls.callWith_builtin (by show (false || (backTo cpos (starEach es X.env)).any (·.1)) = false; rw [hplain] <;> rfl) (Calls.evalArgs_plain ?_)
  exact thn hA fun us s2 ⟨vs, H2, I2, r2, q2⟩ => hm pins s2 σ H2 x vs v us Q I2 r1 r2 q2
end
end L2

namespace L2
open PySem PySem.Spec PyProof.Rows

def MtM (X : Cx) (id : String) (r : V → List V → Hp → VK → Prop) : Prop :=
  ∀ (pins : List (Addr × Obj)) (s : Shared) (σ : St) (H : Hp) (x : V) (xs : List V) (v : Value) (us : List Value) (Q : VK), Inv X pins σ H s → RelV x v → Vals xs us → r x xs H Q →
    wpAny (model X.prog X.w) X.A (call (.builtin id) (v :: us)) (EP X pins σ Q) X.xe s

theorem Vals.one : ∀ {x : V} {us : List Value}, Vals [x] us → ∃ u, us = [u] ∧ RelV x u
  | _, _, .cons r .nil => ⟨_, rfl, r⟩
theorem Vals.zero : ∀ {us : List Value}, Vals [] us → us = []
  | _, .nil => rfl
theorem Vals.eraseIdx : ∀ {xs : List V} {us : List Value} (i : Nat), Vals xs us → Vals (xs.eraseIdx i) (us.eraseIdx i)
  | _, _, _, .nil => .nil
  | _, _, 0, .cons _ t => t
  | _, _, i + 1, .cons r t => .cons r (Vals.eraseIdx i t)
theorem Vals.reverse {xs : List V} {us : List Value} (h : Vals xs us) : Vals xs.reverse us.reverse := by
  induction h with
  | nil => exact .nil
  | cons r t ih => rw [List.reverse_cons, List.reverse_cons]; exact Vals.append ih (.cons r .nil)
section
variable {X : Cx} {pins : List (Addr × Obj)} {σ : St} {H : Hp} {s : Shared} {l b : Addr} {xs ys zs : List V}

theorem Inv.lset {its its' : List Value} {n : Nat} {f : Array Value → Array Value} {t' : Nat} (I : Inv X pins σ H s) (hH : H l = some (.lst xs))
    (e : s.heap.get? l = some { cls := .type "list", data := .seq its.toArray n }) (hf : f its.toArray = its'.toArray) (hv : Vals ys its') (hz : ys.length ≤ sizeLine) :
    Inv X pins σ (upd H l (.lst ys)) { s with heap := s.heap.update l (Obj.mapSeq f), toks := t' } := by
  have q := PySem.IsL.update e f
  rw [hf] at q
  refine I.write (x := l) (e := l) (by rw [hH]; exact trivial) (.inl rfl) (fun b' u hb hu => (Heap.get?_update_other s.heap (Obj.mapSeq f) (Ne.symm hb)).trans hu) ⟨_, q⟩ ?_
  exact ⟨hz, its', _, hv, q⟩
theorem Inv.fresh (I : Inv X pins σ H s) : H s.heap.objs.size = none := I.hok.fresh (Nat.le_refl _)
theorem Inv.lstM (I : Inv X pins σ H s) (hH : H l = some (.lst xs)) : xs.length ≤ sizeLine ∧ ∃ (its : List Value) (n : Nat), Vals xs its ∧ xs.length = its.length ∧ s.heap.get? l = some { cls := .type "list", data := .seq its.toArray n } := by
  obtain ⟨z, its, n, r, e⟩ := I.hok l _ hH
  exact ⟨z, its, n, r, r.length, e⟩

end

section
variable {X : Cx}

def rAppend : V → List V → Hp → VK → Prop := fun x vs H Q => ∃ l xs y, x = .ref l ∧ vs = [y] ∧ H l = some (.lst xs) ∧ xs.length < sizeLine ∧ Q .non (upd H l (.lst (xs ++ [y])))
theorem mt_append : MtM X "list.append" rAppend := by
  intro pins s σ H x vs v us Q I rx rv h
  obtain ⟨l, xs, y, rfl, rfl, hH, hz, q⟩ := h
  cases rx
  obtain ⟨u, rfl, ru⟩ := rv.one
  obtain ⟨z, its, n, r, hl, e⟩ := I.lstM hH
  refine call_meets F.slot_list_append ⟨_, e, rfl⟩ F.entry_list_append (F.args_list_append_2 _ _) (PySem.list_append l its.toArray n u (by rw [List.size_toArray]; omega)) ⟨e, ?_⟩
  refine ⟨.non, _, I.lset (its' := its ++ [u]) hH e (by simp) (r.append (.cons ru .nil)) ?_, rfl, q⟩
  rw [List.length_append, List.length_singleton]
  omega

end

section
variable {prog : Program} {w : World} {A : Around} {E : Value → Shared → Prop} {s : Shared}
end

section
variable {X : Cx}
end
end L2

namespace L2
open PySem PySem.Spec PyProof.Rows

theorem Vals.ints : ∀ {ns : List Int} {us : List Value}, Vals (ns.map V.int) us → IntsAre us ns
  | [], us, h => by
    rw [List.map_nil] at h
    cases h
    exact IntsAre.nil
  | n :: ns, us, h => by
    rw [List.map_cons] at h
    cases h with
    | cons r t =>
      obtain ⟨k, rfl⟩ := r
      exact IntsAre.cons n k (Vals.ints t)
theorem vals_of_ints : ∀ {us : List Value} {ns : List Int}, IntsAre us ns → Vals (ns.map V.int) us
  | _, _, .nil => by rw [List.map_nil]; exact Paired.nil
  | _, _, .cons n t h => by rw [List.map_cons]; exact Paired.cons (show RelV (V.int n) (Value.int n t) from ⟨t, rfl⟩) (vals_of_ints h)
theorem Vals.strs : ∀ {xs : List Str} {us : List Value}, Vals (xs.map V.str) us → StrsAre us xs
  | [], us, h => by
    rw [List.map_nil] at h
    cases h
    exact StrsAre.nil
  | x :: xs, us, h => by
    rw [List.map_cons] at h
    cases h with
    | cons r t =>
      obtain ⟨k, rfl⟩ := r
      exact StrsAre.cons x k (Vals.strs t)
theorem Vals.bls : ∀ {bs : List Bool} {us : List Value}, Vals (bs.map V.bl) us → us = bs.map Value.bool
  | [], us, h => by
    rw [List.map_nil] at h
    cases h
    rfl
  | b :: bs, us, h => by
    rw [List.map_cons] at h
    cases h with
    | cons r t =>
      cases r
      rw [Vals.bls t, List.map_cons]
theorem Vals.ref1 {a : Addr} {us : List Value} (r : Vals [V.ref a] us) : us = [Value.ref a] := by
  cases r with
  | cons r t =>
    cases t
    cases r
    rfl
section
variable {prog : Program} {w : World} {A : Around} {E : Value → Shared → Prop} {s : Shared} {l : Addr} {its : List Value} {ns : List Int} {Q : Value → Shared → Prop}
end

section
variable {X : Cx}
end

section
variable {X : Cx}
end

section
variable {X : Cx}
end

theorem iter_any {prog : Program} {w : World} {A : Around} {E : Value → Shared → Prop} {s : Shared} {l : Addr} {items : Array Value} {Q : Value → Shared → Prop} (hl : s.heap.IsList l items)
    (h : ∀ s₂ : Shared, s₂ = { s with heap := s.heap.push { cls := .type "list_iterator", data := .fields #[.ref l, .int 0 0] } } →
      (s₂.heap.IsListIter s.heap.objs.size l 0 ∧ s₂.heap.IsList l items) → l ≠ s.heap.objs.size → Q (.ref s.heap.objs.size) s₂) : wpAny (model prog w) A (pyIter (.ref l)) Q E s := by
  have hlt : l < s.heap.objs.size := by obtain ⟨_, e, _⟩ := hl; exact Heap.lt_size e
  exact wpAny_pyIter_list hl (h _ rfl ⟨⟨_, Heap.get?_push_size _ rfl, rfl, rfl⟩, hl.push _⟩ (Nat.ne_of_lt hlt))
theorem truth_bools {prog : Program} {w : World} {A : Around} {bs : List Bool} {its : List Value} (e : its = bs.map Value.bool) :
    TruthOf prog w A (fun i v => its.toArray[i]? = some v) (fun i => bs.getD i false) := fun i v s Q E hv hq => by
  have hv' : its[i]? = some v := by simpa using hv
  rw [e, List.getElem?_map] at hv'
  obtain ⟨b, hb, rfl⟩ := Option.map_eq_some_iff.mp hv'
  have hg : bs.getD i false = b := by rw [List.getD_eq_getElem?_getD, hb] <;> rfl
  have hq' : Q (bs.getD i false) s := hq
  rw [hg] at hq'
  exact wpAny_truthy_bool hq'
theorem all_range : ∀ bs : List Bool, (List.range bs.length).all (fun i => bs.getD i false) = bs.all id
  | [] => rfl
  | b :: bs => by
    rw [List.length_cons, List.range_succ_eq_map, List.all_cons, List.all_map, List.all_cons, ← all_range bs]
    all_goals rfl
section
variable {X : Cx}
def rAll (K : PySem.W.Frag) : List V → Hp → VK → Prop := fun vs H Q => ∃ (a : Addr) (bs : List Bool), vs = [V.ref a] ∧ SqL K H a (bs.map V.bl) ∧ Q (.bl (bs.all id)) H
theorem cr_all (hc : X.calm = true) : CallR X (.builtin "all") (rAll X.K) := by
  intro pins s σ H vs us Q I r h
  obtain ⟨a, bs, rfl, hs, q⟩ := h
  obtain ⟨its, rv, hl, _⟩ := I.list hs
  rw [Vals.ref1 r]
  have hb := rv.bls
  refine call_all_walk (iter_any hl.isList fun s₂ e2 st hne => ?_)
  subst e2
  refine ⟨_, _, _, _, _, _, _, rfl, Walks.list (A := X.A.in1) (I.ok.hd hc) _ a hne its.toArray, st, truth_bools hb, fun h' tk hk => ?_⟩
  refine ⟨.bl _, H, I.kept fun b o eo => hk b o (fun hmem => ?_) (Heap.get?_push_of_some _ eo), ?_, q⟩
  · rcases List.mem_cons.mp hmem with e1 | hmem
    · exact absurd (e1 ▸ Heap.lt_size eo) (Nat.lt_irrefl _)
    · cases hmem
  · show Value.bool _ = Value.bool _
    rw [← all_range, hb, List.size_toArray, List.length_map]
end

mutual
inductive Dp (K : PySem.W.Frag) (H : Hp) : V → PyData → Prop
  | non : Dp K H .non .none
  | bl (b : Bool) : Dp K H (.bl b) (.bool b)
  | int (i : Int) : Dp K H (.int i) (.int i)
  | str (x : Str) : Dp K H (.str x) (.str x)
  | lst {a : Addr} {xs : List V} {ds : List PyData} : SqL K H a xs → DpAll K H xs ds → Dp K H (.ref a) (.list ds)
  | tup {a : Addr} {xs : List V} {ds : List PyData} : SqT K H a xs → DpAll K H xs ds → Dp K H (.ref a) (.tuple ds)
inductive DpAll (K : PySem.W.Frag) (H : Hp) : List V → List PyData → Prop
  | nil : DpAll K H [] []
  | cons {v : V} {vs : List V} {d : PyData} {ds : List PyData} : Dp K H v d → DpAll K H vs ds → DpAll K H (v :: vs) (d :: ds)
end
section
variable {X : Cx} {pins : List (Addr × Obj)} {σ : St} {H : Hp} {s : Shared}
mutual
theorem Dp.reads (I : Inv X pins σ H s) : ∀ (d : PyData) (v : V) (u : Value), Dp X.K H v d → RelV v u → ∃ as, Reads s.heap u d as
  | .none, _, _, h, r => by
    cases h
    cases r
    exact ⟨_, Reads.none⟩
  | .bool b, _, _, h, r => by
    cases h
    cases r
    exact ⟨_, Reads.bool b⟩
  | .int i, _, _, h, r => by
    cases h
    obtain ⟨t, rfl⟩ := r
    exact ⟨_, Reads.int i t⟩
  | .str x, _, _, h, r => by
    cases h
    obtain ⟨t, rfl⟩ := r
    exact ⟨_, Reads.str x t⟩
  | .list ds, _, _, h, r => by
    cases h with
    | lst hs ha =>
      cases r
      obtain ⟨its, rv, ⟨o, n, ho, hc, _, hd⟩, _⟩ := I.list hs
      obtain ⟨as, hr⟩ := Dp.readsAll I ds _ its ha rv
      exact ⟨_, Reads.list ho hc hd hr⟩
  | .tuple ds, _, _, h, r => by
    cases h with
    | tup hs ha =>
      cases r
      obtain ⟨its, rv, ⟨o, ho, hc, n, hd⟩, _⟩ := I.tuple hs
      obtain ⟨as, hr⟩ := Dp.readsAll I ds _ its ha rv
      exact ⟨_, Reads.tuple ho hc hd hr⟩
  | .dict _, _, _, h, _ => by cases h
theorem Dp.readsAll (I : Inv X pins σ H s) : ∀ (ds : List PyData) (vs : List V) (us : List Value), DpAll X.K H vs ds → Vals vs us → ∃ as, ReadsAll s.heap us ds as
  | [], _, _, h, r => by
    cases h
    cases r
    exact ⟨_, ReadsAll.nil⟩
  | d :: ds, _, _, h, r => by
    cases h with
    | cons h1 h2 =>
      cases r with
      | cons r1 r2 =>
        obtain ⟨as, q1⟩ := Dp.reads I d _ _ h1 r1
        obtain ⟨bs, q2⟩ := Dp.readsAll I ds _ _ h2 r2
        exact ⟨_, ReadsAll.cons q1 q2⟩
end
end
section
variable {X : Cx}
def rEqD (K : PySem.W.Frag) : R2 := fun x y H Q => ∃ d e, Dp K H x d ∧ Dp K H y e ∧ SeqAt.shaped d = true ∧ SeqAt.shaped e = true ∧ Q (.bl (PyData.eqv d e)) H
def rNeD (K : PySem.W.Frag) : R2 := fun x y H Q => ∃ d e, Dp K H x d ∧ Dp K H y e ∧ SeqAt.shaped d = true ∧ SeqAt.shaped e = true ∧ Q (.bl (!PyData.eqv d e)) H
theorem op_eqD (hu : X.A.units + 64 < cLine) : OpR X (compareOp .Eq) (rEqD X.K) := by
  intro pins s σ H x y v u Q I rx ry h
  obtain ⟨d, e, hd, he, sd, se, q⟩ := h
  obtain ⟨as, r1⟩ := Dp.reads I d x v hd rx
  obtain ⟨bs, r2⟩ := Dp.reads I e y u he ry
  exact SeqAt.compareEq_shaped r1 r2 sd se hu ⟨.bl _, H, I, rfl, q⟩
theorem op_neD (hu : X.A.units + 64 < cLine) : OpR X (compareOp .NotEq) (rNeD X.K) := by
  intro pins s σ H x y v u Q I rx ry h
  obtain ⟨d, e, hd, he, sd, se, q⟩ := h
  obtain ⟨as, r1⟩ := Dp.reads I d x v hd rx
  obtain ⟨bs, r2⟩ := Dp.reads I e y u he ry
  exact SeqAt.compareNe_shaped r1 r2 sd se hu ⟨.bl _, H, I, rfl, q⟩
end
end L2

namespace L2
open PySem PySem.Spec PyProof.Rows
abbrev CellAt (h : Heap) (c : Addr) (v : Option Value) : Prop := h.IsCell c v
def relS (scope sc : Scope) : Scope :=
  { scope with names := scope.names.map fun (n, k) => if (k == .free && sc.kind == .function && sc.names.lookup n == some .cell) then (n, .cell) else (n, k) }

def cloFrom (cells : List (Str × Addr)) : List (Str × NameKind) → List (Str × Addr) → List (Str × Addr)
  | [], acc => acc
  | (n, k) :: r, acc => if k == .free then cloFrom cells r ((n, (cells.lookup n).getD 0) :: acc) else cloFrom cells r acc

theorem closure_loop (env : Env) (f : Str × NameKind → List (Str × Addr) → Sem (ForInStep (List (Str × Addr))))
    (hf : ∀ n k c, f (n, k) c = if k == .free then (do let a ← cellOf env n; pure (.yield ((n, a) :: c))) else pure (.yield c)) :
    ∀ (names : List (Str × NameKind)) (acc : List (Str × Addr)), (∀ y ∈ names, y.2 = .free → ∃ c, env.cells.lookup y.1 = some c) → forIn names acc f = pure (cloFrom env.cells names acc)
  | [], acc, _ => by rw [List.forIn_nil]; rfl
  | (n, k) :: r, acc, h => by
    rw [List.forIn_cons, hf]
    have ih := fun acc => closure_loop env f hf r acc fun y hy => h y (List.mem_cons_of_mem _ hy)
    unfold cloFrom
    by_cases hk : (k == NameKind.free) = true
    · rw [if_pos hk, if_pos hk]
      obtain ⟨c, hc⟩ := h (n, k) List.mem_cons_self (by simpa using hk)
      have e : cellOf env n = pure c := by unfold cellOf; rw [hc]
      rw [e]
      have e2 : (env.cells.lookup n).getD 0 = c := by rw [hc]; rfl
      rw [e2]
      exact ih _
    · rw [if_neg hk, if_neg hk]
      exact ih _
theorem closure_ok {scope : Scope} {env : Env} (h : ∀ y ∈ scope.names, y.2 = .free → ∃ c, env.cells.lookup y.1 = some c) : closureFor scope env = pure (cloFrom env.cells scope.names []) := by
  simp only [closureFor]
  rw [closure_loop env _ (fun n k c => rfl) scope.names [] h]
  rfl

theorem mem_lookup {α : Type} : ∀ {l : List (Str × α)} {n : Str} {c : α}, (n, c) ∈ l → ∃ c', l.lookup n = some c'
  | (k, v) :: r, n, c, h => by
    rw [List.lookup_cons]
    cases hb : n == k with
    | true => exact ⟨_, rfl⟩
    | false =>
      rcases List.mem_cons.mp h with e | h
      · cases e; simp at hb
      · exact mem_lookup h

theorem cloFrom_mem {cells : List (Str × Addr)} : ∀ {names : List (Str × NameKind)} {acc : List (Str × Addr)} {n : Str} {c : Addr}, (n, c) ∈ cloFrom cells names acc → (n, c) ∈ acc ∨ ((n, .free) ∈ names ∧ c = (cells.lookup n).getD 0)
  | [], _, _, _, h => .inl h
  | (m, k) :: r, acc, n, c, h => by
    unfold cloFrom at h
    split at h
    · rename_i hk
      have hk : k = .free := by simpa using hk
      rcases cloFrom_mem h with h | ⟨h1, h2⟩
      · rcases List.mem_cons.mp h with e | h
        · cases e; exact .inr ⟨hk ▸ List.mem_cons_self, rfl⟩
        · exact .inl h
      · exact .inr ⟨List.mem_cons_of_mem _ h1, h2⟩
    · rcases cloFrom_mem h with h | ⟨h1, h2⟩
      · exact .inl h
      · exact .inr ⟨List.mem_cons_of_mem _ h1, h2⟩
theorem cloFrom_acc {cells : List (Str × Addr)} : ∀ {names : List (Str × NameKind)} {acc : List (Str × Addr)} {p : Str × Addr}, p ∈ acc → p ∈ cloFrom cells names acc
  | [], _, _, h => h
  | (m, k) :: r, acc, p, h => by
    unfold cloFrom
    split
    · exact cloFrom_acc (List.mem_cons_of_mem _ h)
    · exact cloFrom_acc h
theorem cloFrom_has {cells : List (Str × Addr)} : ∀ {names : List (Str × NameKind)} {acc : List (Str × Addr)} {n : Str}, (n, .free) ∈ names → (n, (cells.lookup n).getD 0) ∈ cloFrom cells names acc
  | (m, k) :: r, acc, n, h => by
    unfold cloFrom
    rcases List.mem_cons.mp h with e | h
    · cases e
      exact cloFrom_acc List.mem_cons_self
    · split
      · exact cloFrom_has h
      · exact cloFrom_has h

theorem cells_mem : ∀ {names : List (Str × NameKind)} {h : Heap} {acc : List (Str × Addr)} {x : Str} {c : Addr}, (x, c) ∈ cellsFrom h.objs.size names acc →
    (x, c) ∈ acc ∨ ((x, .cell) ∈ names ∧ h.objs.size ≤ c ∧ CellAt (pushCells h names) c none)
  | [], _, _, _, _, h => .inl h
  | (n, k) :: r, h, acc, x, c, hm => by
    unfold cellsFrom at hm
    unfold pushCells
    split at hm
    · rename_i hk
      rw [if_pos hk]
      have hk : k = .cell := by simpa using hk
      rw [← Heap.size_push h { cls := .type "cell", data := .cell none }] at hm
      rcases cells_mem hm with hm | ⟨h1, h2, h3⟩
      · rcases List.mem_cons.mp hm with e | hm
        · cases e
          exact .inr ⟨hk ▸ List.mem_cons_self, Nat.le_refl _, _, pushCells_keeps r _ _ _ (Heap.get?_push_size _ rfl), rfl⟩
        · exact .inl hm
      · rw [Heap.size_push] at h2
        exact .inr ⟨List.mem_cons_of_mem _ h1, Nat.le_of_succ_le h2, h3⟩
    · rename_i hk
      rw [if_neg hk]
      rcases cells_mem hm with hm | ⟨h1, h2, h3⟩
      · exact .inl hm
      · exact .inr ⟨List.mem_cons_of_mem _ h1, h2, h3⟩
theorem cells_acc : ∀ {names : List (Str × NameKind)} {n : Nat} {acc : List (Str × Addr)} {p : Str × Addr}, p ∈ acc → p ∈ cellsFrom n names acc
  | [], _, _, _, h => h
  | (m, k) :: r, n, acc, p, h => by
    unfold cellsFrom
    split
    · exact cells_acc (List.mem_cons_of_mem _ h)
    · exact cells_acc h
theorem cells_has : ∀ {names : List (Str × NameKind)} {n : Nat} {acc : List (Str × Addr)} {x : Str}, (x, .cell) ∈ names → ∃ c, (x, c) ∈ cellsFrom n names acc
  | (m, k) :: r, n, acc, x, h => by
    unfold cellsFrom
    rcases List.mem_cons.mp h with e | h
    · cases e
      exact ⟨n, cells_acc List.mem_cons_self⟩
    · split
      · exact cells_has h
      · exact cells_has h
theorem cells_inj : ∀ {names : List (Str × NameKind)} {h : Heap} {acc : List (Str × Addr)} {x y : Str} {c : Addr}, (∀ p ∈ acc, p.2 < h.objs.size) → (∀ x y c, (x, c) ∈ acc → (y, c) ∈ acc → x = y) →
    (x, c) ∈ cellsFrom h.objs.size names acc → (y, c) ∈ cellsFrom h.objs.size names acc → x = y
  | [], _, _, _, _, _, _, hi, h1, h2 => hi _ _ _ h1 h2
  | (n, k) :: r, h, acc, x, y, c, hl, hi, h1, h2 => by
    unfold cellsFrom at h1 h2
    split at h1
    · rename_i hk
      rw [if_pos hk] at h2
      rw [← Heap.size_push h { cls := .type "cell", data := .cell none }] at h1 h2
      refine cells_inj (h := h.push _) (fun p hp => ?_) (fun x y c a b => ?_) h1 h2
      · rw [Heap.size_push]
        rcases List.mem_cons.mp hp with rfl | hp
        · exact Nat.lt_succ_self _
        · exact Nat.lt_succ_of_lt (hl p hp)
      · rcases List.mem_cons.mp a with e | a <;> rcases List.mem_cons.mp b with e' | b
        · cases e; cases e'; rfl
        · cases e; exact absurd (hl _ b) (Nat.lt_irrefl _)
        · cases e'; exact absurd (hl _ a) (Nat.lt_irrefl _)
        · exact hi _ _ _ a b
    · rename_i hk
      rw [if_neg hk] at h2
      exact cells_inj hl hi h1 h2

theorem newEnv_comp {M : Model} {A : Around} {E : Value → Shared → Prop} {s : Shared} {scope : Scope} {globals : Addr} {closure : List (Str × Addr)} {qual : Str} {func : Option Addr} {code : Value} {around : Env} {builtins : Addr} {Q : Env → Shared → Prop}
    (h : Q (newEnv scope s.heap.objs.size globals (cellsFrom (s.heap.objs.size + 1) scope.names closure) qual func code (some around) builtins)
      { s with heap := pushCells (s.heap.push { cls := .type "dict", data := .dict #[] }) scope.names }) :
    wpAny M A (newFunctionEnv scope globals closure [] qual func code (some around) builtins) Q E s := by
  simp only [newFunctionEnv, Option.isSome_some, if_true]
  refine wpAny_bind (wpAny_alloc ?_)
  refine wpAny_bind (wpAny_layCells _ (fun n k c => rfl) scope.names closure _ _ ?_)
  rw [show ({ s with heap := s.heap.push { cls := .type "dict", data := .dict #[] } } : Shared).heap.objs.size = s.heap.objs.size + 1 from Heap.size_push ..]
  rw [List.forIn_nil]
  exact wpAny_bind (wpAny_pure (wpAny_pure h))

theorem lookup_relS {sc : Scope} : ∀ {names : List (Str × NameKind)} {x : Str} {k : NameKind},
    (names.map fun (n, k) => if (k == NameKind.free && sc.kind == .function && sc.names.lookup n == some .cell) then (n, NameKind.cell) else (n, k)).lookup x = some k →
    ∃ k', names.lookup x = some k' ∧ (k = k' ∨ (k' = .free ∧ k = .cell))
  | [], _, _, h => by simp at h
  | (n, k₀) :: r, x, k, h => by
    have ih := @lookup_relS sc r x k
    have h' : List.lookup x ((if (k₀ == NameKind.free && sc.kind == .function && sc.names.lookup n == some .cell) = true then (n, NameKind.cell) else (n, k₀)) :: (r.map _)) = some k := h
    cases hx : x == n with
    | true =>
      simp only [List.lookup_cons, hx]
      by_cases hc : (k₀ == NameKind.free && sc.kind == .function && sc.names.lookup n == some .cell) = true
      · rw [if_pos hc] at h'
        simp only [List.lookup_cons, hx] at h'
        cases h'
        simp only [Bool.and_eq_true, beq_iff_eq] at hc
        exact ⟨k₀, rfl, .inr ⟨hc.1.1, rfl⟩⟩
      · rw [if_neg hc] at h'
        simp only [List.lookup_cons, hx] at h'
        cases h'
        exact ⟨_, rfl, .inl rfl⟩
    | false =>
      simp only [List.lookup_cons, hx]
      by_cases hc : (k₀ == NameKind.free && sc.kind == .function && sc.names.lookup n == some .cell) = true
      · rw [if_pos hc] at h'
        simp only [List.lookup_cons, hx] at h'
        exact ih h'
      · rw [if_neg hc] at h'
        simp only [List.lookup_cons, hx] at h'
        exact ih h'
structure BlkOk (N : List Str) (sc scope : Scope) (own : List (Str × Nat)) : Prop where
  kind : scope.kind = .function
  uniq : ∀ y ∈ scope.names, scope.names.lookup y.1 = some y.2
  ix : ∀ p ∈ own, N[p.2]? = some p.1
  free : ∀ y ∈ scope.names, y.2 = .free → sc.names.lookup y.1 = some .cell ∨ sc.names.lookup y.1 = some .free
  own : ∀ y ∈ scope.names, y.2 = .local ∨ y.2 = .cell → y.1 ∈ own.map (·.1) ∨ y.1 ∉ N
def wipe (σ : St) : List Nat → St
  | [] => σ
  | v :: vs => (wipe σ vs).set v none
theorem wipe_length (σ : St) : ∀ vs : List Nat, (wipe σ vs).length = σ.length
  | [] => rfl
  | v :: vs => by unfold wipe; rw [List.length_set, wipe_length σ vs]
theorem wipe_some {σ : St} {i : Nat} {x : V} : ∀ {vs : List Nat}, (wipe σ vs)[i]? = some (some x) → σ[i]? = some (some x) ∧ i ∉ vs
  | [], h => ⟨h, by simp⟩
  | v :: vs, h => by
    unfold wipe at h
    by_cases hi : v = i
    · subst hi
      by_cases hv : v < (wipe σ vs).length
      · rw [List.getElem?_set_self hv] at h; cases h
      · rw [List.getElem?_eq_none (by simpa using hv)] at h; cases h
    · rw [List.getElem?_set_ne hi] at h
      obtain ⟨h1, h2⟩ := wipe_some h
      exact ⟨h1, by simp only [List.mem_cons, not_or]; exact ⟨fun e => hi e.symm, h2⟩⟩

abbrev Cx.blk (X : Cx) (s : Shared) (H : Hp) (scope : Scope) (cenv : Env) (fp : List Addr) : Cx := { X with s_0 := s, H_0 := H, env := cenv, outer := X.stack, ex := fp, fn := fun x => scope.names.lookup x == some .cell, pn := [], xe := fun _ _ => False }
section
variable {X : Cx} {pins : List (Addr × Obj)} {σ : St} {H : Hp} {s : Shared}
theorem block_start {scope : Scope} {own : List (Str × Nat)} {fp : List Addr} (I : Inv X pins σ H s) (ok : BlkOk X.N X.env.scope scope own) (hN : X.N.Nodup) (hfp : ∀ b ∈ fp, FpOk X pins H b ∧ b < s.heap.objs.size) :
    Inv (X.blk s H scope (compEnvC scope (cellsFrom (s.heap.objs.size + 1) scope.names (cloFrom X.env.cells scope.names [])) s.heap.objs.size X.env) fp) [] (wipe σ (own.map (·.2))) H { s with heap := pushCells (s.heap.push { cls := .type "dict", data := .dict #[] }) scope.names } := by
  have hfree : ∀ y ∈ scope.names, y.2 = .free → ∃ c, X.env.cells.lookup y.1 = some c := fun y hy e => by
    rcases ok.free y hy e with k | k
    · exact I.ok.has _ (.inl k)
    · exact I.ok.has _ (.inr k)
  generalize hcenv : compEnvC scope (cellsFrom (s.heap.objs.size + 1) scope.names (cloFrom X.env.cells scope.names [])) s.heap.objs.size X.env = cenv
  have kp : ∀ b o, s.heap.get? b = some o → (pushCells (s.heap.push { cls := .type "dict", data := .dict #[] }) scope.names).get? b = some o := fun b o e => pushCells_keeps _ _ _ _ (Heap.get?_push_of_some _ e)
  have hL : cenv.locals = s.heap.objs.size := by rw [← hcenv]; rfl
  have hcl : cenv.cells = cellsFrom (s.heap.objs.size + 1) scope.names (cloFrom X.env.cells scope.names []) := by rw [← hcenv]; rfl
  have hsc : cenv.scope = relS scope X.env.scope := by rw [← hcenv]; rfl
  rw [← Heap.size_push s.heap { cls := .type "dict", data := .dict #[] }] at hcl
  have cm : ∀ {y c}, (y, c) ∈ cloFrom X.env.cells scope.names [] → X.env.cells.lookup y = some c ∧ c < s.heap.objs.size := fun {y c} hm => by
    rcases cloFrom_mem hm with hm | ⟨h1, rfl⟩
    · cases hm
    · obtain ⟨c, hc⟩ := hfree _ h1 rfl
      rw [hc]
      obtain ⟨w, z⟩ := I.cell _ _ hc
      exact ⟨rfl, z.lt⟩
  have mem : ∀ {y c}, cenv.cells.lookup y = some c → (X.env.cells.lookup y = some c ∧ c < s.heap.objs.size) ∨ (s.heap.objs.size + 1 ≤ c ∧ CellAt (pushCells (s.heap.push { cls := .type "dict", data := .dict #[] }) scope.names) c none) := fun {y c} e => by
    rw [hcl] at e
    rcases cells_mem (PySem.mem_of_lookup e) with hm | ⟨_, h2, h3⟩
    · exact .inl (cm hm)
    · rw [Heap.size_push] at h2; exact .inr ⟨h2, h3⟩
  have look : ∀ {y}, scope.names.lookup y = some .free → ∃ c, cenv.cells.lookup y = some c ∧ X.env.cells.lookup y = some c := fun {y} hl => by
    have hy : (y, NameKind.free) ∈ scope.names := PySem.mem_of_lookup hl
    obtain ⟨c', e'⟩ := mem_lookup (cells_acc (names := scope.names) (n := (s.heap.push { cls := .type "dict", data := .dict #[] }).objs.size) (cloFrom_has (cells := X.env.cells) (acc := []) hy))
    rw [← hcl] at e'
    refine ⟨c', e', ?_⟩
    rw [hcl] at e'
    rcases cells_mem (PySem.mem_of_lookup e') with hm | ⟨h1, _, _⟩
    · exact (cm hm).1
    · have := ok.uniq _ h1
      rw [hl] at this; cases this
  have okB : (X.blk s H scope cenv fp).Ok := by
    refine ⟨I.ok.mod, by show cenv.scope.kind = _; rw [hsc]; exact ok.kind, by show cenv.globals = _; rw [← hcenv]; exact I.ok.glob, by show cenv.builtins = _; rw [← hcenv]; exact I.ok.blt, by show s.heap.objs.size ≤ cenv.locals; rw [hL]; exact Nat.le_refl _,
      fun y z c e1 e2 => ?_, fun y hy => ?_, fun y c z e => ?_, I.ok.hd, I.ok.frames, .inl rfl, fun b hb => ⟨?_, fun y c e z => ?_⟩, I.bs, Nat.le_trans I.ok.bsz I.sz, fun b o e hb => ?_, fun b hb z => ?_, I.stack, I.stkFree⟩
    · have e1 : cenv.cells.lookup y = some c := e1
      have e2 : cenv.cells.lookup z = some c := e2
      rw [hcl] at e1 e2
      refine cells_inj (fun p hp => ?_) (fun y z c a b => I.ok.inj y z c (cm a).1 (cm b).1) (PySem.mem_of_lookup e1) (PySem.mem_of_lookup e2)
      rw [Heap.size_push]
      exact Nat.lt_succ_of_lt (cm (y := p.1) (c := p.2) hp).2
    · show ∃ c, cenv.cells.lookup y = some c
      have key : ∀ k, cenv.kindOf y = some k → (k = .cell ∨ k = .free) → ∃ c, cenv.cells.lookup y = some c := fun k hk hk' => by
        unfold Env.kindOf at hk
        rw [hsc] at hk
        obtain ⟨k', e, r⟩ := lookup_relS hk
        have : k' = .cell ∨ k' = .free := by
          rcases r with rfl | ⟨rfl, _⟩
          · exact hk'
          · exact .inr rfl
        rcases this with rfl | rfl
        · obtain ⟨c, hm⟩ := cells_has (n := (s.heap.push { cls := .type "dict", data := .dict #[] }).objs.size) (acc := cloFrom X.env.cells scope.names []) (PySem.mem_of_lookup e)
          obtain ⟨c', e'⟩ := mem_lookup hm
          exact ⟨c', by rw [hcl]; exact e'⟩
        · obtain ⟨c, h1, _⟩ := look e
          exact ⟨c, h1⟩
      rcases hy with hy | hy
      · exact key _ hy (.inl rfl)
      · exact key _ hy (.inr rfl)
    · have z : (scope.names.lookup y == some NameKind.cell) = true := z
      have z : scope.names.lookup y = some .cell := by simpa using z
      have e : cenv.cells.lookup y = some c := e
      rw [hcl] at e
      rcases cells_mem (PySem.mem_of_lookup e) with hm | ⟨_, h2, _⟩
      · rcases cloFrom_mem hm with hm | ⟨h1, _⟩
        · cases hm
        · have q := ok.uniq _ h1
          rw [z] at q; cases q
      · rw [Heap.size_push] at h2
        exact Nat.le_of_succ_le h2
    · show b ≠ cenv.locals
      rw [hL]; exact Nat.ne_of_lt (hfp b hb).2
    · have e : cenv.cells.lookup y = some c := e
      rcases mem e with ⟨h1, _⟩ | ⟨h1, _⟩
      · exact (hfp b hb).1.2.2.2.2.1 y c h1 z
      · have h2 : s.heap.objs.size + 1 ≤ b := by rw [← z]; exact h1
        exact absurd (Nat.lt_of_lt_of_le (hfp b hb).2 (Nat.le_of_succ_le h2)) (Nat.lt_irrefl _)
    · rcases (hfp b hb).1.2.2.2.1 with z | z
      · exact I.ok.noex b o e z
      · exact absurd (Nat.lt_of_lt_of_le (Heap.lt_size e) (Nat.le_trans I.ok.bsz z)) (Nat.lt_irrefl _)
    · rcases List.mem_cons.mp (I.stkSub b z) with z | z
      · exact (hfp b hb).1.2.1 z
      · exact (hfp b hb).1.2.2.1 z
  refine ⟨okB, rfl, I.bare, Un.kept kp, ⟨fun _ => none, ?_, fun i y av e1 e2 e3 => ?_⟩, fun y c e => ?_, ?_, fun y c e => ?_, fun p hp => ?_, I.hok.kept kp, by rw [wipe_length]; exact I.len⟩
  · show Heap.Ns _ cenv.locals _
    rw [hL]
    exact Heap.Ns.keeps (Heap.Ns.new ..) fun b o e => pushCells_keeps _ _ _ _ e
  · obtain ⟨e2, hne⟩ := wipe_some e2
    have hfr : scope.names.lookup y = some .free ∧ (cenv.kindOf y = some .cell ∨ cenv.kindOf y = some .free) := by
      have key : ∀ k, cenv.scope.names.lookup y = some k → k = .local ∨ k = .cell ∨ k = .free → scope.names.lookup y = some .free ∧ (cenv.kindOf y = some .cell ∨ cenv.kindOf y = some .free) := fun k hk hk' => by
        have hk0 := hk
        rw [hsc] at hk
        obtain ⟨k', e, r⟩ := lookup_relS hk
        have no : ¬ (k' = .local ∨ k' = .cell) := fun hh => by
          rcases ok.own _ (PySem.mem_of_lookup e) hh with e' | e'
          · obtain ⟨p, hp, hpy⟩ := List.mem_map.mp e'
            have e3 := ok.ix p hp
            have : p.1 = y := hpy
            rw [this] at e3
            exact hne (List.mem_map.mpr ⟨p, hp, nodup_ix hN e3 e1⟩)
          · exact e' (List.mem_of_getElem? e1)
        rcases r with rfl | ⟨rfl, rfl⟩
        · rcases hk' with rfl | rfl | rfl
          · exact absurd (.inl rfl) no
          · exact absurd (.inr rfl) no
          · exact ⟨e, .inr hk0⟩
        · exact ⟨e, .inl hk0⟩
      have e3 : Vis cenv.scope y := e3
      rcases e3 with e3 | e3 | e3
      · exact key _ e3 (.inl rfl)
      · exact key _ e3 (.inr (.inl rfl))
      · exact key _ e3 (.inr (.inr rfl))
    obtain ⟨m, hn, hl⟩ := I.loc
    have hvis : Vis X.env.scope y := (ok.free _ (PySem.mem_of_lookup hfr.1) rfl).elim (fun k => .inr (.inl k)) (fun k => .inr (.inr k))
    obtain ⟨w, r, q⟩ := hl i y av e1 e2 hvis
    refine ⟨w, r, .inr ⟨hfr.2, ?_⟩⟩
    obtain ⟨c, h1, h2⟩ := look hfr.1
    rcases q with ⟨k, _⟩ | ⟨_, c', e', z⟩
    · have k : X.env.scope.names.lookup y = some .local := k
      rcases ok.free _ (PySem.mem_of_lookup hfr.1) rfl with k' | k' <;> rw [show X.env.scope.names.lookup y = _ from k'] at k <;> cases k
    · rw [h2] at e'; cases e'
      exact ⟨c, h1, z.keeps kp⟩
  · have e : cenv.cells.lookup y = some c := e
    rcases mem e with ⟨h1, _⟩ | ⟨_, z⟩
    · obtain ⟨w, z⟩ := I.cell y c h1
      exact ⟨w, z.keeps kp⟩
    · exact ⟨_, z⟩
  · show H cenv.locals = none
    rw [hL]; exact I.hok.fresh (Nat.le_refl _)
  · have e : cenv.cells.lookup y = some c := e
    rcases mem e with ⟨h1, h1b⟩ | ⟨h1, _⟩
    · rcases I.freeC y c h1 with fc | ⟨_, fc⟩
      · exact .inl fc
      · refine .inr ⟨?_, fc⟩
        show (scope.names.lookup y == some NameKind.cell) = false
        cases z : (scope.names.lookup y == some NameKind.cell) with
        | false => rfl
        | true =>
          exfalso
          have z : scope.names.lookup y = some .cell := by simpa using z
          have e2 : cenv.cells.lookup y = some c := e
          rw [hcl] at e2
          rcases cells_mem (PySem.mem_of_lookup e2) with hm | ⟨_, h2, _⟩
          · rcases cloFrom_mem hm with hm | ⟨h3, _⟩
            · cases hm
            · have q := ok.uniq _ h3
              rw [z] at q; cases q
          · rw [Heap.size_push] at h2
            exact absurd h1b (Nat.not_lt.mpr (Nat.le_of_succ_le h2))
    · exact .inl (I.hok.fresh (Nat.le_of_succ_le h1))
  · exact absurd (show p ∈ ([] : List (Addr × Obj)) ++ [] from hp) (by simp)

theorem app_ok {E : Value → Shared → Prop} {D : Addr} {xs : List V} {y : V} {v : Value} {Q : Value → Shared → Prop} (I : Inv X pins σ H s) (hD : H D = some (.lst xs)) (hz : xs.length < sizeLine) (r : RelV y v)
    (h : ∀ s', Inv X pins σ (upd H D (.lst (xs ++ [y]))) s' → Q .none s') : wpAny (model X.prog X.w) X.A (call (.builtin "list.append") [.ref D, v]) Q E s := by
  obtain ⟨hz', its, n, ri, e⟩ := I.hok D _ hD
  have hl := ri.length
  refine append_at (hsz := by rw [List.size_toArray]; omega) e fun h' sb ho' => ?_
  refine h { s with heap := h' } (I.write (t' := s.toks) (by rw [hD]; trivial) (.inl rfl) (fun b u hb q => (sb.2 b hb).trans q) ⟨_, ho'⟩ ⟨by rw [List.length_append]; exact hz, its ++ [v], n + 1, ri.append (.cons r .nil), ?_⟩)
  rw [ho']
  simp

structure PTs (X : Cx) (ifs : List Expr) (t : TT) : Prop where
  run : ∀ (pins : List (Addr × Obj)) (s : Shared) (σ : St) (H : Hp) (Q : Bool → Hp → Prop), Inv X pins σ H s → t σ H Q →
    wpAny (model X.prog X.w) X.A (forIn ifs true fun c r => if r = true then do let ok ← isTrue c X.env (eval c X.env); pure (ForInStep.yield ok) else pure (ForInStep.yield r)) (TP X pins σ Q) X.xe s
instance {X : Cx} {ifs : List Expr} {t : TT} : CoeFun (PTs X ifs t) (fun _ => ∀ (pins : List (Addr × Obj)) (s : Shared) (σ : St) (H : Hp) (Q : Bool → Hp → Prop), Inv X pins σ H s → t σ H Q →
    wpAny (model X.prog X.w) X.A (forIn ifs true fun c r => if r = true then do let ok ← isTrue c X.env (eval c X.env); pure (ForInStep.yield ok) else pure (ForInStep.yield r)) (TP X pins σ Q) X.xe s) := ⟨PTs.run⟩
def tYes : TT := fun _ H Q => Q true H
theorem pts_nil : PTs X [] tYes := ⟨fun _ _ _ H _ I h => wpAny_tests_nil ⟨H, I, h⟩⟩
theorem pts_one {c : Expr} {t : TT} (h : PT X c t) : PTs X [c] t := ⟨fun pins s σ H Q I hw => wpAny_tests_one (h pins s σ H Q I hw)⟩
end

theorem thnF {α : Type} {t : Sem α} {Q Q' : α → Shared → Prop} {M : Model} {A : Around} {E : Value → Shared → Prop} {s : Shared} (h : wpAny M A t Q (fun _ _ => False) s) (hQ : ∀ a s, Q a s → Q' a s) : wpAny M A t Q' E s := wpAny_mono h hQ fun _ _ z => False.elim z

theorem compLoop_any {prog : Program} {w : World} {A : Around} {R : Result → Shared → Prop} {s : Shared} {elt target iter : Expr} {ifs : List Expr} {scope : Scope} {pos : Pos} {it acc : Value} {env : Env} (I : Nat → Shared → Prop)
    (turn : ∀ n s, I n s → wpAny (model prog w) A (pyNext it) (fun r s₁ => match r with
      | none => R (.ok .next) s₁
      | some v => wpAny (model prog w) A (letOwnedTupleGo target it v) (fun _ s₁' => wpAny (model prog w) A (assign target env v) (fun _ s₂ =>
          wpAny (model prog w) A (forIn ifs true fun c r => if r = true then do let ok ← isTrue c env (eval c env); pure (ForInStep.yield ok) else pure (ForInStep.yield r)) (fun ok s₃ =>
            if ok = true then wpAny (model prog w) A (eval elt env) (fun x s₄ =>
              wpAny (model prog w) A (call (.builtin "list.append") [acc, x]) (fun _ s₅ => ∃ m, m < n ∧ I m s₅) (notedBy (model prog w) A env fun e s' => R (.error e) s') s₄) (notedBy (model prog w) A env fun e s' => R (.error e) s') s₃
            else ∃ m, m < n ∧ I m s₃) (notedBy (model prog w) A env fun e s' => R (.error e) s') s₂) (notedBy (model prog w) A env fun e s' => R (.error e) s') s₁') (notedBy (model prog w) A env fun e s' => R (.error e) s') s₁) (notedBy (model prog w) A env fun e s' => R (.error e) s') s)
    (n : Nat) (h : I n s) :
    codeAny (model prog w) A (.compLoop (.ListComp elt [⟨target, iter, ifs, 0⟩] scope pos) 0 it acc env) R s := by
  refine codeAny_loop rfl I (fun n s hI => ?_) n h
  show wpAny _ A ((compTurn (.ListComp elt [⟨target, iter, ifs, 0⟩] scope pos) 0 it acc env).onRaise (fun x => do noteFrame x env; theTreesLotGoes x)) _ _ s
  refine wpAny_noted ?_
  rw [compTurn_list]
  refine wpAny_bind (wpAny_standAt (wpAny_bind (wpAny_mono (turn n s hI) (fun r s₁ h₁ => ?_) fun _ _ h' => h')))
  cases r with
  | none => exact wpAny_pure h₁
  | some v =>
    refine wpAny_bind (wpAny_mono h₁ (fun _ s₁' h₁' => ?_) fun _ _ h' => h')
    refine wpAny_bind (wpAny_mono h₁' (fun _ s₂ h₂ => wpAny_bind (wpAny_mono h₂ (fun ok s₃ h₃ => ?_) fun _ _ h' => h')) fun _ _ h' => h')
    cases ok with
    | false => exact wpAny_pure ⟨rfl, h₃⟩
    | true =>
      exact wpAny_bind (wpAny_bind (wpAny_mono h₃ (fun x s₄ h₄ => wpAny_bind (wpAny_mono h₄ (fun _ s₅ h₅ => wpAny_pure (wpAny_pure ⟨rfl, h₅⟩)) fun _ _ h' => h')) fun _ _ h' => h'))

section
variable {X : Cx}
def tLc (wi : TI) (g : TG) (tt : TT) (te : TE) (vs : List Nat) : TE := fun σ H Q => wi σ H fun J H1 => ∀ D, H1 D = none → ∃ W : Nat → Nat → Hp → Prop, (∃ m, W 0 m (upd H1 D (.lst []))) ∧ ∀ i m H, W i m H →
  (J.stop i H ∧ Q (.ref D) H) ∨ (J.go i H ∧ ∃ Nx : Hp → Prop, (∀ H', Nx H' → ∃ m', m' < m ∧ W (i + 1) m' H') ∧ ∀ x H', J.yld i H x H' → g x (wipe σ vs) H' fun σ2 H2 => wipe σ2 vs = wipe σ vs ∧ tt σ2 H2 fun b H3 =>
    if b = true then te σ2 H3 fun y H4 => ∃ acc, H4 D = some (.lst acc) ∧ acc.length < sizeLine ∧ Nx (upd H4 D (.lst (acc ++ [y]))) else Nx H3)
theorem lc_core {pins : List (Addr × Obj)} {s : Shared} {σ : St} {H : Hp} {Q : VK} {elt tg iter : Expr} {ifs : List Expr} {scope : Scope} {own : List (Str × Nat)} {pos pos' : Pos} {wi : TI} {g : TG} {tt : TT} {te : TE} {use : Option (Value → Sem Unit)} {Qf : Value → Shared → Prop}
    (hc : X.calm = true) (hN : X.N.Nodup) (I : Inv X pins σ H s) (hi : PI X tg iter wi) (ok : BlkOk X.N X.env.scope scope own)
    (hg : ∀ (s : Shared) (H : Hp) (C : Addr) (cl : List (Str × Addr)) (fp : List Addr), PG (X.blk s H scope (compEnvC scope cl C X.env) fp) tg g) (ht : ∀ (s : Shared) (H : Hp) (C : Addr) (cl : List (Str × Addr)) (fp : List Addr), PTs (X.blk s H scope (compEnvC scope cl C X.env) fp) ifs tt)
    (he : ∀ (s : Shared) (H : Hp) (C : Addr) (cl : List (Str × Addr)) (fp : List Addr), cl = cellsFrom (C + 1) scope.names (cloFrom X.env.cells scope.names []) → PE (X.blk s H scope (compEnvC scope cl C X.env) fp) elt te) (hs : ∀ x, foldedSetIterable iter X.env x = pure x)
    (h : tLc wi g tt te (own.map (·.2)) σ H Q)
    (hRR : ∀ D C s' m H', Inv X pins σ H' s' → Q (.ref D) H' → s'.heap.Ns C m → FpOk X pins H' C → compPost (model X.prog X.w) X.A X.xe use Qf (.ref D) C (.ok .next) s') :
    wpAny (model X.prog X.w) X.A (comprehension (.ListComp elt [⟨tg, iter, ifs, 0⟩] scope pos) scope X.env pos' (newList []) false (eval iter X.env) use) Qf X.xe s := by
  have hfree : ∀ y ∈ scope.names, y.2 = .free → ∃ c, X.env.cells.lookup y.1 = some c := fun y hy e => by
    rcases ok.free y hy e with k | k
    · exact I.ok.has _ (.inl k)
    · exact I.ok.has _ (.inr k)
  refine wpAny_comprehension_free (use := use) rfl hs (closure_ok hfree) ok.kind (fun y hy e => by rw [ok.uniq y hy, e])
    (thn (hi pins s σ H _ I h) fun xv s1 hx => thn hx fun itv s2 h2 => ?_)
  obtain ⟨it, fp, tn, J, H2, e, I2, T, st2, f2, q⟩ := h2
  subst e
  refine wpAny_newObj_type (newEnv_comp ?_) (by show 0 ≤ sizeLine; decide)
  generalize hD : s2.heap.objs.size = D
  have hDn : H2 D = none := I2.hok.fresh (Nat.le_of_eq hD)
  obtain ⟨W, ⟨m0, w0⟩, turn⟩ := q D hDn
  -- the new list
  generalize hs3 : ({ s2 with heap := s2.heap.push { cls := .type "list", data := .seq ([] : List Value).toArray } } : Shared) = s3
  have I3 : Inv X pins σ (upd H2 D (.lst [])) s3 := by
    rw [← hs3]
    refine I2.laid (t' := s2.toks) (fun b o e => Heap.get?_push_of_some _ e) (Nat.le_of_eq hD) ⟨Nat.zero_le _, [], 0, .nil, ?_⟩
    rw [← hD]
    exact Heap.get?_push_size _ rfl
  have h3 : s3.heap = s2.heap.push { cls := .type "list", data := .seq ([] : List Value).toArray } := by rw [← hs3]
  have sz : ∀ b ∈ fp, b < s2.heap.objs.size := fun b hb => by
    obtain ⟨o, e, _⟩ := T.obj _ _ st2 b hb
    exact Heap.lt_size e
  have f3 : ∀ b ∈ fp, FpOk X pins (upd H2 D (.lst [])) b ∧ b < s3.heap.objs.size := fun b hb => by
    have hlt := sz b hb
    refine ⟨⟨?_, (f2 b hb).2⟩, by rw [h3, Heap.size_push]; exact Nat.lt_succ_of_lt hlt⟩
    rw [upd_ne (by rw [← hD]; exact Nat.ne_of_lt hlt)]
    exact (f2 b hb).1
  have st3 : tn 0 s3.heap := T.keep _ _ _ st2 fun b _ o e => by rw [h3]; exact Heap.get?_push_of_some _ e
  have I4 := block_start I3 ok hN f3
  have pg := hg s3 (upd H2 D (.lst [])) s3.heap.objs.size (cellsFrom (s3.heap.objs.size + 1) scope.names (cloFrom X.env.cells scope.names [])) fp
  have pt := ht s3 (upd H2 D (.lst [])) s3.heap.objs.size (cellsFrom (s3.heap.objs.size + 1) scope.names (cloFrom X.env.cells scope.names [])) fp
  have pe := he s3 (upd H2 D (.lst [])) s3.heap.objs.size (cellsFrom (s3.heap.objs.size + 1) scope.names (cloFrom X.env.cells scope.names [])) fp rfl
  show codeAny _ _ (.compStart (.ListComp elt [⟨tg, iter, ifs, 0⟩] scope pos) 0 (.ref it) (.ref D) (compEnvC scope (cellsFrom (s3.heap.objs.size + 1) scope.names (cloFrom X.env.cells scope.names [])) s3.heap.objs.size X.env)) (compPost (model X.prog X.w) X.A X.xe use Qf (.ref D) s3.heap.objs.size) { s3 with heap := pushCells (s3.heap.push { cls := .type "dict", data := .dict #[] }) scope.names }
  have nfp : ∀ b ∈ fp, (upd H2 D (.lst [])) b = none := fun b hb => (f3 b hb).1.1
  generalize hce : compEnvC scope (cellsFrom (s3.heap.objs.size + 1) scope.names (cloFrom X.env.cells scope.names [])) s3.heap.objs.size X.env = ce at I4 pg pt pe ⊢
  have cL : ce.locals = s3.heap.objs.size := by subst hce; rfl
  generalize hH3 : upd H2 D (.lst []) = H3 at I3 I4 pg pt pe w0 nfp f3
  generalize hs4 : ({ s3 with heap := pushCells (s3.heap.push { cls := .type "dict", data := .dict #[] }) scope.names } : Shared) = s4 at I4 ⊢
  have st4 : tn 0 s4.heap := T.keep _ _ _ st3 fun b _ o e => by rw [← hs4]; exact pushCells_keeps _ _ _ _ (Heap.get?_push_of_some _ e)
  have stat : ∀ {σ' : St} {H' : Hp} {s' : Shared}, Inv (X.blk s3 H3 scope ce fp) [] σ' H' s' → (∀ b ∈ fp, H' b = none) → ∀ b ∈ fp, FpOk (X.blk s3 H3 scope ce fp) [] H' b := fun {σ' H' s'} I' hn b hb =>
    ⟨hn b hb, (I'.ok.exf b hb).1, I'.ok.exfs b hb, .inl hb, fun x c e => (I'.ok.exf b hb).2 x c e, fun p hp => absurd (show p ∈ ([] : List (Addr × Obj)) ++ [] from hp) (by simp)⟩
  have loop : codeAny (model X.prog X.w) X.A (.compLoop (.ListComp elt [⟨tg, iter, ifs, 0⟩] scope pos) 0 (.ref it) (.ref D) ce) (compPost (model X.prog X.w) X.A X.xe use Qf (.ref D) s3.heap.objs.size) s4 := by
    refine compLoop_any (fun n s' => ∃ i H', Inv (X.blk s3 H3 scope ce fp) [] (wipe σ (own.map (·.2))) H' s' ∧ tn i s'.heap ∧ (∀ b ∈ fp, H' b = none) ∧ W i n H') ?_ m0 ⟨0, H3, I4, st4, nfp, w0⟩
    rintro n s5 ⟨i, H5, I5, st5, n5, w5⟩
    rcases turn i n H5 w5 with ⟨stop, qq⟩ | ⟨go, Nx, hNx, step⟩
    · have td := T.done (X.blk s3 H3 scope ce fp) rfl rfl rfl hc i [] s5 _ H5 (fun _ _ => False) I5 (stat I5 n5) st5 stop
      refine thnF td fun r s6 ⟨hr, I6⟩ => ?_
      subst hr
      -- back in the def's context
      have I7 : Inv X pins σ H5 s6 := I3.call' (ch := fp) I6.os I6.base I6.hok I6.bare fun b hb => ⟨(f3 b hb).1.2.2.2.1, (f3 b hb).1.2.1, (f3 b hb).1.2.2.2.2.1, (f3 b hb).1.2.2.2.2.2⟩
      have nC : H5 s3.heap.objs.size = none := by
        have z : H5 ce.locals = none := I6.free
        rw [cL] at z
        exact z
      obtain ⟨m, hn, _⟩ := I6.loc
      have hn : s6.heap.Ns ce.locals m := hn
      rw [cL] at hn
      exact hRR D s3.heap.objs.size s6 m H5 I7 qq hn (I3.fpOk (Nat.le_refl _) nC)
    · have ti := T.item (X.blk s3 H3 scope ce fp) rfl rfl rfl hc i [] s5 _ H5 (fun _ _ => False) I5 (stat I5 n5) st5 go
      refine thnF ti fun r s6 ⟨u, hr, h6⟩ => ?_
      subst hr
      refine thnF h6 fun _ s7 ⟨x, H7, I7, r7, y7, st7, n7⟩ => ?_
      have I7' := I7.pinned (stat I7 n7) (T.obj _ _ st7)
      refine thnF (pg _ s7 _ H7 x u _ I7' r7 (step x H7 y7)) fun _ s8 ⟨σ8, H8, I8, hw8, q8⟩ => ?_
      refine thnF (pt _ s8 σ8 H8 _ I8 q8) fun b s9 ⟨H9, I9, q9⟩ => ?_
      -- the turn's end
      have fin : ∀ {s' : Shared} {H' : Hp}, Inv (X.blk s3 H3 scope ce fp) ([] ++ pinsAt fp s7.heap) σ8 H' s' → Nx H' → ∃ m, m < n ∧ ∃ i H', Inv (X.blk s3 H3 scope ce fp) [] (wipe σ (own.map (·.2))) H' s' ∧ tn i s'.heap ∧ (∀ b ∈ fp, H' b = none) ∧ W i m H' := fun {s' H'} I' nx => by
        obtain ⟨m', hm, w'⟩ := hNx H' nx
        have pin' : ∀ b ∈ fp, ∀ o, s7.heap.get? b = some o → s'.heap.get? b = some o ∧ H' b = none := fun b hb o e =>
          let z := I'.pin (b, o) (List.mem_append_right _ (List.mem_append_right _ (mem_pinsAt hb e)))
          ⟨z.1, z.2.1⟩
        have hl : (wipe σ (own.map (·.2))).length = σ8.length := by rw [← hw8, wipe_length]
        refine ⟨m', hm, i + 1, H', (I'.unpinned (pins := [])).weak hl (fun j v e => ?_), T.keep _ _ _ st7 fun b hb o e => (pin' b hb o e).1, fun b hb => ?_, w'⟩
        · rw [← hw8] at e
          exact (wipe_some e).1
        · obtain ⟨o, e, _⟩ := T.obj _ _ st7 b hb
          exact (pin' b hb o e).2
      cases b with
      | false =>
        simp only [Bool.false_eq_true, if_false] at q9 ⊢
        exact fin I9 q9
      | true =>
        simp only [if_true] at q9 ⊢
        refine thnF (pe _ s9 σ8 H9 _ I9 q9) fun z s10 ⟨yv, H10, I10, r10, acc, hD10, hz10, nx⟩ => ?_
        exact app_ok (X := X.blk s3 H3 scope ce fp) I10 hD10 hz10 r10 fun s11 I11 => fin I11 nx
  exact codeAny_compStart_list loop (T.self X.A 0 _ _ _ st4 loop)
theorem pe_lc {elt tg iter : Expr} {ifs : List Expr} {scope : Scope} {own : List (Str × Nat)} {pos : Pos} {wi : TI} {g : TG} {tt : TT} {te : TE} (hc : X.calm = true) (hN : X.N.Nodup) (hi : PI X tg iter wi) (ok : BlkOk X.N X.env.scope scope own)
    (hg : ∀ (s : Shared) (H : Hp) (C : Addr) (cl : List (Str × Addr)) (fp : List Addr), PG (X.blk s H scope (compEnvC scope cl C X.env) fp) tg g) (ht : ∀ (s : Shared) (H : Hp) (C : Addr) (cl : List (Str × Addr)) (fp : List Addr), PTs (X.blk s H scope (compEnvC scope cl C X.env) fp) ifs tt)
    (he : ∀ (s : Shared) (H : Hp) (C : Addr) (cl : List (Str × Addr)) (fp : List Addr), PE (X.blk s H scope (compEnvC scope cl C X.env) fp) elt te) (hs : ∀ x, foldedSetIterable iter X.env x = pure x := by intro _; rfl) :
    PE X (.ListComp elt [⟨tg, iter, ifs, 0⟩] scope pos) (tLc wi g tt te (own.map (·.2))) := by
  refine ⟨?_⟩
  intro pins s σ H Q I h
  rw [eval_ListComp]
  refine lc_core hc hN I hi ok hg ht (fun s H C cl fp _ => he s H C cl fp) hs h fun D C s' m H' I' q hn f => ⟨m, hn, fun h'' sb => ?_⟩
  obtain ⟨f0, f1, f2, f3, f4, f5⟩ := f
  exact ⟨.ref D, H', I'.turned (t' := s'.toks) (fun b o hb e => (sb.2 b hb).trans e) f0 f1 f3 f4 f5, rfl, q⟩
theorem ps_setLc {i : Nat} {y : Str} {py : Pos} {elt tg iter : Expr} {ifs : List Expr} {scope : Scope} {own : List (Str × Nat)} {pos spos : Pos} {wi : TI} {g : TG} {tt : TT} {te : TE} (hc : X.calm = true) (hN : X.N.Nodup) (hy : X.N[i]? = some y) (hyl : X.env.scope.names.lookup y = some .local)
    (hsw : swapsWith (.ListComp elt [⟨tg, iter, ifs, 0⟩] scope pos) (some (.Name y py)) spos.line X.env = pure true) (hi : PI X tg iter wi) (ok : BlkOk X.N X.env.scope scope own)
    (hg : ∀ (s : Shared) (H : Hp) (C : Addr) (cl : List (Str × Addr)) (fp : List Addr), PG (X.blk s H scope (compEnvC scope cl C X.env) fp) tg g) (ht : ∀ (s : Shared) (H : Hp) (C : Addr) (cl : List (Str × Addr)) (fp : List Addr), PTs (X.blk s H scope (compEnvC scope cl C X.env) fp) ifs tt)
    (he : ∀ (s : Shared) (H : Hp) (C : Addr) (cl : List (Str × Addr)) (fp : List Addr), PE (X.blk s H scope (compEnvC scope cl C X.env) fp) elt te) (hs : ∀ x, foldedSetIterable iter X.env x = pure x := by intro _; rfl) :
    PS X (.Assign [.Name y py] (.ListComp elt [⟨tg, iter, ifs, 0⟩] scope pos) spos) (tAsg (tLc wi g tt te (own.map (·.2))) (gName i)) := by
  refine ⟨?_⟩
  intro pins s σ H D I h
  rw [exec_Assign_Name_used _ _ _ _ hsw]
  refine wpAny_bind (wpAny_standAt (wpAny_bind ?_))
  show wpAny _ X.A (do let _ ← comprehension (.ListComp elt [⟨tg, iter, ifs, 0⟩] scope pos) scope X.env (firstIterPos [⟨tg, iter, ifs, 0⟩] pos) (newList []) false (eval iter X.env) (some (assign (.Name y py) X.env))) _ _ s
  have h : tLc wi g tt te (own.map (·.2)) σ H (fun x H1 => gName i x σ H1 D.nx) := h
  refine wpAny_bind (thn (lc_core (Qf := fun _ s' => SP X pins D .next s') hc hN I hi ok hg ht (fun s H C cl fp _ => he s H C cl fp) hs h fun L C s' m H' I' q hn f => ?_) fun _ s' hq => wpAny_pure (wpAny_pure hq))
  show wpAny _ _ (assign (.Name y py) X.env (.ref L)) _ _ _
  refine wpAny_assign_Name (store_ok2 (v := V.ref L) I' hN hy (.inl hyl) rfl (fun s2 I2 ⟨a, sb, ha⟩ => ?_) (.inr hyl))
  obtain ⟨f0, f1, f2, f3, f4, f5⟩ := f
  have haC : C ≠ a := by
    rcases ha with z | z
    · rw [z]; exact f1
    · exact fun e => f4 y a z e.symm
  refine ⟨m, hn.sameBut sb haC, fun h3 sb3 => ?_⟩
  exact ⟨_, H', I2.turned (t' := s2.toks) (fun b o hb e => (sb3.2 b hb).trans e) f0 f1 f3 f4 f5, q⟩
theorem sw_true {elt : Expr} {gs : List Comprehension} {scope : Scope} {pos py : Pos} {y : Str} {l : Nat} {env : Env} (hk : env.scope.kind = .function) (hy : env.scope.names.lookup y = some .local) (hl : (py.line == pos.line) = true)
    (ha : (scope.names.any fun (n, k) => n == y && (k == .local || k == .cell)) = false) : swapsWith (.ListComp elt gs scope pos) (some (.Name y py)) l env = pure true := by
  have ky : env.kindOf y = some .local := hy
  have hb : env.blockKind = .function := by unfold Env.blockKind; rw [hk]; rfl
  unfold swapsWith
  simp only [hb, ky, ha, Expr.pos, hl]
  rfl
end

theorem lc_range {lo : Int} {n : Nat} {g : TG} {tt : TT} {te : TE} {vs : List Nat} {σ : St} {H1 : Hp} {D : Addr} {Qd : Hp → Prop} (Pv : Nat → Hp → Prop) (h0 : Pv 0 (upd H1 D (.lst [])))
    (hs : ∀ i H, i < n → Pv i H → g (.int (lo + i)) (wipe σ vs) H fun σ2 H2 => wipe σ2 vs = wipe σ vs ∧ tt σ2 H2 fun b H3 =>
      if b = true then te σ2 H3 fun y H4 => ∃ acc, H4 D = some (.lst acc) ∧ acc.length < sizeLine ∧ Pv (i + 1) (upd H4 D (.lst (acc ++ [y]))) else Pv (i + 1) H3) (hd : ∀ H, Pv n H → Qd H) :
    ∃ W : Nat → Nat → Hp → Prop, (∃ m, W 0 m (upd H1 D (.lst []))) ∧ ∀ i m H, W i m H →
      ((Itr lo n).stop i H ∧ Qd H) ∨ ((Itr lo n).go i H ∧ ∃ Nx : Hp → Prop, (∀ H', Nx H' → ∃ m', m' < m ∧ W (i + 1) m' H') ∧ ∀ x H', (Itr lo n).yld i H x H' → g x (wipe σ vs) H' fun σ2 H2 => wipe σ2 vs = wipe σ vs ∧ tt σ2 H2 fun b H3 =>
        if b = true then te σ2 H3 fun y H4 => ∃ acc, H4 D = some (.lst acc) ∧ acc.length < sizeLine ∧ Nx (upd H4 D (.lst (acc ++ [y]))) else Nx H3) := by
  refine ⟨fun i m H => m = n - i ∧ i ≤ n ∧ Pv i H, ⟨n, by simp, Nat.zero_le _, h0⟩, ?_⟩
  rintro i m H ⟨rfl, hi, p⟩
  by_cases hlt : i < n
  · refine .inr ⟨hlt, Pv (i + 1), fun H' p' => ⟨n - (i + 1), by omega, rfl, hlt, p'⟩, fun x H' y => ?_⟩
    obtain ⟨e, y⟩ := y
    subst e y
    exact hs i _ hlt p
  · have e : i = n := by omega
    subst e
    exact .inl ⟨Nat.le_refl _, hd H p⟩
theorem lc_list {K : PySem.W.Frag} {a : Addr} {xs : List V} {g : TG} {tt : TT} {te : TE} {vs : List Nat} {σ : St} {H1 : Hp} {D : Addr} {Qd : Hp → Prop} (Pv : Nat → Hp → Prop) (h0 : Pv 0 (upd H1 D (.lst []))) (hl : ∀ i H, i ≤ xs.length → Pv i H → SqL K H a xs)
    (hs : ∀ i x H, xs[i]? = some x → Pv i H → g x (wipe σ vs) H fun σ2 H2 => wipe σ2 vs = wipe σ vs ∧ tt σ2 H2 fun b H3 =>
      if b = true then te σ2 H3 fun y H4 => ∃ acc, H4 D = some (.lst acc) ∧ acc.length < sizeLine ∧ Pv (i + 1) (upd H4 D (.lst (acc ++ [y]))) else Pv (i + 1) H3) (hd : ∀ H, Pv xs.length H → Qd H) :
    ∃ W : Nat → Nat → Hp → Prop, (∃ m, W 0 m (upd H1 D (.lst []))) ∧ ∀ i m H, W i m H →
      ((Itl K a).stop i H ∧ Qd H) ∨ ((Itl K a).go i H ∧ ∃ Nx : Hp → Prop, (∀ H', Nx H' → ∃ m', m' < m ∧ W (i + 1) m' H') ∧ ∀ x H', (Itl K a).yld i H x H' → g x (wipe σ vs) H' fun σ2 H2 => wipe σ2 vs = wipe σ vs ∧ tt σ2 H2 fun b H3 =>
        if b = true then te σ2 H3 fun y H4 => ∃ acc, H4 D = some (.lst acc) ∧ acc.length < sizeLine ∧ Nx (upd H4 D (.lst (acc ++ [y]))) else Nx H3) := by
  refine ⟨fun i m H => m = xs.length - i ∧ i ≤ xs.length ∧ Pv i H, ⟨xs.length, by simp, Nat.zero_le _, h0⟩, ?_⟩
  rintro i m H ⟨rfl, hi, p⟩
  have q := hl i H hi p
  by_cases hlt : i < xs.length
  · refine .inr ⟨⟨xs, xs[i], q, by simp [hlt]⟩, Pv (i + 1), fun H' p' => ⟨xs.length - (i + 1), by omega, rfl, hlt, p'⟩, fun x H' y => ?_⟩
    obtain ⟨e, y⟩ := y
    subst e
    exact hs i x _ (y xs q) p
  · have e : i = xs.length := by omega
    subst e
    exact .inl ⟨⟨xs, q, Nat.le_refl _⟩, hd H p⟩
theorem lc_tup {K : PySem.W.Frag} {a : Addr} {xs : List V} {g : TG} {tt : TT} {te : TE} {vs : List Nat} {σ : St} {H1 : Hp} {D : Addr} {Qd : Hp → Prop} (Pv : Nat → Hp → Prop) (h0 : Pv 0 (upd H1 D (.lst []))) (hl : ∀ i H, i ≤ xs.length → Pv i H → SqT K H a xs)
    (hs : ∀ i x H, xs[i]? = some x → Pv i H → g x (wipe σ vs) H fun σ2 H2 => wipe σ2 vs = wipe σ vs ∧ tt σ2 H2 fun b H3 =>
      if b = true then te σ2 H3 fun y H4 => ∃ acc, H4 D = some (.lst acc) ∧ acc.length < sizeLine ∧ Pv (i + 1) (upd H4 D (.lst (acc ++ [y]))) else Pv (i + 1) H3) (hd : ∀ H, Pv xs.length H → Qd H) :
    ∃ W : Nat → Nat → Hp → Prop, (∃ m, W 0 m (upd H1 D (.lst []))) ∧ ∀ i m H, W i m H →
      ((Itt K a).stop i H ∧ Qd H) ∨ ((Itt K a).go i H ∧ ∃ Nx : Hp → Prop, (∀ H', Nx H' → ∃ m', m' < m ∧ W (i + 1) m' H') ∧ ∀ x H', (Itt K a).yld i H x H' → g x (wipe σ vs) H' fun σ2 H2 => wipe σ2 vs = wipe σ vs ∧ tt σ2 H2 fun b H3 =>
        if b = true then te σ2 H3 fun y H4 => ∃ acc, H4 D = some (.lst acc) ∧ acc.length < sizeLine ∧ Nx (upd H4 D (.lst (acc ++ [y]))) else Nx H3) := by
  refine ⟨fun i m H => m = xs.length - i ∧ i ≤ xs.length ∧ Pv i H, ⟨xs.length, by simp, Nat.zero_le _, h0⟩, ?_⟩
  rintro i m H ⟨rfl, hi, p⟩
  have q := hl i H hi p
  by_cases hlt : i < xs.length
  · refine .inr ⟨⟨xs, xs[i], q, by simp [hlt]⟩, Pv (i + 1), fun H' p' => ⟨xs.length - (i + 1), by omega, rfl, hlt, p'⟩, fun x H' y => ?_⟩
    obtain ⟨e, y⟩ := y
    subst e
    exact hs i x _ (y xs q) p
  · have e : i = xs.length := by omega
    subst e
    exact .inl ⟨⟨xs, q, Nat.le_refl _⟩, hd H p⟩
def blkC (N : List Str) (sc scope : Scope) (own : List (Str × Nat)) : Bool :=
  (match scope.kind with | .function => true | _ => false) && (scope.names.all fun y => decide (scope.names.lookup y.1 = some y.2)) && (own.all fun p => decide (N[p.2]? = some p.1)) &&
    (scope.names.all fun y => match y.2 with
      | .free => (match sc.names.lookup y.1 with | some .cell => true | some .free => true | _ => false)
      | .local => decide (y.1 ∈ own.map (·.1)) || decide (y.1 ∉ N)
      | .cell => decide (y.1 ∈ own.map (·.1)) || decide (y.1 ∉ N)
      | _ => true)
theorem blkOk_by {N : List Str} {sc scope : Scope} {own : List (Str × Nat)} (h : blkC N sc scope own = true) : BlkOk N sc scope own := by
  unfold blkC at h
  simp only [Bool.and_eq_true, List.all_eq_true, decide_eq_true_eq] at h
  obtain ⟨⟨⟨h1, h2⟩, h3⟩, h4⟩ := h
  refine ⟨?_, h2, h3, fun y hy e => ?_, fun y hy e => ?_⟩
  · split at h1
    · assumption
    · cases h1
  · have q := h4 y hy
    simp only [e] at q
    split at q <;> first | exact .inl (by assumption) | exact .inr (by assumption) | cases q
  · have q := h4 y hy
    rcases e with e | e <;> (simp only [e, Bool.or_eq_true, decide_eq_true_eq] at q; exact q)
end L2

namespace L2
open PySem PySem.Spec PyProof.Rows

section
variable {prog : Program} {w : World} {A : Around} {R : Result → Shared → Prop} {s : Shared} {elt t0 i0 t1 i1 : Expr} {ifs0 ifs1 : List Expr} {scope : Scope} {pos : Pos} {it acc : Value} {env : Env}
end

section
variable {X : Cx}
end
end L2

namespace L2
open PySem PySem.Spec PyProof.Rows

section
variable {κ : Type} [DecidableEq κ]
def valV (kvs : List (κ × V)) (k : κ) : Option V := (kvs.find? fun kv => decide (kv.1 = k)).map (·.2)
def putK (kvs : List (κ × V)) (k : κ) (v : V) : List (κ × V) :=
  if (kvs.any fun kv => decide (kv.1 = k)) = true then kvs.map (fun kv => if kv.1 = k then (kv.1, v) else kv) else kvs ++ [(k, v)]
def dropK (kvs : List (κ × V)) (k : κ) : List (κ × V) := kvs.filter fun kv => decide (kv.1 ≠ k)

theorem valV_nil {k : κ} : valV ([] : List (κ × V)) k = none := rfl
theorem valV_pos {p : κ × V} {r : List (κ × V)} {k : κ} (e : p.1 = k) : valV (p :: r) k = some p.2 := by simp [valV, List.find?_cons, e]
theorem valV_neg {p : κ × V} {r : List (κ × V)} {k : κ} (e : ¬ p.1 = k) : valV (p :: r) k = valV r k := by simp [valV, List.find?_cons, e]
theorem valV_any (k : κ) : ∀ kvs : List (κ × V), (kvs.any fun kv => decide (kv.1 = k)) = (valV kvs k).isSome
  | [] => rfl
  | p :: r => by
    rw [List.any_cons]
    by_cases e : p.1 = k
    · simp only [valV_pos e, decide_eq_true e, Bool.true_or, Option.isSome_some]
    · rw [valV_neg e, decide_eq_false e, Bool.false_or]; exact valV_any k r
theorem length_putK (kvs : List (κ × V)) (k : κ) (v : V) : (putK kvs k v).length ≤ kvs.length + 1 := by
  unfold putK
  split
  · rw [List.length_map]; omega
  · rw [List.length_append, List.length_cons, List.length_nil]; omega
theorem putK_new {kvs : List (κ × V)} {k : κ} (v : V) (h : valV kvs k = none) : putK kvs k v = kvs ++ [(k, v)] := by
  unfold putK
  rw [valV_any, h]
  exact if_neg (by decide)

theorem RelO.isSome_eq {o : Option V} {u : Option Value} (r : RelO o u) : o.isSome = u.isSome := by
  cases o with
  | none => cases u with
    | none => rfl
    | some _ => exact (show False from r).elim
  | some _ => cases u with
    | none => exact (show False from r).elim
    | some _ => rfl
theorem RelO.getD {o : Option V} {u : Option Value} {d : V} {d' : Value} (r : RelO o u) (rd : RelV d d') : RelV (o.getD d) (u.getD d') := by
  cases o with
  | none => cases u with
    | none => exact rd
    | some _ => exact (show False from r).elim
  | some _ => cases u with
    | none => exact (show False from r).elim
    | some _ => exact r

theorem KV.val {kvs : List (κ × V)} {vs : List (κ × Value)} (r : KV kvs vs) (k : κ) : RelO (valV kvs k) (valueAt vs k) := by
  unfold KV at r
  induction r with
  | nil => exact True.intro
  | @cons p q ps qs h t ih =>
    obtain ⟨h1, h2⟩ := h
    by_cases e : p.1 = k
    · have e' : q.1 = k := h1.symm.trans e
      have b : valueAt (q :: qs) k = some q.2 := by simp [valueAt, List.find?_cons, e']
      rw [valV_pos e, b]; exact h2
    · have e' : ¬ q.1 = k := fun z => e (h1.trans z)
      have b : valueAt (q :: qs) k = valueAt qs k := by simp [valueAt, List.find?_cons, e']
      rw [valV_neg e, b]; exact ih
theorem KV.any {kvs : List (κ × V)} {vs : List (κ × Value)} (r : KV kvs vs) (k : κ) : (kvs.any fun kv => decide (kv.1 = k)) = vs.any fun kv => decide (kv.1 = k) := by
  unfold KV at r
  induction r with
  | nil => rfl
  | cons h t ih => rw [List.any_cons, List.any_cons, ih, h.1]
theorem KV.repl {kvs : List (κ × V)} {vs : List (κ × Value)} (r : KV kvs vs) (k : κ) {y : V} {u : Value} (ry : RelV y u) :
    KV (kvs.map fun kv => if kv.1 = k then (kv.1, y) else kv) (vs.map fun kv => if kv.1 = k then (kv.1, u) else kv) := by
  unfold KV at r ⊢
  induction r with
  | nil => exact .nil
  | @cons p q ps qs h t ih =>
    rw [List.map_cons, List.map_cons]
    refine .cons ?_ ih
    obtain ⟨h1, h2⟩ := h
    by_cases e : p.1 = k
    · rw [if_pos e, if_pos (h1.symm.trans e)]; exact ⟨h1, ry⟩
    · rw [if_neg e, if_neg (fun z => e (h1.trans z))]; exact ⟨h1, h2⟩
theorem KV.put {kvs : List (κ × V)} {vs : List (κ × Value)} (r : KV kvs vs) (k : κ) {y : V} {u : Value} (ry : RelV y u) : KV (putK kvs k y) (stored vs k u) := by
  unfold putK stored
  rw [r.any k]
  by_cases e : (vs.any fun kv => decide (kv.1 = k)) = true
  · rw [if_pos e, if_pos e]; exact r.repl k ry
  · rw [if_neg e, if_neg e]; exact Paired.snoc r ⟨rfl, ry⟩
theorem KV.drop {kvs : List (κ × V)} {vs : List (κ × Value)} (r : KV kvs vs) (k : κ) : KV (dropK kvs k) (without vs k) := by
  unfold KV at r ⊢
  unfold dropK without
  induction r with
  | nil => exact .nil
  | @cons p q ps qs h t ih =>
    obtain ⟨h1, h2⟩ := h
    rw [List.filter_cons, List.filter_cons]
    by_cases e : p.1 = k
    · have a : ¬ decide (p.1 ≠ k) = true := by simp [e]
      have b : ¬ decide (q.1 ≠ k) = true := by simp [h1.symm.trans e]
      rw [if_neg a, if_neg b]; exact ih
    · have e' : ¬ q.1 = k := fun z => e (h1.trans z)
      have a : decide (p.1 ≠ k) = true := by simp [e]
      have b : decide (q.1 ≠ k) = true := by simp [e']
      rw [if_pos a, if_pos b]; exact .cons ⟨h1, h2⟩ ih
theorem KV.keys {kvs : List (κ × V)} {vs : List (κ × Value)} (r : KV kvs vs) : kvs.map (·.1) = vs.map (·.1) := by
  unfold KV at r
  induction r with
  | nil => rfl
  | cons h t ih => rw [List.map_cons, List.map_cons, ih, h.1]
theorem KV.length {kvs : List (κ × V)} {vs : List (κ × Value)} (r : KV kvs vs) : kvs.length = vs.length := Paired.length r
end


theorem kV_is {P : Program} {w : World} {k : Key} {u : Value} (r : RelV (kV k) u) : (mixKind P w).is k u = true := by
  cases k with
  | inl i => obtain ⟨t, e⟩ := (show ∃ t, u = Value.int i t from r); subst e; exact mixKind_int P w i t
  | inr x => obtain ⟨t, e⟩ := (show ∃ t, u = Value.str x t from r); subst e; exact mixKind_str P w x t
theorem items_are {P : Program} {w : World} : ∀ {ks : List Key} {us : List Value}, Vals (ks.map kV) us → ItemsAre (mixKind P w) ks us
  | [], _, r => by rw [List.map_nil] at r; cases r; exact .nil
  | k :: ks, _, r => by
    rw [List.map_cons] at r
    cases r with
    | cons h t => exact .cons (kV_is h) (items_are t)

abbrev KT (H : Hp) : List (List Key × V) → List (List Key × Addr × Value) → Prop := Paired fun p q => p.1 = q.1 ∧ H q.2.1 = some (.tup (p.1.map kV)) ∧ RelV p.2 q.2.2
theorem KT.val {H : Hp} {kvs : List (List Key × V)} {xs : List (List Key × Addr × Value)} (r : KT H kvs xs) (k : List Key) : RelO (valV kvs k) ((atKey xs k).map (·.2)) := by
  induction r with
  | nil => exact True.intro
  | @cons p q ps qs h t ih =>
    obtain ⟨h1, _, h2⟩ := h
    by_cases e : p.1 = k
    · have e' : q.1 = k := h1.symm.trans e
      have b : atKey (q :: qs) k = some q.2 := by simp [atKey, List.find?_cons, e']
      rw [valV_pos e, b]; exact h2
    · have e' : ¬ q.1 = k := fun z => e (h1.trans z)
      have b : atKey (q :: qs) k = atKey qs k := by simp [atKey, List.find?_cons, e']
      rw [valV_neg e, b]; exact ih
theorem KT.repl {H : Hp} {kvs : List (List Key × V)} {xs : List (List Key × Addr × Value)} (r : KT H kvs xs) (k : List Key) {y : V} {u : Value} (ry : RelV y u) :
    KT H (kvs.map fun kv => if kv.1 = k then (kv.1, y) else kv) (xs.map (putAt k u)) := by
  induction r with
  | nil => exact .nil
  | @cons p q ps qs h t ih =>
    rw [List.map_cons, List.map_cons]
    refine .cons ?_ ih
    obtain ⟨h1, h2, h3⟩ := h
    unfold putAt
    by_cases e : p.1 = k
    · rw [if_pos e, if_pos (h1.symm.trans e)]; exact ⟨h1, h2, ry⟩
    · rw [if_neg e, if_neg (fun z => e (h1.trans z))]; exact ⟨h1, h2, h3⟩
theorem KT.put {H : Hp} {kvs : List (List Key × V)} {xs : List (List Key × Addr × Value)} (r : KT H kvs xs) (k : List Key) {b : Addr} {y : V} {u : Value} (hb : H b = some (.tup (k.map kV))) (ry : RelV y u) :
    KT H (putK kvs k y) (storedH xs k b u) := by
  have e : (kvs.any fun kv => decide (kv.1 = k)) = (atKey xs k).isSome := by
    rw [valV_any, (r.val k).isSome_eq, Option.isSome_map]
  unfold putK storedH
  rw [e]
  by_cases q : (atKey xs k).isSome = true
  · rw [if_pos q, if_pos q]; exact r.repl k ry
  · rw [if_neg q, if_neg q]; exact Paired.snoc r ⟨rfl, hb, ry⟩
theorem KT.keeps {H H' : Hp} {kvs : List (List Key × V)} {xs : List (List Key × Addr × Value)} (r : KT H kvs xs) (ht : ∀ b ys, H b = some (.tup ys) → H' b = some (.tup ys)) : KT H' kvs xs :=
  Paired.mapP r fun _ _ z => ⟨z.1, ht _ _ z.2.1, z.2.2⟩

section
variable {P : Program} {w : World} {H : Hp} {h : Heap} {a : Addr}
theorem rd_of {u : HO} (ok : HOk P w H h) (e : Rd H a u) : ObjOk P w H h a u := e.ok ok
theorem dk_rd {kvs : List (Key × V)} (ok : HOk P w H h) (e : Rd H a (.dK kvs)) : kvs.length ≤ sizeLine ∧ (a == sysModules) = false ∧ ∃ vs, KV kvs vs ∧ h.DictOf (mixKind P w) a vs :=
  show ObjOk P w H h a (.dK kvs) from rd_of ok e
theorem dk_of {kvs : List (Key × V)} (ok : HOk P w H h) (e : H a = some (.dK kvs)) : kvs.length ≤ sizeLine ∧ (a == sysModules) = false ∧ ∃ vs, KV kvs vs ∧ h.DictOf (mixKind P w) a vs := dk_rd ok (.inl e)
theorem key_of {ks : List Key} (ok : HOk P w H h) (e : H a = some (.tup (ks.map kV))) : (tupleKind (mixKind P w)).is h ks a := by
  obtain ⟨_, its, r, o, h1, h2, n, h3⟩ := (show ObjOk P w H h a (.tup (ks.map kV)) from ok a _ e)
  exact ⟨o, its.toArray, n, h1, h2, h3, by simpa using items_are r⟩
theorem dt_rd {kvs : List (List Key × V)} (ok : HOk P w H h) (e : Rd H a (.dT kvs)) : kvs.length ≤ sizeLine ∧ (a == sysModules) = false ∧
    ∃ xs, KT H kvs xs ∧ h.DictOfH (tupleKind (mixKind P w)) a xs := by
  obtain ⟨z, y, xs, r, o, es, ep, h1, h2, h3, h4, h5⟩ := (show ObjOk P w H h a (.dT kvs) from rd_of ok e)
  refine ⟨z, y, xs, r, o, es, ep, h1, h2, h3, h4, fun x hx => ?_, h5⟩
  have all : ∀ {l : List (List Key × V)} {m : List (List Key × Addr × Value)}, KT H l m → ∀ x ∈ m, (tupleKind (mixKind P w)).is h x.1 x.2.1 := by
    intro l m q
    induction q with
    | nil => intro x hx; exact nomatch hx
    | @cons p q ps qs hq t ih =>
      intro x hx
      rcases List.mem_cons.mp hx with e | hx
      · subst e
        exact key_of ok (by rw [← hq.1]; exact hq.2.1)
      · exact ih x hx
  exact all r x hx
theorem dt_of {kvs : List (List Key × V)} (ok : HOk P w H h) (e : H a = some (.dT kvs)) : kvs.length ≤ sizeLine ∧ (a == sysModules) = false ∧
    ∃ xs, KT H kvs xs ∧ h.DictOfH (tupleKind (mixKind P w)) a xs := dt_rd ok (.inl e)
end

def DGet (H : Hp) (a : Addr) (y : V) (r : Option V) : Prop :=
  (∃ kvs k, Rd H a (.dK kvs) ∧ y = kV k ∧ r = valV kvs k) ∨ ∃ kvs k b, Rd H a (.dT kvs) ∧ y = .ref b ∧ H b = some (.tup (k.map kV)) ∧ r = valV kvs k
def DPut (H : Hp) (a : Addr) (y v : V) (H' : Hp) : Prop :=
  (∃ kvs k, H a = some (.dK kvs) ∧ y = kV k ∧ kvs.length < sizeLine ∧ H' = upd H a (.dK (putK kvs k v))) ∨
  ∃ kvs k b, H a = some (.dT kvs) ∧ y = .ref b ∧ H b = some (.tup (k.map kV)) ∧ kvs.length < sizeLine ∧ H' = upd H a (.dT (putK kvs k v))
theorem DGet.k {H : Hp} {a : Addr} {kvs : List (Key × V)} {k : Key} (e : H a = some (.dK kvs)) : DGet H a (kV k) (valV kvs k) := .inl ⟨kvs, k, .inl e, rfl, rfl⟩
theorem DGet.t {H : Hp} {a b : Addr} {kvs : List (List Key × V)} {k : List Key} (e : H a = some (.dT kvs)) (eb : H b = some (.tup (k.map kV))) : DGet H a (.ref b) (valV kvs k) := .inr ⟨kvs, k, b, .inl e, rfl, eb, rfl⟩
theorem DPut.k {H : Hp} {a : Addr} {kvs : List (Key × V)} {k : Key} {v : V} (e : H a = some (.dK kvs)) (hl : kvs.length < sizeLine) : DPut H a (kV k) v (upd H a (.dK (putK kvs k v))) := .inl ⟨kvs, k, e, rfl, hl, rfl⟩
theorem DPut.t {H : Hp} {a b : Addr} {kvs : List (List Key × V)} {k : List Key} {v : V} (e : H a = some (.dT kvs)) (eb : H b = some (.tup (k.map kV))) (hl : kvs.length < sizeLine) :
    DPut H a (.ref b) v (upd H a (.dT (putK kvs k v))) := .inr ⟨kvs, k, b, e, rfl, eb, hl, rfl⟩


section
variable {X : Cx} {pins : List (Addr × Obj)} {σ : St} {H : Hp} {s : Shared} {a : Addr} {y v : V} {u r : Value} {o : Option V} {A : Around} {E : Value → Shared → Prop}

theorem Inv.big (I : Inv X pins σ H s) : sysModules < s.heap.objs.size := by
  have h : mainGlobals < s.heap.objs.size := (I.mod.glob.keeps I.bk).lt
  exact Nat.lt_trans (by decide) h

theorem d_getItem {Q : Value → Shared → Prop} (hu : A.units + 1 < cLine) (I : Inv X pins σ H s) (g : DGet H a y (some v)) (ry : RelV y u) (h : ∀ w' s', Inv X pins σ H s' → RelV v w' → Q w' s') :
    wpAny (model X.prog X.w) A (getItem (.ref a) u) Q E s := by
  rcases g with ⟨kvs, k, e, ey, l⟩ | ⟨kvs, k, b, e, ey, eb, l⟩
  · subst ey
    obtain ⟨z, hd, vs, rel, dd⟩ := dk_rd I.hok e
    obtain ⟨w', hw, rw'⟩ := RelO.some_of (v := v) (o := valueAt vs k) (by rw [l]; exact rel.val k)
    exact wpAny_getItem_of (kV_is ry) dd.mapOf hw (h w' _ (I.tok _) rw')
  · subst ey
    cases (show u = Value.ref b from ry)
    obtain ⟨z, hd, xs, rel, dd⟩ := dt_rd I.hok e
    obtain ⟨w', hw, rw'⟩ := RelO.some_of (v := v) (o := (atKey xs k).map (·.2)) (by rw [l]; exact rel.val k)
    obtain ⟨p, hp, hp2⟩ := Option.map_eq_some_iff.mp hw
    refine wpAny_getItem_heap (tupleKind_room_in1 hu) (key_of I.hok eb) dd hp ?_
    rw [hp2]
    exact h w' _ (I.tok _) rw'
theorem d_in {Q : Value → Shared → Prop} (hu : A.units + 1 < cLine) (I : Inv X pins σ H s) (g : DGet H a y o) (ry : RelV y u) (h : ∀ s', Inv X pins σ H s' → Q (.bool o.isSome) s') :
    wpAny (model X.prog X.w) A (compareOp .In u (.ref a)) Q E s := by
  rcases g with ⟨kvs, k, e, ey, l⟩ | ⟨kvs, k, b, e, ey, eb, l⟩
  · subst ey
    obtain ⟨z, hd, vs, rel, dd⟩ := dk_rd I.hok e
    refine wpAny_in_of (kV_is ry) hd dd.mapOf ?_
    rw [← (rel.val k).isSome_eq, ← l]
    exact h _ (I.tok _)
  · subst ey
    cases (show u = Value.ref b from ry)
    obtain ⟨z, hd, xs, rel, dd⟩ := dt_rd I.hok e
    refine wpAny_in_heap (tupleKind_room_in1 hu) (key_of I.hok eb) hd dd ?_
    have q := (rel.val k).isSome_eq
    rw [Option.isSome_map] at q
    rw [← q, ← l]
    exact h _ (I.tok _)
theorem d_write {h' : Heap} {t' : Nat} {ob : HO} (I : Inv X pins σ H s) (mu : Mut (H a)) (hs : Heap.SameBut a s.heap h') (he : ∃ q, h'.get? a = some q) (new : ObjOk X.prog X.w (upd H a ob) h' a ob) :
    Inv X pins σ (upd H a ob) { s with heap := h', toks := t' } :=
  I.write (x := a) (e := a) mu (.inl rfl) (fun b q hb z => (hs.2 b hb).trans z) he new
theorem dk_new {P : Program} {w : World} {H' : Hp} {h' : Heap} {kvs : List (Key × V)} {vs : List (Key × Value)} (z : kvs.length ≤ sizeLine) (hd : (a == sysModules) = false) (rel : KV kvs vs) (dd : h'.DictOf (mixKind P w) a vs) :
    ObjOk P w H' h' a (.dK kvs) := ⟨z, hd, vs, rel, dd⟩
theorem d_setItem {H' : Hp} {Q : Unit → Shared → Prop} (hu : A.units + 1 < cLine) (I : Inv X pins σ H s) (g : DPut H a y v H') (ry : RelV y u) (rv : RelV v r) (h : ∀ s', Inv X pins σ H' s' → Q () s') :
    wpAny (model X.prog X.w) A (setItem (.ref a) u r) Q E s := by
  rcases g with ⟨kvs, k, e, ey, l, eH⟩ | ⟨kvs, k, b, e, ey, eb, l, eH⟩
  · subst ey eH
    obtain ⟨z, hd, vs, rel, dd⟩ := dk_of I.hok e
    have hz : vs.length ≤ sizeLine := by rw [← rel.length]; exact z
    have hl : (putK kvs k v).length ≤ sizeLine := by have := length_putK kvs k v; omega
    refine wpAny_setItem_pairs (hsz := hz) (kV_is ry) dd fun h' dd' hs => h _ ?_
    have he : ∃ q, h'.get? a = some q := let ⟨q, _, _, hq, _⟩ := dd'; ⟨q, hq⟩
    exact d_write I (by rw [e]; exact True.intro) hs he (dk_new hl hd (rel.put k rv) dd')
  · subst ey eH
    cases (show u = Value.ref b from ry)
    obtain ⟨z, hd, xs, rel, dd⟩ := dt_of I.hok e
    have hz : xs.length ≤ sizeLine := by rw [← Paired.length rel]; exact z
    have hl : (putK kvs k v).length ≤ sizeLine := by have := length_putK kvs k v; omega
    refine wpAny_setItem_heap (hsz := hz) (tupleKind_room_in1 hu) (key_of I.hok eb) dd fun h' dd' hs => h _ ?_
    obtain ⟨q, es, ep, hq, h2, h3, h4, _, h5⟩ := dd'
    refine d_write I (by rw [e]; exact True.intro) hs ⟨q, hq⟩ ⟨hl, hd, _, (rel.put k eb rv).keeps fun c ys ec => ?_, q, es, ep, hq, h2, h3, h4, h5⟩
    rw [upd_ne (ne_of ec e (fun z => nomatch z))]
    exact ec
end

section
variable {X : Cx} {pins : List (Addr × Obj)} {σ : St} {H : Hp} {s : Shared} {a : Addr} {kvs : List (Key × V)} {k : Key} {u : Value} {A : Around} {E : Value → Shared → Prop}
end


def NoSl (i : Expr) : Prop := ∀ ov iv, subscripted i false ov iv = operate [ov, iv] (getItem ov iv)
theorem subD_of {prog : Program} {w : World} {A : Around} {E : Value → Shared → Prop} {s : Shared} {env : Env} {value slice : Expr} {pos : Pos} {T id : String} {Q : Value → Shared → Prop}
    (hl : typeLookup (.type T) "__getitem__" = pure (some (.builtin id))) (hs : NoSl slice)
    (h : wpAny (model prog w) A (eval value env) (fun o s₁ => wpAny (model prog w) A (eval slice env) (fun i s₂ => s₂.TypeIs o T ∧ wpAny (model prog w) A (getItem o i) Q E s₂) E s₁) E s) :
    wpAny (model prog w) A (eval (.Subscript value slice pos) env) Q E s := by
  refine Subscript_ (wpAny_mono h (fun o s₁ h₁ => wpAny_mono h₁ (fun i s₂ h₂ => ?_) fun _ _ x => x) fun _ _ x => x)
  obtain ⟨hT, h₂⟩ := h₂
  unfold subscriptTail
  refine wpAny_bind ?_
  rw [getitemInPython_of_ne hT.not_modules]
  refine wpAny_bind (wpAny_specialOf hT hl ?_)
  have fin : wpAny (model prog w) A (subscripted slice false o i) (fun r s₃ => wpAny (model prog w) A (letTemporaryGo value o r >>= fun _ => pure r) Q E s₃) E s₂ := by
    rw [hs o i]
    exact wpAny_operating (wpAny_mono h₂ (fun r s₃ h₃ => wpAny_bind (wpAny_letTemporaryGo (wpAny_pure h₃))) fun _ _ x => x)
  first
    | exact wpAny_pure (wpAny_bind fin)
    | exact wpAny_bind (wpAny_pure (wpAny_bind fin))
    | exact wpAny_bind fin

theorem dict_typeIs {X : Cx} {pins : List (Addr × Obj)} {σ : St} {H : Hp} {s : Shared} {a : Addr} {y : V} {o : Option V} (I : Inv X pins σ H s) (g : DGet H a y o) : s.TypeIs (.ref a) "dict" := by
  rcases g with ⟨kvs, k, e, _, _⟩ | ⟨kvs, k, b, e, _, _, _⟩
  · obtain ⟨_, _, vs, _, dd⟩ := dk_rd I.hok e
    exact dd.typeIs
  · obtain ⟨_, _, xs, _, dd⟩ := dt_rd I.hok e
    exact dd.typeIs
def tDGet (td ty : TE) : TE := fun σ H Q => td σ H fun x H1 => ty σ H1 fun y H2 => ∃ a v, x = .ref a ∧ DGet H2 a y (some v) ∧ Q v H2
def tDIn (ty td : TE) : TE := fun σ H Q => ty σ H fun y H1 => td σ H1 fun x H2 => ∃ a o, x = .ref a ∧ DGet H2 a y o ∧ Q (.bl o.isSome) H2
def sDPut (td ty tv : TE) : TS := fun D σ H => tv σ H fun v H1 => td σ H1 fun x H2 => ty σ H2 fun y H3 => ∃ a H4, x = .ref a ∧ DPut H3 a y v H4 ∧ D.nx σ H4
section
variable {X : Cx} {o i e value : Expr} {pos pos' tpos : Pos} {td ty tv : TE}
theorem pe_dget (hu : X.A.units + 1 < cLine) (ho : PE X o td) (hi : PE X i ty) (hs : NoSl i) : PE X (.Subscript o i pos) (tDGet td ty) := by
  refine ⟨?_⟩
  intro pins s σ H Q I h
  refine subD_of PySem.F.slot_dict_getitem.lookup hs (thn (ho pins s σ H _ I h) fun u s1 ⟨x, H1, I1, rx, q1⟩ => thn (hi pins s1 σ H1 _ I1 q1) fun iv s2 ⟨y, H2, I2, ry, a, v, ex, g, q2⟩ => ?_)
  subst ex
  obtain rfl : u = Value.ref a := rx
  exact ⟨dict_typeIs I2 g, d_getItem hu I2 g ry fun w' s3 I3 rw' => ⟨v, H2, I3, rw', q2⟩⟩
theorem pc_din (hu : X.A.units + 1 < cLine) (hi : PE X i ty) (ho : PE X o td) : PC X .In i o (tDIn ty td) := by
  refine ⟨?_⟩
  intro pins s σ H Q I h
  refine thn (hi pins s σ H _ I h) fun iv s1 ⟨y, H1, I1, ry, q1⟩ => thn (ho pins s1 σ H1 _ I1 q1) fun u s2 ⟨x, H2, I2, rx, a, ov, ex, g, q2⟩ => ?_
  subst ex
  obtain rfl : u = Value.ref a := rx
  exact d_in hu I2 g ry fun s3 I3 => ⟨.bl ov.isSome, H2, I3, rfl, q2⟩
theorem ps_dput (hu : X.A.units + 1 < cLine) (ho : PE X o td) (hi : PE X i ty) (hv : PE X value tv) (hs : swapsWith value (some (.Subscript o i pos')) pos.line X.env = pure false) :
    PS X (.Assign [.Subscript o i pos'] value pos) (sDPut td ty tv) := by
  refine ⟨?_⟩
  intro pins s σ H D I h
  refine wpAny_Assign_Subscript (thn (hv pins s σ H _ I h) fun r s1 ⟨v, H1, I1, rv, q1⟩ => thn (ho pins s1 σ H1 _ I1 q1) fun u s2 ⟨x, H2, I2, rx, q2⟩ => thn (hi pins s2 σ H2 _ I2 q2) fun iv s3 ⟨y, H3, I3, ry, a, H4, ex, g, q3⟩ => ?_) hs
  subst ex
  obtain rfl : u = Value.ref a := rx
  exact d_setItem hu I3 g ry rv fun s4 I4 => ⟨σ, H4, I4, q3⟩
end


theorem dk_empty {P : Program} {w : World} {H : Hp} (h : Heap) (hb : sysModules < h.objs.size) : ObjOk P w H (h.push { cls := .type "dict", data := .dict #[] }) h.objs.size (.dK []) :=
  ⟨Nat.zero_le _, beq_eq_false_iff_ne.mpr (Ne.symm (Nat.ne_of_lt hb)), [], .nil, Heap.DictOf.new h⟩
theorem dt_empty {P : Program} {w : World} {H : Hp} (h : Heap) (hb : sysModules < h.objs.size) : ObjOk P w H (h.push { cls := .type "dict", data := .dict #[] }) h.objs.size (.dT []) :=
  ⟨Nat.zero_le _, beq_eq_false_iff_ne.mpr (Ne.symm (Nat.ne_of_lt hb)), [], .nil, _, #[], 0, Heap.get?_push_size _ rfl, ⟨rfl, rfl, rfl⟩, rfl, rfl, List.nodup_nil⟩
section
variable {X : Cx} {pos : Pos}
end

def tPairs : List (TE × TE) → St → Hp → (List (V × V) → Hp → Prop) → Prop
  | [], _, H, Q => Q [] H
  | (tk, tv) :: r, σ, H, Q => tk σ H fun x H1 => tv σ H1 fun y H2 => tPairs r σ H2 fun ps H3 => Q ((x, y) :: ps) H3
abbrev VV : List (V × V) → List (Value × Value) → Prop := Paired fun p q => RelV p.1 q.1 ∧ RelV p.2 q.2
structure PPs (X : Cx) (pos : Pos) (keys : List (Option Expr)) (values : List Expr) (trs : List (TE × TE)) : Prop where
  run : ∀ (pins : List (Addr × Obj)) (s : Shared) (σ : St) (H : Hp) (Q : List (V × V) → Hp → Prop), Inv X pins σ H s → tPairs trs σ H Q →
    wpAny (model X.prog X.w) X.A (evalPairs (pairTrees keys values X.env pos)) (fun vs s' => ∃ ps H', Inv X pins σ H' s' ∧ VV ps vs ∧ Q ps H') X.xe s
instance {X : Cx} {pos : Pos} {keys : List (Option Expr)} {values : List Expr} {trs : List (TE × TE)} : CoeFun (PPs X pos keys values trs) (fun _ => ∀ (pins : List (Addr × Obj)) (s : Shared) (σ : St) (H : Hp) (Q : List (V × V) → Hp → Prop), Inv X pins σ H s → tPairs trs σ H Q →
    wpAny (model X.prog X.w) X.A (evalPairs (pairTrees keys values X.env pos)) (fun vs s' => ∃ ps H', Inv X pins σ H' s' ∧ VV ps vs ∧ Q ps H') X.xe s) := ⟨PPs.run⟩
theorem pps_nil {X : Cx} {pos : Pos} : PPs X pos [] [] [] := ⟨fun pins s σ H Q I h => pairTrees_nil_walk ⟨[], H, I, .nil, h⟩⟩
theorem pps_cons {X : Cx} {pos : Pos} {k v : Expr} {ks : List (Option Expr)} {vs : List Expr} {tk tv : TE} {trs : List (TE × TE)} (hk : PE X k tk) (hv : PE X v tv) (hr : PPs X pos ks vs trs) :
    PPs X pos (some k :: ks) (v :: vs) ((tk, tv) :: trs) := ⟨fun pins s σ H Q I h =>
  pairTrees_cons_walk (thn (hk pins s σ H _ I h) fun u s1 ⟨x, H1, I1, rx, q1⟩ => thn (hv pins s1 σ H1 _ I1 q1) fun w2 s2 ⟨y, H2, I2, ry, q2⟩ =>
    thn (hr pins s2 σ H2 _ I2 q2) fun ws s3 ⟨ps, H3, I3, rel, q3⟩ => ⟨(x, y) :: ps, H3, I3, .cons ⟨rx, ry⟩ rel, q3⟩)⟩
def mergeK (kvs more : List (Key × V)) : List (Key × V) := more.foldl (fun acc kv => putK acc kv.1 kv.2) kvs
theorem KV.merge : ∀ {more : List (Key × V)} {rs : List (Key × Value)} {kvs : List (Key × V)} {vs : List (Key × Value)}, KV more rs → KV kvs vs → KV (mergeK kvs more) (merged vs rs) := by
  intro more rs kvs vs r
  unfold KV at r
  induction r generalizing kvs vs with
  | nil => intro q; exact q
  | @cons p q ps qs h t ih =>
    intro r0
    have e : KV (putK kvs p.1 p.2) (stored vs q.1 q.2) := by
      have := r0.put p.1 h.2
      rw [← h.1]; exact this
    exact ih e
theorem length_mergeK : ∀ (more kvs : List (Key × V)), (mergeK kvs more).length ≤ kvs.length + more.length
  | [], kvs => by show kvs.length ≤ kvs.length + 0; omega
  | p :: r, kvs => by
    have h1 := length_mergeK r (putK kvs p.1 p.2)
    have h2 := length_putK kvs p.1 p.2
    show (mergeK (putK kvs p.1 p.2) r).length ≤ _
    rw [List.length_cons]; omega
theorem carries_of {P : Program} {w : World} : ∀ {kvs : List (Key × V)} {ws : List (Value × Value)}, VV (kvs.map fun kv => (kV kv.1, kv.2)) ws → ∃ rs, Carries (mixKind P w) ws rs ∧ KV kvs rs
  | [], _, r => by rw [List.map_nil] at r; cases r; exact ⟨[], True.intro, .nil⟩
  | p :: kvs, _, r => by
    rw [List.map_cons] at r
    cases r with
    | @cons a b as bs h t =>
      obtain ⟨rs, c, q⟩ := carries_of (P := P) (w := w) t
      obtain ⟨b1, b2⟩ := b
      exact ⟨(p.1, b2) :: rs, ⟨kV_is h.1, rfl, c⟩, .cons ⟨rfl, h.2⟩ q⟩
def tDisp (trs : List (TE × TE)) : TE := fun σ H Q => ∀ p, H p = none → tPairs trs σ (upd H p (.dK [])) fun ps H2 => H2 p = some (.dK []) ∧ ∃ kvs : List (Key × V), ps = kvs.map (fun kv => (kV kv.1, kv.2)) ∧ kvs.length ≤ 15 ∧ Q (.ref p) (upd H2 p (.dK (mergeK [] kvs)))
theorem pe_disp {X : Cx} {pos : Pos} {keys : List (Option Expr)} {values : List Expr} {trs : List (TE × TE)} (h : PPs X pos keys values trs) (hall : keys.all (·.isSome) = true) (hl : keys.length = values.length) (h0 : keys ≠ [])
    (h15 : keys.length ≤ 15) : PE X (.Dict keys values pos) (tDisp trs) := by
  refine ⟨?_⟩
  intro pins s σ H Q I q
  have hn := I.hok.fresh (Nat.le_refl s.heap.objs.size)
  have I1 := I.laid (a := s.heap.objs.size) (o := .dK []) (h' := s.heap.push { cls := .type "dict", data := .dict #[] }) (t' := s.toks) (fun _ _ q => Heap.get?_push_of_some _ q) (Nat.le_refl _) (dk_empty s.heap I.big)
  refine wpAny_Dict_walk (knd := mixKind X.prog X.w) hall hl h0 h15 (thn (h pins _ σ _ _ I1 (q _ hn)) fun ws s2 ⟨ps, H2, I2, rel, e, kvs, ep, lk, q2⟩ => ?_)
  subst ep
  obtain ⟨rs, c, rk⟩ := carries_of (P := X.prog) (w := X.w) rel
  obtain ⟨z, hd, vs0, r0, dd⟩ := dk_of I2.hok e
  cases r0
  refine ⟨rs, c, dd, fun h' dd' hs => ⟨.ref s.heap.objs.size, _, ?_, rfl, q2⟩⟩
  have hz : (mergeK [] kvs).length ≤ sizeLine := by
    have h1 := length_mergeK kvs []
    rw [List.length_nil] at h1
    rw [sizeLine_eq]; omega
  have he : ∃ q, h'.get? s.heap.objs.size = some q := let ⟨q, _, _, hq, _⟩ := dd'; ⟨q, hq⟩
  exact d_write I2 (by rw [e]; exact True.intro) hs he (dk_new hz hd (rk.merge .nil) dd')


structure M1 (X : Cx) (o : Expr) (m : Str) (apos : Pos) (e : Expr) (cpos : Pos) : Prop where
  base : attributeBase o m X.env (eval o X.env) = eval o X.env
  few : ((backTo cpos (starEach [e] X.env)).all (fun x => !x.1) && (backToKw cpos (keywordEach [] X.env)).all (fun x => x.1.isSome)
    && decide (([e] : List Expr).length + ([] : List Keyword).length + (if ([] : List Keyword).isEmpty then 0 else 1) < 30)) = true
  line : (apos.endLine == cpos.line) = true
  trees : backTo cpos (starEach [e] X.env) = [(false, eval e X.env)]
structure M2 (X : Cx) (o : Expr) (m : Str) (apos : Pos) (e f : Expr) (cpos : Pos) : Prop where
  base : attributeBase o m X.env (eval o X.env) = eval o X.env
  few : ((backTo cpos (starEach [e, f] X.env)).all (fun x => !x.1) && (backToKw cpos (keywordEach [] X.env)).all (fun x => x.1.isSome)
    && decide (([e, f] : List Expr).length + ([] : List Keyword).length + (if ([] : List Keyword).isEmpty then 0 else 1) < 30)) = true
  line : (apos.endLine == cpos.line) = true
  trees : backTo cpos (starEach [e, f] X.env) = [(false, eval e X.env), (false, eval f X.env)]

section
variable {X : Cx} {pins : List (Addr × Obj)} {σ : St} {H : Hp} {s : Shared} {a : Addr} {y d : V} {u r : Value} {o : Option V} {A : Around} {E : Value → Shared → Prop}
end

section
variable {X : Cx} {o e f : Expr} {apos cpos : Pos} {td ty tx : TE}
end

section
variable {X : Cx} {pins : List (Addr × Obj)} {σ : St} {H : Hp} {s : Shared} {a : Addr} {kvs : List (Key × V)} {A : Around} {E : Value → Shared → Prop}
end


section
variable {X : Cx} {pins : List (Addr × Obj)} {σ : St} {H : Hp} {s : Shared} {a : Addr} {y : V} {u : Value} {A : Around} {E : Value → Shared → Prop}
end
end L2

namespace L2
open PySem PySem.Spec PyProof.Rows

section
variable {prog : Program} {w : World} {A : Around} {E : Value → Shared → Prop}
end

section
variable {X : Cx}
end
end L2

namespace L2
open PySem PySem.Spec PyProof.Rows

section
variable {X : Cx} {pins : List (Addr × Obj)} {σ : St} {H : Hp} {s : Shared} {h' : Heap}
theorem Inv.turnedNew {t' : Nat} {ch : List Addr} {T : Addr} {ob : HO} (I : Inv X pins σ H s) (k : ∀ b o, b ∉ ch → s.heap.get? b = some o → h'.get? b = some o) (hf : ∀ b ∈ ch, FpOk X pins H b) (hT : s.heap.objs.size ≤ T)
    (new : ObjOk X.prog X.w (upd H T ob) h' T ob) : Inv X pins σ (upd H T ob) { s with heap := h', toks := t' } := by
  have hn : H T = none := I.hok.fresh hT
  have nit : ∀ b u, H b = some u → b ∉ ch := fun b u e z => by
    have q := (hf b z).1
    rw [q] at e; cases e
  refine I.step (g' := s.gens) (d' := s.drawn) (ch := ch) (fun b hb => ⟨(hf b hb).2.2.2.1, (hf b hb).2.1, (hf b hb).2.2.2.2.1, (hf b hb).2.2.2.2.2⟩) (fun b o _ _ hc e _ => k b o hc e) (fun b o _ _ hc e _ => ⟨o.slots, k b o hc e⟩)
    (fun b o _ e n => ?_) (fun b o hc e => ⟨o, k b o hc e⟩) (fun b xs e => ?_) (fun b o u e => ?_) (fun b ps e => ⟨#[], ?_⟩) (fun m hm => ?_) (fun b u e => ?_) I.bare
  · rw [upd_ne (Nat.ne_of_lt (Nat.lt_of_lt_of_le (Heap.lt_size e) hT))]; exact n
  · rw [upd_ne (ne_of_none e hn)]; exact e
  · rw [upd_ne (ne_of_none e hn)]; exact e
  · rw [upd_ne (ne_of_none e hn), e]; simp
  · obtain ⟨o, es, ep, ho, r⟩ := hm
    exact ⟨o, es, ep, k _ o (fun z => (hf _ z).2.1 rfl) ho, r⟩
  · by_cases hb : b = T
    · subst hb
      rw [upd_same] at e
      cases e
      exact new
    · rw [upd_ne hb] at e
      refine (I.hok b u e).stay (fun c v hc q => k c v ?_ q) (fun c q => by rw [upd_ne (ne_of_none q hn)]; exact q) fun c xs q => by rw [upd_ne (ne_of_none q hn)]; exact q
      rcases hc with z | z
      · rw [z]; exact nit b u e
      · exact nit c _ z

end
section
variable {X : Cx}
end

def RgC (i j c : Int) (n : Nat) : Prop := c ≠ 0 ∧ c.natAbs < 1073741824 ∧ Builtin.Range.small i j c = true ∧ Builtin.Range.rangeSize i j c = n
theorem RgC.neg {i j : Int} (ha : -(2 ^ 62) ≤ i) (ha' : i < 2 ^ 62) (hb : -(2 ^ 62) ≤ j) (hb' : j < 2 ^ 62) : RgC i j (-1) (i - j).toNat :=
  ⟨by decide, by decide, PySem.W.small_down ha ha' hb hb', PySem.W.rangeSize_downNat i j⟩
section
variable {X : Cx} {tg : Expr}
end
section
variable {X : Cx} {tg : Expr}
end

section
variable {prog : Program} {w : World} {A : Around} {E : Value → Shared → Prop} {s : Shared}
end

section
variable {X : Cx} {pins : List (Addr × Obj)} {σ : St} {H : Hp} {s : Shared} {d : Addr} {o : Obj}
end

section
variable {P : Program} {w : World} {K : PySem.W.Frag} {tg : Expr} {d : Addr} {o : Obj} {es : Array DictEntry} {ep : Nat}
end

section
variable {X : Cx} {tg e : Expr} {td : TE} {apos cpos : Pos}
end

def Ite (K : PySem.W.Frag) (a : Addr) : It :=
  ⟨fun i H => ∃ (xs : List V) (x : V), SqL K H a xs ∧ xs[i]? = some x, fun i H v H' => ∃ T x, v = .ref T ∧ H T = none ∧ H' = upd H T (.tup [.int (i : Nat), x]) ∧ ∀ xs, SqL K H a xs → xs[i]? = some x, fun i H => ∃ xs : List V, SqL K H a xs ∧ xs.length ≤ i⟩
theorem turn_enum {P : Program} {w : World} {K : PySem.W.Frag} {elts : List Expr} {kk : Nat} {tpos : Pos} (a e it : Addr) :
    Turn P w K (.Tuple elts kk tpos) (Ite K a) [e, it] e (fun i h => (∃ old, IsEnum h e it ((i : Nat) : Int) old) ∧ h.IsListIter it a i ∧ e ≠ it) where
  mem := by simp
  obj := fun i h st b hb => by
    obtain ⟨⟨old, he⟩, ⟨o, ho, hc, hd⟩, _⟩ := st
    have e' : b = e ∨ b = it := by simpa using hb
    rcases e' with z | z
    · rw [z]; exact ⟨_, he, fun v q => nomatch q⟩
    · rw [z]; exact ⟨o, ho, fun v q => by rw [hd] at q; cases q⟩
  keep := fun i h h' st k => let ⟨⟨old, he⟩, hi, hne⟩ := st; ⟨⟨old, k e (by simp) _ he⟩, hi.at fun o q => k it (by simp) o q, hne⟩
  item := by
    intro X hP hw hK hc i pins s σ H E I hf st hg
    subst hP hw hK
    obtain ⟨⟨old, he⟩, hit, hne⟩ := st
    obtain ⟨xs, x, hq, hx⟩ := hg
    obtain ⟨its, rv, p, hz⟩ := I.list hq
    obtain ⟨u, hu, ru⟩ := rv.get hx
    have hel : e < s.heap.objs.size := Heap.lt_size he
    have hil : it < s.heap.objs.size := by obtain ⟨_, q, _⟩ := hit; exact Heap.lt_size q
    refine wpAny_pyNext_enum_item he hit p.isList (x := u) (by simpa using hu) hne fun h' ho hit' hT hsz hk => ?_
    refine ⟨_, rfl, wpAny_letOwnedTupleGo_enum (s := { s with heap := h', toks := s.toks + 1 }) ho fun h'' he' sb => ?_⟩
    have hT2 : h''.get? s.heap.objs.size = some { cls := .type "tuple", data := .seq #[.int i s.toks, u] } := (sb.2 _ (Nat.ne_of_gt hel)).trans hT
    have new : ObjOk X.prog X.w (upd H s.heap.objs.size (.tup [.int (i : Nat), x])) h'' s.heap.objs.size (.tup [.int (i : Nat), x]) :=
      ⟨by show 2 ≤ sizeLine; decide, [.int i s.toks, u], .cons ⟨_, rfl⟩ (.cons ru .nil), ⟨_, hT2, rfl, _, rfl⟩⟩
    have I1 : Inv X pins σ (upd H s.heap.objs.size (.tup [.int (i : Nat), x])) { s with heap := h'', toks := s.toks + 1 } :=
      I.turnedNew (ch := [e, it]) (fun b ob hb q => (sb.2 b (fun z => hb (by simp [z]))).trans (hk b ob (fun z => hb (by simp [z])) (fun z => hb (by simp [z])) q)) hf (Nat.le_refl _) new
    refine ⟨.ref s.heap.objs.size, _, I1, rfl, ⟨_, x, rfl, I.hok.fresh (Nat.le_refl _), rfl, fun ys hy => by rw [I.list_inj hy hq]; exact hx⟩, ⟨⟨u, ?_⟩, hit'.at fun o q => (sb.2 it (Ne.symm hne)).trans q, hne⟩, fun b hb => ?_⟩
    · have e1 : ((i + 1 : Nat) : Int) = (i : Int) + 1 := by omega
      rw [e1]; exact he'
    · have hb' : b < s.heap.objs.size := by
        have e' : b = e ∨ b = it := by simpa using hb
        rcases e' with z | z
        · rw [z]; exact hel
        · rw [z]; exact hil
      rw [upd_ne (Nat.ne_of_lt hb')]
      exact (hf b hb).1
  done := by
    intro X hP hw hK hc i pins s σ H E I hf st hg
    subst hP hw hK
    obtain ⟨⟨old, he⟩, hit, hne⟩ := st
    obtain ⟨xs, hq, hx⟩ := hg
    obtain ⟨its, rv, p, hz⟩ := I.list hq
    obtain ⟨f0, f1, f2, f3, f4, f5⟩ := hf it (by simp)
    have hl := rv.length
    exact wpAny_pyNext_enum_end (I.ok.hd hc) he hit p.isList (by simp; omega) fun h' eb => ⟨rfl, I.turned (t' := s.toks) (fun b o hb q => eb b o hb q) f0 f1 f3 f4 f5⟩
  self := fun A i s Q E st h => let ⟨⟨_, he⟩, _⟩ := st; wpAny_pyIter_enum he h
def iEnum (K : PySem.W.Frag) (ta : TA) : TI := fun σ H R => ta σ H fun vs H1 => ∃ a xs, vs = [.ref a] ∧ SqL K H1 a xs ∧ R (Ite K a) H1
theorem pi_enum {X : Cx} {e : Expr} {ta : TA} {p pos tpos : Pos} {elts : List Expr} {kk : Nat} (hg : Gl X "enumerate") (hm : X.mg "enumerate" = none) (ha : PA X [e] ta) (hs : starEach [e] X.env = [(false, eval e X.env)] := by rfl) :
    PI X (.Tuple elts kk tpos) (.Call (.Name "enumerate" p) [e] [] pos) (iEnum X.K ta) := by
  refine ⟨?_⟩
  intro pins s σ H R I h
  refine Call_ (ld_blt I hg hm boot_enumerate (PyProof.Rows.callWith_type1 (thn (ha pos pins s σ H _ I h) fun us s1 ⟨vs, H1, I1, r1, q1⟩ => ?_) hs rfl))
  obtain ⟨a, xs, ex, hq, q⟩ := q1
  subst ex
  cases r1 with
  | cons r rr =>
    cases rr
    cases r
    obtain ⟨its, rv, p', hz⟩ := I1.list hq
    refine call_enumerate_list p'.isList fun h' he hit hsz hk => wpAny_pyIter_enum he ?_
    have I2 : Inv X pins σ H1 { s1 with heap := h' } := I1.kept (t' := s1.toks) hk
    refine ⟨s1.heap.objs.size + 1, [s1.heap.objs.size + 1, s1.heap.objs.size], _, _, H1, rfl, I2, turn_enum a (s1.heap.objs.size + 1) s1.heap.objs.size, ⟨⟨.none, he⟩, hit, Nat.succ_ne_self _⟩, fun b hb => ?_, q⟩
    have e' : b = s1.heap.objs.size + 1 ∨ b = s1.heap.objs.size := by simpa using hb
    have hle : s1.heap.objs.size ≤ b := by
      rcases e' with z | z
      · rw [z]; exact Nat.le_add_right _ _
      · rw [z]; exact Nat.le_refl _
    exact I1.fpOk hle (I1.hok.fresh hle)
end L2

section 
namespace Bits
open PySem PyProof.Rows

end Bits
end 

section 
namespace TL
open PySem PySem.Builtin PySem.Builtin.Str PySem.StrLaws

abbrev tl (x : Str) : List Nat := x.cps.toList
def pre (S l : List Nat) : Bool := l.take S.length == S
def par (S : List Nat) : List Nat → List Nat → Option (List Nat × List Nat)
  | _, [] => none
  | acc, c :: r => if pre S (c :: r) = true then some (acc, (c :: r).drop S.length) else par S (acc ++ [c]) r

end TL
end 

namespace L2
open PySem PySem.Spec PyProof.Rows

section
variable {X : Cx} {pins : List (Addr × Obj)} {σ : St} {H : Hp} {s : Shared} {Q : VK}
end

section
variable {X : Cx}

end

section
variable {X : Cx} {o e : Expr} {to te : TE}
end
end L2

namespace L2
open PySem PySem.Spec PyProof.Rows

section
variable {X : Cx}
end

theorem IsPart.raw {v : Value} {o : Option Int} (p : IsPart v o) : ∃ l : Option (Int × Tok), v = partValue l ∧ l.map (·.1) = o := by
  cases p with
  | none => exact ⟨none, rfl, rfl⟩
  | int i t => exact ⟨some (i, t), rfl, rfl⟩

end L2

namespace Att
open PySem PySem.W PySem.Calls PyProof.Rows

theorem ints_of_wellAll {P : Params} {h : Heap} : ∀ (ns : List Int) (vs : List Value), WellAll P h vs (ns.map WData.int) → IntsAre vs ns := by
  intro ns
  induction ns with
  | nil =>
    intro vs w
    rw [List.map_nil] at w
    cases w
    exact .nil
  | cons n ns ih =>
    intro vs w
    rw [List.map_cons] at w
    cases w with
    | cons a b =>
      cases a
      exact .cons _ _ (ih _ b)

theorem script_of {l : OpenLaw} {n : Nat} (hn : l.most = some n) {P : Params} {h : Heap} {args : List WData} {vals : List Value}
    (hpre : l.row.toRowW.claim.pre args = true) (hwl : WellAll P h vals args) :
    ∃ a vs ns, vals = [Value.ref a] ∧ args = [WData.list (ns.map WData.int)] ∧ h.get? a = some { cls := .type "list", data := .seq vs.toArray } ∧ IntsAre vs ns ∧ ns.length ≤ n := by
  have hsh : WShape.hasAll [] args [.list .int] = true := (pre_splitW hpre).1
  have hc : l.pre.holds [] { args := args } = true := (pre_splitW hpre).2
  obtain ⟨d, r, rfl, h1, h2⟩ := hasAllW_cons hsh
  obtain rfl := hasAllW_nil h2
  obtain ⟨xs, rfl, h3⟩ := hasW_list h1
  obtain ⟨ns, rfl⟩ := items_int h3
  have hlen : ns.length ≤ n := by
    unfold OpenLaw.pre at hc
    have h4 : (WTm.not (.lt (.lit (.int (n : Int))) (.len (.arg 0)))).holds [] { args := [.list (ns.map .int)] } = true := by
      have h4 := (holds_andW hc).1
      rw [hn] at h4
      exact h4
    have h5 := condW_of h4 (w_not (w_lt w_lit (w_len_list (w_arg rfl))))
    rw [List.length_map] at h5
    refine Nat.le_of_not_lt fun q => ?_
    have q' : (n : Int) < ((ns.length : Nat) : Int) := by omega
    first
      | (rw [decide_eq_true q'] at h5; exact absurd h5 (by decide))
      | (simp at h5; omega)
  cases hwl with
  | cons w1 w2 =>
    cases w2
    cases w1 with
    | list ho hall => exact ⟨_, _, ns, rfl, rfl, ho, ints_of_wellAll ns _ hall, hlen⟩

theorem post_true (l : OpenLaw) (args : List WData) : l.row.toRowW.claim.post args (.bool true) args = true :=
  postW_of (r := l.row.toRowW) (X := (true == true))
    (show WShape.has [] (.bool true) .bool = true by first | rfl | decide | simp [WShape.has, WShape.arms, WShape.armsAll])
    (show (WTm.eq .res (.lit (.bool true))).value [] { args := args, res := some (.bool true), after := args } = some (.bool (true == true)) from w_eq_bool (w_res rfl) w_lit) rfl

theorem attach_call {l : OpenLaw} {n : Nat} {q : Program} {loose : List Str} {XP : (Str → Option Value) → Heap → Prop} {YP : World → Heap → Prop} {d : DefRec}
    (hn : l.most = some n) (hdf : d.params.defaults = [])
    (call : ∀ (w : World) (s₀ s₁ : Shared) (mg mb : Str → Option Value) (fa : Addr) (o : Obj) (pm cd doc : Value) (a : Addr) (vs : List Value) (ns : List Int),
      Ground q loose [] XP w s₀ mg mb s₁.heap → YP w s₁.heap →
      s₁.heap.get? fa = some o → o.data = .func (docDef d.name d.params d.body d.scope pm cd doc) → s₁.heap.CodeRec cd d.name → mg d.name = some (.ref fa) →
      s₁.heap.get? a = some { cls := .type "list", data := .seq vs.toArray } → IntsAre vs ns → ns.length ≤ n → s₁.gens = #[] →
      codeAny (model l.prog w) callerA (.call (.ref fa) ⟨[.ref a], []⟩) (fun r s' => r = .ok (.ret (.bool true)) ∧ OldK s₁.heap s'.heap ∧ s'.os = s₁.os ∧ AllBare s'.gens) s₁) :
    WalkO q loose XP YP l.row.toRowW d [] (fun f vs => PySem.call f vs) := by
  intro w s₀ s₁ mg mb G Y fa o pm cd doc dV kV ho hd hcd hD hmg hg args vals as hpre hlay hrd hwl hlo
  obtain rfl : dV = .none := Dflts.none hD hdf
  obtain rfl : kV = .none := Dflts.noKw hD
  obtain ⟨a, vs, ns, rfl, rfl, hobj, hints, hlen⟩ := script_of hn hpre hwl
  refine enter_call (codeAny_mono (call w s₀ s₁ mg mb fa o pm cd doc a vs ns G Y ho (fd_plain hd) hcd hmg hobj hints hlen hg) fun r s' hq => ?_)
  obtain ⟨rfl, h2, h3, h4⟩ := hq
  exact ⟨.inl ⟨.bool true, .bool true, [], rfl, fun _ => rfl, .bool true, post_true l _, fun _ => ⟨List.Pairwise.nil, fun _ hm => (nomatch hm)⟩⟩, h2, h3, h4⟩

section
variable {prog : Program} {w : World} {A : Around} {E : Value → Shared → Prop} {s : Shared} {K : Frag}

end
end Att

namespace L2
open PySem PySem.Spec PyProof.Rows

theorem vals_ints : ∀ {vs : List Value} {ns : List Int}, IntsAre vs ns → Vals (ns.map V.int) vs
  | _, _, .nil => .nil
  | _, _, .cons n t h => .cons ⟨t, rfl⟩ (vals_ints h)

end L2

namespace L2
open PySem PySem.Spec PyProof.Rows

end L2

namespace L2
open PySem PySem.Spec PyProof.Rows

def inClass (s : Stmt) (j : Nat) : Stmt := match s with
  | .ClassDef _ _ _ body _ _ _ _ _ _ _ => body.getD j (.Pass ⟨0, 0, 0, 0⟩)
  | _ => .Pass ⟨0, 0, 0, 0⟩
def defArgs (s : Stmt) : Arguments := match s with
  | .FunctionDef _ a _ _ _ _ _ _ _ _ => a
  | _ => { posonlyargs := [], args := [], vararg := none, kwonlyargs := [], kw_defaults := [], kwarg := none, defaults := [] }
def defBody (s : Stmt) : List Stmt := match s with
  | .FunctionDef _ _ b _ _ _ _ _ _ _ => b
  | _ => []
def defScope (s : Stmt) : Scope := match s with
  | .FunctionDef _ _ _ _ _ _ sc _ _ _ => sc
  | _ => { kind := .function, names := [], isGenerator := false, isCoroutine := false }

abbrev CX0 : CXT := fun _ _ _ _ _ _ => False
abbrev E0 : XK := fun _ _ _ => False
theorem pass0 {X : Cx} : Passes CX0 X E0 := fun _ _ _ _ _ _ _ h => h.elim

structure Fun (K : PySem.W.Frag) (x qual : Str) (st : Stmt) (f : Addr) (fd : FuncData) : Prop where
  ex : ∃ (oc : Value) (od : Option Addr) (kV doc pm : Value) (an : Option Addr) (cdv ct : Value) (osl : Array (Option Value)),
    fd = PySem.W.fnOf x qual (defArgs st) (defBody st) (defScope st) .none kV doc pm an cdv ct ∧ K.lookup f = some ⟨oc, od, .func fd, osl⟩ ∧ PySem.W.codeIn K cdv qual = true
  kp : PySem.W.keepIn K (.ref f) = true
section
variable {P : Program} {w : World} {K : PySem.W.Frag} {mg : Str → Option Value} {base : Heap}
theorem Fun.ok {x qual : Str} {st : Stmt} {f : Addr} {fd : FuncData} {N ps : List Str} {k : Nat} {sp : Sp} (F : Fun K x qual st f fd) (S : FnScope N ps (defScope st)) (len : ∀ vs H Q E, sp vs H Q E → vs.length = ps.length)
    (hbody : ∀ (cdv : Value) (A : Around) (outer : List Env) (s : Shared) (H : Hp) (vs : List V) (Q : VK) (E : XK), Room k (A.deeper (envOfC qual (defScope st) s.heap.objs.size f cdv)) → sp vs H Q E →
      ∃ t, PSs (cxOf CX0 P w K mg base N qual (defScope st) f cdv A outer s H E).nox (defBody st) t ∧ t { nx := fun _ H' => Q .non H', rt := Q } (start N vs) H) : FnOk P w K mg base CX0 (k + 1) f fd ps sp := by
  obtain ⟨oc, od, kV, doc, pm, an, cdv, ct, osl, rfl, lk, hcd⟩ := F.ex
  refine fn_of lk hcd S len fun A outer s H vs Q E hr hsp => ?_
  obtain ⟨t, h, q⟩ := hbody cdv A outer s H vs Q E hr hsp
  exact ⟨t, h.nox, q⟩
theorem Fun.binds {x qual : Str} {st : Stmt} {f : Addr} {fd : FuncData} {ps : List Str} (F : Fun K x qual st f fd)
    (h : ∀ (kV doc pm : Value) (an : Option Addr) (cdv ct : Value) (us : List Value), us.length = ps.length → bindArgs (PySem.W.fnOf x qual (defArgs st) (defBody st) (defScope st) .none kV doc pm an cdv ct) ⟨us, []⟩ = pure (ps.zip us)) : Binds K fd ps [] := by
  obtain ⟨oc, od, kV, doc, pm, an, cdv, ct, osl, rfl, lk, hcd⟩ := F.ex
  exact .all (h kV doc pm an cdv ct)
theorem fun_mk {x qual : Str} {st : Stmt} {f : Addr} {oc : Value} {od an : Option Addr} {osl : Array (Option Value)} {kV doc pm cdv ct : Value} (l : K.lookup f = some ⟨oc, od, .func (PySem.W.fnOf x qual (defArgs st) (defBody st) (defScope st) .none kV doc pm an cdv ct), osl⟩)
    (c : PySem.W.codeIn K cdv qual = true) (k : PySem.W.keepIn K (.ref f) = true) : Fun K x qual st f (PySem.W.fnOf x qual (defArgs st) (defBody st) (defScope st) .none kV doc pm an cdv ct) := ⟨⟨oc, od, kV, doc, pm, an, cdv, ct, osl, rfl, l, c⟩, k⟩
end
theorem hu_of {A : Around} {k : Nat} (hr : Room k A) : A.units + 1 < cLine := Nat.lt_of_le_of_lt (Nat.add_le_add_left (by decide : 1 ≤ 64) _) hr.units
theorem small1000 {n : Nat} (h : n ≤ 1000) : n < sizeLine := Nat.lt_of_le_of_lt h (by decide)

section
variable {X : Cx}
theorem pv (i : Nat) {x : Str} {pos : Pos} (hN : X.N[i]? = some x := by rfl) (hv : Vis X.env.scope x := by first | exact Or.inl rfl | exact Or.inr (Or.inl rfl) | exact Or.inr (Or.inr rfl)) (hd : (x == ("__debug__" : Str)) = false := by decide)
    (hcd : (x == ("__classdict__" : Str)) = false := by decide) : PE X (.Name x pos) (tVar i) := pe_var hN hv hd hcd
end

theorem iteT {A B : Prop} (h : A) : if true = true then A else B := by
  rw [if_pos rfl]
  exact h
theorem ite2 {c A B : Prop} [Decidable c] (h1 : c → A) (h2 : ¬ c → B) : if c then A else B := by
  by_cases h : c
  · rw [if_pos h]
    exact h1 h
  · rw [if_neg h]
    exact h2 h
def Same (H H' : Hp) : Prop := ∀ b o, H b = some o → H' b = some o
theorem Same.refl (H : Hp) : Same H H := fun _ _ h => h
theorem Same.trans {H H1 H2 : Hp} (a : Same H H1) (b : Same H1 H2) : Same H H2 := fun c o h => b c o (a c o h)
theorem Same.free {H H' : Hp} (e : Same H H') {l : Addr} (h : H' l = Option.none) : H l = Option.none := by
  cases q : H l with
  | none => rfl
  | some o =>
    rw [e l o q] at h
    cases h
theorem Same.seq {K : PySem.W.Frag} {H H' : Hp} {a : Addr} {xs : List V} (e : Same H H') (h : SqL K H a xs) : SqL K H' a xs := by
  rcases h with (h | ⟨o, h⟩) | h
  · exact .inl (.inl (e _ _ h))
  · exact .inl (.inr ⟨o, e _ _ h⟩)
  · exact .inr h

section
variable {κ : Type} [DecidableEq κ]
end
theorem at_of {xs : List V} {z : Int} {j : Nat} {v : V} (e : z = (j : Int)) (h : xs[j]? = some v) : atI xs z = some v := by
  rw [e]
  exact atI_nat h
theorem Same.made {H H1 : Hp} {x dx C : Addr} (nx : H x = Option.none) (nd : H dx = Option.none) (k : ∀ b o, (upd (upd H dx (.own x)) x (.ins C dx [])) b = some o → b ≠ x → H1 b = some o) : Same H H1 := fun b o e =>
  k b o (by rw [upd_ne (ne_of_none e nx), upd_ne (ne_of_none e nd)]; exact e) (ne_of_none e nx)
end L2
set_option Elab.async false
set_option linter.all false
set_option maxRecDepth 100000
set_option maxHeartbeats 4000000
namespace My
open PySem PySem.Spec PyProof.Rows L2
structure FunD (K : PySem.W.Frag) (x qual : Str) (st : Stmt) (dV kV : Value) (f : Addr) (fd : FuncData) : Prop where
  ex : ∃ (oc : Value) (od : Option Addr) (doc pm : Value) (an : Option Addr) (cdv ct : Value) (osl : Array (Option Value)),
    fd = PySem.W.fnOf x qual (defArgs st) (defBody st) (defScope st) dV kV doc pm an cdv ct ∧ K.lookup f = some ⟨oc, od, .func fd, osl⟩ ∧ PySem.W.codeIn K cdv qual = true
  kp : PySem.W.keepIn K (.ref f) = true
section
variable {P : Program} {w : World} {K : PySem.W.Frag} {mg : Str → Option Value} {base : Heap}
theorem FunD.ok {x qual : Str} {st : Stmt} {dV kV : Value} {f : Addr} {fd : FuncData} {N ps : List Str} {k : Nat} {sp : Sp} (F : FunD K x qual st dV kV f fd) (S : FnScope N ps (defScope st)) (len : ∀ vs H Q E, sp vs H Q E → vs.length = ps.length)
    (hbody : ∀ (cdv : Value) (A : Around) (outer : List Env) (s : Shared) (H : Hp) (vs : List V) (Q : VK) (E : XK), Room k (A.deeper (envOfC qual (defScope st) s.heap.objs.size f cdv)) → sp vs H Q E →
      ∃ t, PSs (cxOf CX0 P w K mg base N qual (defScope st) f cdv A outer s H E).nox (defBody st) t ∧ t { nx := fun _ H' => Q .non H', rt := Q } (start N vs) H) : FnOk P w K mg base CX0 (k + 1) f fd ps sp := by
  obtain ⟨oc, od, doc, pm, an, cdv, ct, osl, rfl, lk, hcd⟩ := F.ex
  refine fn_of lk hcd S len fun A outer s H vs Q E hr hsp => ?_
  obtain ⟨t, h, q⟩ := hbody cdv A outer s H vs Q E hr hsp
  exact ⟨t, h.nox, q⟩
theorem FunD.binds {x qual : Str} {st : Stmt} {dV kV : Value} {f : Addr} {fd : FuncData} {ps : List Str} (F : FunD K x qual st dV kV f fd)
    (h : ∀ (doc pm : Value) (an : Option Addr) (cdv ct : Value) (us : List Value), us.length = ps.length → bindArgs (PySem.W.fnOf x qual (defArgs st) (defBody st) (defScope st) dV kV doc pm an cdv ct) ⟨us, []⟩ = pure (ps.zip us)) : Binds K fd ps [] := by
  obtain ⟨oc, od, doc, pm, an, cdv, ct, osl, rfl, lk, hcd⟩ := F.ex
  exact .all (h doc pm an cdv ct)
theorem funD_mk {x qual : Str} {st : Stmt} {dV kV : Value} {f : Addr} {oc : Value} {od an : Option Addr} {osl : Array (Option Value)} {doc pm cdv ct : Value} (l : K.lookup f = some ⟨oc, od, .func (PySem.W.fnOf x qual (defArgs st) (defBody st) (defScope st) dV kV doc pm an cdv ct), osl⟩)
    (c : PySem.W.codeIn K cdv qual = true) (k : PySem.W.keepIn K (.ref f) = true) : FunD K x qual st dV kV f (PySem.W.fnOf x qual (defArgs st) (defBody st) (defScope st) dV kV doc pm an cdv ct) := ⟨⟨oc, od, doc, pm, an, cdv, ct, osl, rfl, l, c⟩, k⟩
end
section
variable {X : Cx}
theorem cr_isi : CallR X (.builtin "isinstance") (fun xs H Q => ∃ x c t cv b, xs = [x, c] ∧ RelV c cv ∧ (∀ u, RelV c u → u = cv) ∧ TyOf X.K H x t ∧ PySem.W.kitOne X.K t cv = some b ∧ Q (.bl b) H) := by
  intro pins s σ H xs us Q I r h
  obtain ⟨x, c, t, cv, b, rfl, rc, rc', ty, e, q⟩ := h
  cases r with
  | cons r1 r2 =>
    cases r2 with
    | cons r2 r3 =>
      cases r3
      cases rc' _ r2
      exact isinst_ok I r1 ty e fun tk => ⟨.bl b, H, I.tok tk, rfl, q⟩
def rIsiT (K : PySem.W.Frag) : List V → Hp → VK → Prop := fun xs H Q => ∃ x n t b, xs = [x, .ty n] ∧ TyOf K H x t ∧ PySem.W.kitOne K t (.type n) = some b ∧ Q (.bl b) H
theorem cr_isiT : CallR X (.builtin "isinstance") (rIsiT X.K) := by
  intro pins s σ H xs us Q I r h
  obtain ⟨x, n, t, b, rfl, ty, e, q⟩ := h
  exact cr_isi pins s σ H _ us Q I r ⟨x, .ty n, t, .type n, b, rfl, rfl, fun u hu => hu, ty, e, q⟩
def rIsiC (K : PySem.W.Frag) : List V → Hp → VK → Prop := fun xs H Q => ∃ x C t b, xs = [x, .ref C] ∧ TyOf K H x t ∧ PySem.W.kitOne K t (.ref C) = some b ∧ Q (.bl b) H
theorem cr_isiC : CallR X (.builtin "isinstance") (rIsiC X.K) := by
  intro pins s σ H xs us Q I r h
  obtain ⟨x, C, t, b, rfl, ty, e, q⟩ := h
  exact cr_isi pins s σ H _ us Q I r ⟨x, .ref C, t, .ref C, b, rfl, rfl, fun u hu => hu, ty, e, q⟩
example (K : PySem.W.Frag) : PySem.W.kitOne K (.type "bool") (.type "int") = some true := by rfl
example (K : PySem.W.Frag) : PySem.W.kitOne K (.type "int") (.type "bool") = some false := by rfl
end
end My
set_option Elab.async false
set_option linter.all false
set_option maxRecDepth 100000
set_option maxHeartbeats 4000000
namespace PySem
theorem collect_rangeObj {prog : Program} {w : World} {A : Around} {E : Value → Shared → Prop} {s : Shared} {Q : List Value → Shared → Prop} {r : Addr} {a b c : Int} {t u v : Tok} {n : Nat} (hh : A.handled = none) (hr : IsRange s.heap r a b c t u v) (hsmall : Builtin.Range.small a b c = true)
    (hn : Builtin.Range.rangeSize a b c = n) (hlen : n ≤ 2 ^ 24)
    (hQ : ∀ (h' : Heap) tk acc, (∀ b o, s.heap.get? b = some o → h'.get? b = some o) → ItemsOf (fun i v => ∃ t, v = .int (a + i * c) t) acc n → Q acc.toList { s with heap := h', toks := tk }) : wpAny (model prog w) A (collect (.ref r)) Q E s := by
  have hlt : r < s.heap.objs.size := Heap.lt_size hr
  unfold collect
  refine wpAny_bind (wpAny_runValue (codeAny_builtin F.entry_proto_collect ?_))
  rw [Around.under_plainId F.plain_proto_collect _]
  show wpAny _ A.in1 (newList [] >>= fun l => again (.builtin "list.__iadd__" ⟨[l, .ref r], []⟩)) _ _ s
  refine wpAny_bind (wpAny_newObj_type ?_)
  refine wpAny_pure ⟨plainId_quiet F.plain_list_iadd _, codeAny_builtin F.entry_list_iadd ?_⟩
  rw [Around.under_plainId F.plain_list_iadd _]
  have hS₁ : (s.heap.push { cls := .type "list", data := .seq ([] : List Value).toArray }).get? s.heap.objs.size = some { cls := .type "list", data := .seq #[] } := Heap.get?_push_size _ rfl
  show wpAny _ A.in1 (Builtin.List.listExtendWith (.ref s.heap.objs.size) (.ref r) (.ref s.heap.objs.size)) _ _ _
  refine wpAny_extend_range (prog := prog) (w := w) (R := fun r s' => match r with
      | .ok (.ret v) => wpAny (model prog w) A (match v with
        | .ref a => do
          let o ← load a
          match o.data with
          | .seq xs _ => pure xs.toList
          | _ => unsupported "internal:collect"
        | _ => unsupported "internal:collect") Q E s'
      | .ok _ => False
      | .error e => E e s') (s := { s with heap := s.heap.push { cls := .type "list", data := .seq ([] : List Value).toArray } }) (A := A) hh (Heap.get?_push_of_some _ hr) hsmall hn hlen s.heap.objs.size (.ref s.heap.objs.size) _ hS₁ fun h' tk acc' c' hk hS' hacc => ?_
  show wpAny _ A (load s.heap.objs.size >>= _) _ _ _
  refine wpAny_bind (wpAny_load hS' ?_)
  exact wpAny_pure (hQ h' tk acc' (fun b o e => hk b o (Nat.ne_of_lt (Heap.lt_size e)) (Heap.get?_push_of_some _ e)) hacc)
section
variable {prog : Program} {w : World} {A : Around} {E : Value → Shared → Prop} {s : Shared}
theorem code_tuple_new_range {Q₁ : Value → Shared → Prop} {r : Addr} {a b c : Int} {t u v : Tok} {n : Nat} (hh : A.handled = none) (hr : IsRange s.heap r a b c t u v) (hsmall : Builtin.Range.small a b c = true)
    (hn : Builtin.Range.rangeSize a b c = n) (hlen : n ≤ 2 ^ 24)
    (h : ∀ (h' : Heap) tk acc, (∀ b o, s.heap.get? b = some o → h'.get? b = some o) → ItemsOf (fun i v => ∃ t, v = .int (a + i * c) t) acc n → Q₁ (.ref h'.objs.size) { s with heap := h'.push { cls := .type "tuple", data := .seq acc }, toks := tk }) :
    codeAny (model prog w) A (.call (.builtin "tuple.__new__") ⟨[.type "tuple", .ref r], []⟩) (wants Q₁ E) s := by
  refine codeAny_of_tree ?_
  show wpAny _ A.in1 (do checkBuiltinCall "tuple.__new__" ⟨[.type "tuple", .ref r], []⟩; again (.builtin "tuple.__new__" ⟨[.type "tuple", .ref r], []⟩)) _ _ s
  refine wpAny_bind (wpAny_of_eq (F.newCall_tuple_1 _) (wpAny_pure ⟨plainId_quiet F.plain_tuple_new _, codeAny_builtin F.entry_tuple_new ?_⟩))
  rw [Around.under_plainId F.plain_tuple_new _]
  have hsub := sub_tuple_self
  have hinit := init_tuple_lookup
  have hmh := madeHere_tuple
  have hTI : s.TypeIs (.ref r) "range" := ⟨_, hr, rfl⟩
  wp_walk using wpAny_typeOf hTI, collect_rangeObj (A := A.in1) hh hr hsmall hn hlen
  intro h' tk acc hm hacc
  show wpAny _ _ (Builtin.Tuple.tupleExact acc.toList.toArray >>= fun v => ret v) _ _ _
  unfold Builtin.Tuple.tupleExact
  refine wpAny_bind (wpAny_newObj_type ?_ (by show acc.toList.toArray.size ≤ sizeLine; simp only [Array.toArray_toList]; rw [hacc.1]; exact hlen))
  refine wpAny_pure ?_
  have e : acc.toList.toArray = acc := by simp
  rw [e]
  exact h h' tk acc hm hacc
theorem call_tuple_rangeObj {Q : Value → Shared → Prop} {r : Addr} {a b c : Int} {t u v : Tok} {n : Nat} (hh : A.handled = none) (hr : IsRange s.heap r a b c t u v) (hsmall : Builtin.Range.small a b c = true)
    (hn : Builtin.Range.rangeSize a b c = n) (hlen : n ≤ 2 ^ 24)
    (hQ : ∀ (h' : Heap) tk acc, (∀ b o, s.heap.get? b = some o → h'.get? b = some o) → ItemsOf (fun i v => ∃ t, v = .int (a + i * c) t) acc n → Q (.ref h'.objs.size) { s with heap := h'.push { cls := .type "tuple", data := .seq acc }, toks := tk }) :
    wpAny (model prog w) A (call (.type "tuple") [.ref r]) Q E s := by
  refine callType_codes (Q₁ := fun obj s₁ => s₁.TypeIs obj "tuple" ∧ Q obj s₁) F.called_tuple (F.typeCall_tuple_1 _) F.entry_object_init
    (code_tuple_new_range hh hr hsmall hn hlen fun h' tk acc hm hacc => ⟨⟨_, Heap.get?_push_size _ rfl, rfl⟩, hQ h' tk acc hm hacc⟩) fun obj s₁ h₁ => ?_
  exact ⟨h₁.1, F.args_object_init_2 obj _, object_init_meets F.called_tuple.init.lookup F.called_tuple.made (by decide) prog w A.in1 _ s₁ ⟨h₁.1, rfl, h₁.2⟩⟩
end
end PySem
set_option Elab.async false
set_option linter.all false
set_option maxRecDepth 100000
set_option maxHeartbeats 4000000
namespace PySem.W
open PySem PySem.Spec PySem.Calls PyProof.Rows
end PySem.W
namespace My
open PySem PySem.Spec PyProof.Rows L2
theorem vals_of : ∀ {xs : List V} {us : List Value}, xs.length = us.length → (∀ (i : Nat) x u, xs[i]? = some x → us[i]? = some u → RelV x u) → Vals xs us
  | [], [], _, _ => .nil
  | [], _ :: _, h, _ => by simp at h
  | _ :: _, [], h, _ => by simp at h
  | x :: xs, u :: us, h, k => .cons (k 0 x u rfl rfl) (vals_of (by simpa using h) fun i y v a b => k (i + 1) y v (by simpa using a) (by simpa using b))
section
variable {X : Cx}
theorem cr_range1 : CallR X (.type "range") (fun xs H Q => ∃ j : Int, xs = [.int j] ∧ ∀ p, H p = none → Q (.ref p) (upd H p (.rng 0 j))) := by
  intro pins s σ H xs us Q I r h
  obtain ⟨j, rfl, q⟩ := h
  obtain ⟨u, rfl, ru⟩ := vals1 r
  obtain ⟨t, rfl⟩ := ru
  refine call_range_1 ⟨.ref s.heap.objs.size, _, I.laid (a := s.heap.objs.size) (o := .rng 0 j) (t' := s.toks + 1 + 1) (fun b o e => Heap.get?_push_of_some _ e) (Nat.le_refl _) ⟨_, _, _, Heap.get?_push_size _ rfl⟩, rfl, q _ (I.hok.fresh (Nat.le_refl _))⟩
def upTo (n : Nat) : List V := (List.range n).map fun (k : Nat) => V.int (k : Int)
theorem cr_tupleR (hc : X.calm = true) : CallR X (.type "tuple") (fun xs H Q => ∃ (p : Addr) (n : Nat), xs = [.ref p] ∧ H p = some (.rng 0 (n : Int)) ∧ n ≤ 1000 ∧ ∀ l, H l = none → Q (.ref l) (upd H l (.tup (upTo n)))) := by
  intro pins s σ H xs us Q I r h
  obtain ⟨p, n, rfl, hp, hn, q⟩ := h
  obtain ⟨u, rfl, ru⟩ := vals1 r
  cases ru
  obtain ⟨t, u, v, ho⟩ := (show ObjOk X.prog X.w H s.heap p (.rng 0 (n : Int)) from I.hok p _ hp)
  have hsm : Builtin.Range.small 0 (n : Int) 1 = true := small_one (by decide) (by decide) (by omega) (by omega)
  have hsz : Builtin.Range.rangeSize 0 (n : Int) 1 = n := by rw [rangeSize_one]; split <;> omega
  refine call_tuple_rangeObj (I.ok.hd hc) ho hsm hsz (by omega) fun h' tk acc hk hacc => ?_
  have hl : (upTo n).length = n := by unfold upTo; simp
  refine ⟨.ref h'.objs.size, _, (I.kept (h' := h') (t' := tk) hk).laid (a := h'.objs.size) (o := .tup (upTo n)) (t' := tk) (fun b o e => Heap.get?_push_of_some _ e) (Nat.le_refl _) ⟨by rw [hl, sizeLine_eq]; omega, acc.toList, vals_of (by rw [hl]; simp [hacc.1]) fun i x u hx hu => ?_, ⟨_, Heap.get?_push_size _ rfl, rfl, 0, by simp⟩⟩, rfl, q _ ((I.kept (h' := h') (t' := tk) hk).hok.fresh (Nat.le_refl _))⟩
  obtain ⟨t, rfl⟩ := hacc.2 i u (by simpa using hu)
  have hi : i < n := by have := (List.getElem?_eq_some_iff.mp hx).1; omega
  have : x = V.int (i : Int) := by
    unfold upTo at hx
    rw [List.getElem?_map, List.getElem?_range hi] at hx
    exact (Option.some.inj hx).symm
  subst this
  exact ⟨t, by rw [Int.zero_add, Int.mul_one]⟩
end
end My
set_option Elab.async false
set_option linter.all false
set_option maxRecDepth 100000
set_option maxHeartbeats 4000000
namespace My
open PySem PySem.Spec PyProof.Rows L2
section
variable {X : Cx} {CX : CXT} {k : Nat} {f C : Addr} {fd : FuncData} {ps : List Str} {sp : Sp}
theorem run_in {pins : List (Addr × Obj)} {σ : L2.St} {H : Hp} {s : Shared} {A : Around} {E : Value → Shared → Prop} {Q : VK} {R : Value → Shared → Prop} {us : List Value} {vs : List V} (F : FnOk X.prog X.w X.K X.mg X.base CX0 k f fd ps sp) (hr : Room k A) (he : Env0 X.prog X.w X.K X.mg X.base A X.stack s H) (hb : Binds X.K fd ps [])
    (I : Inv X pins σ H s) (r : Vals vs us) (h : sp vs H Q E0) (hQ : ∀ u s', EP X pins σ Q u s' → R u s') : wpAny (model X.prog X.w) A (call (.ref f) us) R E s := by
  have hl : us.length = ps.length := by rw [← r.length]; exact F.len _ _ _ _ h
  have bd : BindsTo s fd ⟨us, []⟩ (ps.zip us) := by
    have := hb s us I.kIn (by simpa using hl)
    simpa using this
  refine wpAny_call (codeAny_mono (F.run A X.stack s H ⟨us, []⟩ us vs Q E0 hr he bd r h) fun r s' hq => ?_)
  cases r with
  | error e => exact hq.elim
  | ok fl =>
    cases fl with
    | ret u => exact hQ u s' (I.after hq)
    | next => exact False.elim hq
    | brk => exact False.elim hq
    | cont => exact False.elim hq
theorem cr_lenO (m : Meth X.K C "__len__" f) (F : FnOk X.prog X.w X.K X.mg X.base CX0 k f fd ps sp) (hr : Room (k + 1) X.A) (hb : Binds X.K fd ps []) :
    CallR X (.builtin "len") (fun xs H Q => ∃ a dx fs, xs = [.ref a] ∧ H a = some (.ins C dx fs) ∧ sp [.ref a] H (fun v H' => ∃ n : Int, v = .int n ∧ 0 ≤ n ∧ n < 2 ^ 63 ∧ Q (.int n) H') E0) := by
  intro pins s σ H xs us Q I r h
  obtain ⟨a, dx, fs, rfl, ea, q⟩ := h
  obtain ⟨u, rfl, ru⟩ := vals1 r
  cases ru
  obtain ⟨mA, O, _⟩ := ins_get I.hok ea
  obtain ⟨od, J, _⟩ := O.look
  obtain ⟨mf, hfr⟩ := I.fr
  refine PySem.W.len_K hfr I.mod.kin J m.at_ m.fn (run_in F hr.in1 I.env0.in1 hb I (vs := [.ref a]) (.cons rfl .nil) q fun u s' ⟨v, H', I', rv, n, ev, h0, h1, q'⟩ => ?_)
  subst ev
  obtain ⟨t, rfl⟩ := rv
  exact ⟨⟨h0, h1⟩, .int n, H', I'.tok _, ⟨_, rfl⟩, q'⟩
theorem tys_of : ∀ {ns : List String} {us : List Value}, Vals (ns.map V.ty) us → us = ns.map Value.type
  | [], _, r => by rw [List.map_nil] at r; cases r; rfl
  | n :: ns, _, r => by
    rw [List.map_cons] at r
    cases r with
    | cons r1 r2 =>
      have e1 := tys_of r2
      have e2 : _ = Value.type n := r1
      rw [e1, e2]; rfl
end
end My
set_option Elab.async false
set_option linter.all false
set_option maxRecDepth 100000
set_option maxHeartbeats 4000000
namespace My
open PySem PySem.Spec PyProof.Rows L2
def FlyAt (h : Heap) (e : Addr) (C : Value) (dx : Option Addr) (T : Option Addr) (fl : Value) : Prop :=
  ∃ oe vs, h.get? e = some oe ∧ oe.cls = C ∧ oe.dict = dx ∧ oe.data = .fields vs ∧ 1 < vs.size ∧
    match T with
    | none => vs[1]? = some .none
    | some T => vs[1]? = some (.ref T) ∧ T ≠ e ∧ ∃ oT ts, h.get? T = some oT ∧ oT.data = .fields ts ∧ ts[3]? = some fl
def KeptBut (ex fs : List Addr) (h h' : Heap) : Prop :=
  (∀ b o, b ∉ ex → b ∉ fs → h.get? b = some o → h'.get? b = some o) ∧ (∀ b o, b ∉ ex → b ∈ fs → h.get? b = some o → ∃ sl, h'.get? b = some { o with slots := sl }) ∧ h.objs.size ≤ h'.objs.size
section
variable {M : Model} {A : Around} {E : Value → Shared → Prop} {s : Shared}
theorem entry_fly {base : Heap} {env : Env} {outer : List Env} {L e : Addr} {oe : Obj} {vs : Array Value} {head : Value} {hadNext : Bool} {Q : Unit → Shared → Prop}
    (hfr : A.frames = some (env :: outer)) (hl : s.heap.FunFrames base (env :: outer)) (hf : env.frame = some L)
    (he : s.heap.get? e = some oe) (hd : oe.data = .fields vs) (hsz : 1 < vs.size)
    (h : ∀ h' T, FlyAt h' e oe.cls oe.dict (some T) (rawInt L) → s.heap.objs.size ≤ T → KeptBut [e] (frs (env :: outer)) s.heap h' → Q () { s with heap := h' }) :
    wpAny M A (do let a ← frameOf env; let pl ← entryPlaceOf L hadNext; let b ← EntryCells.newEntry head a .none (rawInt L) .none pl; setField (.ref e) 1 b) Q E s := by
  have nf : e ∉ frs (env :: outer) := fun hm => by
    obtain ⟨_, o, ho, hnf⟩ := hl.mem hm
    rw [he] at ho
    cases ho
    exact hnf vs hd
  refine wpAny_bind (wpAny_frameOf_fun hfr hl hf fun h1 hs => wpAny_bind (wpAny_entryPlaceOf fun pl hpl => ?_))
  unfold EntryCells.newEntry newFields
  refine wpAny_bind (wpAny_newObj_type ?_ (hpl.sizeOk5 _ _ _ _ _))
  generalize hO : ({ cls := .type "traceback", dict := none, data := .fields ([head, .ref L, .none, rawInt L, .none] ++ (if pl.isEmpty then List.replicate 6 Value.none else pl)).toArray } : Obj) = oT
  have he1 : h1.get? e = some oe := (hs.2.1 e nf).trans he
  have he2 : (h1.push oT).get? e = some oe := Heap.get?_push_of_some _ he1
  have hne : h1.objs.size ≠ e := Nat.ne_of_gt (Heap.lt_size he1)
  refine wpAny_setField he2 hd hsz (h _ h1.objs.size ?_ ?_ ⟨fun b o hb hb2 q => ?_, fun b o hb hb2 q => ?_, by rw [Heap.size_update, Heap.size_push, hs.1]; exact Nat.le_succ _⟩)
  · have hd3 := Obj.data_mapFields hd (·.setIfInBounds 1 (Value.ref h1.objs.size))
    have he3 := Heap.get?_update_self (Obj.mapFields (·.setIfInBounds 1 (Value.ref h1.objs.size))) he2 (Obj.isFreed_of_fields hd3)
    refine ⟨_, _, he3, Obj.cls_mapFields _ _, ?_, hd3, by simpa using hsz, by simp [hsz], hne, oT, ([head, .ref L, .none, rawInt L, .none] ++ (if pl.isEmpty then List.replicate 6 Value.none else pl)).toArray, ?_, by rw [← hO], by simp⟩
    · unfold Obj.mapFields
      split <;> rfl
    · rw [Heap.get?_update_other _ _ (Ne.symm hne)]
      exact Heap.get?_push_size h1 (by rw [← hO]; rfl)
  · exact Nat.le_of_eq hs.1.symm
  · rw [Heap.get?_update_other _ _ (fun z => hb (by rw [← z]; exact List.mem_singleton.mpr rfl))]
    exact Heap.get?_push_of_some _ ((hs.2.1 b hb2).trans q)
  · obtain ⟨sl, e2⟩ := hs.2.2 b o q
    refine ⟨sl, ?_⟩
    rw [Heap.get?_update_other _ _ (fun z => hb (by rw [← z]; exact List.mem_singleton.mpr rfl))]
    exact Heap.get?_push_of_some _ e2
theorem flight_none {e : Addr} {C : Value} {dx : Option Addr} {T : Addr} {fl : Value} {Q : Unit → Shared → Prop} (x : FlyAt s.heap e C dx (some T) fl)
    (h : ∀ h', FlyAt h' e C dx (some T) .none → KeptBut [T] [] s.heap h' → Q () { s with heap := h' }) : wpAny M A (setFlight (.ref e) none) Q E s := by
  obtain ⟨oe, vs, he, hc, hdx, hd, hsz, h1, hne, oT, ts, hT, hdT, h3⟩ := x
  have hs3 : 3 < ts.size := (Array.getElem?_eq_some_iff.mp h3).1
  unfold setFlight
  refine wpAny_bind (wpAny_field he hd h1 ?_)
  rw [if_pos (by simp)]
  refine wpAny_setField hT hdT hs3 (h _ ⟨oe, vs, ?_, hc, hdx, hd, hsz, h1, hne, _, _, Heap.get?_update_self _ hT (Obj.isFreed_of_fields (Obj.data_mapFields hdT _)), Obj.data_mapFields hdT _, by simp [hs3]⟩ ⟨fun b o hb _ q => ?_, fun _ _ _ hb _ => absurd hb (by simp), by rw [Heap.size_update]; exact Nat.le_refl _⟩)
  · rw [Heap.get?_update_other _ _ hne]; exact he
  · rw [Heap.get?_update_other _ _ (fun z => hb (by rw [← z]; exact List.mem_singleton.mpr rfl))]; exact q
theorem KeptBut.trans {ex ex' fs : List Addr} {h h1 h2 : Heap} (a : KeptBut ex fs h h1) (b : KeptBut ex' [] h1 h2) : KeptBut (ex ++ ex') fs h h2 := by
  refine ⟨fun c o hc hf q => ?_, fun c o hc hf q => ?_, Nat.le_trans a.2.2 b.2.2⟩
  · exact b.1 c o (fun z => hc (List.mem_append_right _ z)) (by simp) (a.1 c o (fun z => hc (List.mem_append_left _ z)) hf q)
  · obtain ⟨sl, e⟩ := a.2.1 c o (fun z => hc (List.mem_append_left _ z)) hf q
    exact ⟨sl, b.1 c _ (fun z => hc (List.mem_append_right _ z)) (by simp) e⟩
theorem note_fly {base : Heap} {env : Env} {outer : List Env} {L e : Addr} {C : Value} {dx T : Option Addr} {Q : Unit → Shared → Prop}
    (hfr : A.frames = some (env :: outer)) (hl : s.heap.FunFrames base (env :: outer)) (hf : env.frame = some L) (x : FlyAt s.heap e C dx T .none)
    (h : ∀ h' T', FlyAt h' e C dx (some T') .none → s.heap.objs.size ≤ T' → KeptBut (e :: T.toList) (frs (env :: outer)) s.heap h' → Q () { s with heap := h' }) : wpAny M A (noteFrame (.ref e) env) (fun _ s2 => wpAny M A (setFlight (.ref e) none) Q E s2) E s := by
  obtain ⟨oe, vs, he, rfl, rfl, hd, hsz, hT⟩ := x
  unfold noteFrame
  simp only [hf]
  cases T with
  | none =>
    refine wpAny_bind (wpAny_field he hd hT ?_)
    rw [if_neg (by decide)]
    refine entry_fly hfr hl hf he hd hsz fun h1 T1 f1 n1 k1 => ?_
    refine flight_none (s := { s with heap := h1 }) f1 fun h2 f2 k2 => h h2 T1 f2 n1 ⟨fun b o hb hf' q => ?_, fun b o hb hf' q => ?_, Nat.le_trans k1.2.2 k2.2.2⟩
    · have hbT : b ≠ T1 := fun z => Nat.lt_irrefl _ (Nat.lt_of_lt_of_le (Heap.lt_size q) (by rw [z]; exact n1))
      exact k2.1 b o (by simpa using hbT) (by simp) (k1.1 b o (by simpa using hb) hf' q)
    · have hbT : b ≠ T1 := fun z => Nat.lt_irrefl _ (Nat.lt_of_lt_of_le (Heap.lt_size q) (by rw [z]; exact n1))
      obtain ⟨sl, e2⟩ := k1.2.1 b o (by simpa using hb) hf' q
      exact ⟨sl, k2.1 b _ (by simpa using hbT) (by simp) e2⟩
  | some T0 =>
    obtain ⟨h1, hne, oT, ts, hT0, hdT, h3⟩ := hT
    have hs3 : 3 < ts.size := (Array.getElem?_eq_some_iff.mp h3).1
    refine wpAny_bind (wpAny_field he hd h1 ?_)
    rw [if_pos (by simp)]
    refine wpAny_bind (wpAny_field hT0 hdT h3 ?_)
    rw [if_neg (by simp [rawInt])]
    refine wpAny_bind (wpAny_setField hT0 hdT hs3 ?_)
    have other : ∀ b, b ≠ T0 → (s.heap.update T0 (Obj.mapFields (·.setIfInBounds 3 Value.none))).get? b = s.heap.get? b := fun b hb => Heap.get?_update_other _ _ (Ne.symm hb)
    have nT : ∀ b o, s.heap.get? b = some o → (∀ vs, o.data ≠ .fields vs) → b ≠ T0 := fun b o hb hnf z => by
      rw [z, hT0] at hb
      cases hb
      exact hnf ts hdT
    have hl2 : (s.heap.update T0 (Obj.mapFields (·.setIfInBounds 3 Value.none))).FunFrames base (env :: outer) := hl.of_keeps fun b o hb hnf => ⟨o, (other b (nT b o hb hnf)).trans hb, rfl⟩
    refine entry_fly (s := { s with heap := s.heap.update T0 (Obj.mapFields (·.setIfInBounds 3 Value.none)) }) hfr hl2 hf ((other e (Ne.symm hne)).trans he) hd hsz fun h1 T1 f1 n1 k1 => ?_
    have n1' : s.heap.objs.size ≤ T1 := by
      have e : (s.heap.update T0 (Obj.mapFields (·.setIfInBounds 3 Value.none))).objs.size = s.heap.objs.size := by first | exact Heap.size_update .. | simp
      have n2 : (s.heap.update T0 (Obj.mapFields (·.setIfInBounds 3 Value.none))).objs.size ≤ T1 := n1
      omega
    refine flight_none (s := { s with heap := h1 }) f1 fun h2 f2 k2 => h h2 T1 f2 n1' ⟨fun b o hb hf' q => ?_, fun b o hb hf' q => ?_, by
      have y1 : (s.heap.update T0 (Obj.mapFields (·.setIfInBounds 3 Value.none))).objs.size ≤ h1.objs.size := k1.2.2
      have y2 : h1.objs.size ≤ h2.objs.size := k2.2.2
      rw [Heap.size_update] at y1
      omega⟩
    · have hbT : b ≠ T1 := fun z => Nat.lt_irrefl _ (Nat.lt_of_lt_of_le (Heap.lt_size q) (by rw [z]; exact n1'))
      have hb2 : b ≠ e ∧ b ≠ T0 := by simpa using hb
      exact k2.1 b o (by simpa using hbT) (by simp) (k1.1 b o (by simpa using hb2.1) hf' ((other b hb2.2).trans q))
    · have hbT : b ≠ T1 := fun z => Nat.lt_irrefl _ (Nat.lt_of_lt_of_le (Heap.lt_size q) (by rw [z]; exact n1'))
      have hb2 : b ≠ e ∧ b ≠ T0 := by simpa using hb
      obtain ⟨sl, e2⟩ := k1.2.1 b o (by simpa using hb2.1) hf' ((other b hb2.2).trans q)
      exact ⟨sl, k2.1 b _ (by simpa using hbT) (by simp) e2⟩
theorem leave_fly {base : Heap} {env : Env} {outer : List Env} {L e : Addr} {C : Value} {dx T : Option Addr} {Q : Unit → Shared → Prop}
    (hfr : A.frames = some (env :: outer)) (hl : s.heap.FunFrames base (env :: outer)) (hf : env.frame = some L) (x : FlyAt s.heap e C dx T .none)
    (h : ∀ h' T', FlyAt h' e C dx (some T') .none → s.heap.objs.size ≤ T' → KeptBut (e :: T.toList) (frs (env :: outer)) s.heap h' → Q () { s with heap := h' }) : wpAny M A (leaving env (.ref e)) Q E s := by
  unfold leaving
  exact wpAny_bind (note_fly hfr hl hf x h)
end
end My
set_option Elab.async false
set_option linter.all false
set_option maxRecDepth 100000
set_option maxHeartbeats 4000000
namespace My
open PySem PySem.Spec PyProof.Rows L2
theorem KeptBut.get {ex fs : List Addr} {h h' : Heap} (k : KeptBut ex fs h h') {b : Addr} {o : Obj} (hb : b ∉ ex) (q : h.get? b = some o) : ∃ sl, h'.get? b = some { o with slots := sl } := by
  by_cases hf : b ∈ fs
  · exact k.2.1 b o hb hf q
  · exact ⟨o.slots, k.1 b o hb hf q⟩
def CXe (P : Program) (w : World) : CXT := fun outer H s E ev s' => ∃ (e dx : Addr) (C : Value) (T : Option Addr) (H' : Hp), ev = .ref e ∧ FlyAt s'.heap e C (some dx) T .none ∧ s.heap.get? e = none ∧ (∀ t, T = some t → s.heap.get? t = none) ∧
  s'.os = s.os ∧ AllBare s'.gens ∧ Un (frs outer) [] H H' s.heap s'.heap ∧ HOk P w H' s'.heap ∧ H' e = none ∧ (∀ t, T = some t → H' t = none) ∧ E C (some dx) H'
theorem funs_un {base h h' : Heap} {fs : List Addr} {H H' : Hp} (u : Un fs [] H H' h h') : ∀ {l : List Env}, (∀ b ∈ frs l, H b = none) → h.FunFrames base l → h'.FunFrames base l
  | [], _, _ => trivial
  | env :: r, hb, ⟨hk, ⟨L, o, hf, hn, ho, hd⟩, hr⟩ => by
    have hL : H L = none := hb L (by unfold frs; rw [List.filterMap_cons, hf]; exact List.mem_cons_self)
    obtain ⟨sl, e⟩ := u.any ho hL (by simp)
    exact ⟨hk, ⟨L, _, hf, hn, e, hd⟩, funs_un u (fun b hb' => hb b (by unfold frs; rw [List.filterMap_cons, hf]; exact List.mem_cons_of_mem _ hb')) hr⟩
theorem un_none {fs : List Addr} {H H' : Hp} {h h' : Heap} (u : Un fs [] H H' h h') {b : Addr} (z : h'.get? b = none) : h.get? b = none := by
  cases q : h.get? b with
  | none => rfl
  | some o =>
    obtain ⟨o', e⟩ := u.there b o q (by simp)
    rw [e] at z; cases z
theorem Un.sz {fs : List Addr} {H H' : Hp} {h h' : Heap} (u : Un fs [] H H' h h') : ∀ b, b < h.objs.size → (∃ o, h.get? b = some o) → b < h'.objs.size := fun b _ ⟨o, e⟩ => by
  obtain ⟨o', e'⟩ := u.there b o e (by simp)
  exact Heap.lt_size e'
theorem hok_kept_but {P : Program} {w : World} {H : Hp} {h h' : Heap} {ex fs : List Addr} (x : HOk P w H h) (k : KeptBut ex fs h h') (hex : ∀ b ∈ ex, H b = none) (hfs : ∀ b ∈ fs, H b = none) : HOk P w H h' := fun a o e => by
  refine (x a o e).stay (fun b u hb q => ?_) (fun _ z => z) fun _ _ z => z
  have hH : ∃ o', H b = some o' := by
    rcases hb with rfl | z
    · exact ⟨_, e⟩
    · exact ⟨_, z⟩
  obtain ⟨o', hH⟩ := hH
  exact k.1 b u (fun z => by rw [hex b z] at hH; cases hH) (fun z => by rw [hfs b z] at hH; cases hH) q
section
variable {P : Program} {w : World} {K : PySem.W.Frag} {mg : Str → Option Value} {base : Heap} {N : List Str} {qual : Str} {scope : Scope} {f : Addr} {cd : Value} {A : Around} {outer : List Env} {s0 : Shared} {H0 : Hp} {E : XK}
theorem leave_cx {pins : List (Addr × Obj)} {σ : L2.St} {H : Hp} {s s' : Shared} {ev : Value} (I : Inv (cxOf (CXe P w) P w K mg base N qual scope f cd A outer s0 H0 E) pins σ H s)
    (h : CXe P w (cxOf (CXe P w) P w K mg base N qual scope f cd A outer s0 H0 E).stack H s E ev s') : (cxOf (CXe P w) P w K mg base N qual scope f cd A outer s0 H0 E).xe ev s' := by
  obtain ⟨e, dx, C, T, H', rfl, fly, se, sT, os, bare, un, hok, he, hT, q⟩ := h
  have hfun := funs_un un I.stkFree I.stack
  have hstk : frs (cxOf (CXe P w) P w K mg base N qual scope f cd A outer s0 H0 E).stack = s0.heap.objs.size :: frs outer := rfl
  have fr' : ∀ b ∈ frs (cxOf (CXe P w) P w K mg base N qual scope f cd A outer s0 H0 E).stack, H' b = none := fun b hb => by
    obtain ⟨_, o, ho, _⟩ := I.stack.mem hb
    exact un.free b o ho (I.stkFree b hb) (by simp)
  show wpAny _ _ (leaving _ (.ref e)) _ _ s'
  refine leave_fly (base := base) (env := envOfC qual scope s0.heap.objs.size f cd) (outer := outer) I.ok.frames hfun rfl fly fun h2 T' fly2 n2 k2 => ?_
  have bu : Un (frs outer) [] H0 H s0.heap s.heap := I.base
  have old2 : ∀ b o, s.heap.get? b = some o → b ∉ e :: T.toList := fun b o z hm => by
    rcases List.mem_cons.mp hm with y | y
    · rw [y, se] at z; cases z
    · cases T with
      | none => simp at y
      | some t =>
        have y' : b = t := by simpa using y
        rw [y', sT t rfl] at z; cases z
  have nL : ∀ b o, s0.heap.get? b = some o → b ≠ s0.heap.objs.size := fun b o z => Nat.ne_of_lt (Heap.lt_size z)
  have new0 : ∀ b, s.heap.get? b = none → s0.heap.get? b = none := fun b z => un_none bu z
  refine ⟨e, dx, C, some T', H', rfl, fly2, new0 e se, fun t ht => ?_, os.trans I.os, bare, ?_, hok_kept_but hok k2 (fun b hb => ?_) fr', he, fun t ht => ?_, q⟩
  · cases ht
    exact new0 _ (un_none un (Heap.get?_none_of_le n2))
  · refine ⟨fun b o z n hb _ => ?_, fun b o z n hb _ => ?_, fun b o z n _ => ?_, fun b o z _ => ?_, fun b xs z => un.tups b xs (bu.tups b xs z), fun b o u z => un.frzs b o u (bu.frzs b o u z), fun b ps z => ?_⟩
    · have z1 := bu.keep b o z n hb (by simp)
      have n1 := bu.free b o z n (by simp)
      have hb' : b ∉ frs (cxOf (CXe P w) P w K mg base N qual scope f cd A outer s0 H0 E).stack := by
        rw [hstk]; exact fun y => (List.mem_cons.mp y).elim (nL b o z) hb
      exact k2.1 b o (old2 b o z1) hb' (un.keep b o z1 n1 hb' (by simp))
    · obtain ⟨sl, z1⟩ := bu.slot b o z n hb (by simp)
      have n1 := bu.free b o z n (by simp)
      obtain ⟨sl2, z2⟩ := un.any z1 n1 (by simp)
      obtain ⟨sl3, z3⟩ := k2.get (old2 b _ z1) z2
      exact ⟨sl3, z3⟩
    · obtain ⟨o1, z1⟩ := bu.there b o z (by simp)
      exact un.free b o1 z1 (bu.free b o z n (by simp)) (by simp)
    · obtain ⟨o1, z1⟩ := bu.there b o z (by simp)
      obtain ⟨o2, z2⟩ := un.there b o1 z1 (by simp)
      obtain ⟨sl, z3⟩ := k2.get (old2 b o1 z1) z2
      exact ⟨_, z3⟩
    · obtain ⟨m1, e1⟩ := bu.tbls b ps z
      obtain ⟨m2, e2⟩ := un.tbls b _ e1
      exact ⟨m1 ++ m2, by rw [e2, Array.append_assoc]⟩
  · rcases List.mem_cons.mp hb with y | y
    · rw [y]; exact he
    · cases T with
      | none => simp at y
      | some t =>
        have : b = t := by simpa using y
        rw [this]; exact hT t rfl
  · cases ht
    exact hok.fresh n2
end
end My
set_option Elab.async false
set_option linter.all false
set_option maxRecDepth 100000
set_option maxHeartbeats 4000000
namespace My
open PySem PySem.Spec PyProof.Rows L2
def excFresh (C : Addr) (t : Addr) : Obj := { cls := .ref C, data := .fields #[.ref t, .none, .none, .none, .bool false, .none] }
section
variable {prog : Program} {w : World} {A : Around} {E : Value → Shared → Prop} {h : Heap} {g : Array GenState} {d : Drawn} {t : Nat} {os : OsState}
variable {nm q : Str} {C N : Addr} {bs bm : List Value} {hdct : Bool} {sn : List Str} {sub : List Value} {ab : Bool} {col : Option Bool} {dd : Option Addr} {k0 k1 k2 k3 k5 : Option Value} {B newId initId : String}
theorem call_excInit (F : ExcBaseFacts B newId initId bm) {e t0 : Addr} {rest : List Value} {Q : Value → Shared → Prop}
    (hC : h.get? C = some (excClassObj nm q C N bs bm hdct sn sub ab col dd k0 k1 k2 k3 k5 newId)) (he : h.get? e = some (excFresh C t0))
    (hq : ∀ (h' : Heap) (t1 : Addr), h'.get? e = some (excFresh C t1) → (∀ b o, b ≠ e → h.get? b = some o → h'.get? b = some o) → Q .none ⟨h', g, d, t, os⟩) (hrest : rest.length ≤ sizeLine) :
    wpAny (model prog w) A (call (.builtin initId) (.ref e :: rest)) Q E ⟨h, g, d, t, os⟩ := by
  refine wpAny_call (codeAny_call_builtin F.init.plain F.initEntry (wpAny_check_init_sub F hC he rfl ?_))
  wp_walk
  refine hq _ h.objs.size ?_ fun b o hb e2 => ?_
  · rw [Heap.get?_update_self _ (Heap.get?_push_of_some _ he) rfl]
    rfl
  · rw [Heap.get?_update_other _ _ (Ne.symm hb)]
    exact Heap.get?_push_of_some _ e2
end
section
variable {prog : Program} {w : World} {A : Around} {E : Value → Shared → Prop} {s : Shared} {K : PySem.W.Frag}
theorem getm_init {pl : Sem Bool} {T initId : String} {Q : Value × List Value → Shared → Prop} (X : K.In s.heap) (hstub : opaqueClassAbove (.type T) = pure none) (ht : typeOf (.type T) = pure (.type "type"))
    (hh : PySem.W.handedIn (.builtin initId) = true)
    (e : PySem.W.findCls K (.type T) (.type "type") (PySem.Str.ofString "__init__") = some (.val (.builtin initId)))
    (h : Q (.builtin initId, []) { s with toks := s.toks + 1 }) :
    wpAny (model prog w) A (getMethod (.type T) (PySem.Str.ofString "__init__") pl) Q E s := by
  have L0 : PySem.W.Looks (model prog w) s.heap (typeOf (.type T)) (.type "type") := PySem.W.Looks.of_pure ht
  have hg : PySem.W.findIn K (.type "type") "__getattribute__" = some (some (.builtin "type.__getattribute__")) := PySem.W.type_tga
  have LO : PySem.W.Looks (model prog w) s.heap (opaqueClassAbove (.type T)) none := PySem.W.Looks.of_pure hstub
  unfold getMethod specialOf
  refine wpAny_bind (wpAny_bind (L0.here ((PySem.W.looks_findIn X hg).here ?_)))
  dsimp only
  rw [if_pos PySem.W.canon_tga]
  refine wpAny_bind (thn (Q := fun v => Q (v, [])) ?_ fun _ _ z => wpAny_pure z)
  refine PySem.W.cls_open X LO L0 hg (PySem.W.looks_hook X (r := none) (by rfl)) (by show PySem.W.subIn K _ _ = _; rfl) e ?_
  show wpAny _ _ (ret _) _ _ _
  refine wpAny_pure ?_
  show wpAny _ _ (handedOut (.builtin initId)) _ _ _
  rw [PySem.W.handedOut_of hh]
  exact wpAny_pure h
end
end My
set_option Elab.async false
set_option linter.all false
set_option maxRecDepth 100000
set_option maxHeartbeats 4000000
namespace My
open PySem PySem.Spec PyProof.Rows L2
open Builtin Builtin.ObjectAttr
theorem ns_some_of {K : PySem.W.Frag} {h : Heap} {N : Addr} {m : Str → Option Value} {n : Str} {v : Value} (X : K.In h) (G : h.Ns N m) (e : PySem.W.nsIn K N n = some (some v)) : m n = some v := by
  obtain ⟨o, es, ep, ho, hd, _, hf⟩ := G
  unfold PySem.W.nsIn at e
  split at e
  · rename_i c d es' n' sl q
    have := X _ _ q
    rw [ho] at this
    cases this
    cases hd
    split at e
    · rename_i y he
      rw [← hf]
      unfold nsFind findBy
      rw [← Array.find?_toList, he]
      cases e
      rfl
    · split at e <;> cases e
  · cases e
structure ECls (K : PySem.W.Frag) (C fI N : Addr) (newId : String) (bm : List Value) : Prop where
  cls : ∃ (nm q : Str) (bs : List Value) (sn : List Str) (sub : List Value) (ab : Bool) (col : Option Bool) (dd : Option Addr) (k0 k1 k2 k3 k5 : Option Value), K.lookup C = some (excClassObj nm q C N bs bm true sn sub ab col dd k0 k1 k2 k3 k5 newId)
  ns : PySem.W.nsOkIn K N = true
  init : PySem.W.nsIn K N "__init__" = some (some (.ref fI))
  noset : PySem.W.nsIn K N "__setattr__" = some none
  noget : PySem.W.nsIn K N "__getattribute__" = some none
  nohook : PySem.W.nsIn K N "__getattr__" = some none
  fn : PySem.W.isFn K (.ref fI) = true
  kp : PySem.W.keepIn K (.ref C) = true
theorem fn_obj {K : PySem.W.Frag} {h : Heap} {f : Addr} (X : K.In h) (e : PySem.W.isFn K (.ref f) = true) : ∃ o, h.get? f = some o ∧ o.cls = .type "function" := by
  have e' : PySem.W.typeIn K (.ref f) = some (.type "function") := beq_iff_eq.mp e
  unfold PySem.W.typeIn at e'
  cases q : K.lookup f with
  | none => simp [q] at e'
  | some o =>
    refine ⟨o, X _ _ q, ?_⟩
    simpa [q] using e'
section
variable {prog : Program} {w : World} {A : Around} {E : Value → Shared → Prop} {h : Heap} {g : Array GenState} {d : Drawn} {t : Nat} {os : OsState}
variable {nm q : Str} {C N x t0 : Addr} {bs bm : List Value} {sn : List Str} {sub : List Value} {ab : Bool} {col : Option Bool} {dd : Option Addr} {k0 k1 k2 k3 k5 : Option Value} {B newId sa owner : String}
  {mN : Str → Option Value} {name : Str} {v : Value}
theorem set_fresh {Q : Unit → Shared → Prop} (SF : StoreFacts B bm sa owner)
    (hC : h.get? C = some (excClassObj nm q C N bs bm true sn sub ab col dd k0 k1 k2 k3 k5 newId)) (hn : h.Ns N mN) (hns : mN "__setattr__" = none) (hna : mN name = none)
    (hB : typeLookup (.type B) name = pure none) (hx : h.get? x = some (excFresh C t0))
    (hq : ∀ (h' : Heap) (tk' : Nat), h'.get? x = some { excFresh C t0 with dict := some h.objs.size } → h'.Ns1 h.objs.size (fun y => if y = name then some v else none) → (∀ b o, b ≠ x → h.get? b = some o → h'.get? b = some o) → Q () ⟨h', g, d, tk', os⟩) :
    wpAny (model prog w) A (setAttr (.ref x) name v) Q E ⟨h, g, d, t, os⟩ := by
  have hc0 : (excFresh C t0).cls = .ref C := rfl
  have hd0 : (excFresh C t0).dict = none := rfl
  have hn0 : ∀ c, (excFresh C t0).data ≠ .cls c := fun c z => nomatch z
  have hf0 : ({ excFresh C t0 with dict := some h.objs.size } : Obj).isFreed = false := rfl
  generalize excFresh C t0 = ob at hx hq hc0 hd0 hn0 hf0
  have hpass := SF.passes (.ref x)
  have f3 := SF.slot.bind (.ref x)
  unfold setAttr callSpecial? specialOf
  repeat (any_goals (first | assumption | (with_reducible refine wpAny_loadPart_at hx ?_; rw [hc0]) | (with_reducible refine wpAny_typeLookup_exc hC hn SF.mro SF.slot.lookup ?_; rw [hns]) | wp_step))
  refine codeAny_call_builtin SF.slot.plain SF.entry (wpAny_check_sa SF hC hx hc0 ?_)
  unfold Builtin.«object.__setattr__»
  repeat (first | rw [refuse_eq] | (rw [refuseLoop_ref, hpass]) | (with_reducible refine wpAny_loadPart_at hx ?_; rw [hc0]) | with_reducible refine wpAny_mroOf_exc hC ?_ | (with_reducible refine wpAny_typeLookup_exc hC hn SF.mro hB ?_; rw [hna]) | wp_step)
  rw [hd0, if_neg (by simp [typeHasDict])]
  split
  · rename_i hcd
    cases hcd
  split
  · rename_i c hcd
    exact absurd hcd (hn0 c)
  have hxs : x ≠ h.objs.size := Nat.ne_of_lt (Heap.lt_size hx)
  refine wpAny_bind (wpAny_alloc' (wpAny_bind (wpAny_update' (Heap.get?_push_of_some _ hx) (wpAny_pure ?_))))
  generalize hH : ((h.push { cls := .type "dict", data := .dict #[] }).update x fun o => { cls := o.cls, dict := some h.objs.size, data := o.data, slots := o.slots }) = hd
  have hgd : hd.get? h.objs.size = some { cls := .type "dict", data := .dict #[] } := by
    rw [← hH]; exact (Heap.get?_update_ne _ _ _ _ hxs.symm).trans (Heap.get?_push_at rfl rfl)
  have hgx : hd.get? x = some { ob with dict := some h.objs.size } := by
    rw [← hH]; exact Heap.get?_update_self _ (Heap.get?_push_of_some _ hx) hf0
  have hgo : ∀ b o, b ≠ x → h.get? b = some o → hd.get? b = some o := fun b o hb e => by
    rw [← hH]; exact (Heap.get?_update_ne _ _ _ _ hb).trans (Heap.get?_push_of_some _ e)
  have hnd : hd.Ns h.objs.size (fun _ => none) := ⟨_, #[], _, hgd, rfl, fun e he => absurd he (by simp), fun _ => rfl⟩
  show wpAny _ _ (storeInDict h.objs.size (.str name _) name v) _ _ _
  unfold storeInDict newKeyGuard
  refine wpAny_bind (wpAny_pure (wpAny_bind (wpAny_nsSet1 (Heap.Ns1.of_empty hnd) fun h' hn' hs => ?_)))
  obtain ⟨oD, esD, epD, hoD, hdD, hcD⟩ := hn'.count (Within.cons name v Within.nil)
  refine wpAny_bind (wpAny_lookBehind hoD (by rw [hdD]; exact pastItsLine_dict (Nat.le_trans hcD (by show 1 ≤ sizeLine + 1; omega))) ?_)
  wp_walk
  exact hq h' _ ((hs.2 x hxs).trans hgx) hn' fun b o hb e => (hs.2 b (Nat.ne_of_lt (Heap.lt_size e))).trans (hgo b o hb e)
end
end My
set_option Elab.async false
set_option linter.all false
set_option maxRecDepth 100000
set_option maxHeartbeats 4000000
namespace My
open PySem PySem.Spec PyProof.Rows L2
section
variable {prog : Program} {w : World} {A : Around} {E : Value → Shared → Prop} {h : Heap} {g : Array GenState} {d : Drawn} {t : Nat} {os : OsState}
variable {nm q : Str} {C N x dx : Addr} {bs bm : List Value} {sn : List Str} {sub : List Value} {ab : Bool} {col : Option Bool} {dd : Option Addr} {k0 k1 k2 k3 k5 : Option Value} {B newId : String}
  {mN mA : Str → Option Value} {name : Str} {v : Value} {ob : Obj}
end
end My
set_option Elab.async false
set_option linter.all false
set_option maxRecDepth 100000
set_option maxHeartbeats 4000000
namespace My
open PySem PySem.Spec PyProof.Rows L2
def xoFresh (C e : Addr) : HO := .ext fun h => ∃ t, h.get? e = some (excFresh C t)
def xoDone (C e dx : Addr) : HO := .ext fun h => ∃ t, h.get? e = some { excFresh C t with dict := some dx }
theorem fresh_ok {P : Program} {w : World} {H : Hp} {h : Heap} {C e t : Addr} (x : h.get? e = some (excFresh C t)) : ObjOk P w H h e (xoFresh C e) :=
  ⟨⟨t, x⟩, ⟨_, x⟩, fun _ _ ⟨t, y⟩ k => ⟨t, k _ y⟩⟩
theorem done_ok {P : Program} {w : World} {H : Hp} {h : Heap} {C e dx t : Addr} (x : h.get? e = some { excFresh C t with dict := some dx }) : ObjOk P w H h e (xoDone C e dx) :=
  ⟨⟨t, x⟩, ⟨_, x⟩, fun _ _ ⟨t, y⟩ k => ⟨t, k _ y⟩⟩
def tBInit (C : Addr) (t : TA) : TE := fun σ H Q => t σ H fun vs H1 => ∃ (x : Addr) (r : List V), vs = .ref x :: r ∧ H1 x = some (xoFresh C x) ∧ r.length ≤ 1000 ∧ Q .non (upd H1 x (xoFresh C x))
section
variable {X : Cx} {C fI N : Addr} {newId : String} {e : Expr} {es : List Expr} {t : TA} {p0 apos pos : Pos}
def sXSet (C : Addr) (ta tv : TE) (f : Str) : TS := fun D σ H => tv σ H fun y H1 => ta σ H1 fun x H2 => ∃ e : Addr, x = .ref e ∧ H2 e = some (xoFresh C e) ∧ ∀ dx, H2 dx = none → D.nx σ (upd (upd H2 dx (.xd [(f, y)])) e (xoDone C e dx))
theorem xd_ok {P : Program} {w : World} {H : Hp} {h : Heap} {dx : Addr} {f : Str} {y : V} {u : Value} (n : h.Ns1 dx (fun z => if z = f then some u else none)) (r : RelV y u) : ObjOk P w H h dx (.xd [(f, y)]) := by
  refine ⟨_, n, fun g => ?_⟩
  show RelO (List.lookup g [(f, y)]) (if g = f then some u else none)
  rw [List.lookup_cons]
  by_cases hg : g = f
  · subst hg; rw [if_pos rfl, beq_self_eq_true]; exact r
  · rw [if_neg hg, beq_eq_false_iff_ne.mpr hg]; exact True.intro
end
end My
set_option Elab.async false
set_option linter.all false
set_option maxRecDepth 100000
set_option maxHeartbeats 4000000
namespace My
open PySem PySem.Spec PyProof.Rows L2
theorem obj_there {P : Program} {w : World} {H : Hp} {h : Heap} {a : Addr} {o : HO} (x : ObjOk P w H h a o) : ∃ u, h.get? a = some u := by
  cases o with
  | lst xs => obtain ⟨_, _, _, _, e⟩ := x; exact ⟨_, e⟩
  | tup xs => obtain ⟨_, _, _, o, e, _⟩ := x; exact ⟨_, e⟩
  | dK kvs => obtain ⟨_, _, _, _, o, _, _, e, _⟩ := x; exact ⟨_, e⟩
  | dT kvs => obtain ⟨_, _, _, _, o, _, _, e, _⟩ := x; exact ⟨_, e⟩
  | set S n => obtain ⟨o, _, _, _, e, _⟩ := x; exact ⟨_, e⟩
  | ins C dx fs => obtain ⟨_, _, _, e, _⟩ := x; exact ⟨_, e⟩
  | own y => obtain ⟨_, e⟩ := x; exact ⟨_, e⟩
  | xd fs => obtain ⟨_, ⟨_, _, _, e, _⟩, _⟩ := x; exact ⟨_, e⟩
  | rng lo hi => obtain ⟨_, _, _, e⟩ := x; exact ⟨_, e⟩
  | frz ob u => obtain ⟨e, _⟩ := x; exact ⟨_, e⟩
  | tbl ps => exact ⟨_, (show h.get? a = some _ from x)⟩
  | met f y => exact ⟨_, (show h.get? a = some _ from x)⟩
  | ext φ => obtain ⟨_, ⟨_, e⟩, _⟩ := x; exact ⟨_, e⟩
theorem hok_no {P : Program} {w : World} {H : Hp} {h : Heap} {a : Addr} (x : HOk P w H h) (e : h.get? a = none) : H a = none := by
  cases q : H a with
  | none => rfl
  | some o =>
    obtain ⟨u, z⟩ := obj_there (x a o q)
    rw [e] at z; cases z
theorem un_new {fs : List Addr} {H : Hp} {h h' : Heap} {a : Addr} {o : HO} (k : ∀ b u, h.get? b = some u → h'.get? b = some u) (hp : h.get? a = none) (hn : H a = none) : Un fs [] H (upd H a o) h h' where
  keep := fun b u q _ _ _ => k b u q
  slot := fun b u q _ _ _ => ⟨u.slots, k b u q⟩
  free := fun b u q n _ => by rw [upd_ne (fun z => by rw [z, hp] at q; cases q)]; exact n
  there := fun b u q _ => ⟨u, k b u q⟩
  tups := fun b xs q => by rw [upd_ne (ne_of_none q hn)]; exact q
  frzs := fun b u xs q => by rw [upd_ne (ne_of_none q hn)]; exact q
  tbls := fun b ps q => ⟨#[], by rw [upd_ne (ne_of_none q hn), q]; simp⟩
theorem hok_new {P : Program} {w : World} {H : Hp} {h h' : Heap} {a : Addr} {o : HO} (x : HOk P w H h) (k : ∀ b u, h.get? b = some u → h'.get? b = some u) (hp : h.get? a = none) (new : ObjOk P w (upd H a o) h' a o) : HOk P w (upd H a o) h' := fun b u e => by
  have hn := hok_no x hp
  by_cases hb : b = a
  · subst hb; rw [upd_same] at e; cases e; exact new
  · rw [upd_ne hb] at e
    exact (x b u e).stay (fun c v _ q => k c v q) (fun c q => by rw [upd_ne (ne_of_none q hn)]; exact q) fun c xs q => by rw [upd_ne (ne_of_none q hn)]; exact q
def drop (H : Hp) (e : Addr) : Hp := fun b => if b = e then none else H b
theorem drop_ne {H : Hp} {e b : Addr} (h : b ≠ e) : drop H e b = H b := by unfold drop; rw [if_neg h]
theorem drop_same {H : Hp} {e : Addr} : drop H e e = none := by unfold drop; rw [if_pos rfl]
theorem un_drop {fs : List Addr} {H H' : Hp} {h h' : Heap} {e : Addr} (u : Un fs [] H H' h h') (he : H e = none) : Un fs [] H (drop H' e) h h' where
  keep := u.keep
  slot := u.slot
  free := fun b o q n hb => by
    by_cases z : b = e
    · rw [z]; exact drop_same
    · rw [drop_ne z]; exact u.free b o q n hb
  there := u.there
  tups := fun b xs q => by rw [drop_ne (ne_of_none q he)]; exact u.tups b xs q
  frzs := fun b o u' q => by rw [drop_ne (ne_of_none q he)]; exact u.frzs b o u' q
  tbls := fun b ps q => by rw [drop_ne (ne_of_none q he)]; exact u.tbls b ps q
theorem hok_drop {P : Program} {w : World} {H : Hp} {h : Heap} {e : Addr} {φ : Heap → Prop} (x : HOk P w H h) (he : H e = some (.ext φ)) : HOk P w (drop H e) h := fun b u z => by
  by_cases hb : b = e
  · rw [hb, drop_same] at z; cases z
  · rw [drop_ne hb] at z
    refine (x b u z).stay (fun _ _ _ q => q) (fun c q => ?_) fun c xs q => ?_
    · rw [drop_ne (fun y => by rw [y, he] at q; cases q)]; exact q
    · rw [drop_ne (fun y => by rw [y, he] at q; cases q)]; exact q
theorem raise_made {M : Model} {A : Around} {E : Value → Shared → Prop} {env : Env} {nm q : Str} {C N : Addr} {bs bm : List Value} {hdct : Bool} {sn : List Str} {sub : List Value} {ab : Bool} {col : Option Bool} {dd : Option Addr} {k0 k1 k2 k3 k5 : Option Value} {newId : String}
    {s : Shared} {x : Sem Value} {Q : Flow → Shared → Prop} (hbase : bm.contains (.type "BaseException") = true) (hh : A.handled = none)
    (h : wpAny M A x (fun v s₁ => ∃ (e t : Addr) (dx : Option Addr), v = .ref e ∧ s₁.heap.get? C = some (excClassObj nm q C N bs bm hdct sn sub ab col dd k0 k1 k2 k3 k5 newId) ∧ s₁.heap.get? e = some { excFresh C t with dict := dx } ∧ E (.ref e) s₁) E s) :
    wpAny M A (raiseStmt env (some x) none) Q E s := by
  have hin : (Value.ref C :: bm).contains (.type "BaseException") = true := by rw [List.contains_cons, hbase, Bool.or_true]
  unfold raiseStmt
  refine wpAny_bind (wpAny_mono h (fun v s₁ ⟨e, t, dx, ev, hC, he, hE⟩ => ?_) fun _ _ z => z)
  subst ev
  obtain ⟨hp, g, d, tk, os⟩ := s₁
  unfold excFresh at he
  repeat (first | wp_step | (with_reducible refine wpAny_isSubtype_exc hC ?_; rw [hin]) | with_reducible refine wpAny_loadPart_at he ?_ | with_reducible refine wpAny_loadPart_at hC ?_)
  exact wpAny_raiseNew_none hh hE
section
variable {X : Cx} {C fI N : Addr} {newId : String} {k n : Nat} {fd : FuncData} {ps : List Str} {g : List V → List (Str × V)} {E : XK} {B initId : String} {bm : List Value}
end
section
variable {P : Program} {w : World} {K : PySem.W.Frag} {mg : Str → Option Value} {base : Heap}
theorem pass_cx {N : List Str} {qual : Str} {scope : Scope} {f : Addr} {cd : Value} {A : Around} {outer : List Env} {s0 : Shared} {H0 : Hp} {E : XK} : Passes (CXe P w) (cxOf (CXe P w) P w K mg base N qual scope f cd A outer s0 H0 E) E :=
  fun _ _ _ _ _ _ I h => leave_cx I h
theorem funE_ok {x qual : Str} {st : Stmt} {f : Addr} {fd : FuncData} {N ps : List Str} {k : Nat} {sp : Sp} (F : Fun K x qual st f fd) (S : FnScope N ps (defScope st)) (len : ∀ vs H Q E, sp vs H Q E → vs.length = ps.length)
    (hbody : ∀ (cdv : Value) (A : Around) (outer : List Env) (s : Shared) (H : Hp) (vs : List V) (Q : VK) (E : XK), Room k (A.deeper (envOfC qual (defScope st) s.heap.objs.size f cdv)) → sp vs H Q E →
      ∃ t, PSs (cxOf (CXe P w) P w K mg base N qual (defScope st) f cdv A outer s H E) (defBody st) t ∧ t { nx := fun _ H' => Q .non H', rt := Q } (start N vs) H) : FnOk P w K mg base (CXe P w) (k + 1) f fd ps sp := by
  obtain ⟨oc, od, kV, doc, pm, an, cdv, ct, osl, rfl, lk, hcd⟩ := F.ex
  exact fn_of lk hcd S len fun A outer s H vs Q E hr hsp => hbody cdv A outer s H vs Q E hr hsp
end
end My
set_option Elab.async false
set_option linter.all false
set_option maxRecDepth 100000
set_option maxHeartbeats 4000000
namespace My
open PySem PySem.Spec PyProof.Rows L2
def Kept0 (h : Heap) (H : Hp) (h' : Heap) (H' : Hp) : Prop :=
  (∀ b o, h.get? b = some o → H b = none → (∃ sl, h'.get? b = some { o with slots := sl }) ∧ H' b = none) ∧ ∀ b o u, H b = some (.frz o u) → H' b = some (.frz o u) ∧ h'.get? b = some o
theorem Kept0.refl {P : Program} {w : World} {h : Heap} {H : Hp} (x : HOk P w H h) : Kept0 h H h H := ⟨fun _ o e n => ⟨⟨o.slots, e⟩, n⟩, fun _ _ _ e => ⟨e, (x _ _ e).1⟩⟩
theorem Kept0.trans {h h1 h2 : Heap} {H H1 H2 : Hp} (a : Kept0 h H h1 H1) (b : Kept0 h1 H1 h2 H2) : Kept0 h H h2 H2 := by
  refine ⟨fun c o e n => ?_, fun c o u e => b.2 c o u (a.2 c o u e).1⟩
  obtain ⟨⟨sl, e1⟩, n1⟩ := a.1 c o e n
  obtain ⟨⟨sl2, e2⟩, n2⟩ := b.1 c _ e1 n1
  exact ⟨⟨sl2, e2⟩, n2⟩
def CellH (H : Hp) (h : Heap) (c : Addr) : Prop := H c = none ∨ ∃ o y, H c = some (.frz o (.own y)) ∧ h.get? c = some o
theorem CellH.later {h h1 : Heap} {H H1 : Hp} {c : Addr} {o : Obj} (C : CellH H h c) (q : Kept0 h H h1 H1) (e : h.get? c = some o) : (∃ sl, h1.get? c = some { o with slots := sl }) ∧ CellH H1 h1 c := by
  rcases C with n | ⟨o2, y, z1, z2⟩
  · obtain ⟨a, b⟩ := q.1 c o e n
    exact ⟨a, .inl b⟩
  · rw [e] at z2; cases z2
    obtain ⟨a, b⟩ := q.2 c o _ z1
    exact ⟨⟨o.slots, b⟩, .inr ⟨o, y, a, b⟩⟩
def FnAt (P : Program) (w : World) (K : PySem.W.Frag) (mg : Str → Option Value) (base : Heap) (CX : CXT) (k : Nat) (f : Addr) (h : Heap) (H : Hp) (n : Nat) (sp : Sp) : Prop :=
  ∀ (A : Around) (outer : List Env) (s' : Shared) (H' : Hp) (us : List Value) (vs : List V) (Q : VK) (E : XK), Room k A → Env0 P w K mg base A outer s' H' → Kept0 h H s'.heap H' → Vals vs us → vs.length = n → sp vs H' Q E →
    codeAny (model P w) A (.call (.ref f) ⟨us, []⟩) (CR CX outer P w H' s' Q E) s'
theorem FnAt.later {P : Program} {w : World} {K : PySem.W.Frag} {mg : Str → Option Value} {base : Heap} {CX : CXT} {k : Nat} {f : Addr} {h h1 : Heap} {H H1 : Hp} {n : Nat} {sp : Sp} (F : FnAt P w K mg base CX k f h H n sp) (q : Kept0 h H h1 H1) : FnAt P w K mg base CX k f h1 H1 n sp :=
  fun A outer s' H' us vs Q E hr e0 kp r hl hs => F A outer s' H' us vs Q E hr e0 (q.trans kp) r hl hs
structure CloAt (h : Heap) (H : Hp) (f : Addr) (fd : FuncData) (fs : List Str) (fv : List V) : Prop where
  ob : ∃ o, h.get? f = some o ∧ o.data = .func fd
  un : H f = none
  code : ∃ (c : Addr) (oc : Obj) (u : HO) (vs : Array Value) (t : Tok), fd.code = .ref c ∧ H c = some (.frz oc u) ∧ oc.data = .fields vs ∧ vs[1]? = some (.str fd.qualname t)
  vals : ∀ (i : Nat) (x : Str) (v : V), fs[i]? = some x → fv[i]? = some v → ∃ c u, fd.closure.lookup x = some c ∧ h.IsCell c (some u) ∧ RelV v u ∧ CellH H h c
  inj : ∀ x y c, fd.closure.lookup x = some c → fd.closure.lookup y = some c → x = y
  cells : ∀ x c, fd.closure.lookup x = some c → (∃ v, h.IsCell c v) ∧ CellH H h c
  len : fv.length = fs.length
theorem CloAt.later {h h1 : Heap} {H H1 : Hp} {f : Addr} {fd : FuncData} {fs : List Str} {fv : List V} (C : CloAt h H f fd fs fv) (q : Kept0 h H h1 H1) : CloAt h1 H1 f fd fs fv where
  ob := by
    obtain ⟨o, e, d⟩ := C.ob
    obtain ⟨⟨sl, e1⟩, _⟩ := q.1 f o e C.un
    exact ⟨_, e1, d⟩
  un := by
    obtain ⟨o, e, d⟩ := C.ob
    exact (q.1 f o e C.un).2
  code := by
    obtain ⟨c, oc, u, vs, t, e1, e2, e3⟩ := C.code
    exact ⟨c, oc, u, vs, t, e1, (q.2 _ _ _ e2).1, e3⟩
  vals := fun i x v e1 e2 => by
    obtain ⟨c, u, z1, ⟨o, z2, z3⟩, z4, z5⟩ := C.vals i x v e1 e2
    obtain ⟨⟨sl, y⟩, n⟩ := z5.later q z2
    exact ⟨c, u, z1, ⟨_, y, z3⟩, z4, n⟩
  inj := C.inj
  cells := fun x c e => by
    obtain ⟨⟨v, o, z2, z3⟩, z5⟩ := C.cells x c e
    obtain ⟨⟨sl, y⟩, n⟩ := z5.later q z2
    exact ⟨⟨v, _, y, z3⟩, n⟩
  len := C.len
structure LScope (N ps fs : List Str) (sc : Scope) : Prop where
  kind : sc.kind = .function
  co : sc.isCoroutine = false
  gen : sc.isGenerator = false
  nd : N.Nodup
  pre : N.take (ps ++ fs).length = ps ++ fs
  par : ∀ x ∈ ps, sc.names.lookup x = some .local
  fre : ∀ x ∈ fs, sc.names.lookup x = some .free
  nocell : ∀ y ∈ sc.names, y.2 ≠ .cell
  all : ∀ x, sc.names.lookup x = some .free → x ∈ fs
def cxL (CX : CXT) (P : Program) (w : World) (K : PySem.W.Frag) (mg : Str → Option Value) (base : Heap) (N : List Str) (qual : Str) (scope : Scope) (f : Addr) (cd : Value) (cl : List (Str × Addr)) (A : Around) (outer : List Env) (s : Shared) (H : Hp) (E : XK) : Cx where
  prog := P
  w := w
  K := K
  mg := mg
  base := base
  A := A.deeper (PySem.W.envX qual scope s.heap.objs.size f cd cl)
  N := N
  s_0 := s
  H_0 := H
  env := PySem.W.envX qual scope s.heap.objs.size f cd cl
  outer := outer
  stack := PySem.W.envX qual scope s.heap.objs.size f cd cl :: outer
  ex := []
  calm := true
  fn := fun _ => false
  pn := []
  xe := fun e s' => wpAny (model P w) (A.deeper (PySem.W.envX qual scope s.heap.objs.size f cd cl)) (leaving (PySem.W.envX qual scope s.heap.objs.size f cd cl) e) (fun _ s'' => CX outer H s E e s'') (fun e' s'' => CX outer H s E e' s'') s'
section
variable {P : Program} {w : World} {K : PySem.W.Frag} {mg : Str → Option Value} {base : Heap} {N ps fs : List Str} {scope : Scope} {f : Addr} {A : Around} {outer : List Env} {s s1 : Shared} {H : Hp} {E : XK} {CX : CXT}
theorem inv_startL {fd : FuncData} {us : List Value} {vs fv : List V} {h1 : Heap} {t1 : Nat} (S : LScope N ps fs scope) (hd : A.handled = none) (e0 : Env0 P w K mg base A outer s H) (C : CloAt s.heap H f fd fs fv) (hl : vs.length = ps.length) (r : Vals vs us)
    (hns : h1.Ns s.heap.objs.size (fun x => (ps.zip us).reverse.lookup x)) (hk : ∀ b o, s.heap.get? b = some o → h1.get? b = some o) :
    Inv (cxL CX P w K mg base N fd.qualname scope f fd.code fd.closure A outer s H E) [] (start N (vs ++ fv)) H { s with heap := h1, toks := t1 } := by
  have hpl : (ps ++ fs).length ≤ N.length := by have := congrArg List.length S.pre; rw [List.length_take] at this; omega
  have hlen : (vs ++ fv).length = (ps ++ fs).length := by rw [List.length_append, List.length_append, hl, C.len]
  have noA : ∀ b : Addr, b ∉ (cxL CX P w K mg base N fd.qualname scope f fd.code fd.closure A outer s H E).ex := fun b z => absurd (show b ∈ ([] : List Addr) from z) (by simp)
  refine ⟨⟨e0.mod, S.kind, rfl, rfl, Nat.le_refl _, C.inj, fun y hy => ?_, fun y c z => absurd (show false = true from z) (by simp), fun _ => hd, Around.frames_deeper e0.frames, .inr ⟨rfl, rfl⟩, fun b z => absurd z (noA b), e0.bs, e0.bsz, fun b _ _ => noA b, fun b z => absurd z (noA b), e0.funs, e0.frf⟩,
    rfl, e0.bare, Un.kept hk, ⟨_, hns, fun i y v h1 h2 h3 => ?_⟩, fun y c h => ?_, e0.hok.fresh (Nat.le_refl _), fun y c h => (C.cells y c h).2.imp id fun ⟨o, y, z, _⟩ => ⟨rfl, o, y, z⟩, fun p hp => absurd (show p ∈ ([] : List (Addr × Obj)) from hp) (by simp), e0.hok.kept hk, ?_⟩
  · have hy : scope.names.lookup y = some .cell ∨ scope.names.lookup y = some .free := hy
    rcases hy with hy | hy
    · exact absurd rfl (S.nocell _ (PySem.mem_of_lookup hy))
    · obtain ⟨i, hi, ei⟩ := List.getElem_of_mem (S.all y hy)
      have hi2 : i < fv.length := by rw [C.len]; exact hi
      obtain ⟨c, u, z, _⟩ := C.vals i y fv[i] (by rw [List.getElem?_eq_getElem hi, ei]) (List.getElem?_eq_getElem hi2)
      exact ⟨c, z⟩
  · have hi : i < (vs ++ fv).length := by
      unfold L2.start at h2
      by_cases hi : i < (vs ++ fv).length
      · exact hi
      · rw [List.getElem?_append_right (by simpa using hi)] at h2
        rw [List.getElem?_replicate] at h2
        split at h2 <;> cases h2
    have ha : (vs ++ fv)[i]? = some v := by
      unfold L2.start at h2
      rw [List.getElem?_append_left (by simpa using hi), List.getElem?_map] at h2
      cases e : (vs ++ fv)[i]? with
      | none => rw [e] at h2; cases h2
      | some a => rw [e] at h2; cases h2; rfl
    have hp : (ps ++ fs)[i]? = some y := by
      rw [← S.pre, List.getElem?_take_of_lt (by omega)]; exact h1
    have ndA : (ps ++ fs).Nodup := by rw [← S.pre]; exact S.nd.sublist (List.take_sublist _ _)
    by_cases hiv : i < vs.length
    · rw [List.getElem?_append_left hiv] at ha
      rw [List.getElem?_append_left (by omega)] at hp
      obtain ⟨u, hu, rv⟩ := r.get ha
      refine ⟨u, rv, .inl ⟨S.par y (List.mem_of_getElem? hp), ?_⟩⟩
      have ndP : ps.Nodup := (List.nodup_append.mp ndA).1
      have hz : (ps.zip us)[i]? = some (y, u) := by rw [List.getElem?_zip_eq_some]; exact ⟨hp, hu⟩
      have hmem : (y, u) ∈ (ps.zip us).reverse := List.mem_reverse.mpr (List.mem_of_getElem? hz)
      have key : ∀ (l : List (Str × Value)), (l.map (·.1)).Nodup → (y, u) ∈ l → l.lookup y = some u := by
        intro l
        induction l with
        | nil => intro _ h; cases h
        | cons q l ih =>
          intro nd hm
          obtain ⟨a, b⟩ := q
          rw [List.lookup_cons]
          rcases List.mem_cons.mp hm with e | e
          · cases e; rw [beq_self_eq_true]
          · have : (y == a) = false := beq_eq_false_iff_ne.mpr fun z => by
              subst z
              exact (List.nodup_cons.mp nd).1 (List.mem_map.mpr ⟨_, e, rfl⟩)
            rw [this]
            exact ih (List.nodup_cons.mp nd).2 e
      refine key _ ?_ hmem
      have hul : ps.length ≤ us.length := by rw [← r.length, hl]; exact Nat.le_refl _
      rw [List.map_reverse, List.map_fst_zip hul]
      exact List.pairwise_reverse.mpr (ndP.imp fun z => z.symm)
    · rw [List.getElem?_append_right (by omega)] at ha hp
      obtain ⟨c, u, z1, z2, z3, z4⟩ := C.vals _ y v (by rw [hl]; exact hp) ha
      exact ⟨u, z3, .inr ⟨.inr (S.fre y (List.mem_of_getElem? hp)), c, z1, z2.keeps hk⟩⟩
  · obtain ⟨⟨v, z⟩, _⟩ := C.cells y c h
    exact ⟨v, z.keeps hk⟩
  · unfold L2.start
    show _ = N.length
    rw [List.length_append, List.length_map, List.length_replicate]
    omega
theorem leave_cxL {fd : FuncData} {pins : List (Addr × Obj)} {σ : L2.St} {H0 : Hp} {s0 s' : Shared} {ev : Value} {qual : Str} {cd : Value} {cl : List (Str × Addr)} (I : Inv (cxL (CXe P w) P w K mg base N qual scope f cd cl A outer s0 H0 E) pins σ H s)
    (h : CXe P w (cxL (CXe P w) P w K mg base N qual scope f cd cl A outer s0 H0 E).stack H s E ev s') : (cxL (CXe P w) P w K mg base N qual scope f cd cl A outer s0 H0 E).xe ev s' := by
  obtain ⟨e, dx, C, T, H', rfl, fly, se, sT, os, bare, un, hok, he, hT, q⟩ := h
  have hfun := funs_un un I.stkFree I.stack
  have hstk : frs (cxL (CXe P w) P w K mg base N qual scope f cd cl A outer s0 H0 E).stack = s0.heap.objs.size :: frs outer := rfl
  have fr' : ∀ b ∈ frs (cxL (CXe P w) P w K mg base N qual scope f cd cl A outer s0 H0 E).stack, H' b = none := fun b hb => by
    obtain ⟨_, o, ho, _⟩ := I.stack.mem hb
    exact un.free b o ho (I.stkFree b hb) (by simp)
  show wpAny _ _ (leaving _ (.ref e)) _ _ s'
  refine leave_fly (base := base) (env := PySem.W.envX qual scope s0.heap.objs.size f cd cl) (outer := outer) I.ok.frames hfun rfl fly fun h2 T' fly2 n2 k2 => ?_
  have bu : Un (frs outer) [] H0 H s0.heap s.heap := I.base
  have old2 : ∀ b o, s.heap.get? b = some o → b ∉ e :: T.toList := fun b o z hm => by
    rcases List.mem_cons.mp hm with y | y
    · rw [y, se] at z; cases z
    · cases T with
      | none => simp at y
      | some t =>
        have y' : b = t := by simpa using y
        rw [y', sT t rfl] at z; cases z
  have nL : ∀ b o, s0.heap.get? b = some o → b ≠ s0.heap.objs.size := fun b o z => Nat.ne_of_lt (Heap.lt_size z)
  have new0 : ∀ b, s.heap.get? b = none → s0.heap.get? b = none := fun b z => un_none bu z
  refine ⟨e, dx, C, some T', H', rfl, fly2, new0 e se, fun t ht => ?_, os.trans I.os, bare, ?_, hok_kept_but hok k2 (fun b hb => ?_) fr', he, fun t ht => ?_, q⟩
  · cases ht
    exact new0 _ (un_none un (Heap.get?_none_of_le n2))
  · refine ⟨fun b o z n hb _ => ?_, fun b o z n hb _ => ?_, fun b o z n _ => ?_, fun b o z _ => ?_, fun b xs z => un.tups b xs (bu.tups b xs z), fun b o u z => un.frzs b o u (bu.frzs b o u z), fun b ps z => ?_⟩
    · have z1 := bu.keep b o z n hb (by simp)
      have n1 := bu.free b o z n (by simp)
      have hb' : b ∉ frs (cxL (CXe P w) P w K mg base N qual scope f cd cl A outer s0 H0 E).stack := by
        rw [hstk]; exact fun y => (List.mem_cons.mp y).elim (nL b o z) hb
      exact k2.1 b o (old2 b o z1) hb' (un.keep b o z1 n1 hb' (by simp))
    · obtain ⟨sl, z1⟩ := bu.slot b o z n hb (by simp)
      have n1 := bu.free b o z n (by simp)
      obtain ⟨sl2, z2⟩ := un.any z1 n1 (by simp)
      obtain ⟨sl3, z3⟩ := k2.get (old2 b _ z1) z2
      exact ⟨sl3, z3⟩
    · obtain ⟨o1, z1⟩ := bu.there b o z (by simp)
      exact un.free b o1 z1 (bu.free b o z n (by simp)) (by simp)
    · obtain ⟨o1, z1⟩ := bu.there b o z (by simp)
      obtain ⟨o2, z2⟩ := un.there b o1 z1 (by simp)
      obtain ⟨sl, z3⟩ := k2.get (old2 b o1 z1) z2
      exact ⟨_, z3⟩
    · obtain ⟨m1, e1⟩ := bu.tbls b ps z
      obtain ⟨m2, e2⟩ := un.tbls b _ e1
      exact ⟨m1 ++ m2, by rw [e2, Array.append_assoc]⟩
  · rcases List.mem_cons.mp hb with y | y
    · rw [y]; exact he
    · cases T with
      | none => simp at y
      | some t =>
        have : b = t := by simpa using y
        rw [this]; exact hT t rfl
  · cases ht
    exact hok.fresh n2
theorem pass_cxL {qual : Str} {cd : Value} {cl : List (Str × Addr)} : Passes (CXe P w) (cxL (CXe P w) P w K mg base N qual scope f cd cl A outer s H E) E :=
  fun _ _ _ _ _ _ I h => leave_cxL (fd := default) I h
theorem lam_at {k : Nat} {params : Arguments} {body : Expr} {name qual : Str} {cl : List (Str × Addr)} {pm cdv ct : Value} {h : Heap} {fv : List V} {sp : Sp} (S : LScope N ps fs scope)
    (hbind : ∀ us : List Value, us.length = ps.length → bindArgs (PySem.W.kla_fn name qual params body scope cl pm cdv ct) ⟨us, []⟩ = pure (ps.zip us))
    (C : CloAt h H f (PySem.W.kla_fn name qual params body scope cl pm cdv ct) fs fv)
    (hbody : ∀ (A : Around) (outer : List Env) (s : Shared) (H : Hp) (vs : List V) (Q : VK) (E : XK), Room k (A.deeper (PySem.W.envX qual scope s.heap.objs.size f cdv cl)) → sp vs H Q E →
      ∃ t, PE (cxL CX P w K mg base N qual scope f cdv cl A outer s H E) body t ∧ t (start N (vs ++ fv)) H Q) :
    FnAt P w K mg base CX (k + 1) f h H ps.length sp := by
  intro A outer s' H' us vs Q E hr e0 kp r hl hsp
  have C2 := C.later kp
  obtain ⟨o, ho, hd⟩ := C2.ob
  obtain ⟨c, oc, u, ws, t, c1, c2, c3, c4⟩ := C2.code
  have KX : K.In s'.heap := e0.mod.kin.keeps fun b o e => (e0.bs b o e).1
  have lim : s'.heap.NoLimit := e0.mod.nolimit.keeps fun b o e => (e0.bs b o e).1
  have hus : us.length = ps.length := by rw [← r.length]; exact hl
  have hoc : s'.heap.get? c = some oc := (e0.hok c _ c2).1
  refine PySem.W.kla_callFunE hr.depth ho hd S.co S.gen rfl ⟨c, oc, ws, t, c1, hoc, c3, c4⟩ ?_
  rw [hbind us hus]
  refine wpAny_pure (wpAny_newFunctionEnv S.nocell (fun y hy => S.par y.1 (List.of_mem_zip hy).1) (fun h₁ hns hsb => ⟨lim.fresh _ hsb, ?_⟩) S.kind)
  have hk₁ : ∀ b o, s'.heap.get? b = some o → h₁.get? b = some o := fun b o e => hsb.extBut b o (Nat.ne_of_lt (Heap.lt_size e)) (Heap.get?_push_of_some _ e)
  show codeAny _ _ (.expr body (PySem.W.envX qual scope s'.heap.objs.size f cdv cl)) _ _
  obtain ⟨t, ht, hq⟩ := hbody A outer s' H' vs Q E (hr.deeper _) hsp
  have I := inv_startL (CX := CX) (E := E) (t1 := s'.toks + (ps.zip us).length) S hr.hd e0 C2 hl r hns hk₁
  exact PySem.W.kla_codeExpr (wpAny_mono (ht [] _ _ H' Q I hq) (fun v s2 ⟨x, H2, J, rv, q⟩ => ⟨x, H2, J.os, J.bare, J.base, J.hok, rv, q⟩) fun _ _ z => z)
end
end My
set_option Elab.async false
set_option linter.all false
set_option maxRecDepth 100000
set_option maxHeartbeats 4000000
namespace My
open PySem PySem.Spec PyProof.Rows L2
theorem among_snoc {pos p2 : Pos} {c cv : Value} : ∀ {l : List Value}, TriplesOk l → codeAmong pos (l ++ [rawInt p2.line, rawInt p2.col, c]) = some cv → codeAmong pos l = some cv ∨ (cv = c ∧ p2.line = pos.line ∧ p2.col = pos.col) := by
  intro l
  fun_induction TriplesOk l with
  | case1 =>
    intro _ h
    right
    simp only [List.nil_append, rawInt, codeAmong] at h
    split at h
    · rename_i z
      have z2 := Bool.and_eq_true_iff.mp z
      refine ⟨by cases h; rfl, ?_, ?_⟩
      · have := eq_of_beq z2.1; exact Int.ofNat.inj this
      · have := eq_of_beq z2.2; exact Int.ofNat.inj this
    · cases h
  | case2 a t b u d rest ih =>
    intro tr h
    simp only [List.cons_append, codeAmong] at h ⊢
    split at h
    · rename_i z; rw [if_pos z]; exact .inl h
    · rename_i z; rw [if_neg z]; exact ih tr h
  | case3 => intro tr; exact absurd tr id
theorem triples_snoc {p2 : Pos} {c : Value} : ∀ {l : List Value}, TriplesOk l → TriplesOk (l ++ [rawInt p2.line, rawInt p2.col, c]) := by
  intro l
  fun_induction TriplesOk l with
  | case1 => intro _; exact trivial
  | case2 a t b u d rest ih => intro tr; exact ih tr
  | case3 => intro tr; exact absurd tr id
def TabAt (H : Hp) (Pt : Addr) (qf : Nat → Nat → Str) : Prop := ∃ ps : Array Value, H Pt = some (.tbl ps) ∧ TriplesOk ps.toList ∧
  ∀ (pos : Pos) cv, codeAmong pos ps.toList = some cv → ∃ (c : Addr) (oc : Obj) (u : HO) (vs : Array Value) (t : Tok), cv = .ref c ∧ H c = some (.frz oc u) ∧ oc.data = .fields vs ∧ vs[1]? = some (.str (qf pos.line pos.col) t)
theorem TabAt.same {H H' : Hp} {Pt : Addr} {qf : Nat → Nat → Str} (T : TabAt H Pt qf) (s : ∀ b o, H b = some o → H' b = some o) : TabAt H' Pt qf := by
  obtain ⟨ps, e, tr, tc⟩ := T
  refine ⟨ps, s _ _ e, tr, fun pos cv z => ?_⟩
  obtain ⟨c, oc, u, vs, t, z1, z2, z3⟩ := tc pos cv z
  exact ⟨c, oc, u, vs, t, z1, s _ _ z2, z3⟩
theorem TabAt.start {H : Hp} {Pt : Addr} {qf : Nat → Nat → Str} (e : H Pt = some (.tbl #[])) : TabAt H Pt qf := ⟨#[], e, trivial, fun _ _ z => nomatch z⟩
section
variable {X : Cx} {pins : List (Addr × Obj)} {σ : L2.St} {H : Hp} {s : Shared} {params : Arguments} {body : Expr} {scope : Scope} {pos : Pos} {c Pt : Addr} {qf : Nat → Nat → Str} {clos : List (Str × Addr)} {fs : List Str} {fv : List V} {Q : Value → Shared → Prop}
end
end My
set_option Elab.async false
set_option linter.all false
set_option maxRecDepth 100000
set_option maxHeartbeats 4000000
namespace My
open PySem PySem.Spec PyProof.Rows L2
section
variable {X : Cx} {pins : List (Addr × Obj)} {σ : L2.St} {H : Hp} {s : Shared}
end
section
variable {M : Model} {K : PySem.W.Frag}
end
end My
set_option Elab.async false
set_option linter.all false
set_option maxRecDepth 100000
set_option maxHeartbeats 4000000
namespace My
open PySem PySem.Spec PyProof.Rows L2
def xoC (e : Addr) (oe : Obj) : HO := .ext fun h => h.get? e = some oe
def xoT (T : Addr) : HO := .ext fun h => ∃ o ts, h.get? T = some o ∧ o.data = .fields ts ∧ ts[3]? = some .none
def suiteCx (X : Cx) (e : Addr) : Cx := { X with A := X.A.mark (some (.ref e)), calm := false, xe := fun _ _ => False }
theorem hok_track {P : Program} {w : World} {H : Hp} {h : Heap} {a : Addr} {φ : Heap → Prop} (x : HOk P w H h) (hn : H a = none) (new : ObjOk P w (upd H a (.ext φ)) h a (.ext φ)) : HOk P w (upd H a (.ext φ)) h := fun b u e => by
  by_cases hb : b = a
  · subst hb; rw [upd_same] at e; cases e; exact new
  · rw [upd_ne hb] at e
    exact (x b u e).stay (fun c v _ q => q) (fun c q => by rw [upd_ne (ne_of_none q hn)]; exact q) fun c xs q => by rw [upd_ne (ne_of_none q hn)]; exact q
theorem upd_id {H : Hp} {a : Addr} {o : HO} (h : H a = some o) : upd H a o = H := by
  funext b
  by_cases hb : b = a
  · rw [hb, upd_same, h]
  · rw [upd_ne hb]
section
variable {X : Cx}
theorem ok_suite (ok : X.Ok) (e : Addr) : (suiteCx X e).Ok :=
  ⟨ok.mod, ok.kind, ok.glob, ok.blt, ok.above, ok.inj, ok.has, ok.cab, (fun z => nomatch z), ok.frames, ok.stk, ok.exf, ok.bs, ok.bsz, ok.noex, ok.exfs, ok.funs, ok.frf⟩
end
end My
set_option Elab.async false
set_option linter.all false
set_option maxRecDepth 100000
set_option maxHeartbeats 4000000
namespace My
open PySem PySem.Spec PyProof.Rows L2
section
variable {X : Cx} {CX : CXT} {k : Nat} {f : Addr} {sp : Sp} {E : XK} {d : Str} {p pos : Pos} {tf : TE}
end
section
variable {X : Cx}
end
abbrev SpS := Heap → Sp
structure FnOkS (P : Program) (w : World) (K : PySem.W.Frag) (mg : Str → Option Value) (base : Heap) (CX : CXT) (k : Nat) (f : Addr) (fd : FuncData) (ps : List Str) (sp : SpS) : Prop where
  len : ∀ h vs H Q E, sp h vs H Q E → vs.length = ps.length
  run : ∀ (A : Around) (outer : List Env) (s : Shared) (H : Hp) (args : Args) (us : List Value) (vs : List V) (Q : VK) (E : XK), Room k A → Env0 P w K mg base A outer s H → BindsTo s fd args (ps.zip us) → Vals vs us → sp s.heap vs H Q E →
    codeAny (model P w) A (.call (.ref f) args) (CR CX outer P w H s Q E) s
end My
set_option Elab.async false
set_option linter.all false
set_option maxRecDepth 100000
set_option maxHeartbeats 4000000
namespace My
open PySem PySem.Spec PyProof.Rows L2
structure LamAt (X : Cx) (params : Arguments) (scope : Scope) (pos : Pos) (c Pt : Addr) (qf : Nat → Nat → Str) (clos : List (Str × Addr)) (fs : List Str) (ix : List Nat) : Prop where
  code : X.env.code = .ref c
  hd : PySem.W.CodeHd X.base c Pt
  blt : X.base.BuiltinsAt X.mg Pt
  qual : X.env.qual ++ "<lambda>" = qf pos.line pos.col
  dfl : defaultsOf params X.env = ([], [])
  clo : closureFor scope X.env = pure clos
  sub : ∀ x a, clos.lookup x = some a → X.env.cells.lookup x = some a
  free : ∀ x ∈ fs, clos.lookup x = X.env.cells.lookup x ∧ X.env.kindOf x ≠ some .local ∧ Vis X.env.scope x
  at' : ∀ (i : Nat) x, fs[i]? = some x → ∃ j : Nat, ix[i]? = some j ∧ X.N[j]? = some x
  len : ix.length = fs.length
section
variable {X : Cx} {CX : CXT} {k k' : Nat} {f : Addr} {fd : FuncData} {pn x : Str} {spS : SpS} {E : XK} {p pos lpos : Pos} {params : Arguments} {body : Expr} {scope : Scope} {c Pt : Addr} {qf : Nat → Nat → Str} {clos : List (Str × Addr)} {fs N' : List Str} {ix : List Nat} {spL : List V → Sp}
end
end My
set_option Elab.async false
set_option linter.all false
set_option maxRecDepth 100000
set_option maxHeartbeats 4000000
namespace My
open PySem PySem.Spec PyProof.Rows L2
end My
set_option Elab.async false
set_option linter.all false
set_option maxRecDepth 100000
set_option maxHeartbeats 4000000
namespace My
open PySem PySem.Spec PyProof.Rows L2
theorem law_callTs {P : Program} {w : World} {K : PySem.W.Frag} {mg mb : Str → Option Value} {CX : CXT} {k : Nat} {fa a : Addr} {ts : List (Addr × Addr)} {fd : FuncData} {x : Str} {sp : Sp} {s₁ : Shared} {vs : List Value} {ns : List Int}
    (KX : K.In s₁.heap) (hns : s₁.heap.Ns mainGlobals mg) (hb : s₁.heap.Ns builtinsNs mb) (hbb : ∀ x : Str, x ≠ "__name__" → mb x = bootBuiltins x) (hlim : s₁.heap.NoLimit) (hg : s₁.gens = #[])
    (hC : ∀ p ∈ ts, PySem.W.CodeHd s₁.heap p.1 p.2) (hP : ∀ p ∈ ts, s₁.heap.get? p.2 = some (PySem.W.tabObj #[])) (hKP : ∀ p ∈ ts, K.lookup p.2 = none) (hB : ∀ p ∈ ts, s₁.heap.BuiltinsAt mg p.2)
    (ha : s₁.heap.get? a = some { cls := .type "list", data := .seq vs.toArray }) (hi : IntsAre vs ns) (hl : ns.length ≤ sizeLine) (hr : Room k callerA)
    (F : ∀ base : Heap, K.In base → base.Ns mainGlobals mg → (∀ p ∈ ts, PySem.W.CodeHd base p.1 p.2 ∧ base.BuiltinsAt mg p.2) → FnOk P w K mg base CX k fa fd [x] sp) (hbind : ∀ (s : Shared) (u : Value), BindsTo s fd ⟨[u], []⟩ [(x, u)])
    (hsp : ∀ H : Hp, (∀ p ∈ ts, H p.2 = some (.tbl #[])) → SqL K H a (ns.map V.int) → sp [.ref a] H (fun v _ => v = .bl true) fun _ _ _ => False)
    (hCX : ∀ H e s', CX [] H s₁ (fun _ _ _ => False) e s' → False) :
    codeAny (model P w) callerA (.call (.ref fa) ⟨[.ref a], []⟩) (fun r s' => r = .ok (.ret (.bool true)) ∧ OldK s₁.heap s'.heap ∧ s'.os = s₁.os ∧ AllBare s'.gens) s₁ := by
  have rv := vals_ints hi
  have lenV := hi.length
  have naP : a ∉ ts.map (·.2) := fun z => by
    obtain ⟨p, hp, e⟩ := List.mem_map.mp z
    rw [← e, hP p hp] at ha
    cases ha
  have hPm : ∀ b ∈ ts.map (·.2), s₁.heap.get? b = some (PySem.W.tabObj #[]) := fun b z => by
    obtain ⟨p, hp, e⟩ := List.mem_map.mp z
    rw [← e]; exact hP p hp
  have core : ∀ H : Hp, (∀ b ∈ ts.map (·.2), H b = some (.tbl #[])) → (∀ b, b ∉ ts.map (·.2) → H b = none ∨ ∃ o xs, H b = some (.frz o (.lst xs))) → SqL K H a (ns.map V.int) → HOk P w H s₁.heap → (∀ b, H b ≠ none → b = a ∨ b ∈ ts.map (·.2)) → (H a ≠ none → K.lookup a = none) →
      codeAny (model P w) callerA (.call (.ref fa) ⟨[.ref a], []⟩) (fun r s' => r = .ok (.ret (.bool true)) ∧ OldK s₁.heap s'.heap ∧ s'.os = s₁.os ∧ AllBare s'.gens) s₁ := by
    intro H hT hO hS hok hA hK
    have base_of : ∀ {b : Addr} {o : Obj}, s₁.heap.get? b = some o → H b = none → (hidT s₁.heap H).get? b = some o := fun e n => hidT_get e n
    have noD : ∀ {b : Addr} {o : Obj}, s₁.heap.get? b = some o → (∀ xs n, o.data ≠ .seq xs n) → (∀ xs, o.data ≠ .fields xs ∨ o.cls ≠ .none) → H b = none := fun {b o} e d1 d2 => by
      cases q : H b with
      | none => rfl
      | some u =>
        rcases hA b (by rw [q]; simp) with e' | e'
        · subst e'
          rw [ha] at e; cases e
          exact absurd rfl (d1 _ _)
        · rw [hPm b e'] at e; cases e
          rcases d2 #[] with z | z <;> exact absurd rfl z
    have nsK : ∀ {b : Addr} {m : Str → Option Value}, s₁.heap.Ns b m → (hidT s₁.heap H).Ns b m := fun {b m} ⟨o, es, ep, e, d, r⟩ => ⟨o, es, ep, base_of e (noD e (fun _ _ z => by rw [d] at z; cases z) (fun _ => .inl fun z => by rw [d] at z; cases z)), d, r⟩
    have hKb : K.In (hidT s₁.heap H) := fun b o e => base_of (KX b o e) (by
      cases q : H b with
      | none => rfl
      | some u =>
        rcases hA b (by rw [q]; simp) with e' | e'
        · subst e'
          rw [hK (by rw [q]; simp)] at e; cases e
        · obtain ⟨p, hp, e''⟩ := List.mem_map.mp e'
          rw [← e'', hKP p hp] at e; cases e)
    have hM : Mod K mg (hidT s₁.heap H) := ⟨hKb, nsK hns, ⟨mb, nsK hb, hbb⟩, let ⟨mc, h1, h2⟩ := hlim; ⟨mc, nsK h1, h2⟩⟩
    have hC2 : ∀ p ∈ ts, PySem.W.CodeHd (hidT s₁.heap H) p.1 p.2 := fun p hp => by
      obtain ⟨o, ws, file, tf, flags, tg, inF, text, tt, e1, r1, r2, r⟩ := hC p hp
      exact ⟨o, ws, file, tf, flags, tg, inF, text, tt, base_of e1 (noD e1 (fun _ _ z => by rw [r2] at z; cases z) (fun _ => .inr fun z => by rw [r1] at z; cases z)), r1, r2, r⟩
    have hB2 : ∀ p ∈ ts, (hidT s₁.heap H).BuiltinsAt mg p.2 := fun p hp => by
      obtain ⟨bm, ob, b1, b2, b3, b4, b5, b6, b7, b8⟩ := hB p hp
      exact ⟨bm, ob, b1, b2, b3, b4, base_of b5 (noD b5 (fun _ _ z => by rw [b8] at z; cases z) (fun _ => .inl fun z => by rw [b8] at z; cases z)), b6, b7, b8⟩
    have e0 : Env0 P w K mg (hidT s₁.heap H) callerA [] s₁ H := ⟨rfl, hM, fun b o e => of_hidT e, Nat.le_of_eq (hidT_size _ _), trivial, fun b hb => absurd (show b ∈ ([] : List Addr) from hb) (by simp), hok, .of_eq hg⟩
    refine codeAny_mono ((F _ hKb (nsK hns) fun p hp => ⟨hC2 p hp, hB2 p hp⟩).run callerA [] s₁ H ⟨[.ref a], []⟩ [.ref a] [.ref a] _ _ hr e0 (hbind s₁ (.ref a)) (.cons rfl .nil) (hsp H (fun p hp => hT _ (List.mem_map_of_mem hp)) hS)) fun r s' h => ?_
    cases r with
    | error e => exact (hCX H e s' h).elim
    | ok fl =>
      cases fl with
      | next => exact False.elim h
      | brk => exact False.elim h
      | cont => exact False.elim h
      | ret u =>
        obtain ⟨v, H', os, bare, un, hok', r', q⟩ := h
        have q' : v = .bl true := q
        subst q'
        obtain rfl : u = Value.bool true := r'
        have hP' : ∀ b ∈ ts.map (·.2), ∃ more, s'.heap.get? b = some { cls := .none, data := .fields (#[] ++ more) } := fun b hb => by
          obtain ⟨more, hT'⟩ := un.tbls b _ (hT b hb)
          exact ⟨more, hok' b _ hT'⟩
        have keep : ∀ b o, b ∉ ts.map (·.2) → s₁.heap.get? b = some o → s'.heap.get? b = some o := fun b o hb e => by
          cases q : H b with
          | none => exact un.keep b o e q (by intro z; exact absurd (show b ∈ ([] : List Addr) from z) (by simp)) (by simp)
          | some u =>
            rcases hO b hb with z | ⟨ob, xs, z⟩
            · rw [q] at z; cases z
            · have z2 := un.frzs b ob _ z
              obtain ⟨e1, _⟩ := hok b _ z
              obtain ⟨e2, _⟩ := hok' b _ z2
              rw [e] at e1; cases e1
              exact e2
        refine ⟨rfl, ⟨fun b o e => ?_, fun b o e => ?_⟩, os, bare⟩
        · by_cases hb : b ∈ ts.map (·.2)
          · obtain ⟨more, h'⟩ := hP' b hb
            rw [hPm b hb] at e; cases e
            obtain ⟨p, hp, e'⟩ := List.mem_map.mp hb
            exact .inr (.inl ⟨e' ▸ ((hC p hp).tab (hP p hp)).isCodeTable, rfl, #[], more, rfl, h'⟩)
          · exact .inl (keep b o hb e)
        · by_cases hb : b ∈ ts.map (·.2)
          · obtain ⟨more, h'⟩ := hP' b hb; exact ⟨_, h'⟩
          · exact ⟨o, keep b o hb e⟩
  have base0 : ∀ b, (fun b => if b ∈ ts.map (·.2) then some (HO.tbl #[]) else none : Hp) b = if b ∈ ts.map (·.2) then some (HO.tbl #[]) else none := fun _ => rfl
  generalize hH0 : (fun b => if b ∈ ts.map (·.2) then some (HO.tbl #[]) else none : Hp) = H0 at base0
  have in0 : ∀ b ∈ ts.map (·.2), H0 b = some (.tbl #[]) := fun b hb => by rw [base0, if_pos hb]
  have out0 : ∀ b, b ∉ ts.map (·.2) → H0 b = none := fun b hb => by rw [base0, if_neg hb]
  cases hk : K.lookup a with
  | some o =>
    have e := KX a o hk
    rw [ha] at e
    cases e
    refine core H0 in0 (fun b hb => .inl (out0 b hb)) (.inr ⟨_, vs.toArray, _, hk, rfl, rfl, rfl, by rw [List.size_toArray, lenV]; exact hl, by simpa using rv⟩) (fun b u z => ?_) (fun b z => ?_) fun z => absurd (out0 a naP) z
    · by_cases hb : b ∈ ts.map (·.2)
      · rw [in0 b hb] at z; cases z
        exact hPm b hb
      · rw [out0 b hb] at z; cases z
    · by_cases hb : b ∈ ts.map (·.2)
      · exact .inr hb
      · exact absurd (out0 b hb) z
  | none =>
    refine core (upd H0 a (.frz { cls := .type "list", data := .seq vs.toArray } (.lst (ns.map V.int)))) (fun b hb => by
      have hne : b ≠ a := fun z => by rw [z] at hb; exact naP hb
      rw [upd_ne hne]; exact in0 b hb) (fun b hb => ?_) (.inl (.inr ⟨{ cls := .type "list", data := .seq vs.toArray }, upd_same⟩)) (fun b u z => ?_) (fun b z => ?_) fun _ => hk
    · by_cases hba : b = a
      · exact .inr ⟨_, _, by rw [hba]; exact upd_same⟩
      · exact .inl (by rw [upd_ne hba]; exact out0 b hb)
    · by_cases hba : b = a
      · subst hba
        rw [upd_same] at z; cases z
        exact ⟨ha, by rw [List.length_map]; exact hl, vs, _, rv, ha⟩
      · rw [upd_ne hba] at z
        by_cases hb : b ∈ ts.map (·.2)
        · rw [in0 b hb] at z; cases z
          exact hPm b hb
        · rw [out0 b hb] at z; cases z
    · by_cases hba : b = a
      · exact .inl hba
      · by_cases hb : b ∈ ts.map (·.2)
        · exact .inr hb
        · rw [upd_ne hba, out0 b hb] at z
          exact absurd rfl z
theorem walk_Ts {l : PySem.W.OpenLaw} {n k : Nat} {q : Program} {loose : List Str} {XP : (Str → Option Value) → Heap → Prop} {YP : World → Heap → Prop} {d : DefRec} {K : Params → PySem.W.Frag} {CX : World → CXT} {sp : World → List (Addr × Addr) → Sp} {x : Str} {xs : List Str}
    (hn : l.most = some n) (hn2 : n ≤ sizeLine) (hdf : d.params.defaults = []) (hr : Room k callerA) (hrec : ∀ x0 ∈ xs, ∃ d0, (recsOf q).find? (fun e => e.name == x0) = some d0)
    (hY : ∀ (w : World) (h : Heap), YP w h → (K w.params).In h)
    (F : ∀ (w : World) (mg : Str → Option Value) (fa : Addr) (h : Heap), (K w.params).In h → h.Ns mainGlobals mg → mg d.name = some (.ref fa) →
      ∃ (fd : FuncData) (ts : List (Addr × Addr)), (∀ p ∈ ts, (∃ x0 ∈ xs, PySem.W.tabIn (K w.params) x0 = some p) ∧ (K w.params).lookup p.2 = none) ∧ (∀ (s : Shared) (u : Value), BindsTo s fd ⟨[u], []⟩ [(x, u)]) ∧
        (∀ base : Heap, (K w.params).In base → base.Ns mainGlobals mg → (∀ p ∈ ts, PySem.W.CodeHd base p.1 p.2 ∧ base.BuiltinsAt mg p.2) → FnOk l.prog w (K w.params) mg base (CX w) k fa fd [x] (sp w ts)))
    (hsp : ∀ (w : World) (H : Hp) (a : Addr) (ts : List (Addr × Addr)) (ns : List Int), ns.length ≤ n → (∀ p ∈ ts, H p.2 = some (.tbl #[])) → SqL (K w.params) H a (ns.map V.int) → sp w ts [.ref a] H (fun v _ => v = .bl true) fun _ _ _ => False)
    (hCX : ∀ (w : World) (H : Hp) (s : Shared) (e : Value) (s' : Shared), CX w [] H s (fun _ _ _ => False) e s' → False) :
    PySem.W.WalkO q loose XP YP l.row.toRowW d [] (fun f vs => PySem.call f vs) := by
  refine Att.attach_call hn hdf fun w s₀ s₁ mg mb fa o pm cd doc a vs ns G Y ho hd hcd hmg hobj hints hlen hg => ?_
  have KX := hY w _ Y
  obtain ⟨fd, ts, htab, hb, hF⟩ := F w mg fa _ KX G.T.g hmg
  have hCP : ∀ p ∈ ts, PySem.W.CodeHd s₁.heap p.1 p.2 ∧ s₁.heap.get? p.2 = some (PySem.W.tabObj #[]) := fun p hp => by
    obtain ⟨⟨x0, hx0, ht⟩, _⟩ := htab p hp
    obtain ⟨d0, hd0⟩ := hrec x0 hx0
    exact PySem.W.tab_of G.T KX hd0 ht
  have hBl : ∀ p ∈ ts, s₁.heap.BuiltinsAt mg p.2 := fun p hp => by
    obtain ⟨bm, ob, b1, b2, b3, b4, b5, b6⟩ := G.T.bmain
    have hbG : bm ≠ mainGlobals := fun z => by
      obtain ⟨o2, es, ep, e2, hd2, _⟩ := G.T.g
      rw [z, e2] at b3; cases b3; rw [hd2] at b6; cases b6
    have hbP : bm ≠ p.2 := fun z => by
      rw [z, (hCP p hp).2] at b3; cases b3; cases b4
    exact ⟨bm, ob, b1, b2, hbG, hbP, b3, b4, b5, b6⟩
  exact law_callTs KX G.T.g G.T.b G.T.builtins G.T.nolimit hg (fun p hp => (hCP p hp).1) (fun p hp => (hCP p hp).2) (fun p hp => (htab p hp).2) hBl hobj hints (Nat.le_trans hlen hn2) hr hF hb (fun H hT hS => hsp w H a ts ns hlen hT hS) fun H e s' => hCX w H s₁ e s'
end My
set_option Elab.async false
set_option linter.all false
set_option maxRecDepth 100000
set_option maxHeartbeats 4000000
namespace My
open PySem PySem.Spec PyProof.Rows L2
section
variable {X : Cx}
variable {CX : CXT} {k : Nat} {f : Addr} {fd : FuncData} {ps ks : List Str} {sp : Sp} {E : XK} {x : Str} {p pos : Pos} {kws : List Keyword} {tk : TA} {g : List Value → List Value → List Value} {gV : List V → List V → List V}
theorem pe_callK0 (F : FnOk X.prog X.w X.K X.mg X.base CX k f fd ps sp) (hr : Room k X.A) (hg : Gl X x) (hm : X.mg x = some (.ref f)) (hk : PySem.W.keepIn X.K (.ref f) = true) (hb : KBinds X.K fd ps ks g gV) (hx : Passes CX X E)
    (hkw : PK X kws tk) (hall : (backToKw pos (keywordEach kws X.env)).all (·.1.isSome) = true := by rfl) (hks : (backToKw pos (keywordEach kws X.env)).filterMap (·.1) = ks := by rfl)
    (hdb : (x == ("__debug__" : Str)) = false := by decide) (hpl : ((backTo pos (starEach [] X.env)).any (·.1) || (backToKw pos (keywordEach kws X.env)).any (·.1.isNone)) = false := by rfl) :
    PE X (.Call (.Name x p) [] kws pos) (tCallK sp gV E tNil tk) := by
  refine ⟨?_⟩
  intro pins s σ H Q I h
  refine wpAny_Call_Name_kw (ld_glob I hg hm ?_ hdb)
  refine PySem.W.callWith_KW0 (h₀ := X.base) I.ok.mod.kin hk hall (thn (hkw pos pins s σ H _ I h) fun ws s2 ⟨zs, H2, I2, rz, q2⟩ => ⟨I2.kIn, ?_⟩) hpl
  rw [hks]
  exact run_fnk F hr hb hx I2 .nil rz q2
end
end My
set_option Elab.async false
set_option linter.all false
set_option maxRecDepth 100000
set_option maxHeartbeats 4000000
namespace My
open PySem PySem.Spec PyProof.Rows L2
section
variable {prog : Program} {w : World} {A : Around} {E : Value → Shared → Prop} {s : Shared}
theorem getItem_whole {t sl : Addr} {items : Array Value} {vl vu : Value} {lo hi : Option Int} {Q : Value → Shared → Prop} (ht : IsTup s.heap t items) (hs : s.heap.IsSliceOf sl vl vu .none) (pl : IsPart vl lo) (pu : IsPart vu hi)
    (hw : HT.sIx items.size 0 lo = 0 ∧ HT.sIx items.size items.size hi = items.size) (h : Q (.ref t) s) : wpAny (model prog w) A (getItem (.ref t) (.ref sl)) Q E s := by
  obtain ⟨os, hos, hcs, hds⟩ := id hs
  have hTs : s.TypeIs (.ref sl) "slice" := ⟨os, hos, hcs⟩
  unfold getItem
  try with_reducible refine wpAny_holding ?_
  first | refine wpAny_bind (wpAny_pure ?_) | skip
  refine wpAny_bind (wpAny_sequenceKey ht.typeIs (by decide) ?_)
  refine wpAny_bind (wpAny_callSpecial?_slot (name := Str.ofString "__getitem__") ht.typeIs PyProof.Rows.slot_tuple_getitem (wpAny_call_entry PyProof.Rows.slot_tuple_getitem ht.typeIs entry_tuple_getitem ?_ (args_tuple_getitem _ _)))
  show wpAny _ _ (Builtin.Tuple.tupleItemsOf (.ref t) >>= _) _ _ s
  refine wpAny_bind (tupleItemsOf_ ht (wpAny_bind (wpAny_typeOf hTs ?_)))
  rw [if_pos (by decide)]
  refine wpAny_bind (HT.sliceApplied_gen hs pl pu ?_)
  have hyes : ((((HT.sIx items.size 0 lo : Nat) : Int) == 0 && (1 : Int) == 1 && (HT.sIx items.size items.size hi - HT.sIx items.size 0 lo) == items.size) = true) := by rw [hw.1, hw.2]; simp
  show wpAny _ _ (if (((HT.sIx items.size 0 lo : Nat) : Int) == 0 && (1 : Int) == 1 && (HT.sIx items.size items.size hi - HT.sIx items.size 0 lo) == items.size) = true then _ else _) _ _ s
  rw [if_pos hyes]
  unfold Builtin.Tuple.tupleIsExact
  refine wpAny_bind (wpAny_bind (wpAny_typeOf ht.typeIs (wpAny_pure ?_)))
  rw [if_pos (by decide)]
  refine wpAny_bind (wpAny_rule ?_)
  first
    | exact wpAny_bind (wpAny_pure (wpAny_pure ⟨_, rfl, wpAny_pure h⟩))
    | exact wpAny_pure ⟨_, rfl, wpAny_pure h⟩
    | exact wpAny_bind (wpAny_pure ⟨_, rfl, wpAny_pure h⟩)
theorem sliceApplied_rev {sl : Addr} {n : Nat} {u : Tok} {Q : Int × Int × Nat → Shared → Prop} (hs : s.heap.IsSliceOf sl .none .none (.int (-1) u)) (h : Q ((n : Int) - 1, -1, n) s) : wpAny (model prog w) A (Builtin.Slice.sliceApplied (.ref sl) (pure (n : Int))) Q E s := by
  obtain ⟨os, hos, hcs, hds⟩ := id hs
  unfold Builtin.Slice.sliceApplied Builtin.Slice.sliceFields
  refine wpAny_bind (wpAny_bind (wpAny_field hos hds (x := .none) rfl (wpAny_bind (wpAny_field hos hds (x := .none) rfl (wpAny_bind (wpAny_field hos hds (x := .int (-1) u) rfl (wpAny_pure ?_)))))))
  refine wpAny_bind (slicePart_int ?_)
  show wpAny _ _ (if ((-1 : Int) == 0) = true then _ else _) _ _ s
  rw [if_neg (by decide)]
  refine wpAny_bind (slicePart_none (wpAny_bind (slicePart_none (wpAny_bind (wpAny_pure ?_)))))
  show wpAny _ _ (match Builtin.Slice.sliceAdjust none none (-1) (n : Int) with | (lo, hi) => pure (lo, (-1 : Int), Builtin.Slice.slicePlaces lo hi (-1))) _ _ s
  have e1 : Builtin.Slice.sliceAdjust none none (-1) (n : Int) = ((n : Int) - 1, -1) := by
    unfold Builtin.Slice.sliceAdjust
    simp
  rw [e1]
  show wpAny _ _ (pure ((n : Int) - 1, (-1 : Int), Builtin.Slice.slicePlaces ((n : Int) - 1) (-1) (-1))) _ _ s
  have e2 : Builtin.Slice.slicePlaces ((n : Int) - 1) (-1) (-1) = n := by
    unfold Builtin.Slice.slicePlaces
    rw [if_neg (by decide)]
    by_cases hn : n = 0
    · subst hn; decide
    · rw [if_pos (by omega)]
      have : ((n : Int) - 1 - -1 - 1) / (- -1) + 1 = n := by
        rw [Int.neg_neg, Int.ediv_one]; omega
      rw [this]; rfl
  rw [e2]
  exact wpAny_pure h
theorem pick_rev (items : Array Value) : ((List.range items.size).filterMap fun (k : Nat) => items[((items.size : Int) - 1 + (k : Int) * -1).toNat]?) = items.toList.reverse := by
  have key : ∀ k, k ≤ items.size → ((List.range k).filterMap fun (m : Nat) => items[((items.size : Int) - 1 + (m : Int) * -1).toNat]?) = items.toList.reverse.take k := by
    intro k
    induction k with
    | zero => intro _; rfl
    | succ k ih =>
      intro hk
      have hk2 : k < items.toList.reverse.length := by rw [List.length_reverse, Array.length_toList]; omega
      have e : ((items.size : Int) - 1 + (k : Int) * -1).toNat = items.size - 1 - k := by omega
      rw [List.range_succ, List.filterMap_append, ih (by omega), List.take_succ_eq_append_getElem hk2]
      congr 1
      rw [List.filterMap_cons, e, Array.getElem?_eq_getElem (by omega)]
      simp
  rw [key items.size (Nat.le_refl _)]
  exact List.take_of_length_le (by simp)
end
section
variable {X : Cx}
def rCatA (K : PySem.W.Frag) : R2 := fun x y H Q => ∃ a b xs ys, x = .ref a ∧ y = .ref b ∧ SqT K H a xs ∧ SqT K H b ys ∧ xs.length + ys.length ≤ sizeLine ∧ (xs = [] → Q (.ref b) H) ∧ (ys = [] → Q (.ref a) H) ∧ ∀ p, H p = none → Q (.ref p) (upd H p (.tup (xs ++ ys)))
theorem op_catA : OpR X (binaryOp .Add) (rCatA X.K) := by
  intro pins s σ H x y v u Q I rx ry h
  obtain ⟨a, b, xs, ys, rfl, rfl, ha, hb, hz, q0, q1, q2⟩ := h
  by_cases hx : xs = []
  · cases rx
    cases ry
    obtain ⟨its, r1, p1, _⟩ := I.tuple ha
    obtain ⟨its2, r2, p2, _⟩ := I.tuple hb
    obtain ⟨⟨cls, dd, data, sl⟩, ho, hc, n, hd⟩ := id p1
    obtain ⟨⟨cls2, dd2, data2, sl2⟩, ho2, hc2, n2, hd2⟩ := id p2
    simp only at hc hd hc2 hd2
    subst hc hd hc2 hd2
    have hi : its = [] := r1.nil_iff.mpr hx
    exact concat_meets ⟨_, ho, rfl⟩ ⟨_, ho2, rfl⟩ noFill_tuple_add seq_tuple_add PySem.F.slot_tuple_add PySem.F.entry_tuple_add (PySem.F.args_tuple_add_2 _ _) (tuple_addW0 a b its.toArray its2.toArray n n2 dd dd2 sl sl2 (by simp [hi])) ⟨ho, ho2, ⟨.ref b, H, I, rfl, q0 hx⟩⟩
  · exact op_catT pins s σ H _ _ v u Q I rx ry ⟨a, b, xs, ys, rfl, rfl, ha, hb, hx, hz, q1, fun _ => q2⟩
end
end My
set_option Elab.async false
set_option linter.all false
set_option maxRecDepth 100000
set_option maxHeartbeats 4000000
namespace My
open PySem PySem.Spec PyProof.Rows L2
open AutoSeq1 (wpAny_loadPart')
section
variable {X : Cx}
def rRevT (K : PySem.W.Frag) (te : TE) : TE := fun σ H Q => te σ H fun x H1 => ∃ a xs, x = .ref a ∧ SqT K H1 a xs ∧ ∀ p, H1 p = none → Q (.ref p) (upd H1 p (.tup xs.reverse))
theorem vals_rev : ∀ {xs : List V} {us : List Value}, Vals xs us → Vals xs.reverse us.reverse
  | _, _, .nil => .nil
  | _, _, .cons r t => by
    rw [List.reverse_cons, List.reverse_cons]
    exact (vals_rev t).append (.cons r .nil)
theorem getItem_rev {prog : Program} {w : World} {A : Around} {E : Value → Shared → Prop} {s : Shared} {t sl : Addr} {items : Array Value} {u : Tok} {Q : Value → Shared → Prop} (ht : IsTup s.heap t items) (hs : s.heap.IsSliceOf sl .none .none (.int (-1) u)) (hsz : items.size ≤ sizeLine)
    (h : Q (.ref s.heap.objs.size) { s with heap := s.heap.push { cls := .type "tuple", data := .seq items.toList.reverse.toArray } }) : wpAny (model prog w) A (getItem (.ref t) (.ref sl)) Q E s := by
  obtain ⟨os, hos, hcs, hds⟩ := id hs
  have hTs : s.TypeIs (.ref sl) "slice" := ⟨os, hos, hcs⟩
  unfold getItem
  try with_reducible refine wpAny_holding ?_
  first | refine wpAny_bind (wpAny_pure ?_) | skip
  refine wpAny_bind (wpAny_sequenceKey ht.typeIs (by decide) ?_)
  refine wpAny_bind (wpAny_callSpecial?_slot (name := Str.ofString "__getitem__") ht.typeIs PyProof.Rows.slot_tuple_getitem (wpAny_call_entry PyProof.Rows.slot_tuple_getitem ht.typeIs entry_tuple_getitem ?_ (args_tuple_getitem _ _)))
  show wpAny _ _ (Builtin.Tuple.tupleItemsOf (.ref t) >>= _) _ _ s
  refine wpAny_bind (tupleItemsOf_ ht (wpAny_bind (wpAny_typeOf hTs ?_)))
  rw [if_pos (by decide)]
  refine wpAny_bind (sliceApplied_rev hs ?_)
  show wpAny _ _ (if (((items.size : Int) - 1) == 0 && (-1 : Int) == 1 && items.size == items.size) = true then _ else _) _ _ s
  rw [if_neg (by simp), pick_rev]
  have hz2 : sizeOk (.seq items.toList.reverse.toArray) := by show items.toList.reverse.toArray.size ≤ sizeLine; simpa using hsz
  first
    | exact wpAny_bind (m := Builtin.Tuple.tupleExact _) (wpAny_newObj_type (wpAny_pure ⟨_, rfl, wpAny_pure h⟩) hz2)
    | exact wpAny_bind (m := Builtin.Tuple.tupleExact _) (wpAny_newObj_type (wpAny_bind (wpAny_pure (wpAny_pure ⟨_, rfl, wpAny_pure h⟩))) hz2)
    | exact wpAny_bind (wpAny_bind (m := Builtin.Tuple.tupleExact _) (wpAny_newObj_type (wpAny_pure (wpAny_pure ⟨_, rfl, wpAny_pure h⟩)) hz2))
    | exact wpAny_bind (wpAny_bind (m := Builtin.Tuple.tupleExact _) (wpAny_newObj_type (wpAny_pure ⟨_, rfl, wpAny_pure h⟩) hz2))
end
end My
set_option Elab.async false
set_option linter.all false
set_option maxRecDepth 100000
set_option maxHeartbeats 4000000
namespace My
open PySem PySem.Spec PyProof.Rows L2
section
variable {X : Cx}
theorem pe_rev {e : Expr} {te : TE} {j : Nat} {p2 p3 p4 pos : Pos} (he : PE X e te) : PE X (.Subscript e (.Slice none none (some (.UnaryOp .USub (.Constant (.int 1) j p3) p4)) p2) pos) (rRevT X.K te) := by
  refine ⟨?_⟩
  intro pins s σ H Q I h
  refine Subscript_ (thn (he pins s σ H _ I h) fun v s1 ⟨x, H1, I1, r1, a, xs, ex, hx, q⟩ => ?_)
  subst ex
  obtain rfl : v = Value.ref a := r1
  refine wpAny_Slice ?_
  rw [evalPart_none]
  refine wpAny_pure (wpAny_pure ?_)
  rw [evalPart_some]
  refine thn ((pe_un un_neg pe_int : PE X _ _) pins s1 σ H1 (fun w H2 => w = .int (-1) ∧ H2 = H1) I1 ⟨1, rfl, rfl, rfl⟩) fun u s2 ⟨w, H2, I2, rw', ew, eH⟩ => ?_
  subst ew eH
  obtain ⟨t, rfl⟩ := rw'
  have I4 : Inv X pins σ H2 { s2 with heap := s2.heap.push { cls := .type "slice", data := .fields #[.none, .none, .int (-1) t] } } := I2.kept (t' := s2.toks) fun b ob q => Heap.get?_push_of_some _ q
  obtain ⟨its, r, ht, hz⟩ := I4.tuple hx
  have hlen : its.toArray.size = xs.length := by rw [List.size_toArray]; exact r.length.symm
  refine tail_any (ops := [.ref a, .ref s2.heap.objs.size]) ht.typeIs PyProof.Rows.slot_tuple_getitem.lookup (getItem_rev ht (Heap.IsSliceOf.new ..) (by rw [hlen]; exact hz) ?_) (by with_unfolding_all rfl)
  refine ⟨.ref _, _, I4.laid (t' := s2.toks) (o := .tup xs.reverse) (fun b ob q => Heap.get?_push_of_some _ q) (Nat.le_refl _) ⟨by rw [List.length_reverse]; exact hz, _, vals_rev r, IsTup.new _ _⟩, rfl, q _ (I4.hok.fresh (Nat.le_refl _))⟩
end
end My
set_option Elab.async false
set_option linter.all false
set_option maxRecDepth 100000
set_option maxHeartbeats 4000000
namespace My
open PySem L2
inductive Lit where
  | int (i : Int) | bl (b : Bool) | str (x : Str) | non | tup (xs : List Lit) | lst (xs : List Lit)
def litAll (f : Expr → Lit → Bool) : List Expr → List Lit → Bool
  | [], [] => true
  | e :: es, l :: ls => f e l && litAll f es ls
  | _, _ => false
def litIs : Nat → Expr → Lit → Bool
  | 0, _, _ => false
  | _ + 1, .Constant (.int i) _ _, .int j => decide (i = j)
  | _ + 1, .Constant (.bool i) _ _, .bl j => decide (i = j)
  | _ + 1, .Constant (.str i) _ _, .str j => decide (i = j)
  | _ + 1, .Constant .none _ _, .non => true
  | _ + 1, .UnaryOp .USub (.Constant (.int i) _ _) _, .int j => decide (-i = j)
  | n + 1, .Tuple es _ _, .tup ls => litAll (litIs n) es ls && decide (ls.length ≤ 1000)
  | n + 1, .List es _, .lst ls => litAll (litIs n) es ls && decide (ls.length ≤ 1000)
  | _, _, _ => false
mutual
inductive LitAt (H0 H : Hp) : Lit → V → Prop
  | int (i : Int) : LitAt H0 H (.int i) (.int i)
  | bl (b : Bool) : LitAt H0 H (.bl b) (.bl b)
  | str (x : Str) : LitAt H0 H (.str x) (.str x)
  | non : LitAt H0 H .non .non
  | tup {a : Addr} {ls : List Lit} {vs : List V} : H0 a = none → H a = some (.tup vs) → LitAll H0 H ls vs → LitAt H0 H (.tup ls) (.ref a)
  | lst {a : Addr} {ls : List Lit} {vs : List V} : H0 a = none → H a = some (.lst vs) → LitAll H0 H ls vs → LitAt H0 H (.lst ls) (.ref a)
inductive LitAll (H0 H : Hp) : List Lit → List V → Prop
  | nil : LitAll H0 H [] []
  | cons {l : Lit} {ls : List Lit} {v : V} {vs : List V} : LitAt H0 H l v → LitAll H0 H ls vs → LitAll H0 H (l :: ls) (v :: vs)
end
theorem LitAll.length {H0 H : Hp} : ∀ {ls : List Lit} {vs : List V}, LitAll H0 H ls vs → vs.length = ls.length
  | _, _, .nil => rfl
  | _, _, .cons _ h => by rw [List.length_cons, List.length_cons, LitAll.length h]
mutual
theorem LitAt.same {H0 H0' H H' : Hp} (f : ∀ b, H0 b = none → H0' b = none) (s : Same H H') : ∀ {l : Lit} {v : V}, LitAt H0 H l v → LitAt H0' H' l v
  | _, _, .int i => .int i
  | _, _, .bl i => .bl i
  | _, _, .str i => .str i
  | _, _, .non => .non
  | _, _, .tup h1 h2 h3 => .tup (f _ h1) (s _ _ h2) (LitAll.same f s h3)
  | _, _, .lst h1 h2 h3 => .lst (f _ h1) (s _ _ h2) (LitAll.same f s h3)
theorem LitAll.same {H0 H0' H H' : Hp} (f : ∀ b, H0 b = none → H0' b = none) (s : Same H H') : ∀ {l : List Lit} {v : List V}, LitAll H0 H l v → LitAll H0' H' l v
  | _, _, .nil => .nil
  | _, _, .cons h1 h2 => .cons (LitAt.same f s h1) (LitAll.same f s h2)
end
theorem Same.rfl' {H : Hp} : Same H H := fun _ _ z => z
theorem new_same {H : Hp} {l : Addr} {o : HO} (h : H l = none) : Same H (upd H l o) := fun b u e => by rw [upd_ne (ne_of_none e h)]; exact e
def tLit (l : Lit) : TE := fun _ H Q => ∀ v H', Same H H' → LitAt H H' l v → Q v H'
def tLits (ls : List Lit) : TA := fun _ H Q => ∀ vs H', Same H H' → LitAll H H' ls vs → Q vs H'
theorem pe_imp {X : Cx} {e : Expr} {t t' : TE} (h : PE X e t) (i : ∀ σ H Q, t' σ H Q → t σ H Q) : PE X e t' := ⟨fun pins s σ H Q I q => h pins s σ H Q I (i _ _ _ q)⟩
theorem pa_imp {X : Cx} {e : List Expr} {t t' : TA} (h : PA X e t) (i : ∀ σ H Q, t' σ H Q → t σ H Q) : PA X e t' := ⟨fun pos pins s σ H Q I q => h pos pins s σ H Q I (i _ _ _ q)⟩
theorem lit_star {n : Nat} {e : Expr} {l : Lit} {es : List Expr} {env : Env} (h : litIs n e l = true) : starEach (e :: es) env = (false, eval e env) :: starEach es env := by
  cases e <;> first | rfl | (cases n <;> simp [litIs] at h)
theorem lits_of {X : Cx} {n : Nat} (ih : ∀ {e : Expr} {l : Lit}, litIs n e l = true → PE X e (tLit l)) : ∀ {es : List Expr} {ls : List Lit}, litAll (litIs n) es ls = true → PA X es (tLits ls)
  | [], [], _ => pa_imp pa_nil fun σ H Q q => q [] H Same.rfl' .nil
  | [], _ :: _, h => by simp [litAll] at h
  | _ :: _, [], h => by simp [litAll] at h
  | e :: es, l :: ls, h => by
    rw [litAll, Bool.and_eq_true] at h
    refine pa_imp (pa_cons (ih h.1) (lits_of ih h.2) (lit_star h.1)) fun σ H Q q => ?_
    intro v H' s1 a1 vs H'' s2 a2
    exact q (v :: vs) H'' (s1.trans s2) (.cons (a1.same (fun _ z => z) s2) (a2.same (fun _ z => s1.free z) Same.rfl'))
theorem len_fits {ls : List Lit} {vs : List V} {H0 H : Hp} (a : LitAll H0 H ls vs) (h : ls.length ≤ 1000) : vs.length ≤ sizeLine := by
  rw [a.length]; exact Nat.le_trans h (by decide)
theorem pe_litN {X : Cx} : ∀ (n : Nat) {e : Expr} {l : Lit}, litIs n e l = true → PE X e (tLit l)
  | 0, _, _, h => by simp [litIs] at h
  | n + 1, e, l, h => by
    unfold litIs at h
    split at h
    · rename_i h0; cases h0
    · obtain rfl := of_decide_eq_true h
      exact pe_imp pe_int fun σ H Q q => q _ _ Same.rfl' (.int _)
    · obtain rfl := of_decide_eq_true h
      exact pe_imp pe_bl fun σ H Q q => q _ _ Same.rfl' (.bl _)
    · obtain rfl := of_decide_eq_true h
      exact pe_imp pe_str fun σ H Q q => q _ _ Same.rfl' (.str _)
    · exact pe_imp pe_non fun σ H Q q => q _ _ Same.rfl' .non
    · obtain rfl := of_decide_eq_true h
      exact pe_imp (pe_un un_neg pe_int) fun σ H Q q => ⟨_, rfl, q _ _ Same.rfl' (.int _)⟩
    · rename_i n' es k pos ls heq
      obtain rfl : n = n' := Nat.succ.inj heq
      rw [Bool.and_eq_true, decide_eq_true_eq] at h
      refine pe_imp (pe_tup (lits_of (pe_litN n) h.1)) fun σ H Q q => ?_
      intro vs H' s1 a
      refine ⟨len_fits a h.2, fun p hp => ?_⟩
      exact q _ _ (s1.trans (new_same hp)) (.tup (s1.free hp) upd_same (a.same (fun _ z => z) (new_same hp)))
    · rename_i n' es pos ls heq
      obtain rfl : n = n' := Nat.succ.inj heq
      rw [Bool.and_eq_true, decide_eq_true_eq] at h
      refine pe_imp (pe_lst (lits_of (pe_litN n) h.1)) fun σ H Q q => ?_
      intro vs H' s1 a
      refine ⟨len_fits a h.2, fun p hp => ?_⟩
      exact q _ _ (s1.trans (new_same hp)) (.lst (s1.free hp) upd_same (a.same (fun _ z => z) (new_same hp)))
    · cases h
theorem pe_lit {X : Cx} {e : Expr} (l : Lit) (h : litIs 8 e l = true) : PE X e (tLit l) := pe_litN 8 h
end My
set_option Elab.async false
set_option linter.all false
set_option maxRecDepth 100000
set_option maxHeartbeats 4000000
namespace My
open PySem PySem.Spec PyProof.Rows L2
section
variable {K : PySem.W.Frag}
theorem FunD.bindsD {x qual : Str} {st : Stmt} {T : Addr} {kV : Value} {f : Addr} {fd : FuncData} {ps : List Str} {ds : List Value} {o : Obj} {items : Array Value} {n : Nat} (F : FunD K x qual st (.ref T) kV f fd) (hT : K.lookup T = some o) (hs : o.data = .seq items n)
    (h : ∀ (doc pm : Value) (an : Option Addr) (cdv ct : Value) (us : List Value), (us ++ ds).length = ps.length → ∃ k, bindArgs (PySem.W.fnOf x qual (defArgs st) (defBody st) (defScope st) (.ref T) kV doc pm an cdv ct) ⟨us, []⟩ = seqItems? (.ref T) >>= k ∧ k (some items) = pure (ps.zip (us ++ ds))) : Binds K fd ps ds := by
  obtain ⟨oc, od, doc, pm, an, cdv, ct, osl, rfl, lk, hcd⟩ := F.ex
  intro s us X hl
  obtain ⟨k, h1, h2⟩ := h doc pm an cdv ct us hl
  exact BindsTo.of_defaults rfl (X _ _ hT) hs h1 h2
end
section
variable {K : PySem.W.Frag}
end
def kb02r {α : Type} : List α → List α → List α
  | [], [b0, b1] => [b1, b0]
  | _, _ => []
theorem kb02r_rel {vs : List V} {us : List Value} {zs : List V} {ws : List Value} (r1 : Vals vs us) (r2 : Vals zs ws) : Vals (kb02r vs zs) (kb02r us ws) := by
  cases r1 with
  | cons _ _ => exact .nil
  | nil =>
    cases r2 with
    | nil => exact .nil
    | cons q0 r2' =>
      cases r2' with
      | nil => exact .nil
      | cons q1 r2'' =>
        cases r2'' with
        | cons _ _ => exact .nil
        | nil =>
          exact (.cons q1 (.cons q0 .nil))
def kb11 {α : Type} : List α → List α → List α
  | [a], [b] => [a, b]
  | _, _ => []
theorem kb11_rel {vs : List V} {us : List Value} {zs : List V} {ws : List Value} (r1 : Vals vs us) (r2 : Vals zs ws) : Vals (kb11 vs zs) (kb11 us ws) := by
  cases r1 with
  | nil => exact .nil
  | cons a r1 =>
    cases r1 with
    | cons _ _ => exact .nil
    | nil =>
      cases r2 with
      | nil => exact .nil
      | cons b r2 =>
        cases r2 with
        | cons _ _ => exact .nil
        | nil => exact .cons a (.cons b .nil)
end My
set_option Elab.async false
set_option linter.all false
set_option maxRecDepth 100000
set_option maxHeartbeats 4000000
namespace My
open PySem PySem.Spec PyProof.Rows L2
section
variable {X : Cx}
def rSlTB (K : PySem.W.Frag) : V → Option Int → Option Int → Hp → VK → Prop := fun x lo hi H Q => ∃ a xs, x = .ref a ∧ SqT K H a xs ∧ (cutV xs lo hi = xs → Q (.ref a) H) ∧ ∀ p, H p = none → Q (.ref p) (upd H p (.tup (cutV xs lo hi)))
theorem cutV_whole {xs : List V} {lo hi : Option Int} (h1 : HT.sIx xs.length 0 lo = 0) (h2 : HT.sIx xs.length xs.length hi = xs.length) : cutV xs lo hi = xs := by
  unfold cutV
  rw [h1, h2, List.drop_zero, Nat.sub_zero, List.take_length]
theorem sl_tupB : SlR X (rSlTB X.K) := by
  intro pins s σ H x v vl vu lo hi sl Q I rx hs pl pu h
  obtain ⟨a, xs, rfl, hx, q1, q2⟩ := h
  by_cases hw : HT.sIx xs.length 0 lo = 0 ∧ HT.sIx xs.length xs.length hi = xs.length
  · have q1 := q1 (cutV_whole hw.1 hw.2)
    cases rx
    obtain ⟨its, r, ht, hz⟩ := I.tuple hx
    have hlen : its.toArray.size = xs.length := by rw [List.size_toArray]; exact r.length.symm
    refine ⟨"tuple", _, PyProof.Rows.slot_tuple_getitem.lookup, ht.typeIs, getItem_whole ht hs pl pu (by rw [hlen]; exact hw) ⟨.ref a, H, I, rfl, q1⟩⟩
  · exact sl_tup pins s σ H _ v vl vu lo hi sl Q I rx hs pl pu ⟨a, xs, rfl, hx, hw, q2⟩
end
end My
set_option Elab.async false
set_option linter.all false
set_option maxRecDepth 100000
set_option maxHeartbeats 4000000
namespace My
open PySem L2
structure Shw (d : PyData) (dp wt : Nat) : Prop where
  sh : d.showable = true
  nd : d.hasDict = false
  cl : d.canLay0 = true
  is : d.intsShort 13 = true
  de : d.depth ≤ dp
  we : d.weight ≤ wt
structure ShwAll (ds : List PyData) (dp wt : Nat) : Prop where
  sh : PyData.showableAll ds = true
  nd : PyData.hasDictAll ds = false
  cl : PyData.canLayAll0 ds = true
  is : PyData.intsShortAll 13 ds = true
  de : PyData.depthAll ds ≤ dp
  we : PyData.weightAll ds ≤ wt
theorem Shw.mono {d : PyData} {a b a' b' : Nat} (h : Shw d a b) (h1 : a ≤ a') (h2 : b ≤ b') : Shw d a' b' := ⟨h.sh, h.nd, h.cl, h.is, Nat.le_trans h.de h1, Nat.le_trans h.we h2⟩
theorem shw_int {n : Int} (h : n.natAbs < 2 ^ 20) : Shw (.int n) 0 21 := by
  have hl : n.natAbs.log2 < 20 ∨ n.natAbs = 0 := by
    by_cases hz : n.natAbs = 0
    · exact .inr hz
    · exact .inl ((Nat.log2_lt hz).mpr h)
  refine ⟨?_, rfl, rfl, ?_, Nat.le_refl _, ?_⟩
  · rw [PyData.showable]
    refine decide_eq_true ?_
    rcases hl with z | z
    · omega
    · rw [z]; decide
  · rw [PyData.intsShort]
    have := PyData.intsShortAll_ints [n] fun m hm => by rw [List.mem_singleton.mp hm]; exact Nat.lt_trans h (by decide)
    rw [List.map_cons, List.map_nil, PyData.intsShortAll, PyData.intsShort, Bool.and_eq_true] at this
    exact this.1
  · rw [PyData.weight]
    split
    · omega
    · rcases hl with z | z
      · omega
      · rw [z]; decide
theorem shwAll_nil {dp : Nat} : ShwAll [] dp 0 := ⟨by rw [PyData.showableAll], by rw [PyData.hasDictAll], by rw [PyData.canLayAll0], rfl, by rw [PyData.depthAll]; exact Nat.zero_le _, by rw [PyData.weightAll]; exact Nat.le_refl _⟩
theorem shwAll_cons {d : PyData} {ds : List PyData} {dp a b : Nat} (h : Shw d dp a) (h' : ShwAll ds dp b) : ShwAll (d :: ds) dp (a + 1 + b) :=
  ⟨by rw [PyData.showableAll, h.sh, h'.sh]; rfl, by rw [PyData.hasDictAll, h.nd, h'.nd]; rfl, by rw [PyData.canLayAll0, h.cl, h'.cl]; rfl, by rw [PyData.intsShortAll, h.is, h'.is]; rfl,
    by rw [PyData.depthAll]; exact Nat.max_le.mpr ⟨h.de, h'.de⟩, by rw [PyData.weightAll]; have := h.we; have := h'.we; omega⟩
theorem shwAll_of {dp wt : Nat} : ∀ {ds : List PyData}, (∀ d ∈ ds, Shw d dp wt) → ShwAll ds dp ((wt + 1) * ds.length)
  | [], _ => shwAll_nil
  | d :: ds, h => by
    have := shwAll_cons (h d List.mem_cons_self) (shwAll_of fun e he => h e (List.mem_cons_of_mem _ he))
    rw [List.length_cons, Nat.mul_succ]
    exact ⟨this.sh, this.nd, this.cl, this.is, this.de, Nat.le_trans this.we (by omega)⟩
theorem ShwAll.list {ds : List PyData} {dp wt : Nat} (h : ShwAll ds dp wt) : Shw (.list ds) (dp + 1) wt :=
  ⟨by rw [PyData.showable, h.sh], by rw [PyData.hasDict, h.nd], by rw [PyData.canLay0, h.cl], by rw [PyData.intsShort, h.is], by rw [PyData.depth]; exact Nat.succ_le_succ h.de, by rw [PyData.weight]; exact h.we⟩
theorem ShwAll.tuple {ds : List PyData} {dp wt : Nat} (h : ShwAll ds dp wt) : Shw (.tuple ds) (dp + 1) wt :=
  ⟨by rw [PyData.showable, h.sh], by rw [PyData.hasDict, h.nd], by rw [PyData.canLay0, h.cl], by rw [PyData.intsShort, h.is], by rw [PyData.depth]; exact Nat.succ_le_succ h.de, by rw [PyData.weight]; exact h.we⟩
theorem shwInts {ns : List Int} (h : ∀ n ∈ ns, n.natAbs < 2 ^ 20) : ShwAll (ns.map PyData.int) 0 (22 * ns.length) := by
  have := shwAll_of (ds := ns.map PyData.int) (dp := 0) (wt := 21) fun d hd => by
    obtain ⟨n, hn, rfl⟩ := List.mem_map.mp hd
    exact shw_int (h n hn)
  rw [List.length_map] at this
  exact this
theorem Shw.fits {d : PyData} {dp wt : Nat} (h : Shw d dp wt) (h1 : dp ≤ 50) (h2 : wt ≤ 2 ^ 20) : d.showable = true ∧ d.hasDict = false ∧ d.depth ≤ 50 ∧ d.shown.length ≤ sizeLine := by
  refine ⟨h.sh, h.nd, Nat.le_trans h.de h1, PyData.shown_fits_of_layable0 (B := 13) (by decide) (by decide) ?_ h.is⟩
  unfold PyData.layable0
  rw [h.cl, decide_eq_true (Nat.le_trans (Nat.le_trans h.de h1) (by decide)), decide_eq_true (Nat.le_trans h.we h2)]; rfl
theorem Shw.shaped {d : PyData} {dp wt : Nat} (h : Shw d dp wt) (h1 : dp ≤ 50) : SeqAt.shaped d = true := by
  unfold SeqAt.shaped
  rw [h.cl, decide_eq_true (Nat.le_trans (Nat.le_trans h.de h1) (by decide))]; rfl
theorem Shw.refl {d : PyData} {dp wt : Nat} (h : Shw d dp wt) : PyData.eqv d d = true := SeqAt.eqv_refl _ h.cl
theorem slB {K : PySem.W.Frag} {H : Hp} {a : Addr} {xs : List V} {lo hi : Option Int} {Q : VK} (h : H a = some (.tup xs)) (q : ∀ H' b, Same H H' → H' b = some (.tup (cutV xs lo hi)) → Q (.ref b) H') : rSlTB K (.ref a) lo hi H Q :=
  ⟨a, xs, rfl, SqT.of h, fun e => q H a (fun _ _ z => z) (by rw [e]; exact h), fun p hp => q _ p (new_same hp) upd_same⟩
section
variable {X : Cx}
end
end My
set_option Elab.async false
set_option linter.all false
set_option maxRecDepth 100000
set_option maxHeartbeats 4000000
namespace My
open PySem PySem.Spec PyProof.Rows L2
mutual
def litD : Lit → PyData
  | .int i => .int i
  | .bl b => .bool b
  | .str s => .str s
  | .non => .none
  | .tup xs => .tuple (litDs xs)
  | .lst xs => .list (litDs xs)
def litDs : List Lit → List PyData
  | [] => []
  | l :: ls => litD l :: litDs ls
end
mutual
theorem LitAt.dp {K : PySem.W.Frag} {H0 H : Hp} : ∀ {l : Lit} {v : V}, LitAt H0 H l v → Dp K H v (litD l)
  | _, _, .int i => by rw [litD]; exact .int i
  | _, _, .bl b => by rw [litD]; exact .bl b
  | _, _, .str s => by rw [litD]; exact .str s
  | _, _, .non => by rw [litD]; exact .non
  | _, _, .tup _ h a => by rw [litD]; exact .tup (SqT.of h) (LitAll.dp a)
  | _, _, .lst _ h a => by rw [litD]; exact .lst (SqL.of h) (LitAll.dp a)
theorem LitAll.dp {K : PySem.W.Frag} {H0 H : Hp} : ∀ {ls : List Lit} {vs : List V}, LitAll H0 H ls vs → DpAll K H vs (litDs ls)
  | _, _, .nil => by rw [litDs]; exact .nil
  | _, _, .cons a b => by rw [litDs]; exact .cons (LitAt.dp a) (LitAll.dp b)
end
section
variable {X : Cx}
end
end My
set_option Elab.async false
set_option linter.all false
set_option maxRecDepth 100000
set_option maxHeartbeats 4000000
namespace My
open PySem PySem.Spec PyProof.Rows L2
end My
set_option Elab.async false
set_option linter.all false
set_option maxRecDepth 100000
set_option maxHeartbeats 4000000
namespace My
open PySem PySem.Spec PyProof.Rows L2
section
variable {X : Cx} {C f : Addr} {k : Nat} {fd : FuncData} {ps : List Str} {sp : Sp}
def tFint (a b : Str) (te : TE) : TE := fun σ H Q => te σ H fun x H1 => ∃ i : Int, x = .int i ∧ i.natAbs.log2 < 1920 ∧ (Str.empty ++ a ++ Str.ofString (toString i)).length ≤ sizeLine ∧ (Str.empty ++ a ++ Str.ofString (toString i) ++ b).length ≤ sizeLine ∧ Q (.str (Str.empty ++ a ++ Str.ofString (toString i) ++ b)) H1
theorem pe_fint {e : Expr} {te : TE} {a b : Str} {j1 j2 : Nat} {p1 p2 p3 pos : Pos} (ha : (Str.empty ++ a).length ≤ sizeLine) (he : PE X e te) : PE X (.JoinedStr [.Constant (.str a) j1 p1, .FormattedValue e (-1) none p2, .Constant (.str b) j2 p3] pos) (tFint a b te) := by
  refine ⟨?_⟩
  intro pins s σ H Q I h
  refine JoinedStr_many (joinParts_cons (Calls.Constant_str ?_))
  refine ⟨ha, joinParts_cons (FormattedValue_plain (thn (he pins _ σ H _ (I.tok _) h) fun v s1 ⟨x, H1, I1, r1, i, ex, hd, l1, l2, q⟩ => ?_))⟩
  subst ex
  obtain ⟨t, rfl⟩ := r1
  exact formatField_int_small hd ⟨l1, joinParts_cons (Calls.Constant_str ⟨l2, joinParts_nil ⟨.str _, H1, (I1.tok _), ⟨_, rfl⟩, q⟩ l2⟩)⟩
end
end My
set_option Elab.async false
set_option linter.all false
set_option maxRecDepth 100000
set_option maxHeartbeats 4000000
namespace My
open PySem L2 TL
section
variable {X : Cx}
end
end My
set_option Elab.async false
set_option linter.all false
set_option maxRecDepth 100000
set_option maxHeartbeats 4000000
namespace My
open PySem PySem.Spec PyProof.Rows L2
section
variable {X : Cx} {C f : Addr} {k : Nat} {fd : FuncData} {ps : List Str} {sp : Sp}
end
end My
set_option Elab.async false
set_option linter.all false
set_option maxRecDepth 100000
set_option maxHeartbeats 4000000
namespace My
open PySem PySem.Spec PyProof.Rows L2
section
variable {prog : Program} {w : World} {A : Around} {E : Value → Shared → Prop} {s : Shared} {K : PySem.W.Frag} {x C L f : Addr} {h₀ : Heap} {m : Str → Option Value} {ox : Obj} {od : Option Obj} {b tb : Value}
end
section
variable {X : Cx} {C f : Addr} {k : Nat} {fd : FuncData} {ps : List Str} {sp : Sp}
end
end My
set_option Elab.async false
set_option linter.all false
set_option maxRecDepth 100000
set_option maxHeartbeats 4000000
namespace My
open PySem PySem.Spec PyProof.Rows L2
section
variable {X : Cx} {CX : CXT} {k : Nat} {f C : Addr} {fd : FuncData} {ps ks : List Str} {sp : Sp} {E : XK} {x m : Str} {p pos apos : Pos} {o : Expr} {kws : List Keyword} {ta : TE} {tk : TA} {g : List Value → List Value → List Value} {gV : List V → List V → List V}
end
end My
set_option Elab.async false
set_option linter.all false
set_option maxRecDepth 100000
set_option maxHeartbeats 4000000
namespace My
open PySem PySem.Spec PyProof.Rows L2
theorem slot_sa {B : String} (hl : typeLookup (.type B) (Str.ofString "__setattr__") = pure (some (.builtin "object.__setattr__"))) (hs : isSubtype (.type B) (.type "object") = pure true) : Slot B (Str.ofString "__setattr__") "object.__setattr__" := by
  refine ⟨hl, F.slot_object_setattr.bind, ?_, F.slot_object_setattr.plain⟩
  intro M A E s self rest kw Q ht ha hq
  have y1 : builtinKind "object.__setattr__" = some .slot := by decide +kernel
  have y2 : splitId "object.__setattr__" = some ("object", "__setattr__") := by decide +kernel
  have hi : wpAny M A (isInstance self (.type "object")) (fun b s' => b = true ∧ s' = s) E s := by
    unfold isInstance
    cases self with
    | ref a =>
      obtain ⟨o, ho, hc⟩ := ht
      repeat (any_goals (first | assumption | (with_reducible refine wpAny_loadPart_at ho ?_; rw [hc]) | (rw [hs]) | wp_step))
      exact ⟨rfl, rfl⟩
    | _ =>
      have ht : typeOf _ = pure (Value.type B) := ht
      rw [ht, pure_bind, hs]
      exact wpAny_pure ⟨rfl, rfl⟩
  simp only [checkBuiltinCall, y1, y2]
  refine wpAny_bind (wpAny_mono hi (fun b s' ⟨e1, e2⟩ => ?_) fun _ _ z => z)
  subst e1 e2
  unfold argsOk at ha
  have hz := wpAny_pure (M := M) (A := A) (E := E) (Q := Q) (a := ()) hq
  rw [← ha] at hz
  exact hz
structure XB (B newId initId : String) (bm : List Value) : Prop where
  fb : ExcBaseFacts B newId initId bm
  sf : StoreFacts B bm "object.__setattr__" "object"
  ab : ExcAttrBase B bm
  stub : opaqueClassAbove (.type B) = pure none
  ty : typeOf (.type B) = pure (.type "type")
  hand : PySem.W.handedIn (.builtin initId) = true
  find : ∀ K : PySem.W.Frag, PySem.W.findCls K (.type B) (.type "type") (PySem.Str.ofString "__init__") = some (.val (.builtin initId))
theorem store_of {B : String} {bm : List Value} (mro : mroOf (.type B) = pure bm) (hl : typeLookup (.type B) (Str.ofString "__setattr__") = pure (some (.builtin "object.__setattr__"))) (hs : isSubtype (.type B) (.type "object") = pure true)
    (ho : bm.contains (.type "object") = true) (hp : ∀ self : Value, refuseLoop self (Str.ofString "__setattr__") bm = pure ()) : StoreFacts B bm "object.__setattr__" "object" :=
  ⟨mro, slot_sa hl hs, F.store_ValueError.entry, F.store_ValueError.kind, F.store_ValueError.split, ho, F.store_ValueError.args, hp⟩
theorem xb_TypeError : XB "TypeError" "TypeError.__new__" "TypeError.__init__" [.type "TypeError", .type "Exception", .type "BaseException", .type "object"] :=
  ⟨F.excBase_TypeError, store_of F.excBase_TypeError.mroIs (by (rw [typeLookup_type, builtinLookup_eq_fast]; kernel_rfl)) (by first | rfl | kernel_rfl) (by decide +kernel) (fun _ => by first | rfl | kernel_rfl), F.attrBase_TypeError, by (unfold opaqueClassAbove; dsimp only; first | rfl | (rw [show Manifest.isStub _ = false by decide +kernel]; rfl)), by first | rfl | kernel_rfl, by decide +kernel, fun _ => by rfl⟩
theorem xb_OverflowError : XB "OverflowError" "OverflowError.__new__" "OverflowError.__init__" [.type "OverflowError", .type "ArithmeticError", .type "Exception", .type "BaseException", .type "object"] :=
  ⟨F.excBase_OverflowError, store_of F.excBase_OverflowError.mroIs (by (rw [typeLookup_type, builtinLookup_eq_fast]; kernel_rfl)) (by first | rfl | kernel_rfl) (by decide +kernel) (fun _ => by first | rfl | kernel_rfl), F.attrBase_OverflowError, by (unfold opaqueClassAbove; dsimp only; first | rfl | (rw [show Manifest.isStub _ = false by decide +kernel]; rfl)), by first | rfl | kernel_rfl, by decide +kernel, fun _ => by rfl⟩
end My
set_option Elab.async false
set_option linter.all false
set_option maxRecDepth 100000
set_option maxHeartbeats 4000000
namespace My
open PySem PySem.Spec PyProof.Rows L2
section
variable {X : Cx} {C fI N : Addr} {B newId initId : String} {bm : List Value} {e : Expr} {es : List Expr} {t : TA} {p0 apos pos : Pos} {nB : Str}
theorem pe_binitG {pl : Sem Bool} (XB0 : XB B newId initId bm) (G : ECls X.K C fI N newId bm) (hg : Gl X nB) (hm : X.mg nB = none) (hb : bootBuiltins nB = some (.type B)) (ha : PA X (e :: es) t) (hnn : nB ≠ ("__name__" : Str) := by decide) (hnd : (nB == ("__debug__" : Str)) = false := by decide)
    (he : starEach (e :: es) X.env = (false, eval e X.env) :: starEach es X.env := by rfl) (hpl : (backTo pos (starEach es X.env)).any (·.1) = false := by rfl)
    (ht : eval (.Call (.Attribute (.Name nB p0) "__init__" apos) (e :: es) [] pos) X.env = (do
      let ov ← eval (.Name nB p0) X.env
      standAt apos.atName
      let (f, first) ← holding [ov] (getMethod ov "__init__" pl)
      callWith pos f first (backTo pos (starEach (e :: es) X.env)) (backToKw pos (keywordEach [] X.env))) := by rfl) :
    PE X (.Call (.Attribute (.Name nB p0) "__init__" apos) (e :: es) [] pos) (tBInit C t) := by
  refine ⟨?_⟩
  intro pins s σ H Q I h
  refine PySem.W.methodCall_KW (pl := pl) (ld_blt I hg hm hb ?_ hnn hnd) ht
  refine getm_init I.kIn XB0.stub XB0.ty XB0.hand (XB0.find X.K) ?_
  refine PyProof.Rows.callWith_builtin1 (thn (ha pos pins _ σ H _ (I.tok _) h) fun us s1 ⟨vs, H1, I1, r1, x, r, ev, hx, hl, q⟩ => ?_) he hpl
  subst ev
  cases r1 with
  | @cons a u as us2 ru rr =>
    obtain rfl : u = Value.ref x := ru
    obtain ⟨nm, q0, bs, sn, sub, ab, col, dd, k0, k1, k2, k3, k5, lk⟩ := G.cls
    obtain ⟨⟨t1, hx1⟩, _⟩ := I1.hok x _ hx
    obtain ⟨hp, g, d, tk, os⟩ := s1
    have hrl := rr.length
    refine call_excInit XB0.fb (I1.kIn _ _ lk) hx1 (fun h' t2 hx2 hk => ?_) (by rw [sizeLine_eq]; omega)
    refine ⟨.non, upd H1 x (xoFresh C x), ?_, rfl, q⟩
    exact I1.write (t' := tk) (x := x) (e := x) (by rw [hx]; exact True.intro) (.inl rfl) hk ⟨_, hx2⟩ (fresh_ok hx2)
theorem ps_xsetG {o value : Expr} {f : Str} {pos' : Pos} {ta tv : TE} (XB0 : XB B newId initId bm) (G : ECls X.K C fI N newId bm) (hf : PySem.W.nsIn X.K N f = some none) (hB : typeLookup (.type B) f = pure none) (ha : PE X o ta) (hv : PE X value tv) (hs : swapsWith value (some (.Attribute o f pos')) pos.line X.env = pure false) :
    PS X (.Assign [.Attribute o f pos'] value pos) (sXSet C ta tv f) := by
  refine ⟨?_⟩
  intro pins s σ H D I h
  refine plainObj_wpAny_Assign_Attribute (thn (hv pins s σ H _ I h) fun u s1 ⟨y, H1, I1, ry, q⟩ => thn (ha pins s1 σ H1 _ I1 q) fun ov s2 ⟨x, H2, I2, rx, e, ex, ea, q2⟩ => ?_) hs
  subst ex
  obtain rfl : ov = Value.ref e := rx
  obtain ⟨nm, q0, bs, sn, sub, ab, col, dd, k0, k1, k2, k3, k5, lk⟩ := G.cls
  obtain ⟨⟨t1, hx1⟩, _⟩ := I2.hok e _ ea
  obtain ⟨hp, g, d, tk, os⟩ := s2
  have KX := I2.kIn
  refine set_fresh XB0.sf (KX _ _ lk) (.of_isNs (PySem.W.isNs_of_in KX G.ns)) (PySem.W.nsMap_none_of_in KX G.ns G.noset) (PySem.W.nsMap_none_of_in KX G.ns hf) hB hx1 fun h' tk' hx2 hn2 hk => ?_
  have hfr : H2 hp.objs.size = none := I2.hok.fresh (Nat.le_refl _)
  have ne : e ≠ hp.objs.size := Nat.ne_of_lt (Heap.lt_size hx1)
  refine ⟨σ, _, ?_, q2 hp.objs.size hfr⟩
  -- the exception is written, its dict is new
  have keepU : Un X.fs [] H2 (upd (upd H2 hp.objs.size (.xd [(f, y)])) e (xoDone C e hp.objs.size)) hp h' := by
    have nE : ∀ b, H2 b = none → b ≠ e := fun b n z => by rw [z, ea] at n; cases n
    refine ⟨fun b o z n _ _ => hk b o (nE b n) z, fun b o z n _ _ => ⟨o.slots, hk b o (nE b n) z⟩, fun b o z n _ => ?_, fun b o z _ => ?_, fun b xs z => ?_, fun b o u z => ?_, fun b ps z => ⟨#[], ?_⟩⟩
    · rw [upd_ne (nE b n), upd_ne (Nat.ne_of_lt (Heap.lt_size z))]; exact n
    · by_cases hb : b = e
      · rw [hb]; exact ⟨_, hx2⟩
      · exact ⟨o, hk b o hb z⟩
    · rw [upd_ne (fun w => by rw [w, ea] at z; cases z), upd_ne (ne_of_none z hfr)]; exact z
    · rw [upd_ne (fun w => by rw [w, ea] at z; cases z), upd_ne (ne_of_none z hfr)]; exact z
    · rw [upd_ne (fun w => by rw [w, ea] at z; cases z), upd_ne (ne_of_none z hfr), z]; simp
  have hok' : HOk X.prog X.w (upd (upd H2 hp.objs.size (.xd [(f, y)])) e (xoDone C e hp.objs.size)) h' := fun b o z => by
    by_cases hb : b = e
    · subst hb
      rw [upd_same] at z
      cases z
      exact done_ok hx2
    · rw [upd_ne hb] at z
      by_cases hb2 : b = hp.objs.size
      · subst hb2
        rw [upd_same] at z
        cases z
        exact xd_ok hn2 ry
      · rw [upd_ne hb2] at z
        refine (I2.hok b o z).stay (fun c u hc w => ?_) (fun c w => ?_) fun c xs w => ?_
        · refine hk c u (fun v => ?_) w
          rcases hc with rfl | hc
          · exact hb v
          · rw [v, ea] at hc; cases hc
        · rw [upd_ne (fun v => by rw [v, ea] at w; cases w), upd_ne (ne_of_none w hfr)]; exact w
        · rw [upd_ne (fun v => by rw [v, ea] at w; cases w), upd_ne (ne_of_none w hfr)]; exact w
  exact I2.un keepU hok'
end
end My
set_option Elab.async false
set_option linter.all false
set_option maxRecDepth 100000
set_option maxHeartbeats 4000000
namespace My
open PySem PySem.Spec PyProof.Rows L2
section
variable {prog : Program} {w : World} {A : Around} {E : Value → Shared → Prop} {h : Heap} {g : Array GenState} {d : Drawn} {t : Nat} {os : OsState}
variable {nm q : Str} {C N x : Addr} {bs bm : List Value} {sn : List Str} {sub : List Value} {ab : Bool} {col : Option Bool} {dd : Option Addr} {k0 k1 k2 k3 k5 : Option Value} {B newId : String}
  {mN : Str → Option Value} {ob : Obj}
end
section
variable {X : Cx}
end
end My
set_option Elab.async false
set_option linter.all false
set_option maxRecDepth 100000
set_option maxHeartbeats 4000000
namespace My
open PySem PySem.Spec PyProof.Rows L2
def XMade (C e : Addr) (fo : Option (List (Str × V))) (H H' : Hp) : Prop :=
  match fo with
  | none => H' = H
  | some fs => ∃ dx, H dx = none ∧ dx ≠ e ∧ H' = upd (upd H dx (.xd fs)) e (xoDone C e dx)
def spXG (C : Addr) (n : Nat) (pre : List V → Hp → Prop) (g : List V → Option (List (Str × V))) : Sp := fun vs H Q _ => ∃ (e : Addr) (r : List V), vs = .ref e :: r ∧ r.length = n ∧ n ≤ 100 ∧ pre r H ∧ H e = some (xoFresh C e) ∧ ∀ H', XMade C e (g r) H H' → Q .non H'
section
variable {X : Cx} {C fI N : Addr} {newId : String} {k n : Nat} {fd : FuncData} {ps : List Str} {pre : List V → Hp → Prop} {g : List V → Option (List (Str × V))} {E : XK} {B initId : String} {bm : List Value}
theorem run_initG {pins : List (Addr × Obj)} {σ : L2.St} {H : Hp} {hp h' : Heap} {gg : Array GenState} {d : Drawn} {tk : Nat} {os : OsState} {us0 us : List Value} {kw : List (Str × Value)} {vs : List V} {e t : Addr} {A : Around} (F : FnOk X.prog X.w X.K X.mg X.base CX0 k fI fd ps (spXG C n pre g)) (hr : Room k A)
    (I : Inv X pins σ H ⟨hp, gg, d, tk, os⟩) (hA : ∀ H1 h1, Inv X pins σ H1 ⟨h1, gg, d, tk, os⟩ → Env0 X.prog X.w X.K X.mg X.base A X.stack ⟨h1, gg, d, tk, os⟩ H1) (keeps : ∀ b o, hp.get? b = some o → h'.get? b = some o) (new : hp.get? e = none) (there : h'.get? e = some (excFresh C t))
    (hbd : X.K.In h' → ((Value.ref e :: us).length = ps.length) → BindsTo ⟨h', gg, d, tk, os⟩ fd ⟨Value.ref e :: us0, kw⟩ (ps.zip (Value.ref e :: us))) (r : Vals vs us) (hl : vs.length = n) (hn100 : n ≤ 100) (hpre : pre vs (upd H e (xoFresh C e))) :
    codeAny (model X.prog X.w) A (.call (.ref fI) ⟨Value.ref e :: us0, kw⟩) (fun res s' => match res with
      | .ok (.ret u) => u = .none ∧ CE X.stack X.prog X.w H ⟨hp, gg, d, tk, os⟩ (fun v H' => XMade C e (g vs) (upd H e (xoFresh C e)) H') u s'
      | _ => False) ⟨h', gg, d, tk, os⟩ := by
  have hn : H e = none := hok_no I.hok new
  have u1 : Un X.fs [] H (upd H e (xoFresh C e)) hp h' := un_new keeps new hn
  have u1' : Un (frs X.stack) [] H (upd H e (xoFresh C e)) hp h' := un_new keeps new hn
  have I2 : Inv X pins σ (upd H e (xoFresh C e)) ⟨h', gg, d, tk, os⟩ := I.un (t' := tk) u1 (hok_new I.hok keeps new (fresh_ok there))
  have r2 : Vals (V.ref e :: vs) (Value.ref e :: us) := .cons rfl r
  have hsp : spXG C n pre g (V.ref e :: vs) (upd H e (xoFresh C e)) (fun v H' => v = .non ∧ XMade C e (g vs) (upd H e (xoFresh C e)) H') E0 :=
    ⟨e, vs, rfl, hl, hn100, hpre, upd_same, fun H' h1 => ⟨rfl, h1⟩⟩
  have hlen : (Value.ref e :: us).length = ps.length := by rw [← r2.length]; exact F.len _ _ _ _ hsp
  refine codeAny_mono (F.run _ X.stack _ _ ⟨Value.ref e :: us0, kw⟩ (Value.ref e :: us) _ _ E0 hr (hA _ _ I2) (hbd I2.kIn hlen) r2 hsp) fun res s' hq' => ?_
  cases res with
  | error e => exact False.elim hq'
  | ok fl =>
    cases fl with
    | next => exact False.elim hq'
    | brk => exact False.elim hq'
    | cont => exact False.elim hq'
    | ret u =>
      obtain ⟨v, H', os', bare', un', hok', rv, ev, hm⟩ := hq'
      subst ev
      obtain rfl : u = Value.none := rv
      exact ⟨rfl, .non, H', os', bare', u1'.trans un', hok', rfl, hm⟩
end
end My
set_option Elab.async false
set_option linter.all false
set_option maxRecDepth 100000
set_option maxHeartbeats 4000000
namespace My
open PySem PySem.Spec PyProof.Rows L2
section
variable {prog : Program} {w : World} {A : Around} {E : Value → Shared → Prop} {h : Heap} {g : Array GenState} {d : Drawn} {t : Nat} {os : OsState}
variable {nm q : Str} {C N x dx : Addr} {bs bm : List Value} {sn : List Str} {sub : List Value} {ab : Bool} {col : Option Bool} {dd : Option Addr} {k0 k1 k2 k3 k5 : Option Value} {B newId sa owner : String}
  {mN mA : Str → Option Value} {name : Str} {v : Value} {ob : Obj} {ks : List Str}
end
section
variable {X : Cx} {C fI N : Addr} {newId : String} {k n : Nat} {fd : FuncData} {ps : List Str} {pre : List V → Hp → Prop} {g : List V → Option (List (Str × V))} {E : XK} {B initId : String} {bm : List Value} {pos : Pos}
end
end My
set_option Elab.async false
set_option linter.all false
set_option maxRecDepth 100000
set_option maxHeartbeats 4000000
namespace My
open PySem PySem.Spec PyProof.Rows L2
section
variable {X : Cx} {C fI N : Addr} {newId : String} {k n : Nat} {fd : FuncData} {ps : List Str} {pre : List V → Hp → Prop} {g : List V → Option (List (Str × V))} {E : XK} {B initId : String} {bm ds : List Value} {dv : List V}
theorem run_xraise {pins : List (Addr × Obj)} {σ : L2.St} {H : Hp} {s : Shared} {us : List Value} {vs : List V} (FB : ExcBaseFacts B newId initId bm) (G : ECls X.K C fI N newId bm) (F : FnOk X.prog X.w X.K X.mg X.base CX0 k fI fd ps (spXG C n pre g)) (hr : Room (k + 1) X.A) (hb : Binds X.K fd ps [])
    (hx : Passes (CXe X.prog X.w) X E) (I : Inv X pins σ H s) (r : Vals vs us) (hl : vs.length = n) (hn100 : n ≤ 100) (hp : ∀ e, H e = none → pre vs (upd H e (xoFresh C e))) (h : ∃ fs, g vs = some fs ∧ ∀ dx, H dx = none → E (.ref C) (some dx) (upd H dx (.xd fs))) :
    wpAny (model X.prog X.w) X.A (call (.ref C) us) (fun v s' => ∃ (e t : Addr) (dx : Option Addr), v = .ref e ∧ X.K.In s'.heap ∧ s'.heap.get? e = some { excFresh C t with dict := dx } ∧ X.xe (.ref e) s') X.xe s := by
  obtain ⟨nm, q0, bs, sn, sub, ab, col, dd, k0, k1, k2, k3, k5, lk⟩ := G.cls
  obtain ⟨oI, hoI, hcI⟩ := fn_obj I.kIn G.fn
  have hul : us.length = n := by rw [← r.length]; exact hl
  obtain ⟨hp0, gg, d, tk, os⟩ := s
  refine wpAny_call_exc_init FB (I.kIn _ _ lk) (.of_isNs (PySem.W.isNs_of_in I.kIn G.ns)) (ns_some_of I.kIn (.of_isNs (PySem.W.isNs_of_in I.kIn G.ns)) G.init) hoI hcI (fun h' e hm => ?_) (by rw [sizeLine_eq]; omega)
  obtain ⟨t, ht, _, _⟩ := hm.there
  have hn : H e = none := hok_no I.hok hm.new
  refine wpAny_call (codeAny_mono (run_initG (us0 := us) (us := us) (kw := []) F (hr.make C us []) I (fun H1 h1 J => J.env0.make C us []) hm.keeps hm.new ht (fun kin hlen => ?_) r hl hn100 (hp e hn)) fun res s' hq' => ?_)
  · have hbd := hb ⟨h', gg, d, tk, os⟩ (Value.ref e :: us) kin (by rw [List.append_nil]; exact hlen)
    rw [List.append_nil] at hbd
    exact hbd
  cases res with
  | error e => exact False.elim hq'
  | ok fl =>
    cases fl with
    | next => exact False.elim hq'
    | brk => exact False.elim hq'
    | cont => exact False.elim hq'
    | ret u =>
      obtain ⟨rfl, hc⟩ := hq'
      have kin' : X.K.In s'.heap := by
        obtain ⟨_, _, I3, _⟩ := I.after hc
        exact I3.kIn
      obtain ⟨v, H', os', bare', un', hok', rv, hmd⟩ := hc
      obtain ⟨fs, hg, hE⟩ := h
      rw [hg] at hmd
      obtain ⟨dx, d1, d2, eH⟩ := (show ∃ dx, (upd H e (xoFresh C e)) dx = none ∧ dx ≠ e ∧ H' = upd (upd (upd H e (xoFresh C e)) dx (.xd fs)) e (xoDone C e dx) from hmd)
      subst eH
      rw [upd_ne d2] at d1
      obtain ⟨⟨t2, he2⟩, _⟩ := hok' e _ upd_same
      refine ⟨rfl, e, t2, some dx, rfl, kin', he2, hx pins σ H ⟨hp0, gg, d, tk, os⟩ (.ref e) s' I ?_⟩
      have hdrop : drop (upd (upd (upd H e (xoFresh C e)) dx (.xd fs)) e (xoDone C e dx)) e = upd H dx (.xd fs) := by
        funext b
        by_cases hb1 : b = e
        · rw [hb1, drop_same, upd_ne (Ne.symm d2), hn]
        · rw [drop_ne hb1, upd_ne hb1]
          by_cases hb2 : b = dx
          · rw [hb2, upd_same, upd_same]
          · rw [upd_ne hb2, upd_ne hb2, upd_ne hb1]
      refine ⟨e, dx, .ref C, none, _, rfl, ⟨_, _, he2, rfl, rfl, rfl, by show 1 < 6; omega, rfl⟩, hm.new, (fun _ z => nomatch z), os', bare', un_drop (e := e) un' hn, hok_drop hok' upd_same, drop_same, (fun _ z => nomatch z), ?_⟩
      rw [hdrop]
      exact hE dx d1
def tRaiseG (C : Addr) (n : Nat) (pre : List V → Hp → Prop) (g : List V → Option (List (Str × V))) (E : XK) (t : TA) : TS := fun _ σ H => t σ H fun vs H1 => vs.length = n ∧ (∀ e, H1 e = none → pre vs (upd H1 e (xoFresh C e))) ∧ ∃ fs, g vs = some fs ∧ ∀ dx, H1 dx = none → E (.ref C) (some dx) (upd H1 dx (.xd fs))
theorem ps_raiseG {e : Expr} {es : List Expr} {t : TA} {x : Str} {p cpos pos : Pos} (FB : ExcBaseFacts B newId initId bm) (G : ECls X.K C fI N newId bm) (F : FnOk X.prog X.w X.K X.mg X.base CX0 k fI fd ps (spXG C n pre g)) (hn : n ≤ 100) (hr : Room (k + 1) X.A) (hg : Gl X x) (hm : X.mg x = some (.ref C)) (hb : Binds X.K fd ps [])
    (hx : Passes (CXe X.prog X.w) X E) (ha : PA X (e :: es) t) (hdb : (x == ("__debug__" : Str)) = false := by decide) (he : starEach (e :: es) X.env = (false, eval e X.env) :: starEach es X.env := by rfl) (hpl : (backTo cpos (starEach es X.env)).any (·.1) = false := by rfl) :
    PS X (.Raise (some (.Call (.Name x p) (e :: es) [] cpos)) none pos) (tRaiseG C n pre g E t) := by
  refine ⟨?_⟩
  intro pins s σ H D I h
  obtain ⟨nm, q0, bs, sn, sub, ab, col, dd, k0, k1, k2, k3, k5, lk⟩ := G.cls
  show wpAny _ _ (do standAt pos; raiseStmt X.env (some (do let v ← eval (.Call (.Name x p) (e :: es) [] cpos) X.env; standAt pos; pure v)) none) _ _ s
  refine wpAny_bind (wpAny_standAt (raise_made (C := C) (N := N) (bm := bm) (nm := nm) (q := q0) (bs := bs) (hdct := true) (sn := sn) (sub := sub) (ab := ab) (col := col) (dd := dd) (k0 := k0) (k1 := k1) (k2 := k2) (k3 := k3) (k5 := k5) (newId := newId) FB.hasBase hr.hd (wpAny_bind (wpAny_mono (Q := fun v s' => ∃ (e t : Addr) (dx : Option Addr), v = .ref e ∧ X.K.In s'.heap ∧ s'.heap.get? e = some { excFresh C t with dict := dx } ∧ X.xe (.ref e) s') ?_ (fun v s₃ ⟨e, t, dx, e1, e2, e3, e4⟩ => wpAny_bind (wpAny_standAt (wpAny_pure ⟨e, t, dx, e1, e2 _ _ lk, e3, e4⟩))) fun _ _ z => z))))
  refine wpAny_Call_Name_kw (ld_glob I hg hm ?_ hdb)
  refine PySem.W.callWith_K (h₀ := X.base) I.ok.mod.kin G.kp (thn (ha cpos pins s σ H _ I h) fun us s1 ⟨vs, H1, I1, r, hl, hp, q⟩ => ⟨I1.kIn, ?_⟩) he hpl
  exact run_xraise FB G F hr hb hx I1 r hl hn hp q
end
end My
set_option Elab.async false
set_option linter.all false
set_option maxRecDepth 100000
set_option maxHeartbeats 4000000
namespace My
open PySem PySem.Spec PyProof.Rows L2
section
variable {prog : Program} {w : World} {M : Model} {A : Around} {E : Value → Shared → Prop} {h : Heap} {g : Array GenState} {d : Drawn} {t : Nat} {os : OsState} {kw : List (Str × Value)} {R : Result → Shared → Prop}
variable {nm q : Str} {C N : Addr} {bs bm : List Value} {hdct : Bool} {sn : List Str} {sub : List Value} {ab : Bool} {col : Option Bool} {dd : Option Addr} {k0 k1 k2 k3 k5 : Option Value} {B newId initId : String}
end
end My
set_option Elab.async false
set_option linter.all false
set_option maxRecDepth 100000
set_option maxHeartbeats 4000000
namespace My
open PySem PySem.Spec PyProof.Rows L2
section
variable {X : Cx} {C fI N : Addr} {newId : String} {k n : Nat} {fd : FuncData} {ps ks : List Str} {pre : List V → Hp → Prop} {g : List V → Option (List (Str × V))} {E : XK} {B initId : String} {bm : List Value} {kb : List Value → List Value → List Value} {kbV : List V → List V → List V} {tk : TA} {kws : List Keyword} {x : Str} {p pos : Pos}
end
def kb12r {α : Type} : List α → List α → List α
  | [a], [b0, b1] => [a, b1, b0]
  | _, _ => []
theorem kb12r_rel {vs : List V} {us : List Value} {zs : List V} {ws : List Value} (r1 : Vals vs us) (r2 : Vals zs ws) : Vals (kb12r vs zs) (kb12r us ws) := by
  cases r1 with
  | nil => exact .nil
  | cons a0 t0 =>
    cases t0 with
    | cons _ _ => exact .nil
    | nil =>
      cases r2 with
      | nil => exact .nil
      | cons q0 t1 =>
        cases t1 with
        | nil => exact .nil
        | cons q1 t2 =>
          cases t2 with
          | cons _ _ => exact .nil
          | nil => exact .cons a0 (.cons q1 (.cons q0 .nil))
end My
set_option Elab.async false
set_option linter.all false
set_option maxRecDepth 100000
set_option maxHeartbeats 4000000
namespace My
open PySem PySem.Spec PyProof.Rows L2
section
variable {M : Model} {A : Around} {E : Value → Shared → Prop} {s : Shared}
theorem note_fly0 {base : Heap} {env : Env} {outer : List Env} {L e : Addr} {C : Value} {dx T : Option Addr} {Q : Unit → Shared → Prop}
    (hfr : A.frames = some (env :: outer)) (hl : s.heap.FunFrames base (env :: outer)) (hf : env.frame = some L) (x : FlyAt s.heap e C dx T .none)
    (h : ∀ h' T', FlyAt h' e C dx (some T') (rawInt L) → s.heap.objs.size ≤ T' → KeptBut (e :: T.toList) (frs (env :: outer)) s.heap h' → Q () { s with heap := h' }) : wpAny M A (noteFrame (.ref e) env) Q E s := by
  obtain ⟨oe, vs, he, rfl, rfl, hd, hsz, hT⟩ := x
  unfold noteFrame
  simp only [hf]
  cases T with
  | none =>
    refine wpAny_bind (wpAny_field he hd hT ?_)
    rw [if_neg (by decide)]
    exact entry_fly hfr hl hf he hd hsz fun h1 T1 f1 n1 k1 => h h1 T1 f1 n1 k1
  | some T0 =>
    obtain ⟨h1, hne, oT, ts, hT0, hdT, h3⟩ := hT
    have hs3 : 3 < ts.size := (Array.getElem?_eq_some_iff.mp h3).1
    refine wpAny_bind (wpAny_field he hd h1 ?_)
    rw [if_pos (by simp)]
    refine wpAny_bind (wpAny_field hT0 hdT h3 ?_)
    rw [if_neg (by simp [rawInt])]
    refine wpAny_bind (wpAny_setField hT0 hdT hs3 ?_)
    have other : ∀ b, b ≠ T0 → (s.heap.update T0 (Obj.mapFields (·.setIfInBounds 3 Value.none))).get? b = s.heap.get? b := fun b hb => Heap.get?_update_other _ _ (Ne.symm hb)
    have nT : ∀ b o, s.heap.get? b = some o → (∀ vs, o.data ≠ .fields vs) → b ≠ T0 := fun b o hb hnf z => by
      rw [z, hT0] at hb
      cases hb
      exact hnf ts hdT
    have hl2 : (s.heap.update T0 (Obj.mapFields (·.setIfInBounds 3 Value.none))).FunFrames base (env :: outer) := hl.of_keeps fun b o hb hnf => ⟨o, (other b (nT b o hb hnf)).trans hb, rfl⟩
    refine entry_fly (s := { s with heap := s.heap.update T0 (Obj.mapFields (·.setIfInBounds 3 Value.none)) }) hfr hl2 hf ((other e (Ne.symm hne)).trans he) hd hsz fun h1 T1 f1 n1 k1 => ?_
    have n1' : s.heap.objs.size ≤ T1 := by
      have e : (s.heap.update T0 (Obj.mapFields (·.setIfInBounds 3 Value.none))).objs.size = s.heap.objs.size := by first | exact Heap.size_update .. | simp
      have n2 : (s.heap.update T0 (Obj.mapFields (·.setIfInBounds 3 Value.none))).objs.size ≤ T1 := n1
      omega
    refine h h1 T1 f1 n1' ⟨fun b o hb hf' q => ?_, fun b o hb hf' q => ?_, by
      have y1 : (s.heap.update T0 (Obj.mapFields (·.setIfInBounds 3 Value.none))).objs.size ≤ h1.objs.size := k1.2.2
      rw [Heap.size_update] at y1
      exact y1⟩
    · have hb2 : b ≠ e ∧ b ≠ T0 := by simpa using hb
      exact k1.1 b o (by simpa using hb2.1) hf' ((other b hb2.2).trans q)
    · have hb2 : b ≠ e ∧ b ≠ T0 := by simpa using hb
      exact k1.2.1 b o (by simpa using hb2.1) hf' ((other b hb2.2).trans q)
theorem note_again {env : Env} {L e T : Addr} {C : Value} {dx : Option Addr} {Q : Unit → Shared → Prop} (hf : env.frame = some L) (x : FlyAt s.heap e C dx (some T) (rawInt L)) (h : Q () s) : wpAny M A (noteFrame (.ref e) env) Q E s := by
  obtain ⟨oe, vs, he, hc, hdx, hd, hsz, h1, hne, oT, ts, hT, hdT, h3⟩ := x
  unfold noteFrame
  simp only [hf]
  refine wpAny_bind (wpAny_field he hd h1 ?_)
  rw [if_pos (by simp)]
  refine wpAny_bind (wpAny_field hT hdT h3 ?_)
  rw [if_pos (by simp)]
  exact wpAny_pure h
theorem note_twice {base : Heap} {env : Env} {outer : List Env} {L e : Addr} {C : Value} {dx T : Option Addr} {Q : Unit → Shared → Prop} {P : Prop} {E2 : Value → Shared → Prop} (hP : P)
    (hfr : A.frames = some (env :: outer)) (hl : s.heap.FunFrames base (env :: outer)) (hf : env.frame = some L) (x : FlyAt s.heap e C dx T .none)
    (h : ∀ h' T', FlyAt h' e C dx (some T') .none → s.heap.objs.size ≤ T' → KeptBut (e :: T.toList) (frs (env :: outer)) s.heap h' → Q () { s with heap := h' }) :
    wpAny M A (noteFrame (.ref e) env) (fun _ s2 => P ∧ wpAny M A (noteFrame (.ref e) env) (fun _ s3 => wpAny M A (setFlight (.ref e) none) Q E2 s3) E2 s2) E s := by
  refine note_fly0 hfr hl hf x fun h1 T1 f1 n1 k1 => ⟨hP, note_again hf f1 (flight_none (s := { s with heap := h1 }) f1 fun h2 f2 k2 => h h2 T1 f2 n1 ⟨fun b o hb hf' q => ?_, fun b o hb hf' q => ?_, Nat.le_trans k1.2.2 k2.2.2⟩)⟩
  · have hbT : b ≠ T1 := fun z => Nat.lt_irrefl _ (Nat.lt_of_lt_of_le (Heap.lt_size q) (by rw [z]; exact n1))
    exact k2.1 b o (by simpa using hbT) (by simp) (k1.1 b o hb hf' q)
  · have hbT : b ≠ T1 := fun z => Nat.lt_irrefl _ (Nat.lt_of_lt_of_le (Heap.lt_size q) (by rw [z]; exact n1))
    obtain ⟨sl, e2⟩ := k1.2.1 b o hb hf' q
    exact ⟨sl, k2.1 b _ (by simpa using hbT) (by simp) e2⟩
theorem flight_at {e : Addr} {C : Value} {dx : Option Addr} {T L : Addr} {fl : Value} {Q : Unit → Shared → Prop} (x : FlyAt s.heap e C dx (some T) fl)
    (h : ∀ h', FlyAt h' e C dx (some T) (rawInt L) → KeptBut [T] [] s.heap h' → Q () { s with heap := h' }) : wpAny M A (setFlight (.ref e) (some L)) Q E s := by
  obtain ⟨oe, vs, he, hc, hdx, hd, hsz, h1, hne, oT, ts, hT, hdT, h3⟩ := x
  have hs3 : 3 < ts.size := (Array.getElem?_eq_some_iff.mp h3).1
  unfold setFlight
  refine wpAny_bind (wpAny_field he hd h1 ?_)
  rw [if_pos (by simp)]
  refine wpAny_setField hT hdT hs3 (h _ ⟨oe, vs, ?_, hc, hdx, hd, hsz, h1, hne, _, _, Heap.get?_update_self _ hT (Obj.isFreed_of_fields (Obj.data_mapFields hdT _)), Obj.data_mapFields hdT _, by simp [hs3]⟩ ⟨fun b o hb _ q => ?_, fun _ _ _ hb _ => absurd hb (by simp), by rw [Heap.size_update]; exact Nat.le_refl _⟩)
  · rw [Heap.get?_update_other _ _ hne]; exact he
  · rw [Heap.get?_update_other _ _ (fun z => hb (by rw [← z]; exact List.mem_singleton.mpr rfl))]; exact q
theorem pass_on {α : Type} {what : String} {env : Env} {e : Addr} {C : Value} {dx : Option Addr} {T L : Addr} {fl : Value} {Q : α → Shared → Prop} (hf : env.frame = some L) (x : FlyAt s.heap e C dx (some T) fl)
    (h : ∀ h', FlyAt h' e C dx (some T) (rawInt L) → KeptBut [T] [] s.heap h' → E (.ref e) { s with heap := h' }) : wpAny M A (PySem.passOn what (.ref e) env) Q E s := by
  have x' := x
  obtain ⟨oe, vs, he, hc, hdx, hd, hsz, h1, _⟩ := x'
  unfold PySem.passOn
  refine wpAny_bind (wpAny_field he hd h1 ?_)
  rw [if_neg (by simp), hf]
  exact wpAny_bind (flight_at x fun h' f' k' => wpAny_throw (h h' f' k'))
theorem leave_here {env : Env} {e T L : Addr} {C : Value} {dx : Option Addr} {Q : Unit → Shared → Prop} (hf : env.frame = some L) (x : FlyAt s.heap e C dx (some T) (rawInt L))
    (h : ∀ h', FlyAt h' e C dx (some T) .none → KeptBut [T] [] s.heap h' → Q () { s with heap := h' }) : wpAny M A (leaving env (.ref e)) Q E s := by
  unfold leaving
  exact wpAny_bind (note_again hf x (flight_none x h))
end
theorem un_drop_ext {fs : List Addr} {H H' : Hp} {h h' : Heap} {e : Addr} {φ : Heap → Prop} (u : Un fs [] H H' h h') (he : H' e = some (.ext φ)) : Un fs [] H (drop H' e) h h' where
  keep := u.keep
  slot := u.slot
  free := fun b o q n hb => by
    by_cases z : b = e
    · rw [z]; exact drop_same
    · rw [drop_ne z]; exact u.free b o q n hb
  there := u.there
  tups := fun b xs q => by
    have z := u.tups b xs q
    rw [drop_ne (fun y => by rw [y, he] at z; cases z)]; exact z
  frzs := fun b o u' q => by
    have z := u.frzs b o u' q
    rw [drop_ne (fun y => by rw [y, he] at z; cases z)]; exact z
  tbls := fun b ps q => by
    obtain ⟨m, z⟩ := u.tbls b ps q
    exact ⟨m, by rw [drop_ne (fun y => by rw [y, he] at z; cases z)]; exact z⟩
theorem un_but {fs : List Addr} {H H' : Hp} {h h1 h2 : Heap} {T : Addr} (u : Un fs [] H H' h h1) (k : KeptBut [T] [] h1 h2) (hT : h.get? T = none) : Un fs [] H H' h h2 where
  keep := fun b o q n hb hx => k.1 b o (fun z => by rw [List.mem_singleton.mp z, hT] at q; cases q) (by simp) (u.keep b o q n hb hx)
  slot := fun b o q n hb hx => by
    obtain ⟨sl, z⟩ := u.slot b o q n hb hx
    exact ⟨sl, k.1 b _ (fun z => by rw [List.mem_singleton.mp z, hT] at q; cases q) (by simp) z⟩
  free := u.free
  there := fun b o q hx => by
    obtain ⟨o1, z⟩ := u.there b o q hx
    exact ⟨o1, k.1 b _ (fun z => by rw [List.mem_singleton.mp z, hT] at q; cases q) (by simp) z⟩
  tups := u.tups
  frzs := u.frzs
  tbls := u.tbls
def Again (X : Cx) (E : XK) : Prop := ∀ (pins : List (Addr × Obj)) (σ : L2.St) (H : Hp) (s : Shared) (e T dx : Addr) (oe : Obj) (vs : Array Value) (Q : Flow → Shared → Prop), Inv X pins σ H s → H e = some (xoC e oe) → H T = some (xoT T) → T ≠ e → oe.dict = some dx → oe.data = .fields vs → 1 < vs.size → vs[1]? = some (.ref T) →
  X.s_0.heap.get? e = none → X.s_0.heap.get? T = none → E oe.cls (some dx) (drop (drop H e) T) → wpAny (model X.prog X.w) X.A (PySem.passOn "try.finally" (.ref e) X.env) Q X.xe s
section
variable {P : Program} {w : World} {K : PySem.W.Frag} {mg : Str → Option Value} {base : Heap}
theorem again_cx {N : List Str} {qual : Str} {scope : Scope} {f : Addr} {cd : Value} {A : Around} {outer : List Env} {s0 : Shared} {H0 : Hp} {E : XK} : Again (cxOf (CXe P w) P w K mg base N qual scope f cd A outer s0 H0 E) E := by
  intro pins σ H s e T dx oe vs Q I he hT hne hdx hd hsz h1 se sT hE
  have heO : s.heap.get? e = some oe := (I.hok e _ he).1
  obtain ⟨⟨oT, ts, hTO, hdT, h3⟩, _⟩ := I.hok T _ hT
  refine pass_on (fl := .none) (C := oe.cls) (dx := some dx) (T := T) (L := s0.heap.objs.size) rfl ⟨oe, vs, heO, rfl, hdx, hd, hsz, h1, hne, oT, ts, hTO, hdT, h3⟩ fun h2 f2 k2 => ?_
  show wpAny _ _ (leaving _ (.ref e)) _ _ _
  refine leave_here (L := s0.heap.objs.size) rfl f2 fun h4 f4 k4 => ?_
  have bu : Un (frs outer) [] H0 H s0.heap s.heap := I.base
  have hT2 : (drop H e) T = some (xoT T) := by rw [drop_ne hne]; exact hT
  have u2 : Un (frs outer) [] H0 (drop (drop H e) T) s0.heap s.heap := un_drop_ext (un_drop_ext bu he) hT2
  have hok2 : HOk P w (drop (drop H e) T) s.heap := hok_drop (hok_drop I.hok he) hT2
  have nT : ∀ b ∈ [T], (drop (drop H e) T) b = none := fun b hb => by rw [List.mem_singleton.mp hb]; exact drop_same
  have hok3 := hok_kept_but hok2 k2 nT (fun b hb => absurd hb (by simp))
  have hok4 := hok_kept_but hok3 k4 nT (fun b hb => absurd hb (by simp))
  exact ⟨e, dx, oe.cls, some T, drop (drop H e) T, rfl, f4, se, (fun t ht => by cases ht; exact sT), I.os, I.bare, un_but (un_but u2 k2 sT) k4 sT, hok4, by rw [drop_ne (Ne.symm hne)]; exact drop_same, (fun t ht => by cases ht; exact drop_same), hE⟩
end
end My
set_option Elab.async false
set_option linter.all false
set_option maxRecDepth 100000
set_option maxHeartbeats 4000000
namespace My
open PySem PySem.Spec PyProof.Rows L2
def finCx (X : Cx) (pn' : List (Addr × Obj)) (σ0 : L2.St) (E' : XK) : Cx := { X with pn := pn', xe := fun ev s' => ∃ H s, Inv { X with pn := pn' } [] σ0 H s ∧ CXe X.prog X.w X.stack H s E' ev s' }
def calmCx (X : Cx) : Cx := { X with xe := fun _ _ => False }
def PassesAt (CX : CXT) (X : Cx) (σ0 : L2.St) (E : XK) : Prop := ∀ (pins : List (Addr × Obj)) (H : Hp) (s : Shared) (e : Value) (s' : Shared), Inv X pins σ0 H s → CX X.stack H s E e s' → X.xe e s'
theorem pass_fin {X : Cx} {pn' : List (Addr × Obj)} {σ0 : L2.St} {E' : XK} : PassesAt (CXe X.prog X.w) (finCx X pn' σ0 E') σ0 E' := fun pins H s e s' I h =>
  ⟨H, s, ⟨⟨I.ok.mod, I.ok.kind, I.ok.glob, I.ok.blt, I.ok.above, I.ok.inj, I.ok.has, I.ok.cab, I.ok.hd, I.ok.frames, I.ok.stk, I.ok.exf, I.ok.bs, I.ok.bsz, I.ok.noex, I.ok.exfs, I.ok.funs, I.ok.frf⟩, I.os, I.bare, I.base, I.loc, I.cell, I.free, I.freeC, fun p hp => I.pin p (List.mem_append_left _ (show p ∈ pn' from by have z : p ∈ pn' ++ [] := hp; simpa using z)), I.hok, I.len⟩, h⟩
def tFin (tb : L2.St → XK → TS) (tf tf' : TS) (E : XK) : TS := fun D σ H => tb σ (fun C d H' => ∃ dx, d = some dx ∧ ∀ (e T : Addr) (oe : Obj), H' e = none → H' T = none → T ≠ e → oe.cls = C → oe.dict = some dx → (∃ vs, oe.data = .fields vs) →
    tf' { nx := fun _ H3 => H3 e = some (xoC e oe) ∧ H3 T = some (xoT T) ∧ E C (some dx) (drop (drop H3 e) T), rt := fun _ _ => False } σ (upd (upd H' e (xoC e oe)) T (xoT T)))
  { nx := fun σ1 H1 => tf { nx := D.nx, rt := fun _ _ => False } σ1 H1, rt := fun _ _ => False } σ H
section
variable {X : Cx} {E : XK}
theorem ps_fin {body rest : List Stmt} {b0 : Stmt} {pos : Pos} {tb : L2.St → XK → TS} {tf tf' : TS} (hex : X.ex = []) (hstk : X.stack = X.env :: X.outer) (hfrm : X.env.frame = some X.env.locals)
    (hb : ∀ pn' σ0 E', PSs (finCx X pn' σ0 E') body (tb σ0 E')) (hf : PSs (calmCx X) (b0 :: rest) tf) (hf' : ∀ e, PSs (suiteCx X e) (b0 :: rest) tf') (ag : Again X E) :
    PS X (.Try body [] [] (b0 :: rest) pos) (tFin tb tf tf' E) := by
  refine ⟨?_⟩
  intro pins s σ H D I h
  refine wpAny_Try_finally ?_
  have okP : ∀ σ0 E', Cx.Ok (finCx X (X.pn ++ pins) σ0 E') := fun σ0 E' => ⟨I.ok.mod, I.ok.kind, I.ok.glob, I.ok.blt, I.ok.above, I.ok.inj, I.ok.has, I.ok.cab, I.ok.hd, I.ok.frames, I.ok.stk, I.ok.exf, I.ok.bs, I.ok.bsz, I.ok.noex, I.ok.exfs, I.ok.funs, I.ok.frf⟩
  have okC : Cx.Ok (calmCx X) := ⟨I.ok.mod, I.ok.kind, I.ok.glob, I.ok.blt, I.ok.above, I.ok.inj, I.ok.has, I.ok.cab, I.ok.hd, I.ok.frames, I.ok.stk, I.ok.exf, I.ok.bs, I.ok.bsz, I.ok.noex, I.ok.exfs, I.ok.funs, I.ok.frf⟩
  have back : ∀ {σ2 H2 s2}, Inv { X with pn := X.pn ++ pins } [] σ2 H2 s2 → Inv X pins σ2 H2 s2 := fun {σ2 H2 s2} J =>
    ⟨I.ok, J.os, J.bare, J.base, J.loc, J.cell, J.free, J.freeC, fun p hp => J.pin p (List.mem_append_left _ hp), J.hok, J.len⟩
  refine wpAny_mono (hb (X.pn ++ pins) σ _ [] s σ H _ ⟨okP _ _, I.os, I.bare, I.base, I.loc, I.cell, I.free, I.freeC, fun p hp => I.pin p (by simpa [finCx] using hp), I.hok, I.len⟩ h) (fun f s1 q => ?_) (fun ev s1 hx => ?_)
  · cases f with
    | next =>
      obtain ⟨σ', H', J, q⟩ := q
      refine wpAny_execs_nil ?_
      have J2 : Inv (calmCx X) pins σ' H' s1 := ⟨okC, J.os, J.bare, J.base, J.loc, J.cell, J.free, J.freeC, fun p hp => J.pin p (List.mem_append_left _ hp), J.hok, J.len⟩
      refine wpAny_mono (hf pins s1 σ' H' _ J2 q) (fun g s2 q2 => ?_) fun _ _ z => False.elim z
      cases g with
      | next =>
        obtain ⟨σ2, H2, J3, q3⟩ := q2
        exact ⟨σ2, H2, ⟨I.ok, J3.os, J3.bare, J3.base, J3.loc, J3.cell, J3.free, J3.freeC, J3.pin, J3.hok, J3.len⟩, q3⟩
      | ret u =>
        obtain ⟨_, _, _, _, _, z⟩ := q2
        exact False.elim z
      | brk =>
        obtain ⟨_, _, _, z⟩ := q2
        exact False.elim z
      | cont =>
        obtain ⟨_, _, _, z⟩ := q2
        exact False.elim z
    | brk =>
      obtain ⟨_, _, _, z⟩ := q
      exact False.elim z
    | cont =>
      obtain ⟨_, _, _, z⟩ := q
      exact False.elim z
    | ret u =>
      obtain ⟨_, _, _, _, _, z⟩ := q
      exact False.elim z
  · obtain ⟨H1, s0, I1, e, dx0, C, T, H', rfl, fly, se, sT, os, bare, un, hok, he0, hT0, dx, edx, hread⟩ := hx
    cases edx
    have hfun := funs_un un I1.stkFree I1.stack
    have hfun2 : s1.heap.FunFrames X.base (X.env :: X.outer) := by
      have z : s1.heap.FunFrames X.base X.stack := hfun
      rw [hstk] at z; exact z
    have hfr : X.A.frames = some (X.env :: X.outer) := by rw [← hstk]; exact I.ok.frames
    refine note_twice (ref_ne_byPass e) hfr hfun2 hfrm fly fun h2 T' fly2 n2 k2 => ?_
    have fr' : ∀ b ∈ frs X.stack, H' b = none := fun b hb => by
      obtain ⟨_, o, ho, _⟩ := I1.stack.mem hb
      exact un.free b o ho (I1.stkFree b hb) (by simp)
    rw [← hstk] at k2
    obtain ⟨oe, vs, heO, hc, hdx, hd, hsz, hv1, hne, oT, ts, hTO, hdT, h3⟩ := fly2
    have hT' : H' T' = none := hok.fresh n2
    have sT' : s0.heap.get? T' = none := un_none un (Heap.get?_none_of_le n2)
    have hok2 : HOk X.prog X.w H' h2 := hok_kept_but hok k2 (fun b hb => by
      rcases List.mem_cons.mp hb with y | y
      · rw [y]; exact he0
      · cases T with
        | none => simp at y
        | some t =>
          have : b = t := by simpa using y
          rw [this]; exact hT0 t rfl) fr'
    have hok3 : HOk X.prog X.w (upd (upd H' e (xoC e oe)) T' (xoT T')) h2 := hok_track (hok_track hok2 he0 ⟨heO, ⟨_, heO⟩, fun _ _ z k => k _ z⟩) (by rw [upd_ne hne]; exact hT')
      ⟨⟨oT, ts, hTO, hdT, h3⟩, ⟨_, hTO⟩, fun _ _ ⟨o, t, z, z2⟩ k => ⟨o, t, k _ z, z2⟩⟩
    have old2 : ∀ b o, s0.heap.get? b = some o → b ∉ e :: T.toList := fun b o z hm => by
      rcases List.mem_cons.mp hm with y | y
      · rw [y, se] at z; cases z
      · cases T with
        | none => simp at y
        | some t =>
          have y' : b = t := by simpa using y
          rw [y', sT t rfl] at z; cases z
    have ne2 : ∀ b o, s0.heap.get? b = some o → b ≠ e ∧ b ≠ T' := fun b o z => ⟨(fun y => by rw [y, se] at z; cases z), (fun y => by rw [y, sT'] at z; cases z)⟩
    have up : ∀ b o, H' b = some o → (upd (upd H' e (xoC e oe)) T' (xoT T')) b = some o := fun b o z => by
      rw [upd_ne (ne_of_none z hT'), upd_ne (ne_of_none z he0)]; exact z
    have un3 : Un (frs X.stack) [] H1 (upd (upd H' e (xoC e oe)) T' (xoT T')) s0.heap h2 := by
      refine ⟨fun b o z n hb _ => ?_, fun b o z n hb _ => ?_, fun b o z n _ => ?_, fun b o z _ => ?_, fun b xs z => up _ _ (un.tups b xs z), fun b o u z => up _ _ (un.frzs b o u z), fun b ps z => ?_⟩
      · exact k2.1 b o (old2 b o z) hb (un.keep b o z n hb (by simp))
      · obtain ⟨sl, z2⟩ := un.any z n (by simp)
        obtain ⟨sl3, z3⟩ := k2.get (old2 b o z) z2
        exact ⟨sl3, z3⟩
      · rw [upd_ne (ne2 b o z).2, upd_ne (ne2 b o z).1]; exact un.free b o z n (by simp)
      · obtain ⟨o2, z2⟩ := un.there b o z (by simp)
        obtain ⟨sl, z3⟩ := k2.get (old2 b o z) z2
        exact ⟨_, z3⟩
      · obtain ⟨m2, e2⟩ := un.tbls b _ z
        exact ⟨m2, up _ _ e2⟩
    have I3 : Inv { X with pn := X.pn ++ pins } [] σ (upd (upd H' e (xoC e oe)) T' (xoT T')) { s1 with heap := h2 } := I1.call' (s' := { s1 with heap := h2 }) (ch := []) os un3 hok3 bare (fun b z => absurd z (by simp))
    have I4 : Inv X pins σ (upd (upd H' e (xoC e oe)) T' (xoT T')) { s1 with heap := h2 } := back I3
    have IS : Inv (suiteCx X e) pins σ (upd (upd H' e (xoC e oe)) T' (xoT T')) { s1 with heap := h2 } := ⟨ok_suite I.ok e, I4.os, I4.bare, I4.base, I4.loc, I4.cell, I4.free, I4.freeC, I4.pin, I4.hok, I4.len⟩
    have bu : Un X.fs [] X.H_0 H1 X.s_0.heap s0.heap := by
      have z := I1.base
      have hex2 : ({ X with pn := X.pn ++ pins } : Cx).ex = [] := hex
      rw [hex2] at z
      exact z
    have se0 : X.s_0.heap.get? e = none := un_none bu se
    have sT0 : X.s_0.heap.get? T' = none := un_none bu sT'
    refine wpAny_mono (hf' e pins _ σ _ _ IS (hread e T' oe he0 hT' hne hc hdx ⟨vs, hd⟩)) (fun f s9 q9 => ?_) fun _ _ z => False.elim z
    cases f with
    | ret u =>
      obtain ⟨_, _, _, _, _, z⟩ := q9
      exact False.elim z
    | brk =>
      obtain ⟨_, _, _, z⟩ := q9
      exact False.elim z
    | cont =>
      obtain ⟨_, _, _, z⟩ := q9
      exact False.elim z
    | next =>
      obtain ⟨σ2, H3, J, z1, z2, z3⟩ := q9
      have I9 : Inv X pins σ2 H3 s9 := ⟨I.ok, J.os, J.bare, J.base, J.loc, J.cell, J.free, J.freeC, J.pin, J.hok, J.len⟩
      exact ag pins σ2 H3 s9 e T' dx0 oe vs _ I9 z1 z2 hne hdx hd hsz hv1 se0 sT0 (by rw [hc]; exact z3)
end
end My
set_option Elab.async false
set_option linter.all false
set_option maxRecDepth 100000
set_option maxHeartbeats 4000000
namespace My
open PySem PySem.Spec PyProof.Rows L2
section
variable {X : Cx} {CX : CXT} {k : Nat} {f : Addr} {fd : FuncData} {ps : List Str} {sp : Sp} {E : XK} {d : Str} {p pos : Pos} {td : TE} {ta : TA} {e : Expr} {es : List Expr} {σ0 : L2.St}
end
end My
set_option Elab.async false
set_option linter.all false
set_option maxRecDepth 100000
set_option maxHeartbeats 4000000
namespace My
open PySem PySem.Spec PyProof.Rows L2
section
variable {prog : Program} {w : World} {A : Around} {E : Value → Shared → Prop} {s : Shared} {K : PySem.W.Frag}
theorem getm_cls {pl : Sem Bool} {C f : Addr} {m : Str} {Q : Value × List Value → Shared → Prop} (X : K.In s.heap) (hr : PySem.W.readsIn K C (.type "type") = true) (ht : PySem.W.typeIn K (.ref C) = some (.type "type")) (hh : PySem.W.handedIn (.ref f) = true)
    (e : PySem.W.findCls K (.ref C) (.type "type") m = some (.val (.ref f))) (h : Q (.ref f, []) { s with toks := s.toks + 1 }) :
    wpAny (model prog w) A (getMethod (.ref C) m pl) Q E s := by
  have L0 : PySem.W.Looks (model prog w) s.heap (typeOf (.ref C)) (.type "type") := PySem.W.looks_typeIn X ht
  have hg : PySem.W.findIn K (.type "type") "__getattribute__" = some (some (.builtin "type.__getattribute__")) := PySem.W.type_tga
  unfold getMethod specialOf
  refine wpAny_bind (wpAny_bind (L0.here ((PySem.W.looks_findIn X hg).here ?_)))
  dsimp only
  rw [if_pos PySem.W.canon_tga]
  refine wpAny_bind (thn (Q := fun v => Q (v, [])) ?_ fun _ _ z => wpAny_pure z)
  exact PySem.W.cls_value X hr e hh h
end
structure ClsFn (K : PySem.W.Frag) (C f : Addr) (m : Str) : Prop where
  reads : PySem.W.readsIn K C (.type "type") = true
  ty : PySem.W.typeIn K (.ref C) = some (.type "type")
  hand : PySem.W.handedIn (.ref f) = true
  find : PySem.W.findCls K (.ref C) (.type "type") m = some (.val (.ref f))
  kp : PySem.W.keepIn K (.ref f) = true
section
variable {X : Cx} {CX : CXT} {k : Nat} {f C : Addr} {fd : FuncData} {ps : List Str} {sp : Sp} {dvs : List V} {ds : List Value} {E : XK} {x m : Str} {p pos apos : Pos} {e o : Expr} {es : List Expr} {ta : TE} {t : TA}
theorem pe_clsCall {pl : Sem Bool} (G : ClsFn X.K C f m) (F : FnOk X.prog X.w X.K X.mg X.base CX k f fd ps sp) (hr : Room k X.A) (hg : Gl X x) (hm : X.mg x = some (.ref C)) (hb : Binds X.K fd ps ds) (hd : Vals dvs ds) (hx : Passes CX X E) (ha : PA X (e :: es) t)
    (hdb : (x == ("__debug__" : Str)) = false := by decide) (he : starEach (e :: es) X.env = (false, eval e X.env) :: starEach es X.env := by rfl) (hpl : (backTo pos (starEach es X.env)).any (·.1) = false := by rfl)
    (ht : eval (.Call (.Attribute (.Name x p) m apos) (e :: es) [] pos) X.env = (do
      let ov ← eval (.Name x p) X.env
      standAt apos.atName
      let (f, first) ← holding [ov] (getMethod ov m pl)
      callWith pos f first (backTo pos (starEach (e :: es) X.env)) (backToKw pos (keywordEach [] X.env))) := by rfl) :
    PE X (.Call (.Attribute (.Name x p) m apos) (e :: es) [] pos) (tCall sp dvs E t) := by
  refine ⟨?_⟩
  intro pins s σ H Q I h
  refine PySem.W.methodCall_KW (pl := pl) (ld_glob I hg hm ?_ hdb) ht
  refine getm_cls I.kIn G.reads G.ty G.hand G.find ?_
  refine PySem.W.callWith_K (h₀ := X.base) I.ok.mod.kin G.kp (thn (ha pos pins _ σ H _ (I.tok _) h) fun us s1 ⟨vs, H1, I1, r, q⟩ => ⟨I1.kIn, ?_⟩) he hpl
  exact run_fn F hr hb hd hx I1 r q
end
end My
set_option Elab.async false
set_option linter.all false
set_option maxRecDepth 100000
set_option maxHeartbeats 4000000
namespace My
open PySem PySem.Spec PyProof.Rows L2
section
variable {X : Cx}
theorem cr_set0 : CallR X (.type "set") (fun xs H Q => xs = [] ∧ ∀ a, H a = none → Q (.ref a) H) := by
  intro pins s σ H xs us Q I r h
  obtain ⟨rfl, q⟩ := h
  cases r
  refine call_set_0 fun led => ?_
  obtain ⟨hp, g, d, tk, os⟩ := s
  exact ⟨.ref hp.objs.size, H, I.un (t' := tk) (Un.kept fun b o e => Heap.get?_push_of_some _ e) (I.hok.kept fun b o e => Heap.get?_push_of_some _ e), rfl, q _ (I.hok.fresh (Nat.le_refl _))⟩
end
section
variable {prog : Program} {w : World} {A : Around} {R : Result → Shared → Prop} {s : Shared}
theorem dloop_none {kx vx target iter : Expr} {ifs : List Expr} {scope : Scope} {pos : Pos} {it : Value} {D : Addr} {env : Env}
    (h : wpAny (model prog w) A (pyNext it) (fun r s₁ => r = none ∧ R (.ok .next) s₁) (notedBy (model prog w) A env fun e s' => R (.error e) s') s) :
    codeAny (model prog w) A (.compLoop (.DictComp kx vx [⟨target, iter, ifs, 0⟩] scope pos) 0 it (.ref D) env) R s := by
  refine codeAny_loop rfl (fun _ s' => s' = s) (fun n s' hI => ?_) 0 rfl
  subst hI
  show wpAny _ A ((compTurn (.DictComp kx vx [⟨target, iter, ifs, 0⟩] scope pos) 0 it (.ref D) env).onRaise (fun x => do noteFrame x env; theTreesLotGoes x)) _ _ s'
  refine wpAny_noted ?_
  rw [compTurn_dict]
  refine wpAny_bind (wpAny_standAt (wpAny_bind (wpAny_mono h (fun r s₁ h₁ => ?_) fun _ _ h' => h')))
  obtain ⟨rfl, h1⟩ := h₁
  exact wpAny_pure h1
end
def tDc0 (wi : TI) : TE := fun σ H Q => wi σ H fun J H1 => ∀ D, H1 D = none → J.stop 0 (upd H1 D (.dT [])) ∧ Q (.ref D) (upd H1 D (.dT []))
section
variable {X : Cx}
theorem pe_dc0 {kx vx tg iter : Expr} {ifs : List Expr} {scope : Scope} {own : List (Str × Nat)} {pos : Pos} {wi : TI} (hc : X.calm = true) (hN : X.N.Nodup) (hi : PI X tg iter wi) (ok : BlkOk X.N X.env.scope scope own) (hs : ∀ x, foldedSetIterable iter X.env x = pure x := by intro _; rfl) :
    PE X (.DictComp kx vx [⟨tg, iter, ifs, 0⟩] scope pos) (tDc0 wi) := by
  refine ⟨?_⟩
  intro pins s σ H Q I h
  show wpAny _ _ (comprehension (.DictComp kx vx [⟨tg, iter, ifs, 0⟩] scope pos) scope X.env _ newDict false (eval iter X.env)) _ _ _
  have hfree : ∀ y ∈ scope.names, y.2 = .free → ∃ c, X.env.cells.lookup y.1 = some c := fun y hy e => by
    rcases ok.free y hy e with k | k
    · exact I.ok.has _ (.inl k)
    · exact I.ok.has _ (.inr k)
  refine wpAny_comprehension_free (use := none) rfl hs (closure_ok hfree) ok.kind (fun y hy e => by rw [ok.uniq y hy, e])
    (thn (hi pins s σ H _ I h) fun xv s1 hx => thn hx fun itv s2 h2 => ?_)
  obtain ⟨it, fp, tn, J, H2, e, I2, T, st2, f2, q⟩ := h2
  subst e
  refine wpAny_newObj_type (newEnv_comp ?_) (by first | trivial | decide | (unfold sizeOk; decide) | (simp [sizeOk]))
  generalize hD : s2.heap.objs.size = D
  have hDn : H2 D = none := I2.hok.fresh (Nat.le_of_eq hD)
  obtain ⟨stop, qq⟩ := q D hDn
  generalize hs3 : ({ s2 with heap := s2.heap.push { cls := .type "dict", data := .dict #[] } } : Shared) = s3
  have I3 : Inv X pins σ (upd H2 D (.dT [])) s3 := by
    rw [← hs3, ← hD]
    exact I2.laid (t' := s2.toks) (fun b o e => Heap.get?_push_of_some _ e) (Nat.le_refl _) (dt_empty s2.heap I2.big)
  have h3 : s3.heap = s2.heap.push { cls := .type "dict", data := .dict #[] } := by rw [← hs3]
  have sz : ∀ b ∈ fp, b < s2.heap.objs.size := fun b hb => by
    obtain ⟨o, e, _⟩ := T.obj _ _ st2 b hb
    exact Heap.lt_size e
  have f3 : ∀ b ∈ fp, FpOk X pins (upd H2 D (.dT [])) b ∧ b < s3.heap.objs.size := fun b hb => by
    have hlt := sz b hb
    refine ⟨⟨?_, (f2 b hb).2⟩, by rw [h3, Heap.size_push]; exact Nat.lt_succ_of_lt hlt⟩
    rw [upd_ne (by rw [← hD]; exact Nat.ne_of_lt hlt)]
    exact (f2 b hb).1
  have st3 : tn 0 s3.heap := T.keep _ _ _ st2 fun b _ o e => by rw [h3]; exact Heap.get?_push_of_some _ e
  have I4 := block_start I3 ok hN f3
  show codeAny _ _ (.compStart (.DictComp kx vx [⟨tg, iter, ifs, 0⟩] scope pos) 0 (.ref it) (.ref D) (compEnvC scope (cellsFrom (s3.heap.objs.size + 1) scope.names (cloFrom X.env.cells scope.names [])) s3.heap.objs.size X.env)) (compPost (model X.prog X.w) X.A X.xe none _ (.ref D) s3.heap.objs.size) { s3 with heap := pushCells (s3.heap.push { cls := .type "dict", data := .dict #[] }) scope.names }
  have nfp : ∀ b ∈ fp, (upd H2 D (.dT [])) b = none := fun b hb => (f3 b hb).1.1
  generalize hce : compEnvC scope (cellsFrom (s3.heap.objs.size + 1) scope.names (cloFrom X.env.cells scope.names [])) s3.heap.objs.size X.env = ce at I4 ⊢
  have cL : ce.locals = s3.heap.objs.size := by subst hce; rfl
  generalize hH3 : upd H2 D (.dT []) = H3 at I3 I4 nfp f3 stop qq
  generalize hs4 : ({ s3 with heap := pushCells (s3.heap.push { cls := .type "dict", data := .dict #[] }) scope.names } : Shared) = s4 at I4 ⊢
  have st4 : tn 0 s4.heap := T.keep _ _ _ st3 fun b _ o e => by rw [← hs4]; exact pushCells_keeps _ _ _ _ (Heap.get?_push_of_some _ e)
  have stat : ∀ {σ' : L2.St} {H' : Hp} {s' : Shared}, Inv (X.blk s3 H3 scope ce fp) [] σ' H' s' → (∀ b ∈ fp, H' b = none) → ∀ b ∈ fp, FpOk (X.blk s3 H3 scope ce fp) [] H' b := fun {σ' H' s'} I' hn b hb =>
    ⟨hn b hb, (I'.ok.exf b hb).1, I'.ok.exfs b hb, .inl hb, fun x c e => (I'.ok.exf b hb).2 x c e, fun p hp => absurd (show p ∈ ([] : List (Addr × Obj)) ++ [] from hp) (by simp)⟩
  have loop : codeAny (model X.prog X.w) X.A (.compLoop (.DictComp kx vx [⟨tg, iter, ifs, 0⟩] scope pos) 0 (.ref it) (.ref D) ce) (compPost (model X.prog X.w) X.A X.xe none (EP X pins σ Q) (.ref D) s3.heap.objs.size) s4 := by
    refine dloop_none ?_
    have td := T.done (X.blk s3 H3 scope ce fp) rfl rfl rfl hc 0 [] s4 _ H3 (fun _ _ => False) I4 (stat I4 nfp) st4 stop
    refine thnF td fun r s6 ⟨hr, I6⟩ => ?_
    refine ⟨hr, ?_⟩
    have I7 : Inv X pins σ H3 s6 := I3.call' (ch := fp) I6.os I6.base I6.hok I6.bare fun b hb => ⟨(f3 b hb).1.2.2.2.1, (f3 b hb).1.2.1, (f3 b hb).1.2.2.2.2.1, (f3 b hb).1.2.2.2.2.2⟩
    have nC : H3 s3.heap.objs.size = none := by
      have z : H3 ce.locals = none := I6.free
      rw [cL] at z
      exact z
    obtain ⟨m, hn, _⟩ := I6.loc
    have hn : s6.heap.Ns ce.locals m := hn
    rw [cL] at hn
    refine ⟨m, hn, fun h'' sb => ?_⟩
    obtain ⟨g0, g1, g2, g3, g4, g5⟩ := I3.fpOk (Nat.le_refl _) nC
    exact ⟨.ref D, H3, I7.turned (t' := s6.toks) (fun b o hb e => (sb.2 b hb).trans e) g0 g1 g3 g4 g5, rfl, qq⟩
  exact codeAny_compStart_dict loop (T.self X.A 0 _ _ _ st4 loop)
end
end My
set_option Elab.async false
set_option linter.all false
set_option maxRecDepth 100000
set_option maxHeartbeats 4000000
namespace My
open PySem PySem.Spec PyProof.Rows L2
section
variable {X : Cx}
end
end My
set_option Elab.async false
set_option linter.all false
set_option maxRecDepth 100000
set_option maxHeartbeats 4000000
namespace My
open PySem PySem.Spec PyProof.Rows L2
section
variable {X : Cx}
theorem cr_isiTsK : CallR X (.builtin "isinstance") (fun xs H Q => ∃ (a p : Addr) (b : Bool) (o : Obj) (ns : List String), xs = [.ref a, .ref p] ∧ X.K.lookup a = some o ∧ o.cls = .type "tuple" ∧ H p = some (.tup (ns.map V.ty)) ∧ PySem.W.kitAny X.K (.type "tuple") (ns.map Value.type) = some b ∧ Q (.bl b) H) := by
  intro pins s σ H xs us Q I r h
  obtain ⟨a, p, b, o, ns, rfl, hk, hc, hp, e, q⟩ := h
  cases r with
  | cons r1 r2 =>
    obtain ⟨u2, e2, r3⟩ := vals1 r2
    subst e2
    have r2' : u2 = Value.ref p := r3
    subst r2'
    obtain rfl : _ = Value.ref a := r1
    obtain ⟨_, its, rv, o2, h1, h2, n, h3⟩ := (show ObjOk X.prog X.w H s.heap p (.tup (ns.map V.ty)) from I.hok p _ hp)
    obtain ⟨oc, od, odt, osl⟩ := o2
    cases h2
    cases h3
    cases tys_of rv
    exact PySem.W.kia_tup PySem.W.kitx_tuple I.kIn ⟨o, I.kIn a o hk, hc⟩ h1 e (fun z => nomatch z) fun tk => ⟨.bl b, H, I.tok tk, rfl, q⟩
end
theorem FunD.bindsLoad2 {K : PySem.W.Frag} {x qual : Str} {st : Stmt} {dV kV : Value} {d : Addr} {o : Obj} {f : Addr} {fd : FuncData} {ps : List Str} {ds : List Value} (F : FunD K x qual st dV kV f fd) (hT : K.lookup d = some o)
    (h : ∀ (doc pm : Value) (an : Option Addr) (cdv ct : Value) (us : List Value), (us ++ ds).length = ps.length → ∃ p1 k1 p2 k2, bindArgs (PySem.W.fnOf x qual (defArgs st) (defBody st) (defScope st) dV kV doc pm an cdv ct) ⟨us, []⟩ = Sem.load d p1 k1 ∧ k1 o = Sem.load d p2 k2 ∧ k2 o = pure (ps.zip (us ++ ds))) : Binds K fd ps ds := by
  obtain ⟨oc, od, doc, pm, an, cdv, ct, osl, rfl, lk, hcd⟩ := F.ex
  intro s us X hl
  obtain ⟨p1, k1, p2, k2, h1, h2, h3⟩ := h doc pm an cdv ct us hl
  intro M A E Q hq
  rw [h1]
  show wpAny M A (loadPart d p1 >>= k1) Q E s
  refine wpAny_bind (wpAny_loadPart (X _ _ hT) ?_)
  rw [h2]
  show wpAny M A (loadPart d p2 >>= k2) Q E s
  refine wpAny_bind (wpAny_loadPart (X _ _ hT) ?_)
  rw [h3]
  exact wpAny_pure hq
theorem FunD.kbindsLoad {K : PySem.W.Frag} {x qual : Str} {st : Stmt} {dV kV : Value} {d : Addr} {o : Obj} {f : Addr} {fd : FuncData} {ps ks : List Str} {g : List Value → List Value → List Value} {gV : List V → List V → List V} (F : FunD K x qual st dV kV f fd) (hT : K.lookup d = some o)
    (h : ∀ (doc pm : Value) (an : Option Addr) (cdv ct : Value) (us ws : List Value), (g us ws).length = ps.length → ∃ part k, bindArgs (PySem.W.fnOf x qual (defArgs st) (defBody st) (defScope st) dV kV doc pm an cdv ct) ⟨us, ks.zip ws⟩ = Sem.load d part k ∧ k o = pure (ps.zip (g us ws)))
    (rel : ∀ {vs : List V} {us : List Value} {zs : List V} {ws : List Value}, Vals vs us → Vals zs ws → Vals (gV vs zs) (g us ws)) : KBinds K fd ps ks g gV := by
  obtain ⟨oc, od, doc, pm, an, cdv, ct, osl, rfl, lk, hcd⟩ := F.ex
  refine ⟨fun s us ws X hl => ?_, rel⟩
  obtain ⟨part, k, h1, h2⟩ := h doc pm an cdv ct us ws hl
  intro M A E Q hq
  rw [h1]
  show wpAny M A (loadPart d part >>= k) Q E s
  refine wpAny_bind (wpAny_loadPart (X _ _ hT) ?_)
  rw [h2]
  exact wpAny_pure hq
def kbT (d : Addr) : List Value → List Value → List Value
  | [a, b], [c] => [a, b, c, .ref d]
  | _, _ => []
def kbTV (d : Addr) : List V → List V → List V
  | [a, b], [c] => [a, b, c, .ref d]
  | _, _ => []
theorem kbT_rel (d : Addr) {vs : List V} {us : List Value} {zs : List V} {ws : List Value} (r1 : Vals vs us) (r2 : Vals zs ws) : Vals (kbTV d vs zs) (kbT d us ws) := by
  cases r1 with
  | nil => exact .nil
  | cons a r1 =>
    cases r1 with
    | nil => exact .nil
    | cons a2 r1 =>
      cases r1 with
      | cons _ _ => exact .nil
      | nil =>
        cases r2 with
        | nil => exact .nil
        | cons b r2 =>
          cases r2 with
          | cons _ _ => exact .nil
          | nil => exact .cons a (.cons a2 (.cons b (.cons rfl .nil)))
end My
set_option Elab.async false
set_option linter.all false
set_option maxRecDepth 100000
set_option maxHeartbeats 4000000
namespace My
open PySem PySem.Spec PyProof.Rows L2
section
variable {X : Cx}
end
theorem SqL.sm {K : PySem.W.Frag} {H H' : Hp} {a : Addr} {xs : List V} (h : SqL K H a xs) (s : Same H H') : SqL K H' a xs := s.seq h
mutual
theorem Dp.same {K : PySem.W.Frag} {H H' : Hp} (s : Same H H') (sT : ∀ {a : Addr} {xs : List V}, SqT K H a xs → SqT K H' a xs) : ∀ {v : V} {d : PyData}, Dp K H v d → Dp K H' v d
  | _, _, .non => .non
  | _, _, .bl b => .bl b
  | _, _, .int i => .int i
  | _, _, .str x => .str x
  | _, _, .lst h r => .lst (s.seq h) (DpAll.same s sT r)
  | _, _, .tup h r => .tup (sT h) (DpAll.same s sT r)
theorem DpAll.same {K : PySem.W.Frag} {H H' : Hp} (s : Same H H') (sT : ∀ {a : Addr} {xs : List V}, SqT K H a xs → SqT K H' a xs) : ∀ {vs : List V} {ds : List PyData}, DpAll K H vs ds → DpAll K H' vs ds
  | _, _, .nil => .nil
  | _, _, .cons h r => .cons (Dp.same s sT h) (DpAll.same s sT r)
end
end My
set_option Elab.async false
set_option linter.all false
set_option maxRecDepth 100000
set_option maxHeartbeats 4000000
namespace My
open PySem
def Up (l : List Nat) : Prop := l.Pairwise (· < ·)
theorem bl_go (xs : Array Nat) (j : Nat) : ∀ (fuel lo hi : Nat), lo ≤ hi → hi ≤ xs.size → hi - lo ≤ fuel → (∀ i, i < lo → ∀ x, xs[i]? = some x → x < j) → (∀ i, hi ≤ i → ∀ x, xs[i]? = some x → j ≤ x) → Up xs.toList →
    lo ≤ SetTable.below.go xs j fuel lo hi ∧ SetTable.below.go xs j fuel lo hi ≤ hi ∧ (∀ i, i < SetTable.below.go xs j fuel lo hi → ∀ x, xs[i]? = some x → x < j) ∧ ∀ i, SetTable.below.go xs j fuel lo hi ≤ i → ∀ x, xs[i]? = some x → j ≤ x := by
  intro fuel
  induction fuel with
  | zero =>
    intro lo hi h1 h2 h3 h4 h5 _
    have e : lo = hi := by omega
    subst e
    rw [SetTable.below.go]
    exact ⟨Nat.le_refl _, Nat.le_refl _, h4, h5⟩
  | succ fuel ih =>
    intro lo hi h1 h2 h3 h4 h5 hu
    rw [SetTable.below.go]
    by_cases hlt : lo < hi
    · rw [if_pos hlt]
      have hm : (lo + hi) / 2 < xs.size := by omega
      have hm1 : lo ≤ (lo + hi) / 2 := by omega
      have hm2 : (lo + hi) / 2 < hi := by omega
      have eg : xs.getD ((lo + hi) / 2) j = xs[(lo + hi) / 2] := by rw [Array.getD_eq_getD_getElem?, Array.getElem?_eq_getElem hm]; rfl
      have mono : ∀ (i k x y : Nat), i ≤ k → xs[i]? = some x → xs[k]? = some y → x ≤ y := fun i k x y hik hx hy => by
        by_cases e : i = k
        · subst e; rw [hx] at hy; cases hy; exact Nat.le_refl _
        · have hx' : xs.toList[i]? = some x := by rw [Array.getElem?_toList]; exact hx
          have hy' : xs.toList[k]? = some y := by rw [Array.getElem?_toList]; exact hy
          obtain ⟨a1, a2⟩ := List.getElem?_eq_some_iff.mp hx'
          obtain ⟨b1, b2⟩ := List.getElem?_eq_some_iff.mp hy'
          have := List.pairwise_iff_getElem.mp hu i k a1 b1 (by omega)
          rw [a2, b2] at this; exact Nat.le_of_lt this
      dsimp only
      rw [eg]
      by_cases hc : xs[(lo + hi) / 2] < j
      · rw [if_pos hc]
        obtain ⟨r1, r2, r3, r4⟩ := ih ((lo + hi) / 2 + 1) hi (by omega) h2 (by omega) (fun i hi' x hx => Nat.lt_of_le_of_lt (mono i ((lo + hi) / 2) x _ (by omega) hx (Array.getElem?_eq_getElem hm)) hc) h5 hu
        exact ⟨by omega, r2, r3, r4⟩
      · rw [if_neg hc]
        obtain ⟨r1, r2, r3, r4⟩ := ih lo ((lo + hi) / 2) hm1 (by omega) (by omega) h4 (fun i hi' x hx => Nat.le_trans (Nat.not_lt.mp hc) (mono ((lo + hi) / 2) i _ x hi' (Array.getElem?_eq_getElem hm) hx)) hu
        exact ⟨r1, by omega, r3, r4⟩
    · rw [if_neg hlt]
      have e : lo = hi := by omega
      subst e
      exact ⟨Nat.le_refl _, Nat.le_refl _, h4, h5⟩
theorem bl_is {xs : Array Nat} {j : Nat} (hu : Up xs.toList) : SetTable.below xs j ≤ xs.size ∧ (∀ i, i < SetTable.below xs j → ∀ x, xs[i]? = some x → x < j) ∧ ∀ i, SetTable.below xs j ≤ i → ∀ x, xs[i]? = some x → j ≤ x := by
  have := bl_go xs j xs.size 0 xs.size (Nat.zero_le _) (Nat.le_refl _) (by omega) (fun i h => absurd h (Nat.not_lt_zero _)) (fun i hi x hx => by
    rw [Array.getElem?_eq_none hi] at hx; cases hx) hu
  exact ⟨this.2.1, this.2.2.1, this.2.2.2⟩
theorem up_insert {xs : Array Nat} {j : Nat} (hu : Up xs.toList) (hn : xs[SetTable.below xs j]? ≠ some j) : Up (SetTable.insertAt xs (SetTable.below xs j) j).toList := by
  obtain ⟨h1, h2, h3⟩ := bl_is (j := j) hu
  rw [SetTable.toList_insertAt]
  have el : xs.toList = xs.toList.take (SetTable.below xs j) ++ xs.toList.drop (SetTable.below xs j) := (List.take_append_drop _ _).symm
  have hp := hu
  unfold Up at hp ⊢
  rw [el, List.pairwise_append] at hp
  obtain ⟨p1, p2, p3⟩ := hp
  rw [List.pairwise_append, List.pairwise_cons]
  have lo : ∀ x ∈ xs.toList.take (SetTable.below xs j), x < j := fun x hx => by
    obtain ⟨i, hi, e⟩ := List.getElem_of_mem hx
    rw [List.length_take] at hi
    rw [List.getElem_take] at e
    refine h2 i (by omega) x ?_
    rw [← Array.getElem?_toList, List.getElem?_eq_getElem (by omega), e]
  have up : ∀ x ∈ xs.toList.drop (SetTable.below xs j), j < x := fun x hx => by
    obtain ⟨i, hi, e⟩ := List.getElem_of_mem hx
    rw [List.length_drop] at hi
    rw [List.getElem_drop] at e
    have hget : xs[SetTable.below xs j + i]? = some x := by rw [← Array.getElem?_toList, List.getElem?_eq_getElem (by omega), e]
    have h4 := h3 _ (Nat.le_add_right _ i) x hget
    refine Nat.lt_of_le_of_ne h4 fun z => hn ?_
    subst z
    have hb : SetTable.below xs j < xs.size := by have := (Array.getElem?_eq_some_iff.mp hget).1; omega
    have h5 := h3 _ (Nat.le_refl _) _ (Array.getElem?_eq_getElem hb)
    have h6 : xs[SetTable.below xs j] ≤ j := by
      by_cases hz : i = 0
      · subst hz
        rw [Nat.add_zero] at hget
        rw [Array.getElem?_eq_getElem hb] at hget
        exact Nat.le_of_eq (Option.some.inj hget)
      · obtain ⟨b1, b2⟩ := Array.getElem?_eq_some_iff.mp hget
        have := List.pairwise_iff_getElem.mp hu (SetTable.below xs j) (SetTable.below xs j + i) (by simpa using hb) (by simpa using b1) (by omega)
        simp only [Array.getElem_toList] at this
        rw [b2] at this
        exact Nat.le_of_lt this
    rw [Array.getElem?_eq_getElem hb]
    congr 1
    omega
  exact ⟨p1, ⟨up, p2⟩, fun a ha b hb => by
    rcases List.mem_cons.mp hb with e | e
    · rw [e]; exact lo a ha
    · exact p3 a ha b e⟩
structure Tb (b : Bool) (t : SetTable) : Prop where
  up : Up t.place.toList
  du : t.dummies = #[]
  le : t.led = b
theorem no_has (j : Nat) : SetTable.has #[] j = false := by
  unfold SetTable.has
  rfl
theorem slot_empty {b : Bool} {t : SetTable} (h : Tb b t) {j : Nat} (e : t.slot j = .empty) : t.place[SetTable.below t.place j]? ≠ some j := fun z => by
  unfold SetTable.slot at e
  dsimp only at e
  rw [z] at e
  simp at e
theorem Tb.put {b : Bool} {t : SetTable} (h : Tb b t) {j : Nat} (e : t.slot j = .empty) : Tb b (t.put j).1 := by
  refine ⟨up_insert h.up (slot_empty h e), ?_, h.le⟩
  show (if SetTable.has t.dummies j = true then _ else t.dummies) = #[]
  rw [h.du, no_has]
  rfl
theorem up_live {f : Nat → Option (Nat × Nat)} (hf : ∀ j p, f j = some p → p.1 = j) : ∀ {l : List Nat}, Up l → Up ((l.filterMap f).map (·.1)) := by
  intro l
  induction l with
  | nil => intro _; exact List.Pairwise.nil
  | cons a r ih =>
    intro h
    unfold Up at h
    rw [List.pairwise_cons] at h
    cases e : f a with
    | none => rw [List.filterMap_cons_none e]; exact ih h.2
    | some p =>
      rw [List.filterMap_cons_some e, List.map_cons]
      refine List.pairwise_cons.mpr ⟨fun x hx => ?_, ih h.2⟩
      obtain ⟨q, hq, rfl⟩ := List.mem_map.mp hx
      obtain ⟨y, hy, ey⟩ := List.mem_filterMap.mp hq
      rw [hf a p e, hf y q ey]
      exact h.1 y hy
theorem Tb.plain {b : Bool} {t : SetTable} (h : Tb b t) : Tb b { t with plain := false } := ⟨h.up, h.du, h.le⟩
theorem Tb.fresh (b : Bool) : Tb b (.fresh 0 0 b) := ⟨List.Pairwise.nil, rfl, rfl⟩
end My
set_option Elab.async false
set_option linter.all false
set_option maxRecDepth 100000
set_option maxHeartbeats 4000000
namespace My
open PySem PySem.Spec PyProof.Rows
def intOf : Value → Int
  | .int i _ => i
  | _ => 0
structure SIn (P : Program) (w : World) (b : Bool) (ks : List Int) (es : Array (Int × Value)) (t : SetTable) : Prop where
  el : ElemsOf (PySem.intKind P w) es.toList
  kk : es.toList.map (fun e => intOf e.2) = ks
  nd : ks.Nodup
  sz : es.size < scanBound
  ft : t.fits es.size = true
  tb : Tb b t
def SI (P : Program) (w : World) (h : Heap) (a : Addr) (b : Bool) (ks : List Int) : Prop := ∃ o es ep t, h.get? a = some o ∧ o.ExactSet ∧ o.data = .set es ep t ∧ SIn P w b ks es t
section
variable {P : Program} {w : World} {A : Around} {E : Value → Shared → Prop} {s : Shared}
end
end My
set_option Elab.async false
set_option linter.all false
set_option maxRecDepth 100000
set_option maxHeartbeats 4000000
namespace My
open PySem PySem.Spec PyProof.Rows
def byT (w : World) : Bool := w.params.followText "set-order"
abbrev freshSet (w : World) : Obj := { cls := .type "set", dict := none, data := .set #[] 0 (.fresh 0 0 (!byT w)) }
section
variable {P : Program} {w : World} {A : Around} {R : Result → Shared → Prop} {I : Addr} {fp wr : List Addr} {G : Array GenState → Array GenState → Prop} {n : Nat} {Pv : Nat → Value → Prop} {St : Nat → Shared → Prop} {b : Bool}
theorem SI.keep {h h' : Heap} {a : Addr} {ks : List Int} (x : SI P w h a b ks) (k : ∀ o, h.get? a = some o → h'.get? a = some o) : SI P w h' a b ks := let ⟨o, es, ep, t, ho, r⟩ := x; ⟨o, es, ep, t, k _ ho, r⟩
end
section
variable {P : Program} {w : World} {A : Around} {E : Value → Shared → Prop} {s : Shared}
theorem sn_code (a : Value) {Q₁ : Value → Shared → Prop} (h : Q₁ (.ref s.heap.objs.size) { s with heap := s.heap.push (freshSet w) }) :
    codeAny (model P w) A (.call (.builtin "set.__new__") ⟨[.type "set", a], []⟩) (wants Q₁ E) s := by
  refine codeAny_of_tree ?_
  show wpAny _ A.in1 (do checkBuiltinCall "set.__new__" ⟨[.type "set", a], []⟩; again (.builtin "set.__new__" ⟨[.type "set", a], []⟩)) _ _ s
  refine wpAny_bind (wpAny_of_eq (F.newCall_set_1 a) (wpAny_pure ⟨plainId_quiet F.plain_set_new _, codeAny_builtin F.entry_set_new ?_⟩))
  rw [Around.under_plainId F.plain_set_new _]
  unfold Builtin.«set.__new__» Builtin.Frozenset.newClass
  have hself := sub_set_self
  obtain ⟨hp, gn, dr, tk, os⟩ := s
  dsimp only
  wp_walk
  refine wpAny_askSetting (wpAny_pure ?_)
  dsimp only [newObj]
  exact wpAny_bind (wpAny_alloc (wpAny_pure (wpAny_pure h)))
end
end My
set_option Elab.async false
set_option linter.all false
set_option maxRecDepth 100000
set_option maxHeartbeats 4000000
namespace My
open PySem PySem.Spec PyProof.Rows
def SetIt (h : Heap) (I : Addr) (f : Value) (i : Nat) (S : Addr) (n ep : Nat) : Prop := ∃ o, h.get? I = some o ∧ o.cls = .type "set_iterator" ∧ o.data = .fields #[f, rawInt (i : Nat), .ref S, rawInt (n : Nat), rawInt (ep : Nat)]
theorem SetIt.typeIs {s : Shared} {I S : Addr} {f : Value} {i n ep : Nat} (x : SetIt s.heap I f i S n ep) : s.TypeIs (.ref I) "set_iterator" := let ⟨o, h1, h2, _⟩ := x; ⟨o, h1, h2⟩
section
variable {P : Program} {w : World} {A : Around} {E : Value → Shared → Prop} {s : Shared}
structure SetO (h : Heap) (S : Addr) (es : Array (Int × Value)) (ep : Nat) (t : SetTable) : Prop where
  ob : ∃ o, h.get? S = some o ∧ o.ExactSet ∧ o.data = .set es ep t
  ft : t.fits es.size = true
theorem SetO.keep {h h' : Heap} {S : Addr} {es : Array (Int × Value)} {ep : Nat} {t : SetTable} (x : SetO h S es ep t) (k : ∀ o, h.get? S = some o → h'.get? S = some o) : SetO h' S es ep t := ⟨let ⟨o, h1, h2⟩ := x.ob; ⟨o, k _ h1, h2⟩, x.ft⟩
end
end My
set_option Elab.async false
set_option linter.all false
set_option maxRecDepth 100000
set_option maxHeartbeats 4000000
namespace My
open PySem PySem.Spec PyProof.Rows
section
variable {P : Program} {w : World} {A : Around} {E : Value → Shared → Prop} {s : Shared}
end
end My
set_option Elab.async false
set_option linter.all false
set_option maxRecDepth 100000
set_option maxHeartbeats 4000000
namespace My
open PySem PySem.Spec PyProof.Rows
section
variable {P : Program} {w : World} {A : Around} {E : Value → Shared → Prop} {s : Shared}
end
end My
set_option Elab.async false
set_option linter.all false
set_option maxRecDepth 100000
set_option maxHeartbeats 4000000
namespace My
open PySem PySem.Spec PyProof.Rows
section
variable {P : Program} {w : World} {A : Around} {E : Value → Shared → Prop} {s : Shared}
end
end My
set_option Elab.async false
set_option linter.all false
set_option maxRecDepth 100000
set_option maxHeartbeats 4000000
namespace My
open PySem PySem.Spec PyProof.Rows
section
variable {P : Program} {w : World} {A : Around} {E : Value → Shared → Prop} {s : Shared}
theorem SetIt.at {h h' : Heap} {I S : Addr} {f : Value} {i n ep : Nat} (x : SetIt h I f i S n ep) (k : ∀ o, h.get? I = some o → h'.get? I = some o) : SetIt h' I f i S n ep := let ⟨o, h1, h2⟩ := x; ⟨o, k _ h1, h2⟩
end
end My
set_option Elab.async false
set_option linter.all false
set_option maxRecDepth 100000
set_option maxHeartbeats 4000000
namespace My
open PySem PySem.Spec PyProof.Rows
section
variable {P : Program} {w : World} {A : Around} {E : Value → Shared → Prop} {s : Shared}
end
end My
set_option Elab.async false
set_option linter.all false
set_option maxRecDepth 100000
set_option maxHeartbeats 4000000
namespace My
open PySem PySem.Spec PyProof.Rows L2
section
variable {X : Cx}
theorem cr_sortedAny : CallR X (.builtin "sorted") (fun vs H Q => ∃ (a : Addr) (ns : List Int), vs = [V.ref a] ∧ SqL X.K H a (ns.map V.int) ∧
    ∀ (ns' : List Int) (p : Addr), ns'.Perm ns → ns'.Pairwise (· ≤ ·) → H p = none → Q (.ref p) (upd H p (.lst (ns'.map V.int)))) := by
  intro pins s σ H vs us Q I r h
  obtain ⟨a, ns, rfl, hs, q⟩ := h
  obtain ⟨its, rv, hl, hz⟩ := I.list hs
  rw [List.length_map] at hz
  rw [Vals.ref1 r]
  have hi := rv.ints
  refine PyProof.Rows.sorted_intsAny hl.isList hi (by rw [hi.length]; exact hz) fun out ns' h1 h2 h3 => ?_
  obtain ⟨ep, he'⟩ := PyProof.Rows.sortedAll_at s.heap its out
  have hlen : (ns'.map V.int).length ≤ sizeLine := by rw [List.length_map, h2.length_eq]; exact hz
  exact ⟨.ref _, upd H (s.heap.objs.size + 1) (.lst (ns'.map V.int)), I.laid (t' := s.toks) (fun _ _ => PyProof.Rows.sortedAll_old) (Nat.le_succ _) ⟨hlen, out.toList, ep, vals_of_ints h1, he'⟩, rfl, q ns' _ h2 h3 (I.hok.fresh (Nat.le_succ _))⟩
end
end My
set_option Elab.async false
set_option linter.all false
set_option maxRecDepth 100000
set_option maxHeartbeats 4000000
namespace My
open PySem PySem.Spec PyProof.Rows
section
variable {P : Program} {w : World} {A : Around} {E : Value → Shared → Prop} {s : Shared}
end
open L2
section
variable {X : Cx} {tg : Expr}
end
end My
set_option Elab.async false
set_option linter.all false
set_option maxRecDepth 100000
set_option maxHeartbeats 4000000
namespace My
open PySem PySem.Spec PyProof.Rows L2
def hid (H : Hp) (S : List Addr) : Hp := fun b => if b ∈ S then none else H b
def over (H : Hp) (S : List Addr) (H1 : Hp) : Hp := fun b => if b ∈ S then H b else H1 b
theorem hid_in {H : Hp} {S : List Addr} {b : Addr} (h : b ∈ S) : hid H S b = none := by unfold hid; rw [if_pos h]
theorem hid_out {H : Hp} {S : List Addr} {b : Addr} (h : b ∉ S) : hid H S b = H b := by unfold hid; rw [if_neg h]
theorem over_in {H H1 : Hp} {S : List Addr} {b : Addr} (h : b ∈ S) : over H S H1 b = H b := by unfold over; rw [if_pos h]
theorem over_out {H H1 : Hp} {S : List Addr} {b : Addr} (h : b ∉ S) : over H S H1 b = H1 b := by unfold over; rw [if_neg h]
def Exts (H : Hp) (S : List Addr) : Prop := ∀ b ∈ S, ∃ φ, H b = some (.ext φ)
theorem Exts.out {H : Hp} {S : List Addr} (x : Exts H S) {b : Addr} {o : HO} (e : H b = some o) (n : ∀ φ, o ≠ .ext φ) : b ∉ S := fun hb => by
  obtain ⟨φ, z⟩ := x b hb
  rw [e] at z
  exact n φ (Option.some.inj z)
theorem Exts.hid {H : Hp} {S : List Addr} (x : Exts H S) {b : Addr} {o : HO} (e : H b = some o) (n : ∀ φ, o ≠ .ext φ) : My.hid H S b = some o := by rw [hid_out (x.out e n)]; exact e
section
variable {P : Program} {w : World} {K : PySem.W.Frag} {mg : Str → Option Value} {base : Heap} {A : Around} {outer : List Env} {s s' : Shared} {H H1 : Hp} {S : List Addr} {h h' : Heap} {fs : List Addr}
theorem hok_hid (x : HOk P w H h) (X : Exts H S) : HOk P w (hid H S) h := fun b o e => by
  have hb : b ∉ S := fun z => by rw [hid_in z] at e; cases e
  rw [hid_out hb] at e
  exact (x b o e).stay (fun _ _ _ q => q) (fun c q => X.hid q (by intro φ z; cases z)) fun c xs q => X.hid q (by intro φ z; cases z)
theorem env0_hid (e0 : Env0 P w K mg base A outer s H) (X : Exts H S) : Env0 P w K mg base A outer s (hid H S) where
  frames := e0.frames
  mod := e0.mod
  bs := fun b o e => ⟨(e0.bs b o e).1, by
    by_cases hb : b ∈ S
    · exact hid_in hb
    · rw [hid_out hb]; exact (e0.bs b o e).2⟩
  bsz := e0.bsz
  funs := e0.funs
  frf := fun b hb => by
    by_cases hb2 : b ∈ S
    · exact hid_in hb2
    · rw [hid_out hb2]; exact e0.frf b hb
  hok := hok_hid e0.hok X
  bare := e0.bare
theorem in_stays (x : HOk P w H h) (X : Exts H S) (u : Un fs [] (hid H S) H1 h h') (ff : ∀ b ∈ fs, H b = none) {b : Addr} (hb : b ∈ S) : ∃ φ o, H b = some (.ext φ) ∧ h.get? b = some o ∧ h'.get? b = some o ∧ H1 b = none := by
  obtain ⟨φ, e⟩ := X b hb
  obtain ⟨_, ⟨o, ho⟩, _⟩ := (show ObjOk P w H h b (.ext φ) from x b _ e)
  have hf : b ∉ fs := fun z => by rw [ff b z] at e; cases e
  exact ⟨φ, o, e, ho, u.keep b o ho (hid_in hb) hf (by simp), u.free b o ho (hid_in hb) (by simp)⟩
theorem hok_over (x : HOk P w H h) (X : Exts H S) (u : Un fs [] (hid H S) H1 h h') (ff : ∀ b ∈ fs, H b = none) (y : HOk P w H1 h') : HOk P w (over H S H1) h' := fun b o e => by
  by_cases hb : b ∈ S
  · obtain ⟨φ, ob, e1, e2, e3, e4⟩ := in_stays x X u ff hb
    rw [over_in hb, e1] at e
    cases e
    obtain ⟨p, _, st⟩ := (show ObjOk P w H h b (.ext φ) from x b _ e1)
    exact ⟨st _ _ p fun o q => by rw [e2] at q; cases q; exact e3, ⟨ob, e3⟩, st⟩
  · rw [over_out hb] at e
    have keep : ∀ c v, H1 c = some v → over H S H1 c = some v := fun c v q => by
      have hc : c ∉ S := fun z => by
        obtain ⟨_, _, _, _, _, e4⟩ := in_stays x X u ff z
        rw [e4] at q; cases q
      rw [over_out hc]; exact q
    exact (y b o e).stay (fun _ _ _ q => q) (fun c q => keep c _ q) fun c xs q => keep c _ q
theorem un_over (x : HOk P w H h) (X : Exts H S) (u : Un fs [] (hid H S) H1 h h') (ff : ∀ b ∈ fs, H b = none) : Un fs [] H (over H S H1) h h' where
  keep := fun b o e n hf hx => u.keep b o e (by
    by_cases hb : b ∈ S
    · exact hid_in hb
    · rw [hid_out hb]; exact n) hf hx
  slot := fun b o e n hf hx => u.slot b o e (by
    by_cases hb : b ∈ S
    · exact hid_in hb
    · rw [hid_out hb]; exact n) hf hx
  free := fun b o e n hx => by
    have hb : b ∉ S := fun z => by
      obtain ⟨φ, q⟩ := X b z
      rw [n] at q; cases q
    rw [over_out hb]
    exact u.free b o e (by rw [hid_out hb]; exact n) hx
  there := u.there
  tups := fun b xs e => by
    have hb : b ∉ S := X.out e (by intro φ z; cases z)
    rw [over_out hb]
    exact u.tups b xs (by rw [hid_out hb]; exact e)
  frzs := fun b o v e => by
    have hb : b ∉ S := X.out e (by intro φ z; cases z)
    rw [over_out hb]
    exact u.frzs b o v (by rw [hid_out hb]; exact e)
  tbls := fun b ps e => by
    have hb : b ∉ S := X.out e (by intro φ z; cases z)
    obtain ⟨more, q⟩ := u.tbls b ps (by rw [hid_out hb]; exact e)
    exact ⟨more, by rw [over_out hb]; exact q⟩
def overQ (H : Hp) (S : List Addr) (Q : VK) : VK := fun v H1 => Q v (over H S H1)
def overE (H : Hp) (S : List Addr) (E : XK) : XK := fun c d H1 => E c d (over H S H1)
theorem cr_over {Q : VK} {E : XK} {r : Result} (e0 : Env0 P w K mg base A outer s H) (X : Exts H S) (q : CR (CXe P w) outer P w (hid H S) s (overQ H S Q) (overE H S E) r s') : CR (CXe P w) outer P w H s Q E r s' := by
  cases r with
  | ok fl =>
    cases fl with
    | ret u =>
      obtain ⟨v, H1, os, bare, un, hok, rv, q⟩ := q
      exact ⟨v, over H S H1, os, bare, un_over e0.hok X un e0.frf, hok_over e0.hok X un e0.frf hok, rv, q⟩
    | next => exact False.elim q
    | brk => exact False.elim q
    | cont => exact False.elim q
  | error e =>
    obtain ⟨e, dx, C, T, H1, rfl, fly, se, sT, os, bare, un, hok, he, hT, q⟩ := q
    have out : ∀ b, s.heap.get? b = none → b ∉ S := fun b hb z => by
      obtain ⟨_, o, _, e2, _⟩ := in_stays e0.hok X un e0.frf z
      rw [hb] at e2; cases e2
    exact ⟨e, dx, C, T, over H S H1, rfl, fly, se, sT, os, bare, un_over e0.hok X un e0.frf, hok_over e0.hok X un e0.frf hok, by rw [over_out (out e se)]; exact he, fun t ht => by rw [over_out (out t (sT t ht))]; exact hT t ht, q⟩
end
def CellP (c : Addr) (v : V) (h : Heap) : Prop := ∃ u, RelV v u ∧ h.IsCell c (some u)
def FuncP (f : Addr) (fd : FuncData) (h : Heap) : Prop := ∃ o, h.get? f = some o ∧ o.data = .func fd
structure CloT (H : Hp) (f : Addr) (fd : FuncData) (fs : List Str) (fv : List V) (S : List Addr) : Prop where
  ob : H f = some (.ext (FuncP f fd))
  mem : f ∈ S
  sub : Exts H S
  code : ∃ (c : Addr) (oc : Obj) (u : HO) (vs : Array Value) (t : Tok), fd.code = .ref c ∧ H c = some (.frz oc u) ∧ oc.data = .fields vs ∧ vs[1]? = some (.str fd.qualname t)
  vals : ∀ (i : Nat) (x : Str) (v : V), fs[i]? = some x → fv[i]? = some v → ∃ c, fd.closure.lookup x = some c ∧ H c = some (.ext (CellP c v))
  inj : ∀ x y c, fd.closure.lookup x = some c → fd.closure.lookup y = some c → x = y
  cells : ∀ x c, fd.closure.lookup x = some c → c ∈ S ∧ ∃ v, H c = some (.ext (CellP c v))
  len : fv.length = fs.length
theorem CloT.mono {H H' : Hp} {f : Addr} {fd : FuncData} {fs : List Str} {fv : List V} {S : List Addr} (C : CloT H f fd fs fv S) (k : ∀ b φ, b ∈ S → H b = some (.ext φ) → H' b = some (.ext φ)) (kz : ∀ b o u, H b = some (.frz o u) → H' b = some (.frz o u)) : CloT H' f fd fs fv S where
  ob := k _ _ C.mem C.ob
  mem := C.mem
  sub := fun b hb => let ⟨φ, e⟩ := C.sub b hb; ⟨φ, k _ _ hb e⟩
  code := by
    obtain ⟨c, oc, u, vs, t, e1, e2, e3⟩ := C.code
    exact ⟨c, oc, u, vs, t, e1, kz _ _ _ e2, e3⟩
  vals := fun i x v e1 e2 => by
    obtain ⟨c, z, e⟩ := C.vals i x v e1 e2
    exact ⟨c, z, k _ _ (C.cells x c z).1 e⟩
  inj := C.inj
  cells := fun x c e => by
    obtain ⟨z, v, e2⟩ := C.cells x c e
    exact ⟨z, v, k _ _ z e2⟩
  len := C.len
theorem CloT.same {H H' : Hp} {f : Addr} {fd : FuncData} {fs : List Str} {fv : List V} {S : List Addr} (C : CloT H f fd fs fv S) (k : Same H H') : CloT H' f fd fs fv S := C.mono (fun b φ _ e => k _ _ e) fun b o u e => k _ _ e
theorem CloT.at' {P : Program} {w : World} {H : Hp} {h : Heap} {f : Addr} {fd : FuncData} {fs : List Str} {fv : List V} {S : List Addr} (C : CloT H f fd fs fv S) (x : HOk P w H h) : CloAt h (hid H S) f fd fs fv where
  ob := by
    obtain ⟨p, _⟩ := (show ObjOk P w H h f _ from x f _ C.ob)
    exact p
  un := hid_in C.mem
  code := by
    obtain ⟨c, oc, u, vs, t, e1, e2, e3⟩ := C.code
    exact ⟨c, oc, u, vs, t, e1, C.sub.hid e2 (by intro φ z; cases z), e3⟩
  vals := fun i y v e1 e2 => by
    obtain ⟨c, z, e⟩ := C.vals i y v e1 e2
    obtain ⟨⟨u, ru, hu⟩, _⟩ := (show ObjOk P w H h c _ from x c _ e)
    exact ⟨c, u, z, hu, ru, .inl (hid_in (C.cells y c z).1)⟩
  inj := C.inj
  cells := fun y c e => by
    obtain ⟨z, v, e2⟩ := C.cells y c e
    obtain ⟨⟨u, ru, hu⟩, _⟩ := (show ObjOk P w H h c _ from x c _ e2)
    exact ⟨⟨_, hu⟩, .inl (hid_in z)⟩
  len := C.len
def FnH (P : Program) (w : World) (K : PySem.W.Frag) (mg : Str → Option Value) (base : Heap) (k : Nat) (f : Addr) (H : Hp) (n : Nat) (sp : Sp) : Prop :=
  ∀ (A : Around) (outer : List Env) (s : Shared) (us : List Value) (vs : List V) (Q : VK) (E : XK), Room k A → Env0 P w K mg base A outer s H → Vals vs us → vs.length = n → sp vs H Q E →
    codeAny (model P w) A (.call (.ref f) ⟨us, []⟩) (CR (CXe P w) outer P w H s Q E) s
def spOver (H : Hp) (S : List Addr) (sp : Sp) : Sp := fun vs _ Q E => sp vs (hid H S) (overQ H S Q) (overE H S E)
section
variable {P : Program} {w : World} {K : PySem.W.Frag} {mg : Str → Option Value} {base : Heap} {N ps fs : List Str} {scope : Scope} {f : Addr} {H : Hp}
theorem FnH.mono {k k' n : Nat} {sp : Sp} (F : FnH P w K mg base k f H n sp) (h : k ≤ k') : FnH P w K mg base k' f H n sp := fun A outer s us vs Q E hr => F A outer s us vs Q E (hr.mono h)
theorem FnH.imp {k n : Nat} {sp sp' : Sp} (F : FnH P w K mg base k f H n sp) (h : ∀ vs Q E, sp' vs H Q E → sp vs H Q E) : FnH P w K mg base k f H n sp' := fun A outer s us vs Q E hr e0 r hl q => F A outer s us vs Q E hr e0 r hl (h _ _ _ q)
theorem clo_lam {k : Nat} {params : Arguments} {body : Expr} {name qual : Str} {cl : List (Str × Addr)} {pm cdv ct : Value} {fv : List V} {S : List Addr} {sp : Sp} (L : LScope N ps fs scope)
    (hbind : ∀ us : List Value, us.length = ps.length → bindArgs (PySem.W.kla_fn name qual params body scope cl pm cdv ct) ⟨us, []⟩ = pure (ps.zip us))
    (C : CloT H f (PySem.W.kla_fn name qual params body scope cl pm cdv ct) fs fv S)
    (hbody : ∀ (A : Around) (outer : List Env) (s : Shared) (vs : List V) (Q : VK) (E : XK), Room k (A.deeper (PySem.W.envX qual scope s.heap.objs.size f cdv cl)) → sp vs (hid H S) Q E →
      ∃ t, PE (cxL (CXe P w) P w K mg base N qual scope f cdv cl A outer s (hid H S) E) body t ∧ t (start N (vs ++ fv)) (hid H S) Q) :
    FnH P w K mg base (k + 1) f H ps.length (spOver H S sp) := by
  intro A outer s us vs Q E hr e0 r hl hsp
  have C2 := C.at' e0.hok
  have F := lam_at (k := k) (CX := CXe P w) (sp := fun vs H2 Q E => H2 = hid H S ∧ sp vs (hid H S) Q E) L hbind C2 (fun A outer s H2 vs Q E hr ⟨e, h⟩ => by subst e; exact hbody A outer s vs Q E hr h)
  exact codeAny_mono (F A outer s (hid H S) us vs (overQ H S Q) (overE H S E) hr (env0_hid e0 C.sub) (Kept0.refl (env0_hid e0 C.sub).hok) r hl ⟨rfl, hsp⟩) fun r s' q => cr_over e0 C.sub q
end
def IsFn (f : Addr) (h : Heap) : Prop := ∃ o fd, h.get? f = some o ∧ o.data = .func fd
open PySem.W in
theorem keeps_F {M : Model} {f : Addr} (h : Heap) (X : IsFn f h) : ∃ k, (k = Keeper.frame ∨ k = Keeper.machine ∨ k = Keeper.boundFrame) ∧ Looks M h (keeperOf (.ref f)) k := by
  obtain ⟨o, fd, e, d⟩ := X
  refine ⟨.frame, .inl rfl, (Looks.ld (part := none) e).andThen ?_⟩
  rw [d]
  exact .now
open PySem.W in
theorem callWith_F {M : Model} {A : Around} {E : Value → Shared → Prop} {s : Shared} {env : Env} {pos : Pos} {f : Addr} {first : List Value} {Q : Value → Shared → Prop} {e : Expr} {rest : List Expr} (h : wpAny M A (spliced (backTo pos (starEach (e :: rest) env))) (fun vs s₁ => IsFn f s₁.heap ∧ wpAny M A (call (.ref f) (first ++ vs)) Q E s₁) E s)
    (he : starEach (e :: rest) env = (false, eval e env) :: starEach rest env := by rfl) (hplain : (backTo pos (starEach rest env)).any (·.1) = false := by rfl) :
    wpAny M A (callWith pos (.ref f) first (backTo pos (starEach (e :: rest) env)) []) Q E s := by
  rw [he] at h ⊢
  exact callWith_of (by show ((false || (backTo pos (starEach rest env)).any (·.1)) || false) = false; rw [hplain]; rfl) (keeps_F) (Calls.evalArgs_plain h)
section
variable {X : Cx} {k : Nat} {E : XK} {d : Str} {p pos : Pos} {td : TE} {ta : TA} {e : Expr} {es : List Expr}
def FnV (K : PySem.W.Frag) (H : Hp) (f : Addr) : Prop := (∃ fd, H f = some (.ext (FuncP f fd))) ∨ ∃ o fd, K.lookup f = some o ∧ o.data = .func fd
def tCallF (P : Program) (w : World) (K : PySem.W.Frag) (mg : Str → Option Value) (base : Heap) (k : Nat) (E : XK) (td : TE) (ta : TA) : TE := fun σ H Q => td σ H fun v H1 => ∃ f : Addr, v = .ref f ∧ ta σ H1 fun vs H2 => ∃ (n : Nat) (sp : Sp), vs.length = n ∧ FnV K H2 f ∧ FnH P w K mg base k f H2 n sp ∧ sp vs H2 Q E
theorem fn_there {X : Cx} {pins : List (Addr × Obj)} {σ : L2.St} {H : Hp} {s : Shared} {f : Addr} (I : Inv X pins σ H s) (h : FnV X.K H f) : IsFn f s.heap := by
  rcases h with ⟨fd, hf⟩ | ⟨o, fd, e, d⟩
  · obtain ⟨⟨o, e1, e2⟩, _⟩ := (show ObjOk X.prog X.w H s.heap f _ from I.hok f _ hf)
    exact ⟨o, fd, e1, e2⟩
  · exact ⟨o, fd, I.kIn f o e, d⟩
theorem pe_callF (hr : Room k X.A) (hx : Passes (CXe X.prog X.w) X E) (hd : PE X (.Name d p) td) (ha : PA X (e :: es) ta)
    (he : starEach (e :: es) X.env = (false, eval e X.env) :: starEach es X.env := by rfl) (hpl : (backTo pos (starEach es X.env)).any (·.1) = false := by rfl) :
    PE X (.Call (.Name d p) (e :: es) [] pos) (tCallF X.prog X.w X.K X.mg X.base k E td ta) := by
  refine ⟨?_⟩
  intro pins s σ H Q I h
  refine wpAny_Call_Name_kw (thn (hd pins s σ H _ I h) fun u s1 ⟨v, H1, I1, rv, f, ev, q⟩ => ?_)
  subst ev
  obtain rfl : u = Value.ref f := rv
  refine callWith_F (thn (ha pos pins s1 σ H1 _ I1 q) fun us s2 ⟨vs, H2, I2, r, n, sp, hl, hfv, F, hsp⟩ => ⟨?_, ?_⟩) he hpl
  · exact fn_there I2 hfv
  · refine wpAny_call (codeAny_mono (F X.A X.stack s2 us vs Q E hr I2.env0 r hl hsp) fun res s' hq => ?_)
    cases res with
    | error e => exact hx pins σ H2 s2 e s' I2 hq
    | ok fl =>
      cases fl with
      | ret u => exact I2.after hq
      | next => exact False.elim hq
      | brk => exact False.elim hq
      | cont => exact False.elim hq
theorem pe_callFAt {σ0 : L2.St} {P : Program} {w : World} {K : PySem.W.Frag} {mg : Str → Option Value} {base : Heap} (e1 : X.prog = P) (e2 : X.w = w) (e3 : X.K = K) (e4 : X.mg = mg) (e5 : X.base = base) (hr : Room k X.A) (hx : PassesAt (CXe X.prog X.w) X σ0 E) (hd : PE X (.Name d p) td) (ha : PA X (e :: es) ta)
    (he : starEach (e :: es) X.env = (false, eval e X.env) :: starEach es X.env := by rfl) (hpl : (backTo pos (starEach es X.env)).any (·.1) = false := by rfl) :
    PE X (.Call (.Name d p) (e :: es) [] pos) (fun σ H Q => σ = σ0 ∧ tCallF P w K mg base k E td ta σ H Q) := by
  subst e1 e2 e3 e4 e5
  refine ⟨?_⟩
  intro pins s σ H Q I h
  obtain ⟨rfl, h⟩ := h
  refine wpAny_Call_Name_kw (thn (hd pins s σ H _ I h) fun u s1 ⟨v, H1, I1, rv, f, ev, q⟩ => ?_)
  subst ev
  obtain rfl : u = Value.ref f := rv
  refine callWith_F (thn (ha pos pins s1 σ H1 _ I1 q) fun us s2 ⟨vs, H2, I2, r, n, sp, hl, hfv, F, hsp⟩ => ⟨?_, ?_⟩) he hpl
  · exact fn_there I2 hfv
  · refine wpAny_call (codeAny_mono (F X.A X.stack s2 us vs Q E hr I2.env0 r hl hsp) fun res s' hq => ?_)
    cases res with
    | error e => exact hx pins H2 s2 e s' I2 hq
    | ok fl =>
      cases fl with
      | ret u => exact I2.after hq
      | next => exact False.elim hq
      | brk => exact False.elim hq
      | cont => exact False.elim hq
end
end My
set_option Elab.async false
set_option linter.all false
set_option maxRecDepth 100000
set_option maxHeartbeats 4000000
namespace My
open PySem PySem.Spec PyProof.Rows L2
abbrev mkFn (nm ql : Str) (ar : Arguments) (bd : FuncBody) (sc : Scope) (cl : List (Str × Addr)) (pm cv ct : Value) : FuncData :=
  { name := nm, qualname := ql, params := ar, body := bd, scope := sc, globals := mainGlobals, closure := cl, defaults := .none, kwdefaults := .none,
    doc := .none, pyModule := pm, annotations := none, code := cv, closureTuple := ct, builtins := builtinsNs }
abbrev mkFo (nm ql : Str) (ar : Arguments) (bd : FuncBody) (sc : Scope) (cl : List (Str × Addr)) (pm cv ct : Value) : Obj := { cls := .type "function", data := .func (mkFn nm ql ar bd sc cl pm cv ct) }
def NoDoc : FuncBody → Prop
  | .stmts b => docOf b = none
  | .expr _ => True
section
variable {M : Model} {A : Around} {E : Value → Shared → Prop} {s : Shared} {nm ql : Str} {ar : Arguments} {bd : FuncBody} {sc : Scope} {env : Env} {c Pt : Addr} {ps : Array Value} {pos : Pos} {fl : Nat} {mg : Str → Option Value} {cl : List (Str × Addr)} {Q : Value → Shared → Prop}
open PySem.W in
theorem mk_tail (hd : NoDoc bd) (hcl : closureFor sc env = pure cl) (hG : env.globals = mainGlobals) (hg : s.heap.Ns mainGlobals mg) (hc : env.code = .ref c) (C : CodeHd s.heap c Pt) (hP : s.heap.get? Pt = some (tabObj ps)) (ht : TriplesOk ps.toList)
    (hne : mainGlobals ≠ Pt) (hb : s.heap.BuiltinsAt mg Pt)
    (hit : ∀ (cv ct : Value) (h' : Heap) (tk : Tok), codeAmong pos ps.toList = some cv → (∀ b o, s.heap.get? b = some o → h'.get? b = some o) → s.heap.objs.size ≤ h'.objs.size →
      Q (.ref h'.objs.size) { s with heap := h'.push (mkFo nm ql ar bd sc cl ((mg "__name__").getD .none) cv ct), toks := tk })
    (new : ∀ (c2 : Addr) (ct : Value) (h' : Heap) (tk : Tok), codeAmong pos ps.toList = none → Heap.ExtBut Pt s.heap h' → s.heap.objs.size ≤ c2 → c2 < h'.objs.size → h'.CodeRec (.ref c2) ql → h'.get? Pt = some (tabObj (ps ++ #[rawInt pos.line, rawInt pos.col, .ref c2])) →
      Q (.ref h'.objs.size) { s with heap := h'.push (mkFo nm ql ar bd sc cl ((mg "__name__").getD .none) (.ref c2) ct), toks := tk }) :
    wpAny M A (makeFunction nm ql ar bd sc env [] [] [] pos fl) Q E s := by
  obtain ⟨bm, ob, e1, e2, _, e3, e4, e5, e6, e7⟩ := hb
  -- the closure's tuple, if any, lies first
  have go : ∀ (ctv : Value) (h0 : Heap), (∀ b o, s.heap.get? b = some o → h0.get? b = some o) → s.heap.objs.size ≤ h0.objs.size →
      wpAny M A (do
        let fd : FuncData := { mkFn nm ql ar bd sc cl .none .none ctv with code := (← functionCode env pos fl nm ql ar sc bd), builtins := (← builtinsFor mainGlobals env.builtins), pyModule := (← nsGet mainGlobals "__name__").getD .none, doc := (← match bd with | .stmts b => (match docOf b with | some s => mkText s | none => pure .none) | .expr _ => pure .none) }
        newObj (.type "function") (.func fd)) Q E { s with heap := h0 } := fun ctv h0 k0 z0 => by
    have hP0 := k0 _ _ hP
    have C0 := C.keeps k0
    have hg0 := hg.keeps k0
    cases hf : codeAmong pos ps.toList with
    | some cv =>
      refine wpAny_bind (wpAny_functionCode_hit hc (C0.code hP0 ht) hf ?_)
      refine wpAny_bind (wpAny_builtinsFor hg0 e1 e2 (k0 _ _ e4) e5 e6 e7 ?_)
      refine wpAny_bind (wpAny_nsGet hg0 ?_)
      have fin : ∀ {o : Obj}, o = mkFo nm ql ar bd sc cl ((mg "__name__").getD .none) cv ctv → Q (.ref h0.objs.size) { s with heap := h0.push o } := fun e => by rw [e]; exact hit cv ctv h0 s.toks hf k0 z0
      cases bd with
      | stmts b =>
        have hd : docOf b = none := hd
        dsimp only
        rw [hd]
        exact wpAny_bind (wpAny_pure (wpAny_newObj_type (fin rfl) (by size_fits)))
      | expr e => exact wpAny_bind (wpAny_pure (wpAny_newObj_type (fin rfl) (by size_fits)))
    | none =>
      refine wpAny_bind (wpAny_functionCodeX hc (C0.code hP0 ht) (C0.tab hP0) hf fun c2 h' tk x1 x2 x3 _ x4 x5 _ => ?_)
      have x1' : Heap.ExtBut Pt s.heap h' := fun b o hb e => x1 b o hb (k0 b o e)
      have hg' := hg.extBut x1' hne
      refine wpAny_bind (wpAny_builtinsFor hg' e1 e2 (x1' _ _ e3 e4) e5 e6 e7 ?_)
      refine wpAny_bind (wpAny_nsGet hg' ?_)
      have fin : ∀ {o : Obj}, o = mkFo nm ql ar bd sc cl ((mg "__name__").getD .none) (.ref c2) ctv → Q (.ref h'.objs.size) { s with heap := h'.push o, toks := tk } := fun e => by rw [e]; exact new c2 ctv h' tk hf x1' (Nat.le_trans z0 x2) x3 x4 x5.2
      cases bd with
      | stmts b =>
        have hd : docOf b = none := hd
        dsimp only
        rw [hd]
        exact wpAny_bind (wpAny_pure (wpAny_newObj_type (fin rfl) (by size_fits)))
      | expr e => exact wpAny_bind (wpAny_pure (wpAny_newObj_type (fin rfl) (by size_fits)))
  rw [makeFunction_eq]
  simp only [List.zip_nil_right, List.filterMap_nil, List.isEmpty_nil, if_true, pure_bind]
  unfold makeTail
  rw [hcl, hG]
  refine wpAny_bind (wpAny_pure ?_)
  cases cl with
  | nil => exact wpAny_bind (wpAny_pure (go .none s.heap (fun _ _ e => e) (Nat.le_refl _)))
  | cons q r => exact wpAny_bind (wpAny_newTextTuple (go _ _ (fun b o e => Heap.get?_push_of_some _ e) (by rw [Heap.size_push]; omega)))
end
section
variable {X : Cx} {pins : List (Addr × Obj)} {σ : L2.St} {H : Hp} {s : Shared} {nm : Str} {fl : Nat} {params : Arguments} {body : FuncBody} {scope : Scope} {pos : Pos} {c Pt : Addr} {qf : Nat → Nat → Str} {clos : List (Str × Addr)} {fs : List Str} {fv : List V} {Q : Value → Shared → Prop}
theorem run_mk (hnd : NoDoc body) (I : Inv X pins σ H s) (hcode : X.env.code = .ref c) (hC : PySem.W.CodeHd X.base c Pt) (hB : X.base.BuiltinsAt X.mg Pt) (T : TabAt H Pt qf) (hcl : closureFor scope X.env = pure clos)
    (hcs : ∀ x a, clos.lookup x = some a → X.env.cells.lookup x = some a) (hfs : ∀ x ∈ fs, clos.lookup x = X.env.cells.lookup x ∧ X.env.kindOf x ≠ some .local ∧ Vis X.env.scope x) (hfv : ∀ (i : Nat) x v, fs[i]? = some x → fv[i]? = some v → ∃ j : Nat, X.N[j]? = some x ∧ σ[j]? = some (some v)) (hlen : fv.length = fs.length)
    (h : ∀ (f : Addr) (H2 : Hp) (s2 : Shared) (pm cv ct : Value), s.heap.objs.size ≤ f → Inv X pins σ H2 s2 → TabAt H2 Pt qf → (∀ b o, H b = some o → b ≠ Pt → H2 b = some o) → CloAt s2.heap H2 f (mkFn nm (qf pos.line pos.col) params body scope clos pm cv ct) fs fv → Q (.ref f) s2) :
    wpAny (model X.prog X.w) X.A (makeFunction nm (qf pos.line pos.col) params body scope X.env [] [] [] pos fl) Q X.xe s := by
  have T0 := T
  obtain ⟨ps, tP, tr, tc⟩ := T
  have hP : s.heap.get? Pt = some (PySem.W.tabObj ps) := I.hok Pt _ tP
  have hg := I.ok.mod.glob.keeps I.bk
  obtain ⟨bm, ob, b1, b2, b3, b4, b5, b6⟩ := hB
  have hB2 : s.heap.BuiltinsAt X.mg Pt := ⟨bm, ob, b1, b2, b3, b4, I.bk _ _ b5, b6⟩
  have ch : ∀ (H2 : Hp) (h2 : Heap), (∀ b o, s.heap.get? b = some o → b ≠ Pt → h2.get? b = some o ∧ (H b = none → H2 b = none) ∧ ∀ o' u, H b = some (.frz o' u) → H2 b = some (.frz o' u)) → ∀ x a o, X.env.cells.lookup x = some a → s.heap.get? a = some o → h2.get? a = some o ∧ CellH H2 h2 a := fun H2 h2 hk x a o e w2 => by
    have nP : a ≠ Pt := fun z => by
      rcases I.freeC x a e with fc | ⟨_, _, _, fc⟩ <;> rw [z, tP] at fc <;> cases fc
    obtain ⟨q1, q2, q3⟩ := hk a o w2 nP
    refine ⟨q1, ?_⟩
    rcases I.freeC x a e with fc | ⟨_, o2, y, fc⟩
    · exact .inl (q2 fc)
    · have e2 : s.heap.get? a = some o2 := (show ObjOk X.prog X.w H s.heap a (.frz o2 (.own y)) from I.hok a _ fc).1
      rw [w2] at e2; cases e2
      exact .inr ⟨o, y, q3 _ _ fc, q1⟩
  have cellsOf : ∀ (h2 : Heap) (H2 : Hp), (∀ b o, s.heap.get? b = some o → b ≠ Pt → h2.get? b = some o ∧ (H b = none → H2 b = none) ∧ ∀ o' u, H b = some (.frz o' u) → H2 b = some (.frz o' u)) → (∀ (i : Nat) x v, fs[i]? = some x → fv[i]? = some v → ∃ a u, clos.lookup x = some a ∧ h2.IsCell a (some u) ∧ RelV v u ∧ CellH H2 h2 a) := fun h2 H2 hk i x v e1 e2 => by
    obtain ⟨j, y1, y2⟩ := hfv i x v e1 e2
    obtain ⟨z1, z2, z3⟩ := hfs x (List.mem_of_getElem? e1)
    obtain ⟨m, hn, hlk⟩ := I.loc
    obtain ⟨u, ru, lk⟩ := hlk j x v y1 y2 z3
    rcases lk with ⟨w1, _⟩ | ⟨_, a, w1, o, w2, w3⟩
    · exact absurd w1 z2
    · obtain ⟨q1, q2⟩ := ch H2 h2 hk x a o w1 w2
      exact ⟨a, u, z1.trans w1, ⟨o, q1, w3⟩, ru, q2⟩
  have cells2 : ∀ (h2 : Heap) (H2 : Hp), (∀ b o, s.heap.get? b = some o → b ≠ Pt → h2.get? b = some o ∧ (H b = none → H2 b = none) ∧ ∀ o' u, H b = some (.frz o' u) → H2 b = some (.frz o' u)) → ∀ x a, clos.lookup x = some a → (∃ v, h2.IsCell a v) ∧ CellH H2 h2 a := fun h2 H2 hk x a e => by
    have e2 := hcs x a e
    obtain ⟨v, o, w2, w3⟩ := I.cell x a e2
    obtain ⟨q1, q2⟩ := ch H2 h2 hk x a o e2 w2
    exact ⟨⟨v, o, q1, w3⟩, q2⟩
  have hgP : mainGlobals ≠ Pt := fun z => by
    obtain ⟨o, es, ep, e, _⟩ := I.ok.mod.glob
    have := (I.bs _ _ e).2
    rw [z, tP] at this; cases this
  refine mk_tail hnd hcl I.ok.glob hg hcode (hC.keeps I.bk) hP tr hgP hB2 (fun cv ctv h' tk hf hk hsz => ?_) (fun c' ctv h' tk hf hx hge hlt hrec htb => ?_)
  · have hk2 : ∀ b o, s.heap.get? b = some o → ∀ (ob : Obj), (h'.push ob).get? b = some o := fun b o e ob => Heap.get?_push_of_some _ (hk b o e)
    refine h h'.objs.size H _ _ cv ctv hsz (I.un (t' := tk) (Un.kept fun b o e => hk2 b o e _) (I.hok.kept fun b o e => hk2 b o e _)) T0 (fun _ _ e _ => e) ⟨⟨_, Heap.get?_push_size _ rfl, rfl⟩, I.hok.fresh hsz, tc pos cv hf, fun i x v e1 e2 => ?_, fun x y a e1 e2 => I.ok.inj x y a (hcs x a e1) (hcs y a e2), fun x a e => ?_, hlen⟩
    · obtain ⟨a, u, z1, z2, z3, z4⟩ := cellsOf _ H (fun b o e _ => ⟨hk2 b o e _, id, fun _ _ z => z⟩) i x v e1 e2
      exact ⟨a, u, z1, z2, z3, z4⟩
    · obtain ⟨z1, z2⟩ := cells2 _ H (fun b o e _ => ⟨hk2 b o e _, id, fun _ _ z => z⟩) x a e
      exact ⟨z1, z2⟩
  · obtain ⟨c2, oc, vs, t, e2, hoc, hd, hv⟩ := hrec
    cases e2
    have ncP : c' ≠ Pt := fun z => by rw [z] at hge; exact absurd (Heap.lt_size hP) (Nat.not_lt.mpr hge)
    have hc0 : H c' = none := I.hok.fresh hge
    have nP : ∀ b, H b = none → b ≠ Pt := fun b n z => by rw [z, tP] at n; cases n
    have nC : ∀ b o, s.heap.get? b = some o → b ≠ c' := fun b o e z => by rw [z] at e; exact absurd (Heap.lt_size e) (Nat.not_lt.mpr hge)
    generalize hO : mkFo nm (qf pos.line pos.col) params body scope clos ((X.mg "__name__").getD .none) (.ref c') ctv = oF
    have hk2 : ∀ b o, s.heap.get? b = some o → b ≠ Pt → (h'.push oF).get? b = some o := fun b o e n => Heap.get?_push_of_some _ (hx b o n e)
    have hP2 : (h'.push oF).get? Pt = some (PySem.W.tabObj (ps ++ #[rawInt pos.line, rawInt pos.col, .ref c'])) := Heap.get?_push_of_some _ htb
    have hC2 : (h'.push oF).get? c' = some oc := Heap.get?_push_of_some _ hoc
    have hsame : ∀ b o, H b = some o → b ≠ Pt → upd (upd H Pt (.tbl (ps ++ #[rawInt pos.line, rawInt pos.col, .ref c']))) c' (.frz oc (.ext fun h => h.get? c' = some oc)) b = some o := fun b o e n => by
      rw [upd_ne (ne_of_none e hc0), upd_ne n]; exact e
    have un2 : Un X.fs [] H (upd (upd H Pt (.tbl (ps ++ #[rawInt pos.line, rawInt pos.col, .ref c']))) c' (.frz oc (.ext fun h => h.get? c' = some oc))) s.heap (h'.push oF) := by
      refine ⟨fun b o z n _ _ => hk2 b o z (nP b n), fun b o z n _ _ => ⟨o.slots, hk2 b o z (nP b n)⟩, fun b o z n _ => ?_, fun b o z _ => ?_, fun b xs z => ?_, fun b o u z => ?_, fun b qs z => ?_⟩
      · rw [upd_ne (nC b o z), upd_ne (nP b n)]; exact n
      · by_cases hb : b = Pt
        · rw [hb]; exact ⟨_, hP2⟩
        · exact ⟨_, hk2 b o z hb⟩
      · exact hsame _ _ z fun y => by rw [y, tP] at z; cases z
      · exact hsame _ _ z fun y => by rw [y, tP] at z; cases z
      · by_cases hb : b = Pt
        · subst hb
          rw [tP] at z; cases z
          exact ⟨_, by rw [upd_ne (Ne.symm ncP), upd_same]⟩
        · exact ⟨#[], by rw [hsame _ _ z hb]; simp⟩
    have hok2 : HOk X.prog X.w (upd (upd H Pt (.tbl (ps ++ #[rawInt pos.line, rawInt pos.col, .ref c']))) c' (.frz oc (.ext fun h => h.get? c' = some oc))) (h'.push oF) := fun b o z => by
      by_cases hb : b = c'
      · subst hb
        rw [upd_same] at z; cases z
        exact ⟨hC2, hC2, ⟨_, hC2⟩, fun h1 h2 e k => k _ e⟩
      · rw [upd_ne hb] at z
        by_cases hb2 : b = Pt
        · subst hb2
          rw [upd_same] at z; cases z
          exact hP2
        · rw [upd_ne hb2] at z
          refine (I.hok b o z).stay (fun a u ha q => hk2 a u q fun y => ?_) (fun a q => hsame _ _ q fun y => ?_) fun a xs q => hsame _ _ q fun y => ?_
          · rcases ha with ha | ha
            · exact hb2 (ha ▸ y)
            · rw [y, tP] at ha; cases ha
          · rw [y, tP] at q; cases q
          · rw [y, tP] at q; cases q
    have hfF : s.heap.objs.size ≤ h'.objs.size := Nat.le_trans hge (Nat.le_of_lt hlt)
    have hkk : ∀ b o, s.heap.get? b = some o → b ≠ Pt → (h'.push oF).get? b = some o ∧ (H b = none → (upd (upd H Pt (.tbl (ps ++ #[rawInt pos.line, rawInt pos.col, .ref c']))) c' (.frz oc (.ext fun h => h.get? c' = some oc))) b = none) ∧ ∀ o' u, H b = some (.frz o' u) → (upd (upd H Pt (.tbl (ps ++ #[rawInt pos.line, rawInt pos.col, .ref c']))) c' (.frz oc (.ext fun h => h.get? c' = some oc))) b = some (.frz o' u) := fun b o e n =>
      ⟨hk2 b o e n, fun z => by rw [upd_ne (nC b o e), upd_ne n]; exact z, fun o' u z => hsame b _ z n⟩
    refine h h'.objs.size _ _ _ (.ref c') ctv hfF (I.un (t' := tk) un2 hok2) ⟨_, by rw [upd_ne (Ne.symm ncP), upd_same], ?_, fun p2 cv z => ?_⟩ hsame ⟨⟨_, Heap.get?_push_size _ (by rw [← hO]; rfl), by rw [← hO]⟩, ?_, ⟨c', oc, _, vs, t, rfl, upd_same, hd, hv⟩, fun i x v e1 e2 => ?_, fun x y a e1 e2 => I.ok.inj x y a (hcs x a e1) (hcs y a e2), fun x a e => ?_, hlen⟩
    · rw [Array.toList_append]; exact triples_snoc tr
    · rw [Array.toList_append] at z
      rcases among_snoc tr z with z | ⟨z, z2, z3⟩
      · obtain ⟨a, oa, u, ws, t2, y1, y2, y3⟩ := tc p2 cv z
        exact ⟨a, oa, u, ws, t2, y1, hsame _ _ y2 (fun y => by rw [y, tP] at y2; cases y2), y3⟩
      · rw [← z2, ← z3]
        exact ⟨c', oc, _, vs, t, z, upd_same, hd, hv⟩
    · rw [upd_ne (Nat.ne_of_gt hlt), upd_ne (fun z => absurd (Heap.lt_size hP) (by rw [← z]; exact Nat.not_lt.mpr hfF))]
      exact I.hok.fresh hfF
    · obtain ⟨a, u, z1, z2, z3, z4⟩ := cellsOf _ _ hkk i x v e1 e2
      exact ⟨a, u, z1, z2, z3, z4⟩
    · obtain ⟨z1, z2⟩ := cells2 _ _ hkk x a e
      exact ⟨z1, z2⟩
end
end My
set_option Elab.async false
set_option linter.all false
set_option maxRecDepth 100000
set_option maxHeartbeats 4000000
namespace My
open PySem PySem.Spec PyProof.Rows L2
structure CloN (h : Heap) (H : Hp) (f : Addr) (fd : FuncData) (fs : List Str) (fv : List V) : Prop extends CloAt h H f fd fs fv where
  none' : ∀ x c, fd.closure.lookup x = some c → H c = none
open Classical in
noncomputable def keepC (H : Hp) (f : Addr) (fd : FuncData) (fs : List Str) (fv : List V) : Hp := fun b =>
  if b = f then some (.ext (FuncP f fd))
  else if h : ∃ v, ∃ (i : Nat) (x : Str), fs[i]? = some x ∧ fv[i]? = some v ∧ fd.closure.lookup x = some b then some (.ext (CellP b h.choose)) else H b
def clS (f : Addr) (fd : FuncData) (fs : List Str) : List Addr := f :: fs.filterMap fun x => fd.closure.lookup x
theorem clS_mem {f : Addr} {fd : FuncData} {fs : List Str} {b : Addr} : b ∈ clS f fd fs ↔ b = f ∨ ∃ x ∈ fs, fd.closure.lookup x = some b := by
  unfold clS
  rw [List.mem_cons, List.mem_filterMap]
section
variable {P : Program} {w : World} {h : Heap} {H : Hp} {f : Addr} {fd : FuncData} {fs : List Str} {fv : List V}
theorem keep_f : keepC H f fd fs fv f = some (.ext (FuncP f fd)) := by unfold keepC; rw [if_pos rfl]
theorem keep_c (C : CloN h H f fd fs fv) (nd : fs.Nodup) {i : Nat} {x : Str} {v : V} {c : Addr} (e1 : fs[i]? = some x) (e2 : fv[i]? = some v) (e3 : fd.closure.lookup x = some c) : keepC H f fd fs fv c = some (.ext (CellP c v)) := by
  have nf : c ≠ f := fun z => by
    obtain ⟨c2, u, z1, ⟨o, z2, z3⟩, _⟩ := C.vals i x v e1 e2
    rw [e3] at z1; cases z1
    obtain ⟨o2, z4, z5⟩ := C.ob
    rw [← z, z2] at z4; cases z4
    rw [z3] at z5; cases z5
  have hx : ∃ v, ∃ (i : Nat) (x : Str), fs[i]? = some x ∧ fv[i]? = some v ∧ fd.closure.lookup x = some c := ⟨v, i, x, e1, e2, e3⟩
  unfold keepC
  rw [if_neg nf, dif_pos hx]
  obtain ⟨i2, x2, y1, y2, y3⟩ := hx.choose_spec
  have ex : x2 = x := C.inj _ _ _ y3 e3
  subst ex
  have ei : i2 = i := nodup_ix nd y1 e1
  subst ei
  rw [e2] at y2
  rw [← Option.some.inj y2]
theorem keep_out {b : Addr} (h : b ∉ clS f fd fs) : keepC H f fd fs fv b = H b := by
  rw [clS_mem] at h
  unfold keepC
  rw [if_neg (fun z => h (.inl z)), dif_neg]
  rintro ⟨v, i, x, e1, _, e3⟩
  exact h (.inr ⟨x, List.mem_of_getElem? e1, e3⟩)
theorem keep_at (C : CloN h H f fd fs fv) (nd : fs.Nodup) {b : Addr} (hb : b ∈ clS f fd fs) : b = f ∨ ∃ (i : Nat) (x : Str) (v : V), fs[i]? = some x ∧ fv[i]? = some v ∧ fd.closure.lookup x = some b := by
  rw [clS_mem] at hb
  rcases hb with z | ⟨x, hx, e⟩
  · exact .inl z
  · obtain ⟨i, hi, ei⟩ := List.getElem_of_mem hx
    have hi2 : i < fv.length := by rw [C.len]; exact hi
    exact .inr ⟨i, x, fv[i], by rw [List.getElem?_eq_getElem hi, ei], List.getElem?_eq_getElem hi2, e⟩
theorem keep_none (C : CloN h H f fd fs fv) (nd : fs.Nodup) {b : Addr} (hb : b ∈ clS f fd fs) : H b = none := by
  rcases keep_at C nd hb with z | ⟨i, x, v, e1, e2, e3⟩
  · rw [z]; exact C.un
  · exact C.none' x b e3
theorem keep_same (C : CloN h H f fd fs fv) (nd : fs.Nodup) {b : Addr} {o : HO} (e : H b = some o) : keepC H f fd fs fv b = some o := by
  rw [keep_out (fun z => by rw [keep_none C nd z] at e; cases e)]; exact e
theorem keep_hok (x : HOk P w H h) (C : CloN h H f fd fs fv) (nd : fs.Nodup) : HOk P w (keepC H f fd fs fv) h := fun b o e => by
  by_cases hb : b ∈ clS f fd fs
  · rcases keep_at C nd hb with z | ⟨i, y, v, e1, e2, e3⟩
    · subst z
      rw [keep_f] at e; cases e
      obtain ⟨o, z1, z2⟩ := C.ob
      exact ⟨⟨o, z1, z2⟩, ⟨o, z1⟩, fun h1 h2 ⟨o, z1, z2⟩ k => ⟨o, k _ z1, z2⟩⟩
    · rw [keep_c C nd e1 e2 e3] at e; cases e
      obtain ⟨c, u, z1, ⟨o, z2, z3⟩, z4, _⟩ := C.vals i y v e1 e2
      rw [e3] at z1; cases z1
      exact ⟨⟨u, z4, o, z2, z3⟩, ⟨o, z2⟩, fun h1 h2 ⟨u, r, o, q1, q2⟩ k => ⟨u, r, o, k _ q1, q2⟩⟩
  · rw [keep_out hb] at e
    exact (x b o e).stay (fun _ _ _ q => q) (fun c q => keep_same C nd q) fun c xs q => keep_same C nd q
theorem keep_clo (C : CloN h H f fd fs fv) (nd : fs.Nodup) (all : ∀ x c, fd.closure.lookup x = some c → x ∈ fs) : CloT (keepC H f fd fs fv) f fd fs fv (clS f fd fs) where
  ob := keep_f
  mem := List.mem_cons_self
  sub := fun b hb => by
    rcases keep_at C nd hb with z | ⟨i, x, v, e1, e2, e3⟩
    · rw [z]; exact ⟨_, keep_f⟩
    · exact ⟨_, keep_c C nd e1 e2 e3⟩
  code := by
    obtain ⟨c, oc, u, vs, t, e1, e2, e3⟩ := C.code
    exact ⟨c, oc, u, vs, t, e1, keep_same C nd e2, e3⟩
  vals := fun i x v e1 e2 => by
    obtain ⟨c, u, z1, _⟩ := C.vals i x v e1 e2
    exact ⟨c, z1, keep_c C nd e1 e2 z1⟩
  inj := C.inj
  cells := fun x c e => by
    have hx := all x c e
    obtain ⟨i, hi, ei⟩ := List.getElem_of_mem hx
    have hi2 : i < fv.length := by rw [C.len]; exact hi
    exact ⟨clS_mem.mpr (.inr ⟨x, hx, e⟩), _, keep_c C nd (by rw [List.getElem?_eq_getElem hi, ei]) (List.getElem?_eq_getElem hi2) e⟩
  len := C.len
end
structure PR (X : Cx) (body : List Stmt) (t : VK → L2.St → Hp → Prop) : Prop where
  run : ∀ (s : Shared) (σ : L2.St) (H : Hp) (Q : VK), Inv X [] σ H s → t Q σ H → wpAny (model X.prog X.w) X.A (execs body X.env) (fun fl s' => ∃ u, fl = .ret u ∧ CE X.outer X.prog X.w X.H_0 X.s_0 Q u s') X.xe s
section
variable {X : Cx} {st : Stmt} {rest : List Stmt} {t : TS} {u : VK → L2.St → Hp → Prop} {pos : Pos}
theorem ce_of (hex : X.ex = []) {σ : L2.St} {H : Hp} {s : Shared} {Q : VK} {v : V} {w : Value} (I : Inv X [] σ H s) (r : RelV v w) (q : Q v H) : CE X.outer X.prog X.w X.H_0 X.s_0 Q w s := by
  have z := I.base
  rw [hex] at z
  exact ⟨v, H, I.os, I.bare, z, I.hok, r, q⟩
theorem pr_cons (hex : X.ex = []) (h1 : PS X st t) (h2 : PR X rest u) : PR X (st :: rest) (fun Q => t { nx := u Q, rt := Q }) := by
  refine ⟨fun s σ H Q I h => wpAny_execs_cons (thn (h1 [] s σ H _ I h) fun f s1 q => ?_)⟩
  cases f with
  | next =>
    obtain ⟨σ', H', I', q⟩ := q
    exact h2.run s1 σ' H' Q I' q
  | ret v =>
    obtain ⟨x, σ', H', I', r, q⟩ := q
    exact ⟨v, rfl, ce_of hex I' r q⟩
  | brk => obtain ⟨_, _, _, z⟩ := q; exact False.elim z
  | cont => obtain ⟨_, _, _, z⟩ := q; exact False.elim z
theorem pr_if {c : Expr} {a : List Stmt} {tc : TT} {ta : VK → L2.St → Hp → Prop} (hc : PT X c tc) (ha : PR X a ta) (hr : PR X rest u) : PR X (.If c a [] pos :: rest) (fun Q σ H => tc σ H fun b H1 => if b = true then ta Q σ H1 else u Q σ H1) := by
  refine ⟨fun s σ H Q I h => wpAny_execs_cons (wpAny_If (thn (hc [] s σ H _ I h) fun d s1 ⟨H1, I1, q1⟩ => ?_))⟩
  cases d with
  | true =>
    refine thn (ha.run s1 σ H1 Q I1 q1) fun f s2 ⟨v, e, q⟩ => ?_
    subst e
    exact ⟨v, rfl, q⟩
  | false => exact wpAny_execs_nil (hr.run s1 σ H1 Q I1 q1)
structure MkAt (X : Cx) (scope : Scope) (c Pt : Addr) (clos : List (Str × Addr)) (fs : List Str) (ix : List Nat) : Prop where
  code : X.env.code = .ref c
  hd : PySem.W.CodeHd X.base c Pt
  blt : X.base.BuiltinsAt X.mg Pt
  clo : closureFor scope X.env = pure clos
  sub : ∀ x a, clos.lookup x = some a → X.env.cells.lookup x = some a
  free : ∀ x ∈ fs, clos.lookup x = X.env.cells.lookup x ∧ X.env.kindOf x ≠ some .local ∧ Vis X.env.scope x
  at' : ∀ (i : Nat) x, fs[i]? = some x → ∃ j : Nat, ix[i]? = some j ∧ X.N[j]? = some x
  len : ix.length = fs.length
  nd : fs.Nodup
  all : ∀ x c, clos.lookup x = some c → x ∈ fs
  fresh : ∀ x c, clos.lookup x = some c → X.s_0.heap.objs.size ≤ c
def tMk (Pt : Addr) (qf : Nat → Nat → Str) (ix : List Nat) (fs : List Str) (mk : List (Str × Addr) → Value → Value → Value → FuncData) : VK → L2.St → Hp → Prop := fun Q σ H => TabAt H Pt qf ∧ ∃ fv : List V, fv.length = ix.length ∧ (∀ (i j : Nat), ix[i]? = some j → ∀ v, fv[i]? = some v → σ[j]? = some (some v)) ∧
  ∀ (H2 : Hp) (f : Addr) (cl : List (Str × Addr)) (pm cv ct : Value) (S : List Addr), TabAt H2 Pt qf → (∀ b o, H b = some o → b ≠ Pt → H2 b = some o) → (∀ b ∈ S, H b = none) → CloT H2 f (mk cl pm cv ct) fs fv S → Q (.ref f) H2
theorem ce_keep (hex : X.ex = []) {σ : L2.St} {H : Hp} {s : Shared} {Q : VK} {f : Addr} {fd : FuncData} {fs : List Str} {fv : List V} (I : Inv X [] σ H s) (C : CloN s.heap H f fd fs fv) (nd : fs.Nodup) (ff : X.s_0.heap.objs.size ≤ f)
    (fc : ∀ x c, fd.closure.lookup x = some c → X.s_0.heap.objs.size ≤ c) (q : Q (.ref f) (keepC H f fd fs fv)) : CE X.outer X.prog X.w X.H_0 X.s_0 Q (.ref f) s := by
  have z := I.base
  rw [hex] at z
  have out : ∀ b o, X.s_0.heap.get? b = some o → b ∉ clS f fd fs := fun b o e hb => by
    have lt := Heap.lt_size e
    rcases keep_at C nd hb with y | ⟨i, x, v, e1, e2, e3⟩
    · rw [y] at lt; exact absurd lt (Nat.not_lt.mpr ff)
    · exact absurd lt (Nat.not_lt.mpr (fc x b e3))
  refine ⟨.ref f, keepC H f fd fs fv, I.os, I.bare, ⟨z.keep, z.slot, fun b o e n hx => ?_, z.there, fun b xs e => ?_, fun b o u e => ?_, fun b ps e => ?_⟩, keep_hok I.hok C nd, rfl, q⟩
  · rw [keep_out (out b o e)]; exact z.free b o e n hx
  · exact keep_same C nd (z.tups b xs e)
  · exact keep_same C nd (z.frzs b o u e)
  · obtain ⟨more, y⟩ := z.tbls b ps e
    exact ⟨more, keep_same C nd y⟩
theorem mk_done (hex : X.ex = []) {scope : Scope} {c Pt : Addr} {clos : List (Str × Addr)} {fs : List Str} {ix : List Nat} {qf : Nat → Nat → Str} {nm : Str} {ar : Arguments} {bd : FuncBody} {mpos : Pos} {fl : Nat} {mk : List (Str × Addr) → Value → Value → Value → FuncData} {σ : L2.St} {H : Hp} {s : Shared} {Q : VK}
    (M : MkAt X scope c Pt clos fs ix) (hnd : NoDoc bd) (hmk : mk = fun cl pm cv ct => mkFn nm (qf mpos.line mpos.col) ar bd scope cl pm cv ct) (hfn : ∀ x, X.fn x = true) (I : Inv X [] σ H s) (h : tMk Pt qf ix fs mk Q σ H) {R : Value → Shared → Prop}
    (hR : ∀ (f : Addr) (H2 : Hp) (s2 : Shared) (fd : FuncData) (fv : List V), Inv X [] σ H2 s2 → CloN s2.heap H2 f fd fs fv → X.s_0.heap.objs.size ≤ f → (∀ x c, fd.closure.lookup x = some c → X.s_0.heap.objs.size ≤ c) → Q (.ref f) (keepC H2 f fd fs fv) → R (.ref f) s2) :
    wpAny (model X.prog X.w) X.A (makeFunction nm (qf mpos.line mpos.col) ar bd scope X.env [] [] [] mpos fl) R X.xe s := by
  subst hmk
  obtain ⟨T, fv, hl, hσ, h⟩ := h
  refine run_mk (fv := fv) hnd I M.code M.hd M.blt T M.clo M.sub M.free (fun i x v e1 e2 => ?_) (by rw [hl, M.len]) fun f H2 s2 pm cv ct hf I2 T2 k2 C0 => ?_
  · obtain ⟨j, y1, y2⟩ := M.at' i x e1
    exact ⟨j, y2, hσ i j y1 v e2⟩
  · have nn : ∀ {H3 : Hp} {s3 : Shared}, Inv X [] σ H3 s3 → ∀ x c, clos.lookup x = some c → H3 c = none := fun I3 x c e => (I3.freeC x c (M.sub x c e)).resolve_right fun z => by rw [hfn] at z; exact absurd z.1 (by decide)
    have C : CloN s2.heap H2 f (mkFn nm (qf mpos.line mpos.col) ar bd scope clos pm cv ct) fs fv := { toCloAt := C0, none' := fun x c e => nn I2 x c e }
    refine hR f H2 s2 _ fv I2 C (Nat.le_trans I.sz hf) M.fresh (h _ f clos pm cv ct _ (T2.same fun b o e => keep_same C M.nd e) (fun b o e n => keep_same C M.nd (k2 b o e n)) (fun b hb => ?_) (keep_clo C M.nd M.all))
    rcases keep_at C M.nd hb with z | ⟨i, x, v, e1, e2, e3⟩
    · rw [z]; exact I.hok.fresh hf
    · exact nn I x b e3
theorem pr_lam (hex : X.ex = []) {scope : Scope} {c Pt : Addr} {clos : List (Str × Addr)} {fs : List Str} {ix : List Nat} {qf : Nat → Nat → Str} {ar : Arguments} {body : Expr} {lpos : Pos}
    (M : MkAt X scope c Pt clos fs ix) (hq : X.env.qual ++ "<lambda>" = qf lpos.line lpos.col) (hdef : defaultsOf ar X.env = ([], [])) (hfn : ∀ x, X.fn x = true := by intro _; rfl) :
    PR X [.Return (some (.Lambda ar body scope lpos)) pos] (tMk Pt qf ix fs fun cl pm cv ct => mkFn "<lambda>" (qf lpos.line lpos.col) ar (.expr body) scope cl pm cv ct) := by
  refine ⟨fun s σ H Q I h => wpAny_execs_cons (wpAny_Return_some (PySem.W.kla_eval hdef ?_))⟩
  rw [hq]
  refine mk_done (bd := .expr body) hex M trivial rfl hfn I h fun f H2 s2 fd fv I2 C ff fc q => ?_
  exact ⟨_, rfl, ce_keep hex I2 C M.nd ff fc q⟩
theorem pr_def (hex : X.ex = []) {scope : Scope} {c Pt : Addr} {clos : List (Str × Addr)} {fs : List Str} {ix : List Nat} {qf : Nat → Nat → Str} {ar : Arguments} {body : List Stmt} {nm : Str} {dpos npos : Pos} {i : Nat}
    (M : MkAt X scope c Pt clos fs ix) (hd : docOf body = none) (hq : qualnameIn X.env nm nm = qf dpos.line dpos.col) (hdef : defaultsOf ar X.env = ([], [])) (han : annTrees ar none X.env = [])
    (hN : X.N.Nodup) (hi : X.N[i]? = some nm) (hk : X.env.scope.names.lookup nm = some .local) (hnc : X.env.cells.lookup nm = none) (hfn : ∀ x, X.fn x = true := by intro _; rfl) (hdb : (nm == ("__debug__" : Str)) = false := by decide) :
    PR X [.FunctionDef nm ar body [] none [] scope none nm dpos, .Return (some (.Name nm npos)) pos] (tMk Pt qf ix fs fun cl pm cv ct => mkFn nm (qf dpos.line dpos.col) ar (.stmts body) scope cl pm cv ct) := by
  refine ⟨fun s σ H Q I h => wpAny_execs_cons ?_⟩
  rw [exec_def, hq, hdef, han]
  refine wpAny_bind (wpAny_standAt (wpAny_bind (wpAny_holding ?_)))
  refine wpAny_bind (wpAny_pure ?_)
  refine wpAny_bind (wpAny_holding (wpAny_pure ?_))
  refine wpAny_holding ?_
  refine wpAny_bind (wpAny_pure ?_)
  refine mk_done (bd := .stmts body) hex M hd rfl hfn I h fun f H2 s2 fd fv I2 C ff fc q => ?_
  refine wpAny_bind (wpAny_standAt (wpAny_bind (wpAny_bindName (store_ok2 (v := .ref f) I2 hN hi (.inl hk) rfl (fun s3 I3 ⟨a, sb, ha⟩ => ?_) (.inr hk)))))
  refine wpAny_pure (wpAny_execs_cons (wpAny_Return_some ?_))
  have eL : a = X.env.locals := by
    rcases ha with z | z
    · exact z
    · rw [hnc] at z; cases z
  subst eL
  have C3 : CloN s3.heap H2 f fd fs fv := by
    obtain ⟨m0, ⟨oL, es, ep, z1, z2, _⟩, _⟩ := I2.loc
    have ne : ∀ b o, s2.heap.get? b = some o → ((∃ g, o.data = .func g) ∨ ∃ v, o.data = .cell v) → s3.heap.get? b = some o := fun b o e d => by
      rw [sb.2 b (fun y => by
        rw [y, z1] at e; cases e
        rcases d with ⟨g, d⟩ | ⟨v, d⟩ <;> rw [z2] at d <;> cases d)]
      exact e
    exact { ob := by
              obtain ⟨o, e, d⟩ := C.ob
              exact ⟨o, ne f o e (.inl ⟨_, d⟩), d⟩
            un := C.un
            code := C.code
            vals := fun i x v e1 e2 => by
              obtain ⟨c, u, y1, ⟨o, y2, y3⟩, y4⟩ := C.vals i x v e1 e2
              exact ⟨c, u, y1, ⟨o, ne c o y2 (.inr ⟨_, y3⟩), y3⟩, y4.1, .inl (C.none' x c y1)⟩
            inj := C.inj
            cells := fun x c e => by
              obtain ⟨⟨v, o, y2, y3⟩, y4⟩ := C.cells x c e
              exact ⟨⟨v, o, ne c o y2 (.inr ⟨_, y3⟩), y3⟩, .inl (C.none' x c e)⟩
            len := C.len
            none' := C.none' }
  obtain ⟨m, hn, hl⟩ := I3.loc
  have hil : i < σ.length := by rw [I2.len]; exact (List.getElem?_eq_some_iff.mp hi).1
  obtain ⟨u, r, l⟩ := hl i nm (.ref f) hi (List.getElem?_set_self hil) (.inl hk)
  obtain rfl : u = Value.ref f := r
  rcases l with ⟨hk2, hm⟩ | ⟨hk2, c2, hc2, _⟩
  · refine wpAny_Name (wpAny_loadName_local I3.ok.kind hk2 hn hm ?_) hdb
    exact ⟨_, rfl, ce_keep hex I3 C3 M.nd ff fc q⟩
  · rw [hnc] at hc2; cases hc2
end
end My
set_option Elab.async false
set_option linter.all false
set_option maxRecDepth 100000
set_option maxHeartbeats 4000000
namespace My
open PySem PySem.Spec PyProof.Rows L2
section
variable {P : Program} {w : World} {K : PySem.W.Frag} {mg : Str → Option Value} {base : Heap} {N ps fs : List Str} {scope : Scope} {f : Addr} {H : Hp}
theorem clo_def {k : Nat} {params : Arguments} {body : List Stmt} {name qual : Str} {cl : List (Str × Addr)} {pm cdv ct : Value} {fv : List V} {S : List Addr} {sp : Sp} (L : LScope N ps fs scope)
    (hbind : ∀ us : List Value, us.length = ps.length → bindArgs (mkFn name qual params (.stmts body) scope cl pm cdv ct) ⟨us, []⟩ = pure (ps.zip us))
    (C : CloT H f (mkFn name qual params (.stmts body) scope cl pm cdv ct) fs fv S)
    (hbody : ∀ (A : Around) (outer : List Env) (s : Shared) (vs : List V) (Q : VK) (E : XK), Room k (A.deeper (PySem.W.envX qual scope s.heap.objs.size f cdv cl)) → sp vs (hid H S) Q E →
      ∃ t, PSs (cxL (CXe P w) P w K mg base N qual scope f cdv cl A outer s (hid H S) E) body t ∧ t { nx := fun _ H' => Q .non H', rt := Q } (start N (vs ++ fv)) (hid H S)) :
    FnH P w K mg base (k + 1) f H ps.length (spOver H S sp) := by
  intro A outer s us vs Q E hr e0 r hl hsp
  have C2 := C.at' e0.hok
  have e1 := env0_hid e0 C.sub
  obtain ⟨o, ho, hd⟩ := C2.ob
  obtain ⟨c, oc, u, ws, t, c1, c2, c3, c4⟩ := C2.code
  have KX : K.In s.heap := e0.mod.kin.keeps fun b o e => (e0.bs b o e).1
  have lim : s.heap.NoLimit := e0.mod.nolimit.keeps fun b o e => (e0.bs b o e).1
  have hus : us.length = ps.length := by rw [← r.length]; exact hl
  have hoc : s.heap.get? c = some oc := (e1.hok c _ c2).1
  refine codeAny_mono ?_ fun r s' q => cr_over e0 C.sub q
  refine codeAny_call_function hr.depth ho hd L.co L.gen rfl ⟨c, oc, ws, t, c1, hoc, c3, c4⟩ ?_
  rw [hbind us hus]
  refine wpAny_pure (wpAny_newFunctionEnv L.nocell (fun y hy => L.par y.1 (List.of_mem_zip hy).1) (fun h₁ hns hsb => ⟨lim.fresh _ hsb, codeAny_func ?_⟩) L.kind)
  have hk₁ : ∀ b o, s.heap.get? b = some o → h₁.get? b = some o := fun b o e => hsb.extBut b o (Nat.ne_of_lt (Heap.lt_size e)) (Heap.get?_push_of_some _ e)
  obtain ⟨t, ht, hq⟩ := hbody A outer s vs (overQ H S Q) (overE H S E) (hr.deeper _) hsp
  have I := inv_startL (CX := CXe P w) (E := overE H S E) (t1 := s.toks + (ps.zip us).length) L hr.hd e1 C2 hl r hns hk₁
  refine wpAny_mono (ht [] _ _ _ _ I hq) (fun fl s2 q => ?_) fun _ _ z => z
  cases fl with
  | ret u =>
    obtain ⟨v, σ', H', J, rv, q⟩ := q
    exact ⟨v, H', J.os, J.bare, J.base, J.hok, rv, q⟩
  | next =>
    obtain ⟨σ', H', J, q⟩ := q
    exact ⟨.non, H', J.os, J.bare, J.base, J.hok, rfl, q⟩
  | brk => obtain ⟨_, _, _, z⟩ := q; exact False.elim z
  | cont => obtain ⟨_, _, _, z⟩ := q; exact False.elim z
theorem fnR_of {CX : CXT} {k : Nat} {x qual : Str} {st : Stmt} {fd : FuncData} {sp : Sp} (F : Fun K x qual st f fd) (S : FnScope N ps (defScope st))
    (len : ∀ vs H Q E, sp vs H Q E → vs.length = ps.length)
    (hbody : ∀ (A : Around) (outer : List Env) (s : Shared) (H : Hp) (vs : List V) (Q : VK) (E : XK), Room k (A.deeper (envOfC qual (defScope st) s.heap.objs.size f fd.code)) → sp vs H Q E →
      ∃ t, PR (cxOf CX P w K mg base N qual (defScope st) f fd.code A outer s H E) (defBody st) t ∧ t Q (start N vs) H) :
    FnOk P w K mg base CX (k + 1) f fd ps sp := by
  obtain ⟨oc, od, kV, doc, pm, an, cdv, ct, osl, rfl, lk, hcd⟩ := F.ex
  refine ⟨len, fun A outer s H args us vs Q E hr e0 hb r hsp => ?_⟩
  have hl := len _ _ _ _ hsp
  have KX : K.In s.heap := e0.mod.kin.keeps fun b o e => (e0.bs b o e).1
  have lim : s.heap.NoLimit := e0.mod.nolimit.keeps fun b o e => (e0.bs b o e).1
  have hkind : ∀ y ∈ ps.zip us, (defScope st).names.lookup y.1 = some .local ∨ ((defScope st).names.lookup y.1 = some .cell ∧ ((cellsFrom (s.heap.objs.size + 1) (defScope st).names []).lookup y.1).isSome = true) := fun y hy => by
    rcases S.par y.1 (List.of_mem_zip hy).1 with q | q
    · exact .inl q
    · exact .inr ⟨q, PySem.W.cellsFrom_some _ _ _ (.inl q)⟩
  refine codeAny_call_function hr.depth (KX _ _ lk) rfl S.co S.gen rfl (PySem.W.codeRec_of KX hcd) (hb _ _ _ _ ?_)
  refine wpAny_newFunctionEnv_cells S.kind hkind fun env he s1 x => ?_
  subst he
  refine ⟨lim.keeps x.toInCall.keep, codeAny_func ?_⟩
  obtain ⟨t, ht, hq⟩ := hbody A outer s H vs Q E (hr.deeper _) hsp
  have I : Inv (cxOf CX P w K mg base N qual (defScope st) f cdv A outer s H E) [] (start N vs) H s1 := inv_start S hr.hd e0 hl r x
  refine wpAny_mono (ht.run s1 (start N vs) H Q I hq) (fun fl s' hs => ?_) fun e s' hs => hs
  obtain ⟨u, e, q⟩ := hs
  subst e
  exact q
end
end My
set_option Elab.async false
set_option linter.all false
set_option maxRecDepth 100000
set_option maxHeartbeats 4000000
namespace My
open PySem PySem.Spec PyProof.Rows L2
section
variable {X : Cx} {pos : Pos}
end
end My
set_option Elab.async false
set_option linter.all false
set_option maxRecDepth 100000
set_option maxHeartbeats 4000000
namespace My
open PySem PySem.Spec PyProof.Rows
def IsRv (h : Heap) (it t : Addr) (i : Int) : Prop := ∃ o, h.get? it = some o ∧ o.cls = .type "reversed" ∧ o.data = .fields #[.ref t, rawInt i]
section
variable {P : Program} {w : World} {A : Around} {E : Value → Shared → Prop} {s : Shared}
theorem IsRv.ty {it t : Addr} {i : Int} (x : IsRv s.heap it t i) : s.TypeIs (.ref it) "reversed" := let ⟨o, a, b, _⟩ := x; ⟨o, a, b⟩
end
open L2
theorem IsRv.at {h h' : Heap} {it t : Addr} {i : Int} (x : IsRv h it t i) (e : ∀ o, h.get? it = some o → h'.get? it = some o) : IsRv h' it t i := let ⟨o, ho, r⟩ := x; ⟨o, e _ ho, r⟩
section
variable {X : Cx} {tg : Expr}
end
end My
set_option Elab.async false
set_option linter.all false
set_option maxRecDepth 100000
set_option maxHeartbeats 4000000
namespace My
open PySem PySem.Spec PyProof.Rows
def lcg : Nat → Nat → Nat
  | 0, i => i
  | n + 1, i => lcg n (5 * i + 1)
theorem lcg_eq : ∀ n i, 4 * lcg n i + 1 = 5 ^ n * (4 * i + 1) := by
  intro n
  induction n with
  | zero => intro i; unfold lcg; omega
  | succ n ih =>
    intro i
    rw [lcg, ih, Nat.pow_succ, Nat.mul_assoc]
    congr 1
    omega
theorem pow5 (e : Nat) : ∃ q, 5 ^ e = 4 * q + 1 := by
  induction e with
  | zero => exact ⟨0, rfl⟩
  | succ e ih =>
    obtain ⟨q, hq⟩ := ih
    exact ⟨5 * q + 1, by rw [Nat.pow_succ, hq]; omega⟩
theorem odd_cop (k q : Nat) : Nat.Coprime (2 ^ k) (2 * q + 1) := by
  refine Nat.Coprime.pow_left k ?_
  unfold Nat.Coprime
  rw [Nat.gcd_rec, show (2 * q + 1) % 2 = 1 by omega]
  decide
theorem two_dvd : ∀ k d, 2 ^ (k + 2) ∣ 5 ^ d - 1 → 2 ^ k ∣ d := by
  intro k
  induction k with
  | zero => intro d _; exact Nat.one_dvd d
  | succ k ih =>
    intro d h
    obtain ⟨e, he⟩ : ∃ e, d = 2 * e ∨ d = 2 * e + 1 := ⟨d / 2, by omega⟩
    obtain ⟨q, hq⟩ := pow5 e
    have sq : 5 ^ (2 * e) = 8 * (q * (2 * q + 1)) + 1 := by
      rw [show 2 * e = e + e by omega, Nat.pow_add, hq, Nat.mul_add, Nat.add_mul, Nat.mul_add, Nat.mul_one, Nat.mul_one, Nat.one_mul]
      rw [show 4 * q * (4 * q) = 16 * (q * q) by rw [Nat.mul_mul_mul_comm], show q * (2 * q) = 2 * (q * q) by rw [Nat.mul_left_comm]]
      omega
    have e8 : 2 ^ (k + 1 + 2) = 8 * 2 ^ k := by rw [Nat.add_assoc, Nat.pow_add]; omega
    rcases he with rfl | rfl
    · rw [sq, Nat.add_sub_cancel, e8] at h
      have h1 := Nat.dvd_of_mul_dvd_mul_left (by decide) h
      have h2 := Nat.Coprime.dvd_of_dvd_mul_right (odd_cop k q) h1
      have h3 : 2 ^ (k + 2) ∣ 5 ^ e - 1 := by
        rw [hq, Nat.add_sub_cancel, Nat.pow_add, Nat.mul_comm]
        exact Nat.mul_dvd_mul_left 4 h2
      rw [Nat.pow_succ, Nat.mul_comm]
      exact Nat.mul_dvd_mul_left 2 (ih e h3)
    · exfalso
      rw [e8, Nat.pow_succ, sq] at h
      obtain ⟨c, hc⟩ := Nat.dvd_trans (Nat.dvd_mul_right 8 _) h
      omega
theorem lcg_inj {k n m i : Nat} (hl : n < m) (h : lcg n i % 2 ^ k = lcg m i % 2 ^ k) : 2 ^ k ∣ m - n := by
  have h1 : 2 ^ k ∣ lcg m i - lcg n i := Nat.dvd_of_mod_eq_zero (Nat.sub_mod_eq_zero_of_mod_eq h.symm)
  have h2 : 2 ^ (k + 2) ∣ 4 * (lcg m i - lcg n i) := by
    rw [Nat.pow_add, Nat.mul_comm]
    exact Nat.mul_dvd_mul_left 4 h1
  have e : 4 * (lcg m i - lcg n i) = 5 ^ n * ((4 * i + 1) * (5 ^ (m - n) - 1)) := by
    have a := lcg_eq n i
    have b := lcg_eq m i
    have c : 5 ^ m = 5 ^ n * 5 ^ (m - n) := by rw [← Nat.pow_add]; congr 1; omega
    rw [Nat.mul_sub, Nat.mul_sub, Nat.mul_one, Nat.mul_sub, ← a, show 5 ^ n * ((4 * i + 1) * 5 ^ (m - n)) = 5 ^ m * (4 * i + 1) by rw [c, Nat.mul_assoc, Nat.mul_comm (4 * i + 1)], ← b]
    omega
  rw [e] at h2
  obtain ⟨q, hq⟩ := pow5 n
  rw [hq, show 4 * q + 1 = 2 * (2 * q) + 1 by omega, show 4 * i + 1 = 2 * (2 * i) + 1 by omega] at h2
  exact two_dvd k _ (Nat.Coprime.dvd_of_dvd_mul_left (odd_cop _ _) (Nat.Coprime.dvd_of_dvd_mul_left (odd_cop _ _) h2))
theorem nd_le : ∀ {l m : List Nat}, l.Nodup → (∀ x ∈ l, x ∈ m) → l.length ≤ m.length := by
  intro l
  induction l with
  | nil => intro m _ _; exact Nat.zero_le _
  | cons a l ih =>
    intro m nd h
    rw [List.nodup_cons] at nd
    have ha := h a List.mem_cons_self
    have := ih (m := m.erase a) nd.2 fun x hx => (List.mem_erase_of_ne fun e : x = a => nd.1 (e ▸ hx)).mpr (h x (List.mem_cons_of_mem _ hx))
    rw [List.length_erase_of_mem ha] at this
    have := List.length_pos_of_mem ha
    rw [List.length_cons]; omega
theorem lcg_free (k i : Nat) (occ : List Nat) (ho : occ.length < 2 ^ k) : ∃ n, n < 2 ^ k ∧ lcg n i % 2 ^ k ∉ occ := by
  refine Classical.byContradiction fun hc => ?_
  have hall : ∀ n, n < 2 ^ k → lcg n i % 2 ^ k ∈ occ := fun n hn => Classical.byContradiction fun h => hc ⟨n, hn, h⟩
  have nd : ((List.range (2 ^ k)).map fun n => lcg n i % 2 ^ k).Nodup := by
    unfold List.Nodup
    rw [List.pairwise_map]
    refine List.Pairwise.imp_of_mem ?_ List.pairwise_lt_range
    intro a b ha hb hl e
    have := Nat.le_of_dvd (by omega) (lcg_inj hl e)
    have := List.mem_range.mp hb
    omega
  have := nd_le nd fun x hx => by
    obtain ⟨n, hn, rfl⟩ := List.mem_map.mp hx
    exact hall n (List.mem_range.mp hn)
  rw [List.length_map, List.length_range] at this
  omega
theorem lcg_cong {M : Nat} : ∀ n i j, i % M = j % M → lcg n i % M = lcg n j % M := by
  intro n
  induction n with
  | zero => intro i j h; exact h
  | succ n ih =>
    intro i j h
    exact ih _ _ (by rw [Nat.add_mod, Nat.mul_mod, h, ← Nat.mul_mod, ← Nat.add_mod])
def leaps (mask : Nat) : Nat → Nat × Nat → Nat × Nat
  | 0, p => p
  | n + 1, p => leaps mask n (SetTable.leap mask p.1 p.2)
theorem leaps_add (mask : Nat) : ∀ a b p, leaps mask (a + b) p = leaps mask b (leaps mask a p) := by
  intro a
  induction a with
  | zero => intro b p; rw [Nat.zero_add]; rfl
  | succ a ih => intro b p; rw [Nat.succ_add]; exact ih b _
theorem leaps_2 (mask : Nat) : ∀ n p, (leaps mask n p).2 = p.2 / 32 ^ n := by
  intro n
  induction n with
  | zero => intro p; rw [Nat.pow_zero, Nat.div_one]; rfl
  | succ n ih =>
    intro p
    rw [leaps, ih]
    show p.2 / 32 / 32 ^ n = _
    rw [Nat.div_div_eq_div_mul, Nat.pow_succ, Nat.mul_comm 32]
theorem leaps_le (mask : Nat) : ∀ n p, p.1 ≤ mask → (leaps mask n p).1 ≤ mask := by
  intro n
  induction n with
  | zero => intro p h; exact h
  | succ n ih => intro p _; exact ih _ (Nat.le_of_lt_succ (Nat.mod_lt _ (Nat.succ_pos _)))
theorem leaps_lcg {mask : Nat} : ∀ n i, i ≤ mask → (leaps mask n (i, 0)).1 = lcg n i % (mask + 1) := by
  intro n
  induction n with
  | zero => intro i h; exact (Nat.mod_eq_of_lt (Nat.lt_succ_of_le h)).symm
  | succ n ih =>
    intro i h
    have e : SetTable.leap mask i 0 = ((i * 5 + 1) % (mask + 1), 0) := rfl
    rw [leaps]
    show (leaps mask n (SetTable.leap mask i 0)).1 = _
    rw [e, ih _ (Nat.le_of_lt_succ (Nat.mod_lt _ (Nat.succ_pos _))), lcg]
    exact lcg_cong n _ _ (by rw [Nat.mod_mod, Nat.mul_comm])
theorem leap_free {mask k i p : Nat} (hm : mask + 1 = 2 ^ k) (hi : i ≤ mask) (hp : p < 2 ^ 64) (occ : List Nat) (ho : occ.length ≤ mask) : ∃ n, n < mask + 14 ∧ (leaps mask n (i, p)).1 ∉ occ ∧ (leaps mask n (i, p)).1 ≤ mask := by
  have h2 : (leaps mask 13 (i, p)).2 = 0 := by rw [leaps_2]; exact Nat.div_eq_of_lt (Nat.lt_trans hp (by decide))
  have h1 := leaps_le mask 13 (i, p) hi
  obtain ⟨n, hn, hf⟩ := lcg_free k (leaps mask 13 (i, p)).1 occ (by omega)
  refine ⟨13 + n, by omega, ?_, leaps_le mask _ _ hi⟩
  rw [leaps_add, show leaps mask 13 (i, p) = ((leaps mask 13 (i, p)).1, 0) from Prod.ext rfl h2, leaps_lcg _ _ h1, hm]
  exact hf
theorem runEnd_le {mask i : Nat} (h : i ≤ mask) : SetTable.runEnd mask i ≤ mask ∧ i ≤ SetTable.runEnd mask i ∧ SetTable.runEnd mask i ≤ i + 9 := by
  unfold SetTable.runEnd
  split <;> omega
theorem free_is {mask : Nat} {owner : Array (Option Nat)} : ∀ n fuel i p, n < fuel → i ≤ mask → owner.getD (leaps mask n (i, p)).1 (some 0) = none → ∃ j, SetTable.layClean.free mask owner fuel i p = some j ∧ j ≤ mask ∧ owner.getD j (some 0) = none := by
  intro n
  induction n with
  | zero =>
    intro fuel i p hf hi ho
    obtain ⟨fuel, rfl⟩ : ∃ f, fuel = f + 1 := ⟨fuel - 1, by omega⟩
    obtain ⟨r1, r2, _⟩ := runEnd_le hi
    rw [SetTable.layClean.free]
    cases hq : (List.range (SetTable.runEnd mask i + 1 - i)).find? fun k => (owner.getD (i + k) (some 0)).isNone with
    | some k =>
      have := List.mem_range.mp (List.mem_of_find?_eq_some hq)
      exact ⟨_, rfl, by omega, by simpa using List.find?_some hq⟩
    | none =>
      have := List.find?_eq_none.mp hq 0 (List.mem_range.mpr (by omega))
      rw [Nat.add_zero] at this
      have ho : owner.getD i (some 0) = none := ho
      rw [ho] at this
      exact absurd rfl this
  | succ n ih =>
    intro fuel i p hf hi ho
    obtain ⟨fuel, rfl⟩ : ∃ f, fuel = f + 1 := ⟨fuel - 1, by omega⟩
    obtain ⟨r1, r2, _⟩ := runEnd_le hi
    rw [SetTable.layClean.free]
    cases hq : (List.range (SetTable.runEnd mask i + 1 - i)).find? fun k => (owner.getD (i + k) (some 0)).isNone with
    | some k =>
      have := List.mem_range.mp (List.mem_of_find?_eq_some hq)
      exact ⟨_, rfl, by omega, by simpa using List.find?_some hq⟩
    | none => exact ih fuel _ _ (by omega) (Nat.le_of_lt_succ (Nat.mod_lt _ (Nat.succ_pos _))) ho
theorem bits_lt (h : Int) : SetTable.bits h < 2 ^ 64 := by unfold SetTable.bits; omega
theorem fm_congr {β : Type} {f g : Nat → Option β} : ∀ {l : List Nat}, (∀ x ∈ l, f x = g x) → l.filterMap f = l.filterMap g := by
  intro l
  induction l with
  | nil => intro _; rfl
  | cons a l ih =>
    intro h
    rw [List.filterMap_cons, List.filterMap_cons, h a List.mem_cons_self, ih fun x hx => h x (List.mem_cons_of_mem _ hx)]
theorem fm_step {f g : Nat → Option Nat} {j k : Nat} : ∀ {l : List Nat}, l.Nodup → j ∈ l → f j = none → g j = some k → (∀ i, i ≠ j → g i = f i) → (l.filterMap g).Perm (k :: l.filterMap f) := by
  intro l
  induction l with
  | nil => intro _ h; cases h
  | cons a l ih =>
    intro nd hj hf hg he
    rw [List.nodup_cons] at nd
    by_cases e : a = j
    · subst e
      rw [List.filterMap_cons_some hg, List.filterMap_cons_none hf, fm_congr fun x hx => he x fun e => nd.1 (e ▸ hx)]
    · have := ih nd.2 ((List.mem_cons.mp hj).resolve_left fun x => e x.symm) hf hg he
      cases ha : f a with
      | none => rw [List.filterMap_cons_none ha, List.filterMap_cons_none ((he a e).trans ha)]; exact this
      | some x => rw [List.filterMap_cons_some ha, List.filterMap_cons_some ((he a e).trans ha)]; exact (this.cons x).trans (List.Perm.swap _ _ _)
def layStep (mask : Nat) (acc : Option (Array (Option Nat) × Nat)) (h : Int) : Option (Array (Option Nat) × Nat) := do
  let (owner, k) ← acc
  let j ← SetTable.layClean.free mask owner (SetTable.turns mask) (SetTable.bits h % (mask + 1)) (SetTable.bits h)
  pure (owner.setIfInBounds j (some k), k + 1)
theorem lay_go {mask K : Nat} (hm : mask + 1 = 2 ^ K) : ∀ (hs : List Int) (owner : Array (Option Nat)) (k : Nat) (occ : List Nat), owner.size = mask + 1 → occ.length = k → (∀ j, j ≤ mask → owner.getD j (some 0) ≠ none → j ∈ occ) → k + hs.length ≤ mask →
    ((List.range (mask + 1)).filterMap fun j => owner.getD j none).Perm (List.range k) →
    ∃ owner' : Array (Option Nat), hs.foldl (layStep mask) (some (owner, k)) = some (owner', k + hs.length) ∧ owner'.size = mask + 1 ∧ ((List.range (mask + 1)).filterMap fun j => owner'.getD j none).Perm (List.range (k + hs.length)) := by
  intro hs
  induction hs with
  | nil => intro owner k occ hz ho hocc hk hp; exact ⟨owner, rfl, hz, hp⟩
  | cons h hs ih =>
    intro owner k occ hz ho hocc hk hp
    rw [List.length_cons] at hk
    have hb : SetTable.bits h % (mask + 1) ≤ mask := Nat.le_of_lt_succ (Nat.mod_lt _ (Nat.succ_pos _))
    obtain ⟨n, hn, hf, hle⟩ := leap_free hm hb (bits_lt h) occ (by omega)
    obtain ⟨j, hj, hjm, hjo⟩ := free_is (owner := owner) n (SetTable.turns mask) _ _ (by unfold SetTable.turns; omega) hb (Classical.byContradiction fun hc => hf (hocc _ hle hc))
    have e : layStep mask (some (owner, k)) h = some (owner.setIfInBounds j (some k), k + 1) := by
      unfold layStep
      simp only [Option.bind_eq_bind, Option.bind_some, hj, Option.pure_def]
    have gd : ∀ (i : Nat) (d : Option Nat), i ≠ j → (owner.setIfInBounds j (some k)).getD i d = owner.getD i d := fun i d hi => by
      rw [Array.getD_eq_getD_getElem?, Array.getD_eq_getD_getElem?, Array.getElem?_setIfInBounds_ne (Ne.symm hi)]
    have gj : ∀ d : Option Nat, (owner.setIfInBounds j (some k)).getD j d = some k := fun d => by
      rw [Array.getD_eq_getD_getElem?, Array.getElem?_setIfInBounds_self_of_lt (by omega)]; rfl
    have oj : owner.getD j none = none := by
      rw [Array.getD_eq_getD_getElem?] at hjo ⊢
      cases q : owner[j]? with
      | none => rfl
      | some x => rw [q] at hjo; exact hjo
    obtain ⟨owner', h1, h2, h3⟩ := ih (owner.setIfInBounds j (some k)) (k + 1) (j :: occ) (by rw [Array.size_setIfInBounds]; exact hz) (by rw [List.length_cons, ho]) (fun i hi hne => by
      by_cases ei : i = j
      · rw [ei]; exact List.mem_cons_self
      · rw [gd i _ ei] at hne; exact List.mem_cons_of_mem _ (hocc i hi hne)) (by omega)
      ((fm_step List.nodup_range (List.mem_range.mpr (by omega)) oj (gj none) fun i hi => gd i none hi).trans (by
        rw [List.range_succ (n := k)]
        exact (hp.cons k).trans (List.perm_append_singleton k _).symm))
    refine ⟨owner', ?_, h2, ?_⟩
    · rw [List.foldl_cons, e, h1, List.length_cons]; congr 2; omega
    · rw [List.length_cons, show k + (hs.length + 1) = k + 1 + hs.length by omega]; exact h3
theorem layClean_is {mask K : Nat} (hm : mask + 1 = 2 ^ K) (hs : Array Int) (hz : hs.size ≤ mask) : ∃ owner, SetTable.layClean mask hs = some owner ∧ ((List.range (mask + 1)).filterMap fun j => owner.getD j none).Perm (List.range hs.size) := by
  obtain ⟨owner, h1, _, h3⟩ := lay_go hm hs.toList (Array.replicate (mask + 1) none) 0 [] (Array.size_replicate ..) rfl (fun j hj hne => by
    exfalso; apply hne
    rw [Array.getD_eq_getD_getElem?, Array.getElem?_replicate, if_pos (by omega)]; rfl) (by rw [Array.length_toList]; omega) (by
    rw [List.filterMap_eq_nil_iff.mpr fun j hj => by
      rw [Array.getD_eq_getD_getElem?, Array.getElem?_replicate, if_pos (List.mem_range.mp hj)]; rfl]
    exact List.Perm.refl _)
  refine ⟨owner, ?_, ?_⟩
  · unfold SetTable.layClean
    rw [← Array.foldl_toList]
    have : hs.toList.foldl (layStep mask) (some (Array.replicate (mask + 1) none, 0)) = some (owner, 0 + hs.toList.length) := h1
    unfold layStep at this
    rw [this]; rfl
  · rw [Nat.zero_add, Array.length_toList] at h3; exact h3
theorem sizeAbove_go (n : Nat) : ∀ f a, n < 2 ^ (a + f) → ∃ k, a ≤ k ∧ SetTable.sizeAbove.go n f (2 ^ a) = 2 ^ k ∧ n < 2 ^ k := by
  intro f
  induction f with
  | zero => intro a h; exact ⟨a, Nat.le_refl _, by rw [SetTable.sizeAbove.go], h⟩
  | succ f ih =>
    intro a h
    rw [SetTable.sizeAbove.go]
    split
    · obtain ⟨k, h1, h2, h3⟩ := ih (a + 1) (by rw [show a + 1 + f = a + (f + 1) by omega]; exact h)
      rw [Nat.pow_succ] at h2
      exact ⟨k, by omega, h2, h3⟩
    · exact ⟨a, Nat.le_refl _, rfl, by omega⟩
theorem sizeAbove_is {n : Nat} (h : n < 2 ^ 67) : ∃ k, 3 ≤ k ∧ SetTable.sizeAbove n = 2 ^ k ∧ n < 2 ^ k := sizeAbove_go n 64 3 h
theorem sizeAbove_go_le (n : Nat) (hn : n < 2 ^ 12) : ∀ f a, a ≤ 12 → SetTable.sizeAbove.go n f (2 ^ a) ≤ 2 ^ 12 := by
  intro f
  induction f with
  | zero => intro a h; rw [SetTable.sizeAbove.go]; exact Nat.pow_le_pow_right (by decide) h
  | succ f ih =>
    intro a h
    rw [SetTable.sizeAbove.go]
    split
    · rename_i hh
      rw [← Nat.pow_succ]
      refine ih (a + 1) ?_
      by_cases e : a = 12
      · subst e; omega
      · omega
    · exact Nat.pow_le_pow_right (by decide) h
structure TB (b : Bool) (t : SetTable) (n : Nat) : Prop where
  tb : Tb b t
  msk : ∃ k, 3 ≤ k ∧ t.mask + 1 = 2 ^ k
  ub : t.mask < 4096
  sz : t.place.size = n
  few : n * 5 < t.mask * 3
theorem TB.fresh (b : Bool) : TB b (.fresh 0 0 b) 0 := ⟨Tb.fresh b, ⟨3, Nat.le_refl _, rfl⟩, by show 7 < 4096; decide, rfl, by show 0 * 5 < 7 * 3; decide⟩
theorem TB.plain {b : Bool} {t : SetTable} {n : Nat} (h : TB b t n) : TB b { t with plain := false } n := ⟨h.tb.plain, h.msk, h.ub, h.sz, h.few⟩
theorem TB.gave {b : Bool} {t : SetTable} {n : Nat} (h : TB b t n) : t.gaveWay = false := by
  obtain ⟨k, hk, hm⟩ := h.msk
  unfold SetTable.gaveWay
  have : (2 : Nat) ^ k = 2 * 2 ^ (k - 1) := by rw [Nat.mul_comm, ← Nat.pow_succ]; congr 1; omega
  have : t.mask % 2 = 1 := by omega
  rw [this]; rfl
theorem TB.fits {b : Bool} {t : SetTable} {n : Nat} (h : TB b t n) : t.fits n = true := by
  have := h.few
  unfold SetTable.fits SetTable.fill
  rw [h.tb.du, h.sz]
  simp only [beq_self_eq_true, Array.size_empty, Nat.add_zero, Bool.true_and, decide_eq_true_eq]
  omega
theorem relaid_is {b : Bool} {t : SetTable} (hs : Array Int) (ht : t.led = b) (h0 : 0 < hs.size) (hz : hs.size < 1024) : ∃ t' order, t.relaid hs (SetTable.grown hs.size) = some (t', order) ∧ order.toList.Perm (List.range hs.size) ∧ TB b t' hs.size := by
  have hg : SetTable.grown hs.size = hs.size * 4 := by unfold SetTable.grown; rw [if_neg (by omega)]
  obtain ⟨k, hk3, hk, hlt⟩ := sizeAbove_is (n := SetTable.grown hs.size) (by rw [hg]; omega)
  rw [hg] at hlt
  have hm : SetTable.sizeAbove (SetTable.grown hs.size) - 1 + 1 = 2 ^ k := by rw [hk]; omega
  obtain ⟨owner, h1, h2⟩ := layClean_is hm hs (by omega)
  have l2 : (((List.range (SetTable.sizeAbove (SetTable.grown hs.size) - 1 + 1)).filterMap fun j => (owner.getD j none).map (j, ·)).map (·.2)) = (List.range (SetTable.sizeAbove (SetTable.grown hs.size) - 1 + 1)).filterMap fun j => owner.getD j none := by
    rw [List.map_filterMap]
    exact fm_congr fun j _ => by cases owner.getD j none <;> rfl
  have ln : ((List.range (SetTable.sizeAbove (SetTable.grown hs.size) - 1 + 1)).filterMap fun j => (owner.getD j none).map (j, ·)).length = hs.size := by
    rw [← List.length_map (f := (·.2)), l2, h2.length_eq, List.length_range]
  have eq : t.relaid hs (SetTable.grown hs.size) = some ({ mask := SetTable.sizeAbove (SetTable.grown hs.size) - 1, place := (List.map (·.1) ((List.range (SetTable.sizeAbove (SetTable.grown hs.size) - 1 + 1)).filterMap fun j => (owner.getD j none).map (j, ·))).toArray, dummies := #[], finger := t.finger, led := t.led, moves := t.movedTo (SetTable.sizeAbove (SetTable.grown hs.size) - 1), plain := t.plain }, (List.map (·.2) ((List.range (SetTable.sizeAbove (SetTable.grown hs.size) - 1 + 1)).filterMap fun j => (owner.getD j none).map (j, ·))).toArray) := by unfold SetTable.relaid SetTable.laid; rw [h1]; rfl
  refine ⟨_, _, eq, ?_, ⟨?_, rfl, ht⟩, ⟨k, hk3, hm⟩, ?_, ?_, ?_⟩
  · rw [List.toList_toArray, l2]; exact h2
  · refine up_live (fun j p e => ?_) List.pairwise_lt_range
    cases hw : owner.getD j none with
    | none => rw [hw] at e; cases e
    | some k => rw [hw] at e; cases e; rfl
  · show SetTable.sizeAbove (SetTable.grown hs.size) - 1 < 4096
    have := sizeAbove_go_le (SetTable.grown hs.size) (by rw [hg]; omega) 64 3 (by decide)
    have : SetTable.sizeAbove (SetTable.grown hs.size) ≤ 2 ^ 12 := this
    omega
  · dsimp only
    rw [List.size_toArray, List.length_map]; exact ln
  · show _ < (SetTable.sizeAbove (SetTable.grown hs.size) - 1) * 3
    omega
theorem slot_free {b : Bool} {t : SetTable} (h : Tb b t) {j : Nat} (e : j ∉ t.place.toList) : t.slot j = .empty := by
  unfold SetTable.slot
  dsimp only
  have : (t.place[SetTable.below t.place j]? == some j) = false := by
    cases q : t.place[SetTable.below t.place j]? == some j with
    | false => rfl
    | true => exact absurd (Array.mem_toList_iff.mpr (Array.mem_of_getElem? (eq_of_beq q))) e
  rw [this, h.du, no_has]
  rfl
theorem slot_dummy {b : Bool} {t : SetTable} (h : Tb b t) {j : Nat} : t.slot j ≠ .dummy := fun e => by
  unfold SetTable.slot at e
  rw [h.du, no_has] at e
  dsimp only at e
  split at e
  · cases e
  · simp at e
def advn (t : SetTable) : Nat → SetTable.Probe → SetTable.Probe
  | 0, p => p
  | n + 1, p => advn t n (t.advance p)
theorem advn_add (t : SetTable) : ∀ a b p, advn t (a + b) p = advn t b (advn t a p) := by
  intro a
  induction a with
  | zero => intro b p; rw [Nat.zero_add]; rfl
  | succ a ih => intro b p; rw [Nat.succ_add]; exact ih b _
theorem adv_run (t : SetTable) : ∀ mo (p : SetTable.Probe), p.more = mo → (advn t (mo + 1) p).j = (SetTable.leap t.mask p.i p.perturb).1 ∧ (advn t (mo + 1) p).i = (SetTable.leap t.mask p.i p.perturb).1 ∧ (advn t (mo + 1) p).perturb = (SetTable.leap t.mask p.i p.perturb).2 ∧ (advn t (mo + 1) p).more ≤ 9 := by
  intro mo
  induction mo with
  | zero =>
    intro p h
    have e : t.advance p = { p with j := (SetTable.leap t.mask p.i p.perturb).1, more := SetTable.runEnd t.mask (SetTable.leap t.mask p.i p.perturb).1 - (SetTable.leap t.mask p.i p.perturb).1, i := (SetTable.leap t.mask p.i p.perturb).1, perturb := (SetTable.leap t.mask p.i p.perturb).2 } := by
      unfold SetTable.advance
      rw [if_neg (by omega)]
    rw [advn, advn, e]
    refine ⟨rfl, rfl, rfl, ?_⟩
    have := runEnd_le (mask := t.mask) (i := (SetTable.leap t.mask p.i p.perturb).1) (Nat.le_of_lt_succ (Nat.mod_lt _ (Nat.succ_pos _)))
    dsimp only
    omega
  | succ mo ih =>
    intro p h
    have e : t.advance p = { p with j := p.j + 1, more := p.more - 1 } := by
      unfold SetTable.advance
      rw [if_pos (by omega)]
    have := ih (t.advance p) (by rw [e]; dsimp only; omega)
    rw [advn]
    have ei : (t.advance p).i = p.i := by rw [e]
    have ep : (t.advance p).perturb = p.perturb := by rw [e]
    rw [ei, ep] at this
    exact this
theorem hit_leap (t : SetTable) : ∀ n (p : SetTable.Probe), p.more ≤ 9 → ∃ m, m ≤ p.more + 1 + 10 * n ∧ (advn t m p).j = (leaps t.mask (n + 1) (p.i, p.perturb)).1 := by
  intro n
  induction n with
  | zero => intro p _; exact ⟨p.more + 1, by omega, (adv_run t _ p rfl).1⟩
  | succ n ih =>
    intro p hp
    obtain ⟨_, h2, h3, h4⟩ := adv_run t _ p rfl
    obtain ⟨m, hm, hj⟩ := ih _ h4
    refine ⟨p.more + 1 + m, by omega, ?_⟩
    rw [advn_add, hj, h2, h3]
    rfl
theorem adv_dummy {t : SetTable} {p : SetTable.Probe} (h : p.dummy = none) : (t.advance p).dummy = none := by
  unfold SetTable.advance
  split
  · exact h
  · exact h
theorem TB.start {b : Bool} {t : SetTable} {n : Nat} (h : TB b t n) (x : Int) : (t.probeStart x).dummy = none ∧ ∃ m, m < 10 * SetTable.turns t.mask ∧ t.slot (advn t m (t.probeStart x)).j = .empty := by
  refine ⟨by unfold SetTable.probeStart; rfl, ?_⟩
  obtain ⟨k, hk, hm⟩ := h.msk
  have hf := h.few
  have hi : SetTable.bits x % (t.mask + 1) ≤ t.mask := Nat.le_of_lt_succ (Nat.mod_lt _ (Nat.succ_pos _))
  obtain ⟨n', hn, hfr, _⟩ := leap_free hm hi (bits_lt x) t.place.toList (by rw [Array.length_toList, h.sz]; omega)
  unfold SetTable.turns
  cases n' with
  | zero => exact ⟨0, by omega, slot_free h.tb hfr⟩
  | succ n' =>
    have r := runEnd_le hi
    obtain ⟨m, hm2, hj⟩ := hit_leap t n' (t.probeStart x) (by unfold SetTable.probeStart; dsimp only; omega)
    have hmo : (t.probeStart x).more ≤ 9 := by unfold SetTable.probeStart; dsimp only; omega
    refine ⟨m, by omega, ?_⟩
    rw [hj]
    exact slot_free h.tb hfr
theorem probe_hit {b : Bool} {t : SetTable} (h : Tb b t) {hs : Nat → Int} {x : Int} : ∀ m fuel (p : SetTable.Probe), m < fuel → p.dummy = none → t.slot (advn t m p).j = .empty →
    (∃ j, SetTable.probe.go t hs x fuel p = some (.empty j none) ∧ t.slot j = .empty) ∨ ∃ j i q m', m' < m ∧ SetTable.probe.go t hs x fuel p = some (.candidate j i q) ∧ t.slot j = .live i ∧ hs i = x ∧ q.dummy = none ∧ t.slot (advn t m' q).j = .empty := by
  intro m
  induction m with
  | zero =>
    intro fuel p hf hd he
    obtain ⟨fuel, rfl⟩ : ∃ f, fuel = f + 1 := ⟨fuel - 1, by omega⟩
    have he : t.slot p.j = .empty := he
    exact .inl ⟨p.j, by rw [SetTable.probe.go, he, hd], he⟩
  | succ m ih =>
    intro fuel p hf hd he
    obtain ⟨fuel, rfl⟩ : ∃ f, fuel = f + 1 := ⟨fuel - 1, by omega⟩
    rw [SetTable.probe.go]
    cases hs' : t.slot p.j with
    | empty => exact .inl ⟨p.j, by rw [hd], hs'⟩
    | dummy => exact absurd hs' (slot_dummy h)
    | live i =>
      dsimp only
      split
      · rename_i hh
        exact .inr ⟨p.j, i, t.advance p, m, by omega, rfl, hs', by simpa using hh, adv_dummy hd, he⟩
      · rcases ih fuel (t.advance p) (by omega) (adv_dummy hd) he with a | ⟨j, i', q, m', h1, r⟩
        · exact .inl a
        · exact .inr ⟨j, i', q, m', by omega, r⟩
end My
set_option Elab.async false
set_option linter.all false
set_option maxRecDepth 100000
set_option maxHeartbeats 4000000
namespace My
open PySem PySem.Spec PyProof.Rows
theorem slot_live {t : SetTable} {j i : Nat} (h : t.slot j = .live i) : i < t.place.size := by
  unfold SetTable.slot at h
  dsimp only at h
  split at h
  · rename_i hh
    cases h
    have := eq_of_beq hh
    exact (Array.getElem?_eq_some_iff.mp this).1
  · split at h <;> cases h
theorem hash_carried (n : Nat) {v : Value} (h : carriedByValue v = true) : ∃ b, hashByValue n v = pure b := by
  cases v with
  | ref a => simp [carriedByValue] at h
  | _ => cases n <;> first | exact ⟨_, rfl⟩ | exact ⟨_, by unfold hashByValue; rfl⟩ | exact ⟨_, by simp [hashByValue]; rfl⟩
theorem class_carried (n : Nat) {v : Value} (h : carriedByValue v = true) : ofAClassStatement n v = pure false := by
  cases v with
  | ref a => simp [carriedByValue] at h
  | _ => cases n <;> first | rfl | (unfold ofAClassStatement; rfl) | simp [ofAClassStatement]
section
variable {P : Program} {w : World} {K : Type} [DecidableEq K] {knd : PySem.KeyKind P w K} {A : Around} {E : Value → Shared → Prop} {s : Shared}
theorem wpAny_hashByValue_tuple {ks : List K} {a : Addr} {Q : Bool → Shared → Prop} (hk : IsTupleKey knd s.heap ks a) (h : ∀ b, Q b s) : wpAny (model P w) A (hashByValue 8 (.ref a)) Q E s := by
  have hT := hk.typeIs
  obtain ⟨o, items, n, ho, _, hd, hi⟩ := hk
  unfold hashByValue
  refine wpAny_bind (wpAny_specialOf hT F.slot_tuple_hash.lookup ?_)
  show wpAny _ _ (seqItems? (.ref a) >>= _) Q E s
  refine wpAny_bind (wpAny_seqItems ho hd ?_)
  refine wpAny_bind ?_
  show wpAny _ _ (forIn items _ _) _ _ s
  rw [← Array.forIn_toList]
  refine wpAny_forIn_list _ (fun rest r s' => s' = s ∧ ∀ v ∈ rest, carriedByValue v = true) _ ?_ ?_ _ _ ⟨rfl, hi.byValue⟩
  · rintro v rest r s' ⟨rfl, hall⟩
    obtain ⟨b, hb⟩ := hash_carried 7 (hall v List.mem_cons_self)
    rw [hb]
    refine wpAny_bind (wpAny_pure ?_)
    cases b with
    | true =>
      simp only [Bool.not_true, Bool.false_eq_true, if_false]
      exact wpAny_pure ⟨rfl, fun u hu' => hall u (List.mem_cons_of_mem _ hu')⟩
    | false =>
      simp only [Bool.not_false, if_true]
      exact wpAny_pure (by first | exact wpAny_pure (h _) | exact h _)
  · rintro ⟨r1, r2⟩ s' ⟨rfl, _⟩
    cases r1 with
    | none => exact wpAny_pure (h _)
    | some b => exact wpAny_pure (h _)
theorem wpAny_class_tuple {ks : List K} {a : Addr} {Q : Bool → Shared → Prop} (hk : IsTupleKey knd s.heap ks a) (h : Q false s) : wpAny (model P w) A (ofAClassStatement 8 (.ref a)) Q E s := by
  have hT := hk.typeIs
  obtain ⟨o, items, n, ho, _, hd, hi⟩ := hk
  unfold ofAClassStatement
  refine wpAny_bind (wpAny_typeOf hT ?_)
  show wpAny _ _ ((pure true : Sem Bool) >>= _) Q E s
  refine wpAny_bind (wpAny_pure ?_)
  simp only [Bool.not_true, Bool.false_eq_true, if_false]
  refine wpAny_bind (wpAny_seqItems ho hd ?_)
  refine wpAny_bind ?_
  show wpAny _ _ (forIn items _ _) _ _ s
  rw [← Array.forIn_toList]
  refine wpAny_forIn_list _ (fun rest r s' => r.1 = none ∧ s' = s ∧ ∀ v ∈ rest, carriedByValue v = true) _ ?_ ?_ _ _ ⟨rfl, rfl, hi.byValue⟩
  · rintro v rest r s' ⟨hr, rfl, hall⟩
    rw [class_carried 7 (hall v List.mem_cons_self)]
    refine wpAny_bind (wpAny_pure ?_)
    simp only [Bool.false_eq_true, if_false]
    exact wpAny_pure ⟨rfl, rfl, fun u hu' => hall u (List.mem_cons_of_mem _ hu')⟩
  · rintro ⟨r1, r2⟩ s' ⟨hr, rfl, _⟩
    simp only at hr
    subst hr
    exact wpAny_pure h
theorem wpAny_seen_tuple {k : List K} {a : Addr} {l : List Value} {Q : Bool → Shared → Prop} (hk : IsTupleKey knd s.heap k a) (hl : ∀ v ∈ l, ∃ k' b, v = .ref b ∧ IsTupleKey knd s.heap k' b) (h : Q false s) : wpAny (model P w) A (searchCouldBeSeen (.ref a) l) Q E s := by
  unfold searchCouldBeSeen
  refine wpAny_bind ?_
  refine wpAny_forIn_list _ (fun rest r s' => r.1 = none ∧ s' = s ∧ ∀ v ∈ rest, ∃ k' b, v = .ref b ∧ IsTupleKey knd s.heap k' b) _ ?_ ?_ _ _ ⟨rfl, rfl, hl⟩
  · rintro v rest r s' ⟨hr, rfl, hall⟩
    obtain ⟨k', b, rfl, hb⟩ := hall v List.mem_cons_self
    have fin : (none : Option Bool) = none ∧ s' = s' ∧ ∀ v ∈ rest, ∃ k' b, v = .ref b ∧ IsTupleKey knd s'.heap k' b := ⟨rfl, rfl, fun u hu' => hall u (List.mem_cons_of_mem _ hu')⟩
    dsimp only [carriedByValue]
    by_cases e : (a == b) = true
    · rw [e]
      simp only [Bool.true_or, if_true]
      exact wpAny_pure fin
    · rw [Bool.not_eq_true _ |>.mp e]
      simp only [Bool.false_or, Bool.false_and, Bool.false_eq_true, if_false]
      refine wpAny_bind (wpAny_eqIsQuiet_tuple hk ?_)
      simp only [Bool.not_true, Bool.false_eq_true, if_false]
      refine wpAny_bind (wpAny_eqIsQuiet_tuple hb ?_)
      simp only [Bool.not_true, Bool.false_eq_true, if_false]
      refine wpAny_bind (wpAny_class_tuple hk ?_)
      simp only [Bool.false_eq_true, if_false]
      refine wpAny_bind (wpAny_class_tuple hb ?_)
      simp only [Bool.false_eq_true, if_false]
      exact wpAny_pure fin
  · rintro ⟨r1, r2⟩ s' ⟨hr, rfl, _⟩
    simp only at hr
    subst hr
    exact wpAny_pure h
structure SKn (knd : PySem.KeyKind P w K) (h : Heap) (b : Bool) (xs : List (List K × Addr)) (es : Array (Int × Value)) (t : SetTable) : Prop where
  el : List.Perm es.toList (xs.map fun x => (tupleKeyHash knd x.1, Value.ref x.2))
  is : ∀ x ∈ xs, IsTupleKey knd h x.1 x.2
  tb : TB b t xs.length
def SK (knd : PySem.KeyKind P w K) (h : Heap) (a : Addr) (b : Bool) (xs : List (List K × Addr)) : Prop := ∃ o es ep t, h.get? a = some o ∧ o.ExactSet ∧ o.data = .set es ep t ∧ SKn knd h b xs es t
theorem SKn.size {h : Heap} {b : Bool} {xs : List (List K × Addr)} {es : Array (Int × Value)} {t : SetTable} (x : SKn knd h b xs es t) : es.size = xs.length := by rw [← Array.length_toList, x.el.length_eq, List.length_map]
theorem SKn.fits {h : Heap} {b : Bool} {xs : List (List K × Addr)} {es : Array (Int × Value)} {t : SetTable} (x : SKn knd h b xs es t) : t.fits es.size = true := by rw [x.size]; exact x.tb.fits
theorem search_new {a : Addr} {o : Obj} {es : Array (Int × Value)} {ep : Nat} {t : SetTable} {b : Bool} {xs : List (List K × Addr)} {k : List K} {ax : Addr} {Q : SetFound → Shared → Prop} (hu : A.units < cLine) (ho : s.heap.get? a = some o) (hd : o.data = .set es ep t) (hn : SKn knd s.heap b xs es t) (hk : IsTupleKey knd s.heap k ax) (hnew : ∀ x ∈ xs, x.1 ≠ k)
    (h : ∀ j, t.slot j = .empty → Q (.free j false) s) :
    ∀ fuel m stand, m < fuel → m < 10 * SetTable.turns t.mask → (stand.getD (t.probeStart (tupleKeyHash knd k))).dummy = none → t.slot (advn t m (stand.getD (t.probeStart (tupleKeyHash knd k)))).j = .empty →
      wpAny (model P w) A (setSearchFrom a (.ref ax) (tupleKeyHash knd k) true fuel stand) Q E s := by
  intro fuel
  induction fuel with
  | zero => intro m _ hm; omega
  | succ fuel ih =>
    intro m stand hm hmt hdm hhit
    unfold setSearchFrom
    refine wpAny_bind (wpAny_setState_of ho hd hn.fits ?_)
    dsimp only
    rw [hn.tb.gave]
    simp only [Bool.false_eq_true, if_false]
    unfold SetTable.probe
    rcases probe_hit hn.tb.tb (hs := fun i => (es[i]?.map (·.1)).getD 0) (x := tupleKeyHash knd k) m (10 * SetTable.turns t.mask) _ hmt hdm hhit with ⟨j, e, hj⟩ | ⟨j, i, q, m', hm', e, hj, _, hq, hh⟩
    · k_delta "storedHashAt"
      rw [e]
      exact wpAny_pure (h j hj)
    · k_delta "storedHashAt"
      rw [e]
      dsimp only
      have hi : i < es.size := by
        have := slot_live hj
        rw [hn.tb.sz] at this; rw [hn.size]; exact this
      have hmem : es[i] ∈ es.toList := Array.mem_toList_iff.mpr (Array.getElem_mem hi)
      have hall : ∀ e ∈ es.toList, ∃ x ∈ xs, e = (tupleKeyHash knd x.1, Value.ref x.2) := fun e he => by
        obtain ⟨x, hx, rfl⟩ := List.mem_map.mp (hn.el.mem_iff.mp he)
        exact ⟨x, hx, rfl⟩
      obtain ⟨x, hx, ex⟩ := hall _ hmem
      have hget : es[i]? = some (tupleKeyHash knd x.1, Value.ref x.2) := by rw [Array.getElem?_eq_getElem hi, ex]
      have rest : wpAny (model P w) A (do
          let some (_, y) := es[i]? | unsupported "internal:set-entry"
          let equal ← holding [y] (eqBool y (.ref ax))
          let (es', _, t') ← setState a
          if true && equal then return .there none
          let some same := t'.sameMemory t.moves t.mask | unsupported "set.changed-during-lookup:is-the-new-block-at-the-old-address"
          let still ← match (if same then t'.slot j else .empty) with
            | .live i' => match es'[i']? with
              | some (_, y') => do pure (if ← isSame y' y then some i' else none)
              | none => pure none
            | _ => pure none
          match still with
          | none => rule "set.search.anew"; setSearchFrom a (.ref ax) (tupleKeyHash knd k) true fuel none
          | some i' => if equal then return .there (some i') else setSearchFrom a (.ref ax) (tupleKeyHash knd k) true fuel (some q)) Q E s := by
        rw [hget]
        dsimp only
        refine wpAny_bind (wpAny_holding (wpAny_eqBool_tuple hu (hn.is x hx) hk ?_))
        rw [decide_eq_false (hnew x hx)]
        refine wpAny_bind (wpAny_setState_of ho hd hn.fits ?_)
        dsimp only
        simp only [Bool.true_and, Bool.false_eq_true, if_false]
        have hs : t.sameMemory t.moves t.mask = some true := by unfold SetTable.sameMemory; rw [beq_self_eq_true]; rfl
        rw [hs]
        dsimp only
        rw [if_pos rfl, hj]
        dsimp only
        rw [hget]
        dsimp only
        refine wpAny_bind (wpAny_isSame_ref_self (wpAny_bind (wpAny_pure ?_)))
        simp only [if_true, Bool.false_eq_true, if_false]
        exact ih m' (some q) (by omega) (by omega) hq hh
      split
      · refine wpAny_bind (wpAny_seen_tuple hk (fun v hv => ?_) ?_)
        · obtain ⟨e, he, rfl⟩ := List.mem_map.mp hv
          rw [Array.toList_filter] at he
          obtain ⟨y, hy, ey⟩ := hall _ (List.mem_filter.mp he).1
          rw [ey]
          exact ⟨_, _, rfl, hn.is y hy⟩
        · simp only [Bool.false_eq_true, if_false]
          exact rest
      · exact rest
theorem SKn.heap {h h' : Heap} {b : Bool} {xs : List (List K × Addr)} {es : Array (Int × Value)} {t : SetTable} (x : SKn knd h b xs es t) (k : ∀ y ∈ xs, ∀ o, h.get? y.2 = some o → h'.get? y.2 = some o) : SKn knd h' b xs es t :=
  ⟨x.el, fun y hy => let ⟨o, items, n, ho, r⟩ := x.is y hy; ⟨o, items, n, k y hy o ho, r⟩, x.tb⟩
theorem neSet {h : Heap} {k : List K} {a ax : Addr} {o : Obj} {es : Array (Int × Value)} {ep : Nat} {t : SetTable} (hk : IsTupleKey knd h k ax) (ho : h.get? a = some o) (hd : o.data = .set es ep t) : ax ≠ a := by
  rintro rfl
  obtain ⟨o', items, n, ho', _, hd', _⟩ := hk
  rw [Option.some.inj (ho.symm.trans ho')] at hd
  rw [hd] at hd'
  cases hd'
theorem sk_store {a : Addr} {o : Obj} {es en : Array (Int × Value)} {ep : Nat} {t tn : SetTable} {b : Bool} {xs : List (List K × Addr)} {h : Heap} (ho : h.get? a = some o) (hx : o.ExactSet) (hd : o.data = .set es ep t) (hn : SKn knd h b xs en tn) :
    (h.update a (Obj.putSet en tn)).get? a = some { o with data := .set en (ep + 1) tn } ∧ SKn knd (h.update a (Obj.putSet en tn)) b xs en tn := by
  have hp := putSet_of en tn hd
  have g := Heap.get?_update_self (Obj.putSet en tn) ho (by rw [hp]; rfl)
  rw [hp] at g
  refine ⟨g, hn.heap fun y hy o' ho' => ?_⟩
  rw [(Heap.SameBut.update h a (Obj.putSet en tn)).2 y.2 (neSet (hn.is y hy) ho hd)]
  exact ho'
theorem relay_run {a : Addr} {o : Obj} {es : Array (Int × Value)} {ep : Nat} {t : SetTable} {b : Bool} {xs : List (List K × Addr)} {n : Nat} {Q : Unit → Shared → Prop} (ho : s.heap.get? a = some o) (hd : o.data = .set es ep t) (hf : t.fits es.size = true) (hl : t.led = b) (hel : List.Perm es.toList (xs.map fun x => (tupleKeyHash knd x.1, Value.ref x.2))) (his : ∀ x ∈ xs, IsTupleKey knd s.heap x.1 x.2) (h0 : 0 < es.size) (hz : es.size < 1024) (hsz : n = es.size)
    (h : ∀ en tn, SKn knd s.heap b xs en tn → Q () { s with heap := s.heap.update a (Obj.putSet en tn) }) : wpAny (model P w) A (setRelay a (SetTable.grown n)) Q E s := by
  subst hsz
  unfold setRelay
  refine wpAny_bind (wpAny_setState_of ho hd hf ?_)
  dsimp only
  have hg : SetTable.grown es.size = es.size * 4 := by unfold SetTable.grown; rw [if_neg (by omega)]
  have hle : SetTable.sizeAbove (SetTable.grown es.size) ≤ 2 ^ 12 := sizeAbove_go_le _ (by rw [hg]; omega) 64 3 (by decide)
  rw [if_neg (by rw [sizeLine_eq]; omega)]
  obtain ⟨tn, order, e, hp, htb⟩ := relaid_is (b := b) (t := t) (es.map (·.1)) hl (by rw [Array.size_map]; exact h0) (by rw [Array.size_map]; exact hz)
  rw [Array.size_map] at e hp htb
  rw [e]
  k_delta "reordered"
  have hpe : List.Perm (order.filterMap fun i => es[i]?).toList es.toList := by
    rw [Array.toList_filterMap]
    exact (hp.filterMap _).trans (by rw [filterMap_getElem?_range])
  have hse : (order.filterMap fun i => es[i]?).size = es.size := by rw [← Array.length_toList, hpe.length_eq, Array.length_toList]
  refine wpAny_bind ?_
  dsimp only
  rw [if_neg (by rw [hse]; simp)]
  refine wpAny_pure ?_
  dsimp only
  refine wpAny_storeSet_of ho hd (h _ tn ⟨hpe.trans hel, his, ?_⟩) (fits_of_scanBound (by rw [hse]; exact Nat.lt_trans hz (by decide)))
  have : es.size = xs.length := by rw [← Array.length_toList, hel.length_eq, List.length_map]
  rw [← this]; exact htb
theorem sk_add {a : Addr} {b : Bool} {xs : List (List K × Addr)} {k : List K} {ax : Addr} {Q : Bool → Shared → Prop} (hu : A.units < cLine) (hS : SK knd s.heap a b xs) (hk : IsTupleKey knd s.heap k ax) (hnew : ∀ x ∈ xs, x.1 ≠ k) (hroom : xs.length + 1 < 1024)
    (h : ∀ h', Heap.SameBut a s.heap h' → SK knd h' a b (xs ++ [(k, ax)]) → Q true { s with heap := h' }) : wpAny (model P w) A (setAddHashed a (.ref ax) (tupleKeyHash knd k)) Q E s := by
  obtain ⟨o, es, ep, t, ho, hx, hd, hn⟩ := hS
  have hax := neSet hk ho hd
  unfold setAddHashed setAddHashedIn
  refine wpAny_holding (wpAny_bind (wpAny_setState_of ho hd hn.fits ?_))
  dsimp only
  have hbs : byScan (.ref ax) es = false := rfl
  rw [hbs]
  simp only [Bool.false_eq_true, if_false]
  obtain ⟨hd0, m, hm, hhit⟩ := hn.tb.start (tupleKeyHash knd k)
  have hmb := hn.tb.ub
  unfold setSearch
  refine wpAny_bind (search_new hu ho hd hn hk hnew (fun j hj => ?_) 100000 m none (by unfold SetTable.turns at hm; omega) hm hd0 hhit)
  dsimp only
  refine wpAny_bind (wpAny_setState_of ho hd hn.fits ?_)
  dsimp only
  have hput : (t.put j).1.mask = t.mask := rfl
  have hpl : (t.put j).1.place = SetTable.insertAt t.place (t.put j).2 j := rfl
  have hsz1 : (SetTable.insertAt es (t.put j).2 (tupleKeyHash knd k, Value.ref ax)).size = es.size + 1 := by rw [← Array.length_toList, (SetTable.insertAt_perm _ _ _).length_eq, Array.toList_push, List.length_append, Array.length_toList]; rfl
  have hel1 : List.Perm (SetTable.insertAt es (t.put j).2 (tupleKeyHash knd k, Value.ref ax)).toList ((xs ++ [(k, ax)]).map fun x => (tupleKeyHash knd x.1, Value.ref x.2)) := by
    refine (SetTable.insertAt_perm _ _ _).trans ?_
    rw [Array.toList_push, List.map_append]
    exact hn.el.append_right _
  have his1 : ∀ x ∈ xs ++ [(k, ax)], IsTupleKey knd s.heap x.1 x.2 := fun x hx => by
    rcases List.mem_append.mp hx with e | e
    · exact hn.is x e
    · rw [List.mem_singleton.mp e]; exact hk
  have main : ∀ t1 : SetTable, Tb b t1 → t1.mask = t.mask → t1.place.size = xs.length + 1 → wpAny (model P w) A (do
      storeSet a (SetTable.insertAt es (t.put j).2 (tupleKeyHash knd k, Value.ref ax)) t1
      if (!false && t1.tooFull) = true then do
        setRelay a (SetTable.grown (es.size + 1))
        pure true
      else pure true) Q E s := by
    intro t1 htb1 hm1 hp1
    have hfit : t1.fits (es.size + 1) = true := by
      have := hn.tb.few
      unfold SetTable.fits SetTable.fill
      rw [htb1.du, hp1, hm1, hn.size]
      simp only [beq_self_eq_true, Array.size_empty, Nat.add_zero, Bool.true_and, decide_eq_true_eq]
      omega
    refine wpAny_bind (wpAny_storeSet_of ho hd ?_ (fits_of_scanBound (by rw [hsz1, hn.size]; exact Nat.lt_trans hroom (by decide))))
    have hp := putSet_of (SetTable.insertAt es (t.put j).2 (tupleKeyHash knd k, Value.ref ax)) t1 hd
    have g := Heap.get?_update_self (Obj.putSet (SetTable.insertAt es (t.put j).2 (tupleKeyHash knd k, Value.ref ax)) t1) ho (by rw [hp]; rfl)
    rw [hp] at g
    have sb := Heap.SameBut.update s.heap a (Obj.putSet (SetTable.insertAt es (t.put j).2 (tupleKeyHash knd k, Value.ref ax)) t1)
    have his2 : ∀ x ∈ xs ++ [(k, ax)], IsTupleKey knd (s.heap.update a (Obj.putSet (SetTable.insertAt es (t.put j).2 (tupleKeyHash knd k, Value.ref ax)) t1)) x.1 x.2 := fun x hx => by
      obtain ⟨o', items, n, ho', r⟩ := his1 x hx
      exact ⟨o', items, n, (sb.2 x.2 (neSet (his1 x hx) ho hd)).trans ho', r⟩
    split
    · rename_i hfull
      refine wpAny_bind (relay_run (b := b) (xs := xs ++ [(k, ax)]) g rfl (by rw [hsz1]; exact hfit) htb1.le hel1 his2 (by omega) (by rw [hsz1, hn.size]; exact hroom) hsz1.symm fun en tn hne => ?_)
      obtain ⟨g2, hn2⟩ := sk_store g hx rfl hne
      exact wpAny_pure (h _ (sb.trans (Heap.SameBut.update _ a _)) ⟨_, en, _, tn, g2, hx, rfl, hn2⟩)
    · rename_i hfull
      refine wpAny_pure (h _ sb ⟨_, _, _, t1, g, hx, rfl, hel1, his2, htb1, ?_, ?_, ?_, ?_⟩)
      · rw [hm1]; exact hn.tb.msk
      · rw [hm1]; exact hn.tb.ub
      · rw [hp1, List.length_append]; rfl
      · simp only [Bool.not_false, Bool.true_and, SetTable.tooFull, SetTable.fill, htb1.du, hp1, ge_iff_le, decide_eq_true_eq, Array.size_empty, Nat.add_zero] at hfull
        rw [List.length_append, List.length_singleton]; omega
  have htb0 := hn.tb.tb.put hj
  have hpz : (t.put j).1.place.size = xs.length + 1 := by
    rw [hpl, ← Array.length_toList, (SetTable.insertAt_perm _ _ _).length_eq, Array.toList_push, List.length_append, Array.length_toList, hn.tb.sz]; rfl
  split
  · refine wpAny_bind (wpAny_hashByValue_tuple hk fun bb => ?_)
    split
    · exact main _ htb0 hput hpz
    · exact main _ htb0.plain hput hpz
  · refine wpAny_bind (wpAny_pure ?_)
    rw [if_pos rfl]
    exact main _ htb0 hput hpz
end
end My
set_option Elab.async false
set_option linter.all false
set_option maxRecDepth 100000
set_option maxHeartbeats 4000000
namespace My
open PySem PySem.Spec PyProof.Rows
section
variable {P : Program} {w : World} {K : Type} [DecidableEq K] {knd : PySem.KeyKind P w K} {A : Around} {R : Result → Shared → Prop} {I : Addr} {fp wr : List Addr} {G : Array GenState → Array GenState → Prop} {n : Nat} {Pv : Nat → Value → Prop} {St : Nat → Shared → Prop} {b : Bool}
theorem SK.keep {h h' : Heap} {a : Addr} {xs : List (List K × Addr)} (x : SK knd h a b xs) (ka : ∀ o, h.get? a = some o → h'.get? a = some o) (k : ∀ y ∈ xs, ∀ o, h.get? y.2 = some o → h'.get? y.2 = some o) : SK knd h' a b xs :=
  let ⟨o, es, ep, t, ho, hx, hd, hn⟩ := x
  ⟨o, es, ep, t, ka _ ho, hx, hd, hn.heap k⟩
theorem tk_keep {h h' : Heap} {k : List K} {a : Addr} (x : IsTupleKey knd h k a) (ka : ∀ o, h.get? a = some o → h'.get? a = some o) : IsTupleKey knd h' k a :=
  let ⟨o, items, n, ho, r⟩ := x
  ⟨o, items, n, ka o ho, r⟩
theorem sk_loop (W : WalksS P w A.in1 I fp wr G n Pv St) (S : Addr) (hSf : S ∉ fp) (xs : List (List K × Addr)) (hn : n = xs.length) (hval : ∀ i v, Pv i v → ∃ x, xs[i]? = some x ∧ v = .ref x.2) (hwr : ∀ x ∈ xs, x.2 ∉ wr) (hfp : ∀ x ∈ xs, x.2 ≠ S) (nd : (xs.map (·.1)).Nodup) (hb : xs.length < 1024) (hu : A.units + 1 < cLine) :
    ∀ (k i : Nat) (s : Shared), n - i = k → i ≤ n → St i s → SK knd s.heap S b (xs.take i) → (∀ x ∈ xs, IsTupleKey knd s.heap x.1 x.2) →
      (∀ s', Moved (S :: wr) G s s' → SK knd s'.heap S b xs → R (.ok (.ret .none)) s') →
      codeAny (model P w) A (.builtin "set.update.loop" ⟨[.ref S, .ref I], []⟩) R s := by
  have hw : S ∉ wr := fun z => hSf (W.sub _ z)
  have sub : ∀ c ∈ wr, c ∈ S :: wr := fun c hc => List.mem_cons_of_mem _ hc
  intro k
  induction k with
  | zero =>
    intro i s hk hi st hS hks hR
    obtain rfl : i = n := by omega
    refine codeAny_builtin F.entry_set_update_loop ?_
    rw [Around.under_plainId F.plain_set_update_loop _]
    show wpAny _ A.in1 (pyNext (.ref I) >>= _) _ _ s
    refine wpAny_bind (W.done s _ _ st fun s' mv => ?_)
    show wpAny _ A.in1 (ret Value.none) _ _ s'
    rw [hn, List.take_length] at hS
    exact wpAny_pure (hR s' (mv.mono sub) (hS.keep (fun o e => mv.heap S _ hw e) fun y hy o e => mv.heap y.2 _ (hwr y hy) e))
  | succ k ih =>
    intro i s hk hi st hS hks hR
    refine codeAny_builtin F.entry_set_update_loop ?_
    rw [Around.under_plainId F.plain_set_update_loop _]
    show wpAny _ A.in1 (pyNext (.ref I) >>= _) _ _ s
    refine wpAny_bind (W.item i s _ _ (by omega) st fun v s' hP st' mv => ?_)
    obtain ⟨x, hx, rfl⟩ := hval i v hP
    have hxm : x ∈ xs := List.mem_of_getElem? hx
    have hks' : ∀ x ∈ xs, IsTupleKey knd s'.heap x.1 x.2 := fun y hy => tk_keep (hks y hy) fun o e => mv.heap y.2 _ (hwr y hy) e
    show wpAny _ A.in1 (holding [Value.ref x.2] (setAdd S (.ref x.2)) >>= _) _ _ s'
    refine wpAny_bind (wpAny_holding ?_)
    unfold setAdd
    refine wpAny_holding (wpAny_bind (wpAny_pyHash_tuple (show A.in1.units < cLine from hu) (hks' x hxm) ?_))
    have htk : xs.take (i + 1) = xs.take i ++ [x] := by rw [List.take_succ, hx]; rfl
    have hlt : i < xs.length := by omega
    refine sk_add (s := { s' with toks := s'.toks + (x.1.length + 1) }) (show A.in1.units < cLine from hu) (hS.keep (fun o e => mv.heap S _ hw e) fun y hy o e => mv.heap y.2 _ (hwr y (List.mem_of_mem_take hy)) e) (hks' x hxm) (fun y hy e => ?_) (by rw [List.length_take]; omega) fun h' sb S' => ?_
    · obtain ⟨j, hj, ey⟩ := List.getElem_of_mem hy
      rw [List.length_take] at hj
      rw [List.getElem_take] at ey
      have hne := List.pairwise_iff_getElem.mp nd j i (by rw [List.length_map]; omega) (by rw [List.length_map]; exact hlt) (by omega)
      apply hne
      have hxi : xs[i] = x := by
        have := List.getElem?_eq_getElem hlt
        rw [hx] at this
        exact (Option.some.inj this).symm
      rw [List.getElem_map, List.getElem_map, ey, hxi, e]
    · refine wpAny_pure ⟨plainId_quiet F.plain_set_update_loop _, ih (i + 1) _ (by omega) (by omega) (W.frame _ s' _ _ st' (Nat.le_add_right _ _) fun c hc o e => ?_) (by rw [htk]; exact S') (fun y hy => tk_keep (hks' y hy) fun o e => ?_) fun s'' mv'' S'' => ?_⟩
      · rw [sb.2 c (fun z : c = S => hSf (by rw [← z]; exact hc))]; exact e
      · rw [sb.2 y.2 (hfp y hy)]; exact e
      · refine hR s'' (Moved.trans W.gtrans ((mv.mono sub).then_heap (Nat.le_add_right _ _) fun c o hc e => ?_) mv'') S''
        rw [sb.2 c (fun z : c = S => hc (by rw [z]; exact List.mem_cons_self))]; exact e
end
section
variable {P : Program} {w : World} {K : Type} [DecidableEq K] {knd : PySem.KeyKind P w K} {A : Around} {E : Value → Shared → Prop} {s : Shared}
theorem sub_lst_set : isSubtype (.type "list") (.type "set") = pure false := by rw [isSubtype_type]; kernel_rfl
theorem sub_lst_fset : isSubtype (.type "list") (.type "frozenset") = pure false := by rw [isSubtype_type]; kernel_rfl
theorem set_lst {l : Addr} {items : Array Value} {xs : List (List K × Addr)} {Q : Value → Shared → Prop} (hh : A.handled = none) (hu : A.units + 16 < cLine) (hl : s.heap.IsList l items) (hi : items.toList = xs.map fun x => .ref x.2) (hks : ∀ x ∈ xs, IsTupleKey knd s.heap x.1 x.2) (nd : (xs.map (·.1)).Nodup) (hb : xs.length < 1024)
    (h : ∀ (h' : Heap) (tk : Nat), SK knd h' s.heap.objs.size (!byT w) xs → (∀ c o, s.heap.get? c = some o → h'.get? c = some o) → Q (.ref s.heap.objs.size) { s with heap := h', toks := tk }) :
    wpAny (model P w) A (call (.type "set") [.ref l]) Q E s := by
  obtain ⟨cc, tl, hmro⟩ := F.called_set.mro
  have hmade := F.called_set.made
  have hsub := F.called_set.sub
  refine wpAny_call (codeAny_of_tree ?_)
  show wpAny _ _ (callAny (.type "set") _) _ _ _
  refine wpAny_pure ⟨Code.quiet_builtin _ (by decide +kernel), codeAny_builtin F.entry_type_call ?_⟩
  rw [Around.under_plain (weight_type_call_type "set" [.ref l] []) rfl]
  have y1 := F.called_set.notType
  have y2 := F.called_set.canCreate
  have y3 := F.typeCall_set_1 (.ref l)
  repeat (any_goals (first | assumption | wp_step))
  refine codeAny_mono (sn_code (.ref l) (E := E) (Q₁ := fun obj s₁ => obj = .ref s.heap.objs.size ∧ s₁ = { s with heap := s.heap.push (freshSet w) }) ⟨rfl, rfl⟩) fun r s₁ hr => ?_
  cases r with
  | error e => exact hr
  | ok fl =>
    cases fl with
    | ret obj =>
      obtain ⟨rfl, rfl⟩ := hr
      have hS : (s.heap.push (freshSet w)).get? s.heap.objs.size = some (freshSet w) := Heap.get?_push_size _ rfl
      have hT : Shared.TypeIs { s with heap := s.heap.push (freshSet w) } (.ref s.heap.objs.size) "set" := ⟨_, hS, rfl⟩
      have z1 := F.called_set.init.lookup
      have z2 := F.called_set.init.bind (.ref s.heap.objs.size)
      repeat (any_goals (first | assumption | wp_step))
      refine codeAny_mono (codeAny_call_builtin (R := wants (fun r s₂ => r = .none ∧ ∃ h' tk, s₂ = { s with heap := h', toks := tk } ∧ SK knd h' s.heap.objs.size (!byT w) xs ∧ ∀ c o, s.heap.get? c = some o → h'.get? c = some o) E) F.called_set.init.plain F.entry_set_init (check_set_init_1 hT ?_)) fun r₂ s₂ hr₂ => ?_
      · obtain ⟨ol, hol, hcl, nl, hdl⟩ := hl
        obtain ⟨ocls, odict, odata, oslots⟩ := ol
        simp only at hcl hdl
        subst hcl; subst hdl
        have hol' : (s.heap.push (freshSet w)).get? l = some { cls := .type "list", dict := odict, data := .seq items nl, slots := oslots } := Heap.get?_push_of_some _ hol
        have q1 := sub_lst_set
        have q2 := sub_lst_fset
        have q3 : (Value.type "list" == Value.type "dict") = false := by decide
        have hl1 : (s.heap.push (freshSet w)).IsList l items := ⟨_, hol', rfl, nl, rfl⟩
        unfold Builtin.«set.__init__» noKeywords Builtin.Frozenset.updateFrom
        generalize hPI : pyIter = PI
        wp_walk
        subst hPI
        refine wpAny_pyIter_list hl1 (wpAny_bind (wpAny_runValue ?_))
        have lS : l < s.heap.objs.size := Heap.lt_size hol
        have hh3 : A.in1.in1.in1.handled = none := by simp [hh]
        have nI : l ≠ (s.heap.push (freshSet w)).objs.size := by rw [Heap.size_push]; exact Nat.ne_of_lt (Nat.lt_succ_of_lt lS)
        have hSf : s.heap.objs.size ∉ [(s.heap.push (freshSet w)).objs.size, l] := by
          rw [Heap.size_push]
          intro z
          rcases List.mem_cons.mp z with y | y
          · exact absurd y (Nat.ne_of_lt (Nat.lt_succ_self _))
          · exact absurd (List.mem_singleton.mp y) (Nat.ne_of_gt lS)
        have hlt : ∀ x ∈ xs, x.2 < s.heap.objs.size := fun x hx => let ⟨o, _, _, ho, _⟩ := hks x hx; Heap.lt_size ho
        have hval : ∀ (i : Nat) (v : Value), items[i]? = some v → ∃ x, xs[i]? = some x ∧ v = .ref x.2 := fun i v hv => by
          rw [← Array.getElem?_toList, hi, List.getElem?_map] at hv
          cases e : xs[i]? with
          | none => rw [e] at hv; cases hv
          | some x => rw [e] at hv; cases hv; exact ⟨x, rfl, rfl⟩
        have hln : items.size = xs.length := by rw [← Array.length_toList, hi, List.length_map]
        refine sk_loop (knd := knd) (b := !byT w) ((Walks.list hh3 _ l nI items).toS) s.heap.objs.size hSf xs hln hval (fun x hx z => ?_) (fun x hx e => ?_) nd hb (by simp only [Around.in1_units]; omega) (items.size - 0) 0 _ (by omega) (Nat.zero_le _) ⟨⟨_, Heap.get?_push_size _ rfl, rfl, rfl⟩, hl1.push _⟩
          ⟨freshSet w, #[], 0, .fresh 0 0 (!byT w), Heap.get?_push_of_some _ hS, ⟨rfl, rfl, rfl⟩, rfl, ⟨List.Perm.refl _, (fun x hx => nomatch hx), TB.fresh _⟩⟩ (fun x hx => tk_keep (hks x hx) fun o e => Heap.get?_push_of_some _ (Heap.get?_push_of_some _ e)) fun s' mv S' => ?_
        · have y := List.mem_singleton.mp z
          rw [Heap.size_push] at y
          exact absurd y (Nat.ne_of_lt (Nat.lt_succ_of_lt (hlt x hx)))
        · exact absurd e (Nat.ne_of_lt (hlt x hx))
        obtain ⟨h', gn', dr', tk', os'⟩ := s'
        have eg : gn' = s.gens := mv.gens
        have ed : dr' = s.drawn := mv.drawn
        have eo : os' = s.os := mv.os
        subst eg; subst ed; subst eo
        show wpAny _ _ _ _ _ _
        refine wpAny_pure ?_
        show wpAny _ _ (ret Value.none) _ _ _
        refine wpAny_pure ⟨rfl, h', tk', rfl, S', fun c o e => ?_⟩
        have cS := Heap.lt_size e
        refine mv.heap c o (fun z => ?_) (Heap.get?_push_of_some _ (Heap.get?_push_of_some _ e))
        rcases List.mem_cons.mp z with y | y
        · exact absurd y (Nat.ne_of_lt cS)
        · have y := List.mem_singleton.mp y
          rw [Heap.size_push] at y
          exact absurd y (Nat.ne_of_lt (Nat.lt_succ_of_lt cS))
      · cases r₂ with
        | error e => exact hr₂
        | ok fl₂ =>
          cases fl₂ with
          | ret r =>
            obtain ⟨rfl, h', tk, rfl, S', hk⟩ := hr₂
            repeat (any_goals (first | assumption | wp_step))
            exact h _ _ S' hk
          | _ => exact hr₂.elim
    | _ => exact hr.elim
end
end My
set_option Elab.async false
set_option linter.all false
set_option maxRecDepth 100000
set_option maxHeartbeats 4000000
namespace My
open PySem PySem.Spec PyProof.Rows L2
section
variable {X : Cx}
theorem vals_refs : ∀ {xs : List Addr} {us : List Value}, Vals (xs.map V.ref) us → us = xs.map Value.ref
  | [], _, .nil => rfl
  | a :: xs, _, .cons r t => by rw [vals_refs t]; rw [show _ = Value.ref a from r]; rfl
def tLenSet (K : PySem.W.Frag) (t : TA) : TE := fun σ H Q => t σ H fun vs H1 => ∃ (a : Addr) (xs : List (List Key × Addr)), vs = [V.ref a] ∧ SqL K H1 a ((xs.map (·.2)).map V.ref) ∧ (∀ x ∈ xs, H1 x.2 = some (.tup (x.1.map kV))) ∧ (xs.map (·.1)).Nodup ∧ xs.length < 1024 ∧ Q (.int xs.length) H1
theorem pe_lenset {x y : Str} {p1 p2 pos1 pos2 : Pos} {e : Expr} {t : TA} (hc : X.calm = true) (hu : X.A.units + 64 < cLine) (hg : Gl X x) (hm : X.mg x = none) (hv : bootBuiltins x = some (.builtin "len")) (hg2 : Gl X y) (hm2 : X.mg y = none) (hv2 : bootBuiltins y = some (.type "set")) (ha : PA X [e] t)
    (hn : x ≠ "__name__" := by decide) (hdb : (x == ("__debug__" : Str)) = false := by decide) (hn2 : y ≠ "__name__" := by decide) (hdb2 : (y == ("__debug__" : Str)) = false := by decide)
    (he : starEach [e] X.env = (false, eval e X.env) :: starEach [] X.env := by rfl) (he1 : starEach [.Call (.Name y p2) [e] [] pos2] X.env = (false, eval (.Call (.Name y p2) [e] [] pos2) X.env) :: starEach [] X.env := by rfl) :
    PE X (.Call (.Name x p1) [.Call (.Name y p2) [e] [] pos2] [] pos1) (tLenSet X.K t) := by
  refine ⟨?_⟩
  intro pins s σ H Q I h
  refine wpAny_Call_Name_kw (ld_blt I hg hm hv ?_ hn hdb)
  refine PyProof.Rows.callWith_builtin1 ?_ he1 rfl
  rw [he1]
  show wpAny _ _ (spliced ((false, eval (.Call (.Name y p2) [e] [] pos2) X.env) :: backTo pos1 (starEach [] X.env))) _ _ s
  refine Calls.spliced_cons ?_
  refine wpAny_Call_Name_kw (ld_blt I hg2 hm2 hv2 ?_ hn2 hdb2)
  refine PyProof.Rows.callWith_type1 (thn (ha pos2 pins s σ H _ I h) fun us s1 ⟨vs, H1, I1, r1, q1⟩ => ?_) he rfl
  obtain ⟨a, xs, rfl, hq, hT, hnd, hb, q⟩ := q1
  obtain ⟨its, rv, hl, hz⟩ := I1.list hq
  have hh := I1.ok.hd hc
  rw [Vals.ref1 r1]
  have hi := vals_refs rv
  refine set_lst (knd := mixKind X.prog X.w) (xs := xs) hh (by omega) hl.isList (by rw [hi, List.map_map]; rfl) (fun x hx => key_of I1.hok (hT x hx)) hnd hb fun h2 tk2 si kp2 => ?_
  refine Calls.spliced_nil ?_
  have I2 : Inv X pins σ H1 { s1 with heap := h2, toks := tk2 } := I1.kept (t' := tk2) kp2
  obtain ⟨o, es, ep, t', ho, hx, hd, hn⟩ := si
  refine call_len_set (s := { s1 with heap := h2, toks := tk2 }) ho hx hd hn.fits (by rw [hn.size]; omega) ?_
  rw [hn.size]
  exact ⟨.int xs.length, H1, I2.tok _, ⟨_, rfl⟩, q⟩
end
end My
set_option Elab.async false
set_option linter.all false
set_option maxRecDepth 100000
set_option maxHeartbeats 4000000
namespace My
open PySem PySem.Spec PyProof.Rows L2
section
variable {P : Program} {w : World} {A : Around} {E : Value → Shared → Prop} {s : Shared}
end
section
variable {X : Cx}
end
end My
set_option Elab.async false
set_option linter.all false
set_option maxRecDepth 100000
set_option maxHeartbeats 4000000
namespace My
open PySem PySem.Spec PyProof.Rows L2
section
variable {X : Cx} {pos : Pos}
end
end My
set_option Elab.async false
set_option linter.all false
set_option maxRecDepth 100000
set_option maxHeartbeats 4000000
namespace My
open PySem PySem.Spec PyProof.Rows L2
section
variable {prog : Program} {w : World} {A : Around} {E : Value → Shared → Prop} {s : Shared}
theorem collect_tup {p : Addr} {ws : List Value} {o : Obj} {k : Nat} {Q : List Value → Shared → Prop} (e0 : s.heap.get? p = some o) (ec : o.cls = .type "tuple") (ed : o.data = .seq ws.toArray k) (hz : ws.length ≤ sizeLine)
    (q : Q ws { s with heap := (s.heap.push (seqObj "list" #[] 0)).update s.heap.objs.size (Obj.mapSeq (· ++ ws.toArray)) }) : wpAny (model prog w) A (collect (.ref p)) Q E s := by
  have e1 : (s.heap.push (seqObj "list" #[] 0)).get? p = some o := Heap.get?_push_of_some _ e0
  have e2 : (s.heap.push (seqObj "list" #[] 0)).get? s.heap.objs.size = some (seqObj "list" #[] 0) := Heap.get?_push_size _ rfl
  unfold collect
  refine wpAny_bind (wpAny_runValue (codeAny_builtin entry_proto_collect' ?_))
  show wpAny _ _ (do again (.builtin "list.__iadd__" ⟨[← newList [], .ref p], []⟩)) _ _ s
  refine wpAny_bind (wpAny_newList (wpAny_pure ⟨Code.quiet_builtin _ (by decide +kernel), codeAny_builtin entry_list_iadd' ?_⟩))
  show wpAny _ _ (Builtin.List.listExtendWith (.ref s.heap.objs.size) (.ref p) (.ref s.heap.objs.size)) _ _ { s with heap := s.heap.push (seqObj "list" #[] 0) }
  unfold Builtin.List.listExtendWith
  refine wpAny_bind (wpAny_typeOf (T := "tuple") ⟨o, e1, ec⟩ ?_)
  have et : (Value.type "tuple" == Value.type "tuple") = true := by rfl
  rw [if_pos (by rw [et]; simp)]
  refine wpAny_bind (listItems_at e1 ed ?_)
  refine wpAny_bind (listItems_at (xs := #[]) (n := 0) e2 rfl ?_)
  rw [if_neg (by simp)]
  refine wpAny_bind (listUpdate_at (xs := #[]) (n := 0) e2 rfl ?_ (Nat.zero_le _) (by show (#[] ++ ws.toArray).size ≤ sizeLine + 1; simp only [Array.size_append, List.size_toArray, List.length_nil]; omega))
  refine wpAny_pure ?_
  refine wpAny_bind (wpAny_load (get?_update_seq e2 _) ?_)
  have e3 : ((#[] : Array Value) ++ ws.toArray).toList = ws := by simp
  show wpAny _ _ (pure ((#[] : Array Value) ++ ws.toArray).toList) Q E _
  rw [e3]
  exact wpAny_pure q
theorem sorted_tupAny {p : Addr} {ws : List Value} {ns : List Int} {Q : Value → Shared → Prop} {o : Obj} {k : Nat} (e0 : s.heap.get? p = some o) (ec : o.cls = .type "tuple") (ed : o.data = .seq ws.toArray k) (hI : IntsAre ws ns) (hz : ws.length ≤ sizeLine)
    (q : ∀ (out : Array Value) (ns' : List Int), IntsAre out.toList ns' → ns'.Perm ns → ns'.Pairwise (· ≤ ·) → Q (.ref (s.heap.objs.size + 1)) { s with heap := sortedAll s.heap ws out }) :
    wpAny (model prog w) A (call (.builtin "sorted") [.ref p]) Q E s := by
  refine Calls.call_function_entry kind_sorted plain_sorted entry_sorted (args_sorted1 _) ?_
  unfold Builtin.«sorted»
  refine wpAny_bind (m := checkCount "sorted" 1 1 _) (wpAny_pure ?_)
  refine wpAny_bind (collect_tup e0 ec ed hz ?_)
  refine wpAny_bind (wpAny_newList ?_)
  have ez : ((s.heap.push (seqObj "list" #[] 0)).update s.heap.objs.size (Obj.mapSeq (· ++ ws.toArray))).objs.size = s.heap.objs.size + 1 := by rw [Heap.size_update, size_push']
  have eL : (((s.heap.push (seqObj "list" #[] 0)).update s.heap.objs.size (Obj.mapSeq (· ++ ws.toArray))).push (seqObj "list" ws.toArray 0)).get? (s.heap.objs.size + 1) = some (seqObj "list" ws.toArray 0) := by
    rw [← ez]; exact Heap.get?_push_size _ rfl
  show wpAny _ _ _ _ _ { s with heap := ((s.heap.push (seqObj "list" #[] 0)).update s.heap.objs.size (Obj.mapSeq (· ++ ws.toArray))).push (seqObj "list" ws.toArray 0) }
  rw [ez]
  refine wpAny_bind (wpAny_holding (wpAny_call_entry slot_list_sort ⟨_, eL, rfl⟩ entry_list_sort (list_sort_treeAny eL hI hz fun out ns' h1 h2 h3 => ⟨_, rfl, ?_⟩) (args_list_sort _)))
  exact wpAny_pure ⟨_, rfl, q out ns' h1 h2 h3⟩
end
section
variable {X : Cx}
theorem cr_sortedTup : CallR X (.builtin "sorted") (fun vs H Q => ∃ (a : Addr) (ns : List Int), vs = [V.ref a] ∧ SqT X.K H a (ns.map V.int) ∧
    ∀ (ns' : List Int) (p : Addr), ns'.Perm ns → ns'.Pairwise (· ≤ ·) → H p = none → Q (.ref p) (upd H p (.lst (ns'.map V.int)))) := by
  intro pins s σ H vs us Q I r h
  obtain ⟨a, ns, rfl, hs, q⟩ := h
  obtain ⟨its, rv, ht, hz⟩ := I.tuple hs
  rw [List.length_map] at hz
  rw [Vals.ref1 r]
  have hi := rv.ints
  obtain ⟨o, e0, ec, k, ed⟩ := id ht
  refine sorted_tupAny e0 ec ed hi (by rw [hi.length]; exact hz) fun out ns' h1 h2 h3 => ?_
  obtain ⟨ep, he'⟩ := PyProof.Rows.sortedAll_at s.heap its out
  have hlen : (ns'.map V.int).length ≤ sizeLine := by rw [List.length_map, h2.length_eq]; exact hz
  exact ⟨.ref _, upd H (s.heap.objs.size + 1) (.lst (ns'.map V.int)), I.laid (t' := s.toks) (fun _ _ => PyProof.Rows.sortedAll_old) (Nat.le_succ _) ⟨hlen, out.toList, ep, vals_of_ints h1, he'⟩, rfl, q ns' _ h2 h3 (I.hok.fresh (Nat.le_succ _))⟩
end
end My
set_option Elab.async false
set_option linter.all false
set_option maxRecDepth 100000
set_option maxHeartbeats 4000000
namespace My
open PySem PySem.Spec PyProof.Rows L2
noncomputable def frzH (H : Hp) (cs : List Addr) (F : Addr → Obj) : Hp := fun b => if b ∈ cs then some (.frz (F b) (.own 0)) else H b
theorem frz_in {H : Hp} {cs : List Addr} {F : Addr → Obj} {b : Addr} (h : b ∈ cs) : frzH H cs F b = some (.frz (F b) (.own 0)) := by unfold frzH; rw [if_pos h]
theorem frz_out {H : Hp} {cs : List Addr} {F : Addr → Obj} {b : Addr} (h : b ∉ cs) : frzH H cs F b = H b := by unfold frzH; rw [if_neg h]
def hideE (D : Ends) (cs : List Addr) : Ends := ⟨fun σ H => D.nx σ (hid H cs), fun v H => D.rt v (hid H cs), fun σ H => D.bk σ (hid H cs), fun σ H => D.ct σ (hid H cs)⟩
abbrev keepX (X : Cx) (ks : List Str) : Cx := { X with fn := fun x => X.fn x && !ks.contains x }
structure KpAt (X : Cx) (ks : List Str) (cs : List Addr) (ix : List Nat) : Prop where
  at' : ∀ (i : Nat) x, ks[i]? = some x → ∃ c j, cs[i]? = some c ∧ ix[i]? = some j ∧ X.env.cells.lookup x = some c ∧ X.N[j]? = some x ∧ X.fn x = true ∧ X.env.kindOf x ≠ some .local ∧ Vis X.env.scope x
  len : cs.length = ks.length
theorem KpAt.mem {X : Cx} {ks : List Str} {cs : List Addr} {ix : List Nat} (M : KpAt X ks cs ix) {c : Addr} (h : c ∈ cs) : ∃ x ∈ ks, X.env.cells.lookup x = some c ∧ X.fn x = true := by
  obtain ⟨i, hi, e⟩ := List.getElem_of_mem h
  have hi2 : i < ks.length := by rw [← M.len]; exact hi
  obtain ⟨c2, j, h1, _, h2, _, h3, _⟩ := M.at' i _ (List.getElem?_eq_getElem hi2)
  rw [List.getElem?_eq_getElem hi, e] at h1
  cases h1
  exact ⟨_, List.getElem_mem hi2, h2, h3⟩
section
variable {X : Cx} {pins : List (Addr × Obj)} {σ σ' : L2.St} {H H' : Hp} {s s' : Shared} {ks : List Str} {cs : List Addr} {ix : List Nat} {F : Addr → Obj}
theorem kp_none (M : KpAt X ks cs ix) (I : Inv X pins σ H s) : ∀ c ∈ cs, H c = none := fun c hc => by
  obtain ⟨x, _, e, hf⟩ := M.mem hc
  exact (I.freeC x c e).resolve_right fun z => by rw [hf] at z; exact absurd z.1 (by decide)
theorem ok_keep (ok : X.Ok) : (keepX X ks).Ok := ⟨ok.mod, ok.kind, ok.glob, ok.blt, ok.above, ok.inj, ok.has, fun x c h e => ok.cab x c ((Bool.and_eq_true_iff.mp (show (X.fn x && !ks.contains x) = true from h)).1) e, ok.hd, ok.frames, ok.stk, ok.exf, ok.bs, ok.bsz, ok.noex, ok.exfs, ok.funs, ok.frf⟩
theorem inv_keep (M : KpAt X ks cs ix) (I : Inv X pins σ H s) (hF : ∀ c ∈ cs, s.heap.get? c = some (F c)) : Inv (keepX X ks) pins σ (frzH H cs F) s := by
  have hn := kp_none M I
  have out : ∀ b o, H b = some o → b ∉ cs := fun b o e z => by rw [hn b z] at e; cases e
  have lo : ∀ b o, X.s_0.heap.get? b = some o → b ∉ cs := fun b o e z => by
    obtain ⟨x, _, e2, hf⟩ := M.mem z
    exact absurd (Nat.lt_of_lt_of_le (Heap.lt_size e) (I.ok.cab x b hf e2)) (Nat.lt_irrefl _)
  refine ⟨ok_keep I.ok, I.os, I.bare, ⟨I.base.keep, I.base.slot, fun b o e n hx => ?_, I.base.there, fun b xs e => ?_, fun b o u e => ?_, fun b ps e => ?_⟩, I.loc, I.cell, ?_, fun x c e => ?_, fun p hp => ?_, fun b o e => ?_, I.len⟩
  · rw [frz_out (lo b o e)]; exact I.base.free b o e n hx
  · have q := I.base.tups b xs e
    rw [frz_out (out b _ q)]; exact q
  · have q := I.base.frzs b o u e
    rw [frz_out (out b _ q)]; exact q
  · obtain ⟨more, q⟩ := I.base.tbls b ps e
    exact ⟨more, by rw [frz_out (out b _ q)]; exact q⟩
  · rw [frz_out (fun z => by obtain ⟨x, _, e, _⟩ := M.mem z; exact I.cne x _ e rfl)]; exact I.free
  · by_cases hc : c ∈ cs
    · obtain ⟨y, hy, e2, _⟩ := M.mem hc
      have exy := I.ok.inj x y c e e2
      refine .inr ⟨?_, F c, 0, frz_in hc⟩
      show (X.fn x && !ks.contains x) = false
      rw [exy, List.contains_iff_mem.mpr hy]; simp
    · rw [frz_out hc]
      exact (I.freeC x c e).imp id fun ⟨h1, h2⟩ => ⟨by show (X.fn x && !ks.contains x) = false; rw [h1]; rfl, h2⟩
  · obtain ⟨h1, h2, h3, h4, h5⟩ := I.pin p hp
    refine ⟨h1, ?_, h3, h4, h5⟩
    rw [frz_out (fun z => ?_)]
    · exact h2
    · obtain ⟨x, _, e, _⟩ := M.mem z
      obtain ⟨v, o, ho, hd⟩ := I.cell x _ e
      rw [h1] at ho; cases ho
      exact h5 v hd
  · by_cases hb : b ∈ cs
    · rw [frz_in hb] at e; cases e
      exact ⟨hF b hb, ⟨_, hF b hb⟩⟩
    · rw [frz_out hb] at e
      exact (I.hok b o e).stay (fun _ _ _ q => q) (fun c q => by rw [frz_out (out c _ q)]; exact q) fun c xs q => by rw [frz_out (out c _ q)]; exact q
theorem inv_unkeep (M : KpAt X ks cs ix) (I : Inv X pins σ H s) (J : Inv (keepX X ks) pins σ' H' s') : Inv X pins σ' (hid H' cs) s' := by
  have hn := kp_none M I
  have hz : ∀ b, H' b = none → hid H' cs b = none := fun b e => by
    by_cases hb : b ∈ cs
    · exact hid_in hb
    · rw [hid_out hb]; exact e
  have bad : ∀ b o, H' b = some o → b ∈ cs → ∃ o' y, o = .frz o' (.own y) := fun b o e hb => by
    obtain ⟨x, _, e2, _⟩ := M.mem hb
    rcases J.freeC x b e2 with z | ⟨_, o', y, z⟩
    · rw [z] at e; cases e
    · rw [z] at e; cases e; exact ⟨o', y, rfl⟩
  refine ⟨I.ok, J.os, J.bare, ⟨J.base.keep, J.base.slot, fun b o e n hx => hz b (J.base.free b o e n hx), J.base.there, fun b xs e => ?_, fun b o u e => ?_, fun b ps e => ?_⟩, J.loc, J.cell, hz _ J.free, fun x c e => ?_, fun p hp => ?_, fun b o e => ?_, J.len⟩
  · have q := J.base.tups b xs e
    rw [hid_out fun z => by obtain ⟨_, _, y⟩ := bad b _ q z; cases y]; exact q
  · have q := J.base.frzs b o u e
    rw [hid_out fun z => by have := I.base.frzs b o u e; rw [hn b z] at this; cases this]; exact q
  · obtain ⟨more, q⟩ := J.base.tbls b ps e
    exact ⟨more, by rw [hid_out fun z => by obtain ⟨_, _, y⟩ := bad b _ q z; cases y]; exact q⟩
  · by_cases hc : c ∈ cs
    · exact .inl (hid_in hc)
    · rw [hid_out hc]
      refine (J.freeC x c e).imp id fun ⟨h1, h2⟩ => ⟨?_, h2⟩
      have h1 : (X.fn x && !ks.contains x) = false := h1
      cases hk : ks.contains x with
      | true =>
        exfalso
        have hx := List.contains_iff_mem.mp hk
        obtain ⟨i, hi, ei⟩ := List.getElem_of_mem hx
        obtain ⟨c2, j, z1, _, z2, _⟩ := M.at' i x (by rw [List.getElem?_eq_getElem hi, ei])
        rw [e] at z2; cases z2
        exact hc (List.mem_of_getElem? z1)
      | false => rw [hk] at h1; simpa using h1
  · obtain ⟨h1, h2, h3⟩ := J.pin p hp
    exact ⟨h1, hz _ h2, h3⟩
  · have hb : b ∉ cs := fun z => by rw [hid_in z] at e; cases e
    rw [hid_out hb] at e
    exact (J.hok b o e).stay (fun _ _ _ q => q) (fun c q => by rw [hid_out fun z => by obtain ⟨_, _, y⟩ := bad c _ q z; cases y]; exact q) fun c xs q => by rw [hid_out fun z => by obtain ⟨_, _, y⟩ := bad c _ q z; cases y]; exact q
def tKeep (cs : List Addr) (ix : List Nat) (t : TS) : TS := fun D σ H => ∀ F : Addr → Obj, (∀ (i : Nat) c j v, cs[i]? = some c → ix[i]? = some j → σ[j]? = some (some v) → ∃ u, RelV v u ∧ (F c).data = .cell (some u)) → (∀ c ∈ cs, H c = none) → t (hideE D cs) σ (frzH H cs F)
theorem pss_keep {rest : List Stmt} {t : TS} (M : KpAt X ks cs ix) (h : PSs (keepX X ks) rest t) : PSs X rest (tKeep cs ix t) := by
  refine ⟨?_⟩
  intro pins s σ H D I hw
  have hn := kp_none M I
  have ex : ∀ c : Addr, ∃ o : Obj, c ∈ cs → s.heap.get? c = some o := fun c => by
    by_cases hc : c ∈ cs
    · obtain ⟨x, _, e, _⟩ := M.mem hc
      obtain ⟨v, o, ho, _⟩ := I.cell x c e
      exact ⟨o, fun _ => ho⟩
    · exact ⟨{ cls := .none, data := .plain }, fun z => absurd z hc⟩
  have hF : ∀ c ∈ cs, s.heap.get? c = some ((fun c => (ex c).choose) c) := fun c hc => (ex c).choose_spec hc
  have I2 := inv_keep M I hF
  refine thn (h pins s σ _ _ I2 (hw _ (fun i c j v e1 e2 e3 => ?_) hn)) fun f s1 q => ?_
  · have hi : i < ks.length := by rw [← M.len]; exact (List.getElem?_eq_some_iff.mp e1).1
    obtain ⟨c2, j2, z1, z2, z3, z4, _, z5, z6⟩ := M.at' i _ (List.getElem?_eq_getElem hi)
    rw [e1] at z1; cases z1
    rw [e2] at z2; cases z2
    obtain ⟨m, _, hl⟩ := I.loc
    obtain ⟨u, r, l⟩ := hl j _ v z4 e3 z6
    refine ⟨u, r, ?_⟩
    rcases l with ⟨k, _⟩ | ⟨_, c3, y1, o, y2, y3⟩
    · exact absurd k z5
    · rw [z3] at y1; cases y1
      have z := Option.some.inj (y2.symm.trans (hF c (List.mem_of_getElem? e1)))
      exact (congrArg Obj.data z).symm.trans y3
  · cases f with
    | next => obtain ⟨σ', H', J, q⟩ := q; exact ⟨σ', _, inv_unkeep M I J, q⟩
    | brk => obtain ⟨σ', H', J, q⟩ := q; exact ⟨σ', _, inv_unkeep M I J, q⟩
    | cont => obtain ⟨σ', H', J, q⟩ := q; exact ⟨σ', _, inv_unkeep M I J, q⟩
    | ret v => obtain ⟨x, σ', H', J, r, q⟩ := q; exact ⟨x, σ', _, inv_unkeep M I J, r, q⟩
end
structure CloF (H : Hp) (f : Addr) (fd : FuncData) (fs : List Str) (fv : List V) : Prop where
  ob : H f = some (.ext (FuncP f fd))
  code : ∃ (c : Addr) (oc : Obj) (u : HO) (vs : Array Value) (t : Tok), fd.code = .ref c ∧ H c = some (.frz oc u) ∧ oc.data = .fields vs ∧ vs[1]? = some (.str fd.qualname t)
  vals : ∀ (i : Nat) (x : Str) (v : V), fs[i]? = some x → fv[i]? = some v → ∃ c oc y u, fd.closure.lookup x = some c ∧ H c = some (.frz oc (.own y)) ∧ oc.data = .cell (some u) ∧ RelV v u
  inj : ∀ x y c, fd.closure.lookup x = some c → fd.closure.lookup y = some c → x = y
  cells : ∀ x c, fd.closure.lookup x = some c → ∃ oc y v, H c = some (.frz oc (.own y)) ∧ oc.data = .cell v
  len : fv.length = fs.length
def domF (f c : Addr) (fd : FuncData) : List Addr := f :: c :: fd.closure.map (·.2)
theorem CloF.fix {H H' : Hp} {f c : Addr} {fd : FuncData} {fs : List Str} {fv : List V} (C : CloF H f fd fs fv) (hc : fd.code = .ref c) (k : ∀ b ∈ domF f c fd, H' b = H b) : CloF H' f fd fs fv where
  ob := by rw [k f List.mem_cons_self]; exact C.ob
  code := by
    obtain ⟨c2, oc, u, vs, t, e1, e2, e3⟩ := C.code
    rw [hc] at e1; cases e1
    exact ⟨c, oc, u, vs, t, hc, by rw [k c (List.mem_cons_of_mem _ List.mem_cons_self)]; exact e2, e3⟩
  vals := fun i x v e1 e2 => by
    obtain ⟨a, oc, y, u, z1, z2, z3⟩ := C.vals i x v e1 e2
    exact ⟨a, oc, y, u, z1, by rw [k a (List.mem_cons_of_mem _ (List.mem_cons_of_mem _ (List.mem_map.mpr ⟨(x, a), PySem.mem_of_lookup z1, rfl⟩)))]; exact z2, z3⟩
  inj := C.inj
  cells := fun x a e => by
    obtain ⟨oc, y, v, z2, z3⟩ := C.cells x a e
    exact ⟨oc, y, v, by rw [k a (List.mem_cons_of_mem _ (List.mem_cons_of_mem _ (List.mem_map.mpr ⟨(x, a), PySem.mem_of_lookup e, rfl⟩)))]; exact z2, z3⟩
  len := C.len
theorem CloF.ext1 {H : Hp} {f : Addr} {fd : FuncData} {fs : List Str} {fv : List V} (C : CloF H f fd fs fv) : Exts H [f] := fun b hb => by rw [List.mem_singleton.mp hb]; exact ⟨_, C.ob⟩
theorem CloF.at' {P : Program} {w : World} {H : Hp} {h : Heap} {f : Addr} {fd : FuncData} {fs : List Str} {fv : List V} (C : CloF H f fd fs fv) (x : HOk P w H h) : CloAt h (hid H [f]) f fd fs fv where
  ob := by
    obtain ⟨p, _⟩ := (show ObjOk P w H h f _ from x f _ C.ob)
    exact p
  un := hid_in (List.mem_singleton.mpr rfl)
  code := by
    obtain ⟨c, oc, u, vs, t, e1, e2, e3⟩ := C.code
    exact ⟨c, oc, u, vs, t, e1, C.ext1.hid e2 (by intro φ z; cases z), e3⟩
  vals := fun i y v e1 e2 => by
    obtain ⟨c, oc, yy, u, z1, z2, z3, z4⟩ := C.vals i y v e1 e2
    have g := (show ObjOk P w H h c (.frz oc (.own yy)) from x c _ z2).1
    exact ⟨c, u, z1, ⟨oc, g, z3⟩, z4, .inr ⟨oc, yy, C.ext1.hid z2 (by intro φ z; cases z), g⟩⟩
  inj := C.inj
  cells := fun y c e => by
    obtain ⟨oc, yy, v, z2, z3⟩ := C.cells y c e
    have g := (show ObjOk P w H h c (.frz oc (.own yy)) from x c _ z2).1
    exact ⟨⟨v, oc, g, z3⟩, .inr ⟨oc, yy, C.ext1.hid z2 (by intro φ z; cases z), g⟩⟩
  len := C.len
section
variable {P : Program} {w : World} {K : PySem.W.Frag} {mg : Str → Option Value} {base : Heap} {N ps fs : List Str} {scope : Scope} {f : Addr} {H : Hp}
theorem clo_lamF {k : Nat} {params : Arguments} {body : Expr} {name qual : Str} {cl : List (Str × Addr)} {pm cdv ct : Value} {fv : List V} {sp : Sp} (L : LScope N ps fs scope)
    (hbind : ∀ us : List Value, us.length = ps.length → bindArgs (PySem.W.kla_fn name qual params body scope cl pm cdv ct) ⟨us, []⟩ = pure (ps.zip us))
    (C : CloF H f (PySem.W.kla_fn name qual params body scope cl pm cdv ct) fs fv)
    (hbody : ∀ (A : Around) (outer : List Env) (s : Shared) (vs : List V) (Q : VK) (E : XK), Room k (A.deeper (PySem.W.envX qual scope s.heap.objs.size f cdv cl)) → sp vs (hid H [f]) Q E →
      ∃ t, PE (cxL (CXe P w) P w K mg base N qual scope f cdv cl A outer s (hid H [f]) E) body t ∧ t (start N (vs ++ fv)) (hid H [f]) Q) :
    FnH P w K mg base (k + 1) f H ps.length (spOver H [f] sp) := by
  intro A outer s us vs Q E hr e0 r hl hsp
  have C2 := C.at' e0.hok
  have F := lam_at (k := k) (CX := CXe P w) (sp := fun vs H2 Q E => H2 = hid H [f] ∧ sp vs (hid H [f]) Q E) L hbind C2 (fun A outer s H2 vs Q E hr ⟨e, h⟩ => by subst e; exact hbody A outer s vs Q E hr h)
  exact codeAny_mono (F A outer s (hid H [f]) us vs (overQ H [f] Q) (overE H [f] E) hr (env0_hid e0 C.ext1) (Kept0.refl (env0_hid e0 C.ext1).hok) r hl ⟨rfl, hsp⟩) fun r s' q => cr_over e0 C.ext1 q
end
section
variable {X : Cx} {pins : List (Addr × Obj)} {σ : L2.St} {H : Hp} {s : Shared}
theorem inv_track {f : Addr} {o : Obj} {fd : FuncData} (I : Inv X pins σ H s) (hn : H f = none) (ho : s.heap.get? f = some o) (hd : o.data = .func fd) (h0 : X.s_0.heap.objs.size ≤ f) (hp0 : ∀ p ∈ X.pn ++ pins, p.1 ≠ f) : Inv X pins σ (upd H f (.ext (FuncP f fd))) s := by
  have ne : ∀ b u, H b = some u → b ≠ f := fun b u e z => by rw [z, hn] at e; cases e
  refine ⟨I.ok, I.os, I.bare, ⟨I.base.keep, I.base.slot, fun b ob e n hx => ?_, I.base.there, fun b xs e => ?_, fun b ob u e => ?_, fun b ps e => ?_⟩, I.loc, I.cell, ?_, fun x c e => ?_, fun p hp => ?_, hok_track I.hok hn ⟨⟨o, ho, hd⟩, ⟨o, ho⟩, fun h1 h2 ⟨o, z1, z2⟩ k => ⟨o, k _ z1, z2⟩⟩, I.len⟩
  · rw [upd_ne (Nat.ne_of_lt (Nat.lt_of_lt_of_le (Heap.lt_size e) h0))]; exact I.base.free b ob e n hx
  · have q := I.base.tups b xs e
    rw [upd_ne (ne b _ q)]; exact q
  · have q := I.base.frzs b ob u e
    rw [upd_ne (ne b _ q)]; exact q
  · obtain ⟨more, q⟩ := I.base.tbls b ps e
    exact ⟨more, by rw [upd_ne (ne b _ q)]; exact q⟩
  · obtain ⟨m, ⟨oL, es, ep, e1, e2, _⟩, _⟩ := I.loc
    rw [upd_ne (fun z => by rw [z, ho] at e1; cases e1; rw [hd] at e2; cases e2)]; exact I.free
  · obtain ⟨v, oc, e1, e2⟩ := I.cell x c e
    have nc : c ≠ f := fun z => by rw [z, ho] at e1; cases e1; rw [hd] at e2; cases e2
    rw [upd_ne nc]; exact I.freeC x c e
  · obtain ⟨h1, h2, h3⟩ := I.pin p hp
    exact ⟨h1, by rw [upd_ne (hp0 p hp)]; exact h2, h3⟩
def tMkF (Pt : Addr) (qf : Nat → Nat → Str) (ix : List Nat) (fs : List Str) (clos : List (Str × Addr)) (mk : Value → Value → Value → FuncData) : TE := fun σ H Q => TabAt H Pt qf ∧ (∀ x c, clos.lookup x = some c → ∃ o y, H c = some (.frz o (.own y))) ∧ ∃ fv : List V, fv.length = ix.length ∧ (∀ (i j : Nat), ix[i]? = some j → ∀ v, fv[i]? = some v → σ[j]? = some (some v)) ∧
  ∀ (H2 : Hp) (f : Addr) (pm cv ct : Value), TabAt H2 Pt qf → (∀ b o, H b = some o → b ≠ Pt → H2 b = some o) → H f = none → CloF H2 f (mk pm cv ct) fs fv → Q (.ref f) H2
theorem mk_doneF {scope : Scope} {c Pt : Addr} {clos : List (Str × Addr)} {fs : List Str} {ix : List Nat} {qf : Nat → Nat → Str} {nm : Str} {ar : Arguments} {bd : FuncBody} {mpos : Pos} {fl : Nat} {Q : VK}
    (M : MkAt X scope c Pt clos fs ix) (hnd : NoDoc bd) (I : Inv X pins σ H s) (h : tMkF Pt qf ix fs clos (fun pm cv ct => mkFn nm (qf mpos.line mpos.col) ar bd scope clos pm cv ct) σ H Q) :
    wpAny (model X.prog X.w) X.A (makeFunction nm (qf mpos.line mpos.col) ar bd scope X.env [] [] [] mpos fl) (EP X pins σ Q) X.xe s := by
  obtain ⟨T, hz, fv, hl, hσ, h⟩ := h
  refine run_mk (fv := fv) hnd I M.code M.hd M.blt T M.clo M.sub M.free (fun i x v e1 e2 => ?_) (by rw [hl, M.len]) fun f H2 s2 pm cv ct hf I2 T2 k2 C => ?_
  · obtain ⟨j, y1, y2⟩ := M.at' i x e1
    exact ⟨j, y2, hσ i j y1 v e2⟩
  · obtain ⟨o, ho, hd⟩ := C.ob
    obtain ⟨pst, tP, _⟩ := id T
    have hf0 : H f = none := I.hok.fresh hf
    have neF : ∀ b u, H2 b = some u → b ≠ f := fun b u e z => by rw [z, C.un] at e; cases e
    have I3 := inv_track I2 C.un ho hd (Nat.le_trans I.sz hf) fun p hp z => by
      obtain ⟨h1, _⟩ := I.pin p hp
      have := Heap.lt_size h1
      rw [z] at this
      exact absurd this (Nat.not_lt.mpr hf)
    have cell2 : ∀ x a, clos.lookup x = some a → ∃ oc y, H2 a = some (.frz oc (.own y)) ∧ s2.heap.get? a = some oc := fun x a e => by
      obtain ⟨oc, y, z⟩ := hz x a e
      have z2 := k2 a _ z (fun zz => by rw [zz, tP] at z; cases z)
      exact ⟨oc, y, z2, (show ObjOk X.prog X.w H2 s2.heap a (.frz oc (.own y)) from I2.hok a _ z2).1⟩
    refine ⟨.ref f, _, I3, rfl, h _ f pm cv ct (T2.same fun b u e => by rw [upd_ne (neF b u e)]; exact e) (fun b u e n => by have := k2 b u e n; rw [upd_ne (neF b u this)]; exact this) hf0 ⟨upd_same, ?_, fun i x v e1 e2 => ?_, C.inj, fun x a e => ?_, C.len⟩⟩
    · obtain ⟨c2, oc, u, vs, t, e1, e2, e3⟩ := C.code
      exact ⟨c2, oc, u, vs, t, e1, by rw [upd_ne (neF c2 _ e2)]; exact e2, e3⟩
    · obtain ⟨a, u, z1, ⟨o2, z2, z3⟩, z4, _⟩ := C.vals i x v e1 e2
      obtain ⟨oc, y, y1, y2⟩ := cell2 x a z1
      rw [z2] at y2; cases y2
      exact ⟨a, o2, y, u, z1, by rw [upd_ne (neF a _ y1)]; exact y1, z3, z4⟩
    · obtain ⟨⟨v, o2, z2, z3⟩, _⟩ := C.cells x a e
      obtain ⟨oc, y, y1, y2⟩ := cell2 x a e
      rw [z2] at y2; cases y2
      exact ⟨o2, y, v, by rw [upd_ne (neF a _ y1)]; exact y1, z3⟩
variable {scope : Scope} {c Pt : Addr} {clos : List (Str × Addr)} {fs : List Str} {ix : List Nat} {qf : Nat → Nat → Str} {ar : Arguments} {pos : Pos}
theorem pe_lamF {body : Expr} {lpos : Pos} (M : MkAt X scope c Pt clos fs ix) (hq : X.env.qual ++ "<lambda>" = qf lpos.line lpos.col) (hdef : defaultsOf ar X.env = ([], [])) :
    PE X (.Lambda ar body scope lpos) (tMkF Pt qf ix fs clos fun pm cv ct => mkFn "<lambda>" (qf lpos.line lpos.col) ar (.expr body) scope clos pm cv ct) := by
  refine ⟨fun pins s σ H Q I h => PySem.W.kla_eval hdef ?_⟩
  rw [hq]
  exact mk_doneF (bd := .expr body) M trivial I h
end
end My
set_option Elab.async false
set_option linter.all false
set_option maxRecDepth 100000
set_option maxHeartbeats 4000000
namespace My
open PySem L2
def top (i : Nat) : Stmt := PySem.Challenge.pw_leastfail_k23_whole_quick_as_cut_down.main.body.getD i (.Pass ⟨0, 0, 0, 0⟩)
abbrev sMixed : Stmt := top 29
abbrev sFolded : Stmt := top 30
abbrev sDraw : Stmt := top 31
abbrev sBegun : Stmt := top 32
abbrev sSome : Stmt := top 33
def spMixed : Sp := fun vs H Q _ => ∃ (c k : Int), vs = [.int c, .int k] ∧ -(2 ^ 62) < c ∧ c < 2 ^ 62 ∧ 0 ≤ k ∧ k < 2 ^ 40 ∧ ∀ r : Int, 0 ≤ r → r < 2147483629 → Q (.int r) H
structure MAt (H : Hp) (m lC lL : Addr) (n : Nat) : Prop where
  ex : ∃ (cells left : List Int), H m = some (.dK [(Sum.inr "cells", .ref lC), (Sum.inr "left", .ref lL), (Sum.inr "spot", .int n)]) ∧ H lC = some (.lst (cells.map V.int)) ∧ cells.length = 64 ∧
    (∀ c ∈ cells, 0 ≤ c ∧ c < 2147483647) ∧ H lL = some (.lst (left.map V.int)) ∧ left.length ≤ 63 ∧ lC ≠ lL
def But (m lL : Addr) (H H' : Hp) : Prop := ∀ c o, H c = some o → c ≠ m → c ≠ lL → H' c = some o
theorem But.refl {m lL : Addr} {H : Hp} : But m lL H H := fun _ _ h _ _ => h
theorem But.trans {m lL : Addr} {H H1 H2 : Hp} (a : But m lL H H1) (b : But m lL H1 H2) : But m lL H H2 := fun c o h h1 h2 => b c o (a c o h h1 h2) h1 h2
theorem But.of_same {m lL : Addr} {H H1 : Hp} (a : Same H H1) : But m lL H H1 := fun c o h _ _ => a c o h
def spFolded (K : PySem.W.Frag) : Sp := fun vs H Q _ => ∃ (a : Addr) (ns : List Int), vs = [.ref a] ∧ SqL K H a (ns.map V.int) ∧ ns.length ≤ 63 ∧
  ∀ (l : Addr) (cells : List Int) (H' : Hp), H l = none → Same H H' → H' l = some (.lst (cells.map V.int)) → cells.length = 64 → (∀ c ∈ cells, 0 ≤ c ∧ c < 2147483647) → Q (.ref l) H'
def spDraw : Sp := fun vs H Q _ => ∃ (m lC lL : Addr) (n : Nat) (t : Int), vs = [.ref m, .int t] ∧ MAt H m lC lL n ∧ n < 2 ^ 32 ∧ 0 < t ∧ t < 2 ^ 30 ∧
  ∀ (r : Int) (H' : Hp), 0 ≤ r → r < t → MAt H' m lC lL (n + 1) → But m lL H H' → Q (.int r) H'
def spBegun (K : PySem.W.Frag) : Sp := fun vs H Q _ => ∃ (a : Addr) (ns : List Int), vs = [.ref a] ∧ SqL K H a (ns.map V.int) ∧ ns.length ≤ 63 ∧
  ∀ (m lC lL : Addr) (H' : Hp), H m = none → H lL = none → MAt H' m lC lL 0 → Same H H' → Q (.ref m) H'
def Rising (lo hi : Nat) : List Nat → Prop
  | [] => True
  | k :: r => lo ≤ k ∧ k < hi ∧ Rising (k + 1) hi r
def tupN (ks : List Nat) : List V := ks.map fun (k : Nat) => V.int (k : Int)
def spSome : Sp := fun vs H Q _ => ∃ (m lC lL : Addr) (n z : Nat), vs = [.ref m, .int (z : Int)] ∧ MAt H m lC lL n ∧ n < 2 ^ 31 ∧ z ≤ 120 ∧
  ∀ (t : Addr) (ks : List Nat) (n' : Nat) (H' : Hp), H t = none → H' t = some (.tup (tupN ks)) → Rising 0 z ks → n' ≤ n + 122 → MAt H' m lC lL n' → But m lL H H' → Q (.ref t) H'
section
variable {P : Program} {w : World} {K : PySem.W.Frag} {mg : Str → Option Value} {base : Heap}
theorem scMixed : FnScope ["_law_cell", "_law_k", "_law_turned"] ["_law_cell", "_law_k"] (defScope sMixed) := ⟨rfl, rfl, rfl, by decide +kernel, rfl, by decide +kernel, by decide +kernel⟩
theorem ok_mixed {f : Addr} {fd : FuncData} (F : Fun K "_law_mixed" "_law_mixed" sMixed f fd) : FnOk P w K mg base CX0 1 f fd ["_law_cell", "_law_k"] spMixed := by
  refine F.ok scMixed (fun vs H Q E h => ?_) (fun cdv A outer s H vs Q E hr h => ?_)
  · obtain ⟨c, k, rfl, _⟩ := h
    rfl
  · obtain ⟨c, k, rfl, h1, h2, h3, h4, q⟩ := h
    refine ⟨_, pss_cons (ps_set (i := 2) scMixed.nd rfl (Or.inl rfl)
        (pe_op op_add (pe_op op_add (pe_op op_mod (pe_op op_mul (pe_op op_mul (pv 0) (pe_op op_add pe_int (pe_op op_mul pe_int (pv 1)))) pe_int) pe_int)
          (pe_op op_mul (pe_op op_mul pe_int (pv 1)) (pv 1))) (pe_op op_mul pe_int (pv 1))))
      (pss_one (ps_ret (pe_op op_fdiv (pe_op op_mod (pe_op op_mul (pv 2) pe_int) pe_int) pe_int))), ?_⟩
    refine ⟨_, rfl, _, rfl, _, _, rfl, rfl, .inl ⟨by decide, by decide⟩, _, _, rfl, rfl, _, _, rfl, rfl, .inl ⟨by omega, by omega⟩, _, _, rfl, rfl, .inr ⟨by decide, by decide⟩, _, _, rfl, rfl, (by show (0 : Int) < 2147483647; decide), ?_⟩
    refine ⟨_, rfl, _, _, rfl, rfl, .inl ⟨by decide, by decide⟩, _, rfl, _, _, rfl, rfl, .inr ⟨by omega, by omega⟩, _, _, rfl, rfl, _, rfl, _, _, rfl, rfl, .inl ⟨by decide, by decide⟩, _, _, rfl, rfl, ?_⟩
    refine ⟨_, rfl, _, _, rfl, rfl, .inr ⟨by decide, by decide⟩, _, _, rfl, rfl, (by show (0 : Int) < 2147483629; decide), _, _, rfl, rfl, ⟨by decide, by decide⟩, ?_⟩
    refine q _ ?_ ?_ <;> (generalize (_ * 69621 : Int) = z; omega)
end
end My
set_option Elab.async false
set_option linter.all false
set_option maxRecDepth 100000
set_option maxHeartbeats 4000000
namespace My
open PySem L2
theorem get_ints {ns : List Int} {i : Nat} {y : V} (h : (ns.map V.int)[i]? = some y) : ∃ z, y = V.int z ∧ ns[i]? = some z := by
  rw [List.getElem?_map] at h
  cases e : ns[i]? with
  | none => rw [e] at h; cases h
  | some z => rw [e] at h; exact ⟨z, (Option.some.inj h).symm, rfl⟩
theorem set_ints (ns : List Int) (i : Nat) (z : Int) : (ns.map V.int).set i (V.int z) = (ns.set i z).map V.int := by
  rw [List.map_set]
theorem ints_at {ns : List Int} {i : Nat} (h : i < ns.length) : (ns.map V.int)[i]? = some (V.int ns[i]) := by
  rw [List.getElem?_map, List.getElem?_eq_getElem h]; rfl
theorem ixN_ok {n : Nat} {i : Int} {j : Nat} (e : i = (j : Int)) (h : j < n) : ixN n i = some j := by
  subst e; unfold ixN; rw [if_pos (by omega), if_pos (by omega)]; simp
theorem mem_set_of {p : Int → Prop} {l : List Int} {i : Nat} {z : Int} (h : ∀ c ∈ l, p c) (hz : p z) : ∀ c ∈ l.set i z, p c := fun c hc =>
  (List.mem_or_eq_of_mem_set hc).elim (h c) fun e => e ▸ hz
theorem canInts : ∀ ns : List Int, PyData.canLayAll0 (ns.map PyData.int) = true
  | [] => by rw [List.map_nil, PyData.canLayAll0]
  | n :: r => by rw [List.map_cons, PyData.canLayAll0, canInts r]; rfl
theorem depInts : ∀ ns : List Int, PyData.depthAll (ns.map PyData.int) = 0
  | [] => by rw [List.map_nil, PyData.depthAll]
  | n :: r => by rw [List.map_cons, PyData.depthAll, depInts r]; rfl
theorem shInts (ns : List Int) : SeqAt.shaped (.list (ns.map PyData.int)) = true := by
  unfold SeqAt.shaped
  rw [PyData.canLay0, canInts, PyData.depth, depInts]; rfl
theorem dpInts {K : PySem.W.Frag} {H : Hp} : ∀ ns : List Int, DpAll K H (ns.map V.int) (ns.map PyData.int)
  | [] => .nil
  | n :: r => .cons (.int n) (dpInts r)
theorem for_enum {K : PySem.W.Frag} {a : Addr} {xs : List V} {g : TG} {tb : TS} {D : Ends} {σ : St} {H : Hp} (Pv : Nat → St → Hp → Prop) (h0 : Pv 0 σ H) (hl : ∀ i σ H, i ≤ xs.length → Pv i σ H → SqL K H a xs)
    (hs : ∀ i x σ H T, xs[i]? = some x → H T = none → Pv i σ H → g (.ref T) σ (upd H T (.tup [.int (i : Nat), x])) fun σ2 H2 => tb { D with nx := Pv (i + 1), ct := Pv (i + 1), bk := D.nx } σ2 H2) (hd : ∀ σ H, Pv xs.length σ H → D.nx σ H) :
    ∃ W : Nat → Nat → St → Hp → Prop, (∃ m, W 0 m σ H) ∧ ∀ i m σ H, W i m σ H →
      ((Ite K a).stop i H ∧ D.nx σ H) ∨ ((Ite K a).go i H ∧ ∃ N : St → Hp → Prop, (∀ σ' H', N σ' H' → ∃ m', m' < m ∧ W (i + 1) m' σ' H') ∧ ∀ x H', (Ite K a).yld i H x H' → g x σ H' fun σ2 H2 => tb { D with nx := N, ct := N, bk := D.nx } σ2 H2) := by
  refine ⟨fun i m σ H => m = xs.length - i ∧ i ≤ xs.length ∧ Pv i σ H, ⟨xs.length, by simp, Nat.zero_le _, h0⟩, ?_⟩
  rintro i m σ H ⟨rfl, hi, p⟩
  have q := hl i σ H hi p
  by_cases hlt : i < xs.length
  · refine .inr ⟨⟨xs, xs[i], q, by simp [hlt]⟩, Pv (i + 1), fun σ' H' p' => ⟨xs.length - (i + 1), by omega, rfl, hlt, p'⟩, fun x H' y => ?_⟩
    obtain ⟨T, x', rfl, hT, rfl, y⟩ := y
    exact hs i x' σ H T (y xs q) hT p
  · have e : i = xs.length := by omega
    subst e
    exact .inl ⟨⟨xs, q, Nat.le_refl _⟩, hd σ H p⟩
structure Bi (mg : Str → Option Value) : Prop where
  range : mg "range" = none
  enumerate : mg "enumerate" = none
  len : mg "len" = none
  tuple : mg "tuple" = none
section
variable {P : Program} {w : World} {K : PySem.W.Frag} {mg : Str → Option Value} {base : Heap}
theorem scFolded : FnScope ["_law_script", "_law_found", "_law_k", "_law_cell"] ["_law_script"] (defScope sFolded) := ⟨rfl, rfl, rfl, by decide +kernel, rfl, by decide +kernel, by decide +kernel⟩
theorem ok_folded {f : Addr} {fd : FuncData} (F : Fun K "_law_folded" "_law_folded" sFolded f fd) (T : Bi mg) : FnOk P w K mg base CX0 1 f fd ["_law_script"] (spFolded K) := by
  refine F.ok scFolded (fun vs H Q E h => ?_) (fun cdv A outer s H vs Q E hr h => ?_)
  · obtain ⟨a, ns, rfl, _⟩ := h
    rfl
  · obtain ⟨a, ns, rfl, hS, hn, q⟩ := h
    refine ⟨_, pss_cons (ps_setLc (i := 1) (own := [("_law_k", 2)]) (g := gName 2) (by rfl) scFolded.nd rfl rfl (sw_true rfl rfl rfl (by decide +kernel)) (pi_range1 (by rfl) T.range (pa_cons pe_int pa_nil))
          (blkOk_by (own := [("_law_k", 2)]) (N := ["_law_script", "_law_found", "_law_k", "_law_cell"]) (sc := defScope sFolded) (by decide +kernel)) (fun _ _ _ _ _ => pg_name (i := 2) scFolded.nd rfl (Or.inl rfl)) (fun _ _ _ _ _ => pts_nil) (fun _ _ _ _ _ => pe_op op_add pe_int (pv 2)))
      (pss_cons (ps_for PassesOwn.never rfl (pi_enum (by rfl) T.enumerate (pa_cons (pv 0) pa_nil)) (pg_tup (by rfl) (pgs_cons (pg_name (i := 2) scFolded.nd rfl (Or.inl rfl)) (pgs_cons (pg_name (i := 3) scFolded.nd rfl (Or.inl rfl)) pgs_nil)))
          (pss_one (ps_asg (pe_op op_mod (pe_op op_add (pe_op op_mul (pe_ix ix_list (pv 1) (pe_op op_mod (pv 2) pe_int) (fun _ _ => rfl)) pe_int) (pv 3)) pe_int) (pg_sub (pv 1) (pe_op op_mod (pv 2) pe_int) set_list))))
      (pss_cons (ps_for PassesOwn.never rfl (pi_range2 (by rfl) T.range (pa_cons pe_int (pa_cons pe_int pa_nil))) (pg_name (i := 2) scFolded.nd rfl (Or.inl rfl))
          (pss_one (ps_asg (pe_op op_mod (pe_op op_add (pe_ix ix_list (pv 1) (pv 2) (fun _ _ => rfl)) (pe_op op_mul (pe_ix ix_list (pv 1) (pe_op op_sub (pv 2) pe_int) (fun _ _ => rfl)) pe_int)) pe_int) (pg_sub (pv 1) (pv 2) set_list))))
      (pss_one (ps_ret (pv 1))))), ?_⟩
    refine ⟨64, rfl, by decide, by decide, fun D hD => lc_range (lo := 0) (n := 64) (fun i H1 => ∃ cells : List Int, H1 = upd H D (.lst (cells.map V.int)) ∧ cells.length = i ∧ ∀ c ∈ cells, 0 ≤ c ∧ c < 2147483647) ⟨[], rfl, rfl, fun _ z => nomatch z⟩ ?_ ?_⟩
    · rintro i H1 hi ⟨cells, rfl, hc, hb⟩
      refine ⟨rfl, ?_⟩
      refine ⟨_, rfl, _, _, rfl, rfl, _, upd_same, small1000 (by rw [List.length_map]; omega), cells ++ [17 + (0 + (i : Int))], ?_, by simp [hc], fun c hcm => ?_⟩
      · rw [upd_upd, List.map_append]; rfl
      · rcases List.mem_append.mp hcm with z | z
        · exact hb c z
        · rw [List.mem_singleton.mp z]; omega
    rintro H1 ⟨cells, rfl, hc, hb⟩
    have s1 : Same H (upd H D (.lst (cells.map V.int))) := fun b o e => by rw [upd_ne (ne_of_none e hD)]; exact e
    refine ⟨_, rfl, a, _, rfl, s1.seq hS, for_enum (K := K) (a := a) (xs := ns.map V.int) (fun i σ H2 => ∃ (cells : List Int) (v1 v2 : Option V), σ = [some (.ref a), some (.ref D), v1, v2] ∧ H2 D = some (.lst (cells.map V.int)) ∧ Same H H2 ∧ cells.length = 64 ∧ ∀ c ∈ cells, 0 ≤ c ∧ c < 2147483647)
      ⟨cells, _, _, rfl, upd_same, s1, hc, hb⟩ (fun i σ H2 _ ⟨_, _, _, _, _, s2, _⟩ => s2.seq hS) ?_ ?_⟩
    · rintro i y σ H2 T' hi hT ⟨cells, v1, v2, rfl, hD2, s2, hc, hb⟩
      obtain ⟨z, rfl, _⟩ := get_ints hi
      have hDT : D ≠ T' := ne_of_none hD2 hT
      have em : ((i : Nat) : Int) % 64 = ((i % 64 : Nat) : Int) := by omega
      have hlt : i % 64 < cells.length := by rw [hc]; exact Nat.mod_lt _ (by decide)
      have hD3 : (upd H2 T' (.tup [.int (i : Nat), .int z])) D = some (.lst (cells.map V.int)) := by rw [upd_ne hDT]; exact hD2
      refine ⟨T', _, rfl, SqT.of upd_same, rfl, _, _, rfl, _, _, rfl, rfl, ?_⟩
      refine ⟨_, rfl, _, rfl, _, _, rfl, rfl, (by show (0 : Int) < 64; decide), D, _, _, _, rfl, rfl, SqL.of hD3, at_of em (ints_at hlt), _, _, rfl, rfl, .inr ⟨by decide, by decide⟩, _, rfl, _, _, rfl, rfl, _, _, rfl, rfl, (by show (0 : Int) < 2147483647; decide), ?_⟩
      refine ⟨_, rfl, _, rfl, _, _, rfl, rfl, (by show (0 : Int) < 64; decide), D, _, _, i % 64, rfl, rfl, hD3, ixN_ok em (by rw [List.length_map]; exact hlt), ?_⟩
      refine ⟨_, _, _, rfl, upd_same.trans (by rw [set_ints]), fun b o e => ?_, by rw [List.length_set]; exact hc, mem_set_of hb ⟨Int.emod_nonneg _ (by decide), Int.emod_lt_of_pos _ (by decide)⟩⟩
      rw [upd_ne (ne_of_none e hD), upd_ne (ne_of_none e (s2.free hT))]
      exact s2 b o e
    rintro σ H2 ⟨cells, v1, v2, rfl, hD2, s2, hc, hb⟩
    refine ⟨1, 64, rfl, ⟨by decide, by decide, by decide, by decide⟩, for_range (lo := 1) (n := 63) (fun i σ H3 => ∃ (cells : List Int) (v1 v2 : Option V), σ = [some (.ref a), some (.ref D), v1, v2] ∧ H3 D = some (.lst (cells.map V.int)) ∧ Same H H3 ∧ cells.length = 64 ∧ ∀ c ∈ cells, 0 ≤ c ∧ c < 2147483647)
      ⟨cells, _, _, rfl, hD2, s2, hc, hb⟩ ?_ ?_⟩
    · rintro i σ H3 hi ⟨cells, v1, v2, rfl, hD3, s3, hc, hb⟩
      have e1 : (1 : Int) + (i : Int) = ((i + 1 : Nat) : Int) := by omega
      have e2 : (1 : Int) + (i : Int) - 1 = ((i : Nat) : Int) := by omega
      have l1 : i + 1 < cells.length := by omega
      have l2 : i < cells.length := by omega
      refine ⟨_, rfl, _, rfl, D, _, _, _, rfl, rfl, SqL.of hD3, at_of e1 (ints_at l1), _, rfl, _, rfl, _, _, rfl, rfl, D, _, _, _, rfl, rfl, SqL.of hD3, at_of e2 (ints_at l2), _, _, rfl, rfl, .inr ⟨by decide, by decide⟩, _, _, rfl, rfl, _, _, rfl, rfl, (by show (0 : Int) < 2147483647; decide), ?_⟩
      refine ⟨_, rfl, _, rfl, D, _, _, i + 1, rfl, rfl, hD3, ixN_ok e1 (by rw [List.length_map]; exact l1), ?_⟩
      refine ⟨_, _, _, rfl, upd_same.trans (by rw [set_ints]), fun b o e => ?_, by rw [List.length_set]; exact hc, mem_set_of hb ⟨Int.emod_nonneg _ (by decide), Int.emod_lt_of_pos _ (by decide)⟩⟩
      rw [upd_ne (ne_of_none e hD)]
      exact s3 b o e
    rintro σ H3 ⟨cells, v1, v2, rfl, hD3, s3, hc, hb⟩
    exact ⟨_, rfl, q D cells H3 hD s3 hD3 hc hb⟩
end
end My
set_option Elab.async false
set_option linter.all false
set_option maxRecDepth 100000
set_option maxHeartbeats 4000000
namespace My
open PySem L2
theorem t_cl : ¬ (("cells" : Str) = "left") := by decide +kernel
theorem t_cs : ¬ (("cells" : Str) = "spot") := by decide +kernel
theorem t_ls : ¬ (("left" : Str) = "spot") := by decide +kernel
theorem t_sl : ¬ (("spot" : Str) = "left") := by decide +kernel
theorem k_cl : ¬ ((Sum.inr "cells" : Key) = (Sum.inr "left" : Key)) := fun h => t_cl (Sum.inr.inj h)
theorem k_cs : ¬ ((Sum.inr "cells" : Key) = (Sum.inr "spot" : Key)) := fun h => t_cs (Sum.inr.inj h)
theorem k_ls : ¬ ((Sum.inr "left" : Key) = (Sum.inr "spot" : Key)) := fun h => t_ls (Sum.inr.inj h)
def dM (a b c : V) : List (Key × V) := [(Sum.inr "cells", a), (Sum.inr "left", b), (Sum.inr "spot", c)]
theorem dM_cells {a b c : V} : valV (dM a b c) (Sum.inr "cells" : Key) = some a := valV_pos rfl
theorem dM_left {a b c : V} : valV (dM a b c) (Sum.inr "left" : Key) = some b := (valV_neg k_cl).trans (valV_pos rfl)
theorem dM_spot {a b c : V} : valV (dM a b c) (Sum.inr "spot" : Key) = some c := (valV_neg k_cs).trans ((valV_neg k_ls).trans (valV_pos rfl))
theorem dM_put_spot {a b c v : V} : putK (dM a b c) (Sum.inr "spot" : Key) v = dM a b v := by
  unfold putK dM
  simp [t_cs, t_ls]
theorem dM_put_left {a b c v : V} : putK (dM a b c) (Sum.inr "left" : Key) v = dM a v c := by
  unfold putK dM
  simp [t_cl, t_sl]
theorem gCells {H : Hp} {m : Addr} {a b c : V} (h : H m = some (.dK (dM a b c))) : DGet H m (.str "cells") (some a) := by
  have := DGet.k (k := Sum.inr "cells") h; rw [dM_cells] at this; exact this
theorem gLeft {H : Hp} {m : Addr} {a b c : V} (h : H m = some (.dK (dM a b c))) : DGet H m (.str "left") (some b) := by
  have := DGet.k (k := Sum.inr "left") h; rw [dM_left] at this; exact this
theorem gSpot {H : Hp} {m : Addr} {a b c : V} (h : H m = some (.dK (dM a b c))) : DGet H m (.str "spot") (some c) := by
  have := DGet.k (k := Sum.inr "spot") h; rw [dM_spot] at this; exact this
theorem pSpot {H : Hp} {m : Addr} {a b c v : V} (h : H m = some (.dK (dM a b c))) : DPut H m (.str "spot") v (upd H m (.dK (dM a b v))) := by
  have := DPut.k (k := Sum.inr "spot") (v := v) h (small1000 (by show 3 ≤ 1000; decide)); rw [dM_put_spot] at this; exact this
theorem pLeft {H : Hp} {m : Addr} {a b c v : V} (h : H m = some (.dK (dM a b c))) : DPut H m (.str "left") v (upd H m (.dK (dM a v c))) := by
  have := DPut.k (k := Sum.inr "left") (v := v) h (small1000 (by show 3 ≤ 1000; decide)); rw [dM_put_left] at this; exact this
theorem eqv_ne_nil {n : PyData} {r : List PyData} : PyData.eqv (.list (n :: r)) (.list []) = false := by
  rw [PyData.eqv, PyData.eqvAll]
theorem eqv_nil_nil : PyData.eqv (.list []) (.list []) = true := by
  rw [PyData.eqv, PyData.eqvAll]
section
variable {P : Program} {w : World} {K : PySem.W.Frag} {mg : Str → Option Value} {base : Heap}
theorem scDraw : FnScope ["_law_m", "_law_top", "_law_k", "_law_spot", "_law_cell"] ["_law_m", "_law_top"] (defScope sDraw) := ⟨rfl, rfl, rfl, by decide +kernel, rfl, by decide +kernel, by decide +kernel⟩
theorem ok_draw {f fX : Addr} {fd fdX : FuncData} (F : Fun K "_law_draw" "_law_draw" sDraw f fd) (T : Bi mg) (FX : Fun K "_law_mixed" "_law_mixed" sMixed fX fdX) (bX : Binds K fdX ["_law_cell", "_law_k"] []) (gX : mg "_law_mixed" = some (.ref fX)) : FnOk P w K mg base CX0 2 f fd ["_law_m", "_law_top"] spDraw := by
  have GX : FnOk P w K mg base CX0 1 fX fdX ["_law_cell", "_law_k"] spMixed := ok_mixed FX
  refine F.ok scDraw (fun vs H Q E h => ?_) (fun cdv A outer s H vs Q E hr h => ?_)
  · obtain ⟨m, lC, lL, n, t, rfl, _⟩ := h
    rfl
  · obtain ⟨m, lC, lL, n, t, rfl, M, hn, ht0, ht, q⟩ := h
    obtain ⟨cells, left, hm, hC, hc, hb, hL, hl, nCL⟩ := id M.ex
    have hm : H m = some (.dK (dM (.ref lC) (.ref lL) (.int n))) := hm
    have hu := hu_of hr
    have nmC : m ≠ lC := ne_of hm hC (by intro z; cases z)
    have nmL : m ≠ lL := ne_of hm hL (by intro z; cases z)
    refine ⟨_, pss_cons (ps_set (i := 2) scDraw.nd rfl (Or.inl rfl) (pe_dget hu (pv 0) pe_str (fun _ _ => rfl)))
      (pss_cons (ps_dput hu (pv 0) pe_str (pe_op op_add (pv 2) pe_int) rfl)
      (pss_cons (ps_if (pt_cmpR (op_neD hr.units) (pe_dget hu (pv 0) pe_str (fun _ _ => rfl)) (pe_lst pa_nil) (nomark _))
        (pss_cons (ps_set (i := 3) scDraw.nd rfl (Or.inl rfl) (pe_op op_mod (pv 2) (pe_callB call_len_seq (by rfl) T.len PySem.boot_len (pa_cons (pe_dget hu (pv 0) pe_str (fun _ _ => rfl)) pa_nil))))
        (pss_cons (ps_set (i := 4) scDraw.nd rfl (Or.inl rfl) (pe_ix ix_list (pe_dget hu (pv 0) pe_str (fun _ _ => rfl)) (pv 3) (fun _ _ => rfl)))
        (pss_one (ps_if (pt_cmpR op_gt (pv 4) pe_int (nomark _))
          (pss_cons (ps_asg (pe_op op_fdiv (pv 4) (pv 1)) (pg_sub (pe_dget hu (pv 0) pe_str (fun _ _ => rfl)) (pv 3) set_list))
          (pss_one (ps_ret (pe_op op_mod (pv 4) (pv 1))))) pss_nil)))) pss_nil)
      (pss_one (ps_ret (pe_op op_mod (pe_call GX hr (by rfl) gX FX.kp bX .nil pass0 (pa_cons
          (pe_call GX hr (by rfl) gX FX.kp bX .nil pass0 (pa_cons (pe_op op_add (pe_ix ix_list (pe_dget hu (pv 0) pe_str (fun _ _ => rfl)) (pe_op op_mod (pv 2) pe_int) (fun _ _ => rfl)) (pe_op op_mul pe_int (pe_op op_fdiv (pv 2) pe_int))) (pa_cons (pv 2) pa_nil)))
          (pa_cons (pe_op op_add (pv 2) pe_int) pa_nil))) (pv 1)))))), ?_⟩
    refine ⟨_, rfl, m, _, rfl, gSpot hm, ?_⟩
    refine ⟨_, rfl, _, _, rfl, rfl, _, rfl, m, _, rfl, pSpot hm, ?_⟩
    have hm1 : (upd H m (.dK (dM (.ref lC) (.ref lL) (.int ((n : Int) + 1))))) m = some (.dK (dM (.ref lC) (.ref lL) (.int ((n : Int) + 1)))) := upd_same
    generalize e1 : upd H m (.dK (dM (.ref lC) (.ref lL) (.int ((n : Int) + 1)))) = H1 at hm1
    have hC1 : H1 lC = some (.lst (cells.map V.int)) := by rw [← e1, upd_ne nmC.symm]; exact hC
    have hL1 : H1 lL = some (.lst (left.map V.int)) := by rw [← e1, upd_ne nmL.symm]; exact hL
    have b1 : But m lL H H1 := fun c o h h1 h2 => by rw [← e1, upd_ne h1]; exact h
    have ecast : ((n : Int) + 1) = ((n + 1 : Nat) : Int) := by omega
    have M1 : ∀ H' : Hp, Same H1 H' → MAt H' m lC lL (n + 1) := fun H' sm => ⟨cells, left, by rw [← ecast]; exact sm _ _ hm1, sm _ _ hC1, hc, hb, sm _ _ hL1, hl, nCL⟩
    -- the last row: by numbers twice mixed
    have last : ∀ (H2 : Hp) (v3 v4 : Option V), Same H1 H2 → (tRet (tOp (rI (fun _ j => 0 < j) fun i j => V.int (i % j)) (tCall spMixed [] E0 (tCons (tCall spMixed [] E0 (tCons (tOp (rI0 fun i j => V.int (i + j)) (tOp (rIxL K) (tDGet (tVar 0) (tC (V.str "cells"))) (tOp (rI (fun _ j => 0 < j) fun i j => V.int (i % j)) (tVar 2) (tC (V.int 64)))) (tOp (rI CMul fun i j => V.int (i * j)) (tC (V.int 31)) (tOp (rI CDiv fun i j => V.int (i / j)) (tVar 2) (tC (V.int 64))))) (tCons (tVar 2) tNil))) (tCons (tOp (rI0 fun i j => V.int (i + j)) (tVar 2) (tC (V.int 7))) tNil))) (tVar 1))) { nx := fun _ H' => Q .non H', rt := Q } [some (.ref m), some (.int t), some (.int n), v3, v4] H2 := by
      intro H2 v3 v4 s2
      have em : ((n : Nat) : Int) % 64 = ((n % 64 : Nat) : Int) := by omega
      have hlt : n % 64 < cells.length := by rw [hc]; exact Nat.mod_lt _ (by decide)
      have hcell := hb cells[n % 64] (List.getElem_mem hlt)
      refine ⟨_, rfl, m, _, rfl, gCells (s2 _ _ hm1), _, rfl, _, _, rfl, rfl, (by show (0 : Int) < 64; decide), lC, _, _, _, rfl, rfl, SqL.of (s2 _ _ hC1), at_of em (ints_at hlt), ?_⟩
      refine ⟨_, rfl, _, _, rfl, rfl, ⟨by decide, by decide⟩, _, _, rfl, rfl, .inl ⟨by decide, by decide⟩, _, _, rfl, rfl, _, rfl, ?_⟩
      refine ⟨_, _, rfl, by omega, by omega, by omega, by omega, fun r hr0 hr1 => ?_⟩
      refine ⟨_, rfl, _, _, rfl, rfl, ?_⟩
      refine ⟨_, _, rfl, by omega, by omega, by omega, by omega, fun r2 hs0 hs1 => ?_⟩
      refine ⟨_, rfl, _, _, rfl, rfl, ht0, ?_⟩
      exact q _ H2 (Int.emod_nonneg _ (by omega)) (Int.emod_lt_of_pos _ ht0) (M1 H2 s2) (b1.trans (But.of_same s2))
    -- if m['left'] != []
    refine ⟨_, rfl, m, _, rfl, gLeft hm1, (by show 0 ≤ sizeLine; exact Nat.zero_le _), fun l hnew => ?_⟩
    have s2 : Same H1 (upd H1 l (.lst [])) := fun b o e => by rw [upd_ne (ne_of_none e hnew)]; exact e
    refine ⟨.list (left.map PyData.int), .list [], .lst (SqL.of (s2 _ _ hL1)) (dpInts left), .lst (SqL.of upd_same) .nil, shInts left, shInts [], _, rfl, ?_⟩
    cases left with
    | nil =>
      rw [List.map_nil, eqv_nil_nil]
      exact last _ _ _ s2
    | cons n0 rest =>
      rw [List.map_cons, eqv_ne_nil]
      refine iteT ?_
      have hll : ((n : Nat) : Int) % ((n0 :: rest).map V.int).length = ((n % (n0 :: rest).length : Nat) : Int) := by rw [List.length_map]; omega
      have hlt : n % (n0 :: rest).length < (n0 :: rest).length := Nat.mod_lt _ (by simp)
      have hpos : (0 : Int) < ((n0 :: rest).map V.int).length := by rw [List.length_map, List.length_cons]; omega
      refine ⟨_, rfl, _, rfl, m, _, rfl, gLeft (s2 _ _ hm1), lL, _, rfl, .inl (SqL.of (s2 _ _ hL1)), _, _, rfl, rfl, hpos, ?_⟩
      refine ⟨_, rfl, m, _, rfl, gLeft (s2 _ _ hm1), _, rfl, lL, _, _, _, rfl, rfl, SqL.of (s2 _ _ hL1), at_of hll (ints_at hlt), ?_⟩
      refine ⟨_, rfl, _, _, rfl, rfl, _, rfl, ite2 (fun hpo => ?_) (fun _ => ?_)⟩
      · have hcell : (0 : Int) < (n0 :: rest)[n % (n0 :: rest).length] := of_decide_eq_true hpo
        refine ⟨_, rfl, _, rfl, _, _, rfl, rfl, ⟨ht0, by omega⟩, _, rfl, m, _, rfl, gLeft (s2 _ _ hm1), _, rfl, lL, _, _, _, rfl, rfl, s2 _ _ hL1, ixN_ok hll (by rw [List.length_map]; exact hlt), ?_⟩
        refine ⟨_, rfl, _, rfl, _, _, rfl, rfl, ht0, ?_⟩
        refine q _ _ (Int.emod_nonneg _ (by omega)) (Int.emod_lt_of_pos _ ht0) ⟨cells, (n0 :: rest).set (n % (n0 :: rest).length) ((n0 :: rest)[n % (n0 :: rest).length] / t), ?_, ?_, hc, hb, upd_same.trans (by rw [set_ints]), by rw [List.length_set]; exact hl, nCL⟩ (fun c o h h1 h2 => ?_)
        · rw [upd_ne nmL, ← ecast]; exact s2 _ _ hm1
        · rw [upd_ne nCL]; exact s2 _ _ hC1
        · rw [upd_ne h2]; exact s2 _ _ (b1 c o h h1 h2)
      · exact last _ _ _ s2
end
end My
set_option Elab.async false
set_option linter.all false
set_option maxRecDepth 100000
set_option maxHeartbeats 4000000
namespace My
open PySem L2
theorem Rising.mono {lo hi hi' : Nat} (h : hi ≤ hi') : ∀ {ks : List Nat}, Rising lo hi ks → Rising lo hi' ks
  | [], _ => trivial
  | k :: r, ⟨a, b, c⟩ => ⟨a, by omega, Rising.mono (lo := k + 1) h c⟩
theorem Rising.snoc {i : Nat} : ∀ {lo : Nat} {ks : List Nat}, lo ≤ i → Rising lo i ks → Rising lo (i + 1) (ks ++ [i])
  | lo, [], h, _ => ⟨h, by omega, trivial⟩
  | lo, k :: r, h, ⟨a, b, c⟩ => ⟨a, by omega, Rising.snoc (lo := k + 1) (by omega) c⟩
theorem tupN_snoc (ks : List Nat) (i : Nat) : tupN ks ++ [V.int (i : Int)] = tupN (ks ++ [i]) := by
  unfold tupN; rw [List.map_append]; rfl
theorem Rising.len {hi : Nat} : ∀ {lo : Nat} {ks : List Nat}, lo ≤ hi → Rising lo hi ks → lo + ks.length ≤ hi
  | lo, [], h, _ => h
  | lo, k :: r, h, ⟨a, b, c⟩ => by
    have := Rising.len (lo := k + 1) (by omega) c
    rw [List.length_cons]; omega
theorem MAt.but {H H' : Hp} {m lC lL : Addr} {n : Nat} (M : MAt H m lC lL n) (s : Same H H') : MAt H' m lC lL n := by
  obtain ⟨cells, left, hm, hC, hc, hb, hL, hl, ne⟩ := M.ex
  exact ⟨cells, left, s _ _ hm, s _ _ hC, hc, hb, s _ _ hL, hl, ne⟩
theorem MAt.ne {H : Hp} {m lC lL c : Addr} {n : Nat} (M : MAt H m lC lL n) (h : H c = none) : c ≠ m ∧ c ≠ lL := by
  obtain ⟨cells, left, hm, hC, hc, hb, hL, hl, ne⟩ := M.ex
  exact ⟨(ne_of_none hm h).symm, (ne_of_none hL h).symm⟩
theorem MAt.neC {H : Hp} {m lC lL c : Addr} {n : Nat} (M : MAt H m lC lL n) (h : H c = none) : c ≠ lC := by
  obtain ⟨cells, left, hm, hC, hc, hb, hL, hl, ne⟩ := M.ex
  exact (ne_of_none hC h).symm
theorem MAt.upd {H : Hp} {m lC lL D : Addr} {n : Nat} {o : HO} (M : MAt H m lC lL n) (hne : D ≠ m ∧ D ≠ lL) (hC : D ≠ lC) : MAt (upd H D o) m lC lL n := by
  obtain ⟨cells, left, hm, hC', hc, hb, hL, hl, ne⟩ := M.ex
  exact ⟨cells, left, by rw [upd_ne hne.1.symm]; exact hm, by rw [upd_ne hC.symm]; exact hC', hc, hb, by rw [upd_ne hne.2.symm]; exact hL, hl, ne⟩
theorem Same.new {H : Hp} {l : Addr} {o : HO} (h : H l = none) : Same H (upd H l o) := fun b u e => by rw [upd_ne (ne_of_none e h)]; exact e
theorem But.free {m lL l : Addr} {H H' : Hp} {lC : Addr} {n : Nat} (b : But m lL H H') (M : MAt H' m lC lL n) (h : H' l = none) : H l = none := by
  cases q : H l with
  | none => rfl
  | some o =>
    have := M.ne h
    rw [b l o q this.1 this.2] at h
    cases h
section
variable {P : Program} {w : World} {K : PySem.W.Frag} {mg : Str → Option Value} {base : Heap}
theorem scBegun : FnScope ["_law_script", "_law_m", "_law_cell"] ["_law_script"] (defScope sBegun) := ⟨rfl, rfl, rfl, by decide +kernel, rfl, by decide +kernel, by decide +kernel⟩
theorem ok_begun {f fX : Addr} {fd fdX : FuncData} (F : Fun K "_law_begun" "_law_begun" sBegun f fd) (T : Bi mg) (FX : Fun K "_law_folded" "_law_folded" sFolded fX fdX) (bX : Binds K fdX ["_law_script"] []) (gX : mg "_law_folded" = some (.ref fX)) : FnOk P w K mg base CX0 2 f fd ["_law_script"] (spBegun K) := by
  have GX : FnOk P w K mg base CX0 1 fX fdX ["_law_script"] (spFolded K) := ok_folded FX T
  refine F.ok scBegun (fun vs H Q E h => ?_) (fun cdv A outer s H vs Q E hr h => ?_)
  · obtain ⟨a, ns, rfl, _⟩ := h
    rfl
  · obtain ⟨a, ns, rfl, hS, hn, q⟩ := h
    have hu := hu_of hr
    refine ⟨_, pss_cons (ps_set (i := 1) scBegun.nd rfl (Or.inl rfl) (pe_disp (pps_cons pe_str (pe_call GX hr (by rfl) gX FX.kp bX .nil pass0 (pa_cons (pv 0) pa_nil)) (pps_cons pe_str (pe_lst pa_nil) (pps_cons pe_str pe_int pps_nil))) (by rfl) (by rfl) (fun z => by cases z) (by decide)))
      (pss_cons (ps_dput hu (pv 1) pe_str (pe_lc (own := [("_law_cell", 2)]) (g := gName 2) (by rfl) scBegun.nd (pi_list (pv 0)) (blkOk_by (own := [("_law_cell", 2)]) (N := ["_law_script", "_law_m", "_law_cell"]) (sc := defScope sBegun) (by decide +kernel))
          (fun _ _ _ _ _ => pg_name (i := 2) scBegun.nd rfl (Or.inl rfl)) (fun _ _ _ _ _ => pts_nil) (fun _ _ _ _ _ => pe_ifExp (pt_cmpR op_ge (pv 2) (pe_op op_pow pe_int pe_int) (nomark _)) (pv 2) pe_int)) rfl)
      (pss_one (ps_ret (pv 1)))), ?_⟩
    intro m hm
    have s1 : Same H (upd H m (.dK [])) := Same.new hm
    refine ⟨_, rfl, a, ns, rfl, s1.seq hS, hn, fun lC cells H1 hl1 sm1 hC hc hb => ?_⟩
    have hm1 : H1 m = some (.dK []) := sm1 _ _ upd_same
    refine ⟨Nat.zero_le _, fun l2 hl2 => ?_⟩
    have s2 : Same H1 (upd H1 l2 (.lst [])) := Same.new hl2
    refine ⟨s2 _ _ hm1, [(Sum.inr "cells", .ref lC), (Sum.inr "left", .ref l2), (Sum.inr "spot", .int 0)], rfl, (by show 3 ≤ 15; decide), ?_⟩
    have eM : mergeK [] [(Sum.inr "cells", V.ref lC), (Sum.inr "left", .ref l2), (Sum.inr "spot", .int 0)] = dM (.ref lC) (.ref l2) (.int 0) := by
      unfold mergeK dM putK
      simp [t_cl, t_cs, t_ls]
    rw [eM]
    have nlm : m ≠ lC := ne_of hm1 hC (by intro z; cases z)
    generalize eH : upd (upd H1 l2 (.lst [])) m (.dK (dM (.ref lC) (.ref l2) (.int 0))) = H2
    have s02 : Same H H2 := fun b o e => by
      rw [← eH, upd_ne (ne_of_none e hm)]
      exact s2 _ _ (sm1 _ _ (s1 _ _ e))
    have hm2 : H2 m = some (.dK (dM (.ref lC) (.ref l2) (.int 0))) := by rw [← eH]; exact upd_same
    have hC2 : H2 lC = some (.lst (cells.map V.int)) := by rw [← eH, upd_ne nlm.symm]; exact s2 _ _ hC
    refine ⟨_, rfl, a, rfl, ⟨_, s02.seq hS⟩, fun D hD => lc_list (K := K) (a := a) (xs := ns.map V.int) (fun i H3 => ∃ left : List Int, H3 = upd H2 D (.lst (left.map V.int)) ∧ left.length = i) ⟨[], rfl, rfl⟩ ?_ ?_ ?_⟩
    · rintro i H3 hi ⟨left, rfl, _⟩
      exact (Same.new hD).seq (s02.seq hS)
    · rintro i y H3 hi ⟨left, rfl, hlen⟩
      obtain ⟨z, rfl, hz⟩ := get_ints hi
      have hil : i < ns.length := (List.getElem?_eq_some_iff.mp hz).1
      refine ⟨rfl, ?_⟩
      refine ⟨_, rfl, _, _, rfl, rfl, ⟨by decide, by decide, by decide⟩, _, _, rfl, rfl, _, rfl, ite2 (fun _ => ?_) (fun _ => ?_)⟩
      · exact ⟨_, rfl, _, upd_same, small1000 (by rw [List.length_map]; omega), left ++ [z], by rw [upd_upd, List.map_append]; rfl, by simp [hlen]⟩
      · exact ⟨_, upd_same, small1000 (by rw [List.length_map]; omega), left ++ [0], by rw [upd_upd, List.map_append]; rfl, by simp [hlen]⟩
    · rintro H3 ⟨left, rfl, hlen⟩
      have s3 : Same H2 (upd H2 D (.lst (left.map V.int))) := Same.new hD
      have nmD : m ≠ D := ne_of_none hm2 hD
      refine ⟨_, rfl, m, _, rfl, pLeft (s3 _ _ hm2), _, rfl, ?_⟩
      refine q m lC D _ hm (s02.free hD) ⟨cells, left, upd_same, ?_, hc, hb, ?_, ?_, ne_of_none hC2 hD⟩ (fun b o e => ?_)
      · rw [upd_ne nlm.symm]; exact s3 _ _ hC2
      · rw [upd_ne nmD.symm]; exact upd_same
      · rw [List.length_map] at hlen; omega
      · rw [upd_ne (ne_of_none e hm)]; exact s3 _ _ (s02 _ _ e)
def SomeInv (m lC lL D : Addr) (n z : Nat) (r : Int) (H : Hp) (i : Nat) (σ : St) (H2 : Hp) : Prop := ∃ (ks : List Nat) (n' : Nat) (v4 v5 v6 : Option V), σ = [some (.ref m), some (.int (z : Int)), some (.int r), some (.ref D), v4, v5, v6] ∧ MAt H2 m lC lL n' ∧ n' ≤ n + 1 + i ∧ But m lL H H2 ∧ H2 D = some (.lst (tupN ks)) ∧ Rising 0 i ks
theorem scSome : FnScope ["_law_m", "_law_size", "_law_road", "_law_found", "_law_k", "_law_odds", "_law_hit"] ["_law_m", "_law_size"] (defScope sSome) := ⟨rfl, rfl, rfl, by decide +kernel, rfl, by decide +kernel, by decide +kernel⟩
theorem odds_at (r : Int) (h0 : 0 ≤ r) (h1 : r < 6) : ∃ o : Int, atI [V.int 9, V.int 2, V.int 2, V.int 5, V.int 1, V.int 2] r = some (V.int o) ∧ 0 < o ∧ o < 10 := by
  have : r = 0 ∨ r = 1 ∨ r = 2 ∨ r = 3 ∨ r = 4 ∨ r = 5 := by omega
  rcases this with e | e | e | e | e | e <;> subst e <;> first
    | exact ⟨9, rfl, by decide, by decide⟩ | exact ⟨2, rfl, by decide, by decide⟩ | exact ⟨5, rfl, by decide, by decide⟩ | exact ⟨1, rfl, by decide, by decide⟩
theorem ok_some {f fX fY : Addr} {fd fdX fdY : FuncData} (F : Fun K "_law_some" "_law_some" sSome f fd) (T : Bi mg) (FX : Fun K "_law_draw" "_law_draw" sDraw fX fdX) (bX : Binds K fdX ["_law_m", "_law_top"] []) (gX : mg "_law_draw" = some (.ref fX))
    (FY : Fun K "_law_mixed" "_law_mixed" sMixed fY fdY) (bY : Binds K fdY ["_law_cell", "_law_k"] []) (gY : mg "_law_mixed" = some (.ref fY)) : FnOk P w K mg base CX0 3 f fd ["_law_m", "_law_size"] spSome := by
  have GX : FnOk P w K mg base CX0 2 fX fdX ["_law_m", "_law_top"] spDraw := ok_draw FX T FY bY gY
  refine F.ok scSome (fun vs H Q E h => ?_) (fun cdv A outer s H vs Q E hr h => ?_)
  · obtain ⟨m, lC, lL, n, z, rfl, _⟩ := h
    rfl
  · obtain ⟨m, lC, lL, n, z, rfl, M, hn, hz, q⟩ := h
    have hu := hu_of hr
    refine ⟨_, pss_cons (ps_par (by rfl) scSome.nd (i := 2) (j := 3) rfl rfl (by decide) rfl rfl (pa_cons (pe_call GX hr (by rfl) gX FX.kp bX .nil pass0 (pa_cons (pv 0) (pa_cons pe_int pa_nil))) (pa_cons (pe_lst pa_nil) pa_nil)) (by rfl))
      (pss_cons (ps_for PassesOwn.never rfl (pi_range1 (by rfl) T.range (pa_cons (pv 1) pa_nil)) (pg_name (i := 4) scSome.nd rfl (Or.inl rfl))
        (pss_cons (ps_set (i := 5) scSome.nd rfl (Or.inl rfl) (pe_ix ix_list (pe_lst (pa_cons pe_int (pa_cons pe_int (pa_cons pe_int (pa_cons pe_int (pa_cons pe_int (pa_cons pe_int pa_nil))))))) (pv 2) (fun _ _ => rfl)))
        (pss_cons (ps_set (i := 6) scSome.nd rfl (Or.inl rfl) (pe_cmpR op_eq (pe_call GX hr (by rfl) gX FX.kp bX .nil pass0 (pa_cons (pv 0) (pa_cons (pv 5) pa_nil))) pe_int (nomark _)))
        (pss_cons (ps_if (pt_cmpR op_eq (pv 2) pe_int (nomark _)) (pss_one (ps_set (i := 6) scSome.nd rfl (Or.inl rfl) (pe_not (pv 6)))) pss_nil)
        (pss_one (ps_if (pt_val (pv 6)) (pss_one (ps_expr (pe_bm PySem.F.plainAttrs_list PySem.F.slot_list_append PySem.F.type_list_append mt_append (pv 3) (pa_cons (pv 4) pa_nil)))) pss_nil))))))
      (pss_one (ps_ret (pe_ifExp (PW.pt (pw_and (pt_cmpR op_eq (pv 2) pe_int (nomark _)) (pw_and1 (pt_cmpR op_eq (pe_call GX hr (by rfl) gX FX.kp bX .nil pass0 (pa_cons (pv 0) (pa_cons pe_int pa_nil))) pe_int (nomark _)))))
        (pe_tup pa_nil) (pe_callTy call_tuple_of (by rfl) T.tuple (by decide +kernel) (pa_cons (pv 3) pa_nil)))))), ?_⟩
    refine ⟨_, rfl, m, lC, lL, n, 6, rfl, M, by omega, by decide, by decide, fun r H1 hr0 hr6 M1 b1 => ?_⟩
    refine ⟨Nat.zero_le _, fun D hD => ?_⟩
    have M2 : MAt (upd H1 D (.lst [])) m lC lL (n + 1) := M1.but (Same.new hD)
    have nD := M1.ne hD
    have nDC := M1.neC hD
    have hD0 : H D = none := b1.free M1 hD
    refine ⟨_, _, rfl, ?_⟩
    refine ⟨_, rfl, (z : Int), rfl, by omega, by omega, for_range (lo := 0) (n := ((z : Nat) : Int).toNat) (SomeInv m lC lL D n z r H)
      ⟨[], n + 1, _, _, _, rfl, M2, Nat.le_refl _, b1.trans (But.of_same (Same.new hD)), upd_same, trivial⟩ ?_ ?_⟩
    · rintro i σ H2 hi ⟨ks, n', v4, v5, v6, rfl, M3, hn', b3, hD3, hR⟩
      have hi' : i < z := by omega
      refine ⟨by show 6 ≤ sizeLine; decide, fun l hl => ?_⟩
      obtain ⟨o, ho, ho0, ho1⟩ := odds_at r hr0 hr6
      refine ⟨_, rfl, l, _, _, _, rfl, rfl, SqL.of upd_same, ho, ?_⟩
      have s4 : Same H2 (upd H2 l (.lst [V.int 9, V.int 2, V.int 2, V.int 5, V.int 1, V.int 2])) := Same.new hl
      refine ⟨_, rfl, _, rfl, m, lC, lL, n', o, rfl, M3.but s4, by omega, ho0, by omega, fun g H5 hg0 hg1 M5 b5 => ?_⟩
      have hD5 : H5 D = some (.lst (tupN ks)) := b5 _ _ (s4 _ _ hD3) nD.1 nD.2
      have b05 : But m lL H H5 := b3.trans ((But.of_same s4).trans b5)
      have hlen := hR.len (Nat.zero_le _)
      refine ⟨rfl, ?_⟩
      have h02 := MAt.ex M5
      refine ⟨_, rfl, rfl, _, rfl, ite2 (fun _ => ?_) (fun _ => ?_)⟩
      · refine ⟨_, rfl, _, rfl, ?_⟩
        refine ⟨_, rfl, _, rfl, ite2 (fun _ => ?_) (fun _ => ?_)⟩
        · refine ⟨_, rfl, .inl ⟨rfl, _, SqL.of hD5⟩, _, rfl, D, _, _, rfl, rfl, hD5, small1000 (by unfold tupN; rw [List.length_map]; omega), ?_⟩
          refine ⟨ks ++ [i], n' + 1, _, _, _, rfl, MAt.upd M5 nD nDC, by omega, fun c o h h1 h2 => ?_, upd_same.trans (by rw [Int.zero_add, tupN_snoc]), hR.snoc (Nat.zero_le _)⟩
          rw [upd_ne (ne_of_none h hD0)]; exact b05 c o h h1 h2
        · exact ⟨ks, n' + 1, _, _, _, rfl, M5, by omega, b05, hD5, hR.mono (by omega)⟩
      · refine ⟨_, rfl, _, rfl, ite2 (fun _ => ?_) (fun _ => ?_)⟩
        · refine ⟨_, rfl, .inl ⟨rfl, _, SqL.of hD5⟩, _, rfl, D, _, _, rfl, rfl, hD5, small1000 (by unfold tupN; rw [List.length_map]; omega), ?_⟩
          refine ⟨ks ++ [i], n' + 1, _, _, _, rfl, MAt.upd M5 nD nDC, by omega, fun c o h h1 h2 => ?_, upd_same.trans (by rw [Int.zero_add, tupN_snoc]), hR.snoc (Nat.zero_le _)⟩
          rw [upd_ne (ne_of_none h hD0)]; exact b05 c o h h1 h2
        · exact ⟨ks, n' + 1, _, _, _, rfl, M5, by omega, b05, hD5, hR.mono (by omega)⟩
    · rintro σ H2 ⟨ks, n', v4, v5, v6, rfl, M3, hn', b3, hD3, hR⟩
      have hR' : Rising 0 z ks := hR
      have fin : ∀ (H4 : Hp) (n4 : Nat), MAt H4 m lC lL n4 → n4 ≤ n' + 1 → But m lL H H4 → H4 D = some (.lst (tupN ks)) → tCB (fun xs H Q => ∃ p ys, xs = [.ref p] ∧ ((SqL K H p ys ∧ ∀ l, H l = none → Q (.ref l) (upd H l (.tup ys))) ∨ (SqT K H p ys ∧ Q (.ref p) H))) (tCons (tVar 3) tNil) [some (.ref m), some (.int (z : Int)), some (.int r), some (.ref D), v4, v5, v6] H4 Q := by
        intro H4 n4 M4 hn4 b4 hD4
        refine ⟨_, rfl, D, _, rfl, .inl ⟨SqL.of hD4, fun t ht => ?_⟩⟩
        exact q t ks n4 _ (b4.free M4 ht) upd_same hR' (by omega) (M4.but (Same.new ht)) (b4.trans (But.of_same (Same.new ht)))
      refine ⟨_, rfl, rfl, _, rfl, ite2 (fun _ => ?_) (fun _ => ?_)⟩
      · refine ⟨_, rfl, m, lC, lL, n', 2, rfl, M3, by omega, by decide, by decide, fun g H5 hg0 hg1 M5 b5 => ?_⟩
        have hD5 : H5 D = some (.lst (tupN ks)) := b5 _ _ hD3 nD.1 nD.2
        refine ⟨rfl, _, rfl, ite2 (fun _ => ?_) (fun _ => ?_)⟩
        · refine ⟨Nat.zero_le _, fun t ht => ?_⟩
          exact q t [] (n' + 1) _ ((b3.trans b5).free M5 ht) upd_same trivial (by omega) (M5.but (Same.new ht)) ((b3.trans b5).trans (But.of_same (Same.new ht)))
        · exact fin H5 _ M5 (Nat.le_refl _) (b3.trans b5) hD5
      · exact fin H2 _ M3 (Nat.le_succ _) b3 hD3
end
end My
set_option Elab.async false
set_option linter.all false
set_option maxRecDepth 100000
set_option maxHeartbeats 4000000
namespace My
open PySem L2
abbrev sBVI : Stmt := inClass (top 2) 0
abbrev sBdI : Stmt := inClass (top 3) 0
abbrev sSpI : Stmt := inClass (top 4) 0
abbrev sNeI : Stmt := inClass (top 5) 0
abbrev sNoI : Stmt := inClass (top 6) 0
structure Er (K : PySem.W.Frag) (mg : Str → Option Value) (nm : Str) (newId : String) (bm : List Value) where
  C : Addr
  N : Addr
  aI : Addr
  fI : FuncData
  G : ECls K C aI N newId bm
  g : mg nm = some (.ref C)
  nc : PySem.W.nsIn K N "__class__" = some none
structure T7 (K : PySem.W.Frag) (mg : Str → Option Value) where
  bi : Bi mg
  isinstance : mg "isinstance" = none
  str : mg "str" = none
  verr : mg "ValueError" = none
  terr : mg "TypeError" = none
  oerr : mg "OverflowError" = none
  rerr : mg "RuntimeError" = none
  lerr : mg "LookupError" = none
  xerr : mg "Exception" = none
  BV : Er K mg "BadValue" "ValueError.__new__" [.type "ValueError", .type "Exception", .type "BaseException", .type "object"]
  FBV : Fun K "__init__" "BadValue.__init__" sBVI BV.aI BV.fI
  bBV : Binds K BV.fI ["self", "what"] []
  kBV : KBinds K BV.fI ["self", "what"] ["what"] kb11 kb11
  wBV : PySem.W.nsIn K BV.N "what" = some none
  Bd : Er K mg "BadVerdict" "TypeError.__new__" [.type "TypeError", .type "Exception", .type "BaseException", .type "object"]
  FBd : Fun K "__init__" "BadVerdict.__init__" sBdI Bd.aI Bd.fI
  bBd : Binds K Bd.fI ["self", "told"] []
  kBd : KBinds K Bd.fI ["self", "told"] ["told"] kb11 kb11
  wBd : PySem.W.nsIn K Bd.N "told" = some none
  Sn : Er K mg "Spent" "OverflowError.__new__" [.type "OverflowError", .type "ArithmeticError", .type "Exception", .type "BaseException", .type "object"]
  FSn : Fun K "__init__" "Spent.__init__" sSpI Sn.aI Sn.fI
  bSn : Binds K Sn.fI ["self", "most"] []
  kSn : KBinds K Sn.fI ["self", "most"] ["most"] kb11 kb11
  wSn : PySem.W.nsIn K Sn.N "most" = some none
  Ne : Er K mg "Nested" "RuntimeError.__new__" [.type "RuntimeError", .type "Exception", .type "BaseException", .type "object"]
  FNe : Fun K "__init__" "Nested.__init__" sNeI Ne.aI Ne.fI
  bNe : Binds K Ne.fI ["self"] []
  No : Er K mg "NotSo" "LookupError.__new__" [.type "LookupError", .type "Exception", .type "BaseException", .type "object"]
  FNo : Fun K "__init__" "NotSo.__init__" sNoI No.aI No.fI
  bNo : Binds K No.fI ["self", "parts", "verdict"] []
  kNo : KBinds K No.fI ["self", "parts", "verdict"] ["verdict", "parts"] kb12r kb12r
  w1No : PySem.W.nsIn K No.N "parts" = some none
  w2No : PySem.W.nsIn K No.N "verdict" = some none
theorem nl2 : typeLookup (.type "TypeError") "told" = pure none := by (rw [typeLookup_type, builtinLookup_eq_fast]; kernel_rfl)
theorem nl3 : typeLookup (.type "OverflowError") "most" = pure none := by (rw [typeLookup_type, builtinLookup_eq_fast]; kernel_rfl)
def g1 (f : Str) (vs : List V) : Option (List (Str × V)) := match vs with | [v] => some [(f, v)] | _ => none
def g0 (_ : List V) : Option (List (Str × V)) := none
def g2 (vs : List V) : Option (List (Str × V)) := match vs with | [p, v] => some [("verdict", v), ("parts", p)] | _ => none
def preA (_ : List V) (_ : Hp) : Prop := True
def preI (vs : List V) (_ : Hp) : Prop := ∃ i : Int, vs = [.int i] ∧ 0 ≤ i ∧ i < 10 ^ 10
section
variable {P : Program} {w : World} {K : PySem.W.Frag} {mg : Str → Option Value} {base : Heap}
theorem scBdI : FnScope ["self", "told"] ["self", "told"] (defScope sBdI) := ⟨rfl, rfl, rfl, by decide +kernel, rfl, by decide +kernel, by decide +kernel⟩
theorem scSpI : FnScope ["self", "most"] ["self", "most"] (defScope sSpI) := ⟨rfl, rfl, rfl, by decide +kernel, rfl, by decide +kernel, by decide +kernel⟩
theorem ok_bdi (T : T7 K mg) : FnOk P w K mg base CX0 1 T.Bd.aI T.Bd.fI ["self", "told"] (spXG T.Bd.C 1 preA (g1 "told")) := by
  refine T.FBd.ok scBdI (fun vs H Q E h => ?_) (fun cdv A outer s H vs Q E hr h => ?_)
  · obtain ⟨e, r, rfl, hl, _⟩ := h
    show r.length + 1 = 2
    omega
  · obtain ⟨e, r, rfl, hl, _, _, he, q⟩ := h
    match r, hl, q with
    | [v], _, q =>
      refine ⟨_, pss_cons (ps_expr (pe_binitG xb_TypeError T.Bd.G (by rfl) T.terr (by decide +kernel) (pa_cons (pv 0) (pa_cons pe_str pa_nil))))
        (pss_one (ps_xsetG xb_TypeError T.Bd.G T.wBd nl2 (pv 0) (pv 1) (by rfl))), ?_⟩
      refine ⟨_, rfl, e, _, rfl, he, by show 1 ≤ 1000; decide, ?_⟩
      rw [upd_id he]
      refine ⟨_, rfl, _, rfl, e, rfl, he, fun dx hdx => ?_⟩
      exact q _ ⟨dx, hdx, (fun z => by rw [z, he] at hdx; cases hdx), rfl⟩
end
end My
set_option Elab.async false
set_option linter.all false
set_option maxRecDepth 100000
set_option maxHeartbeats 4000000
namespace My
open PySem L2
theorem dig_len (i : Int) (h : 0 ≤ i) (h2 : i < 10 ^ 10) : (Str.ofString (toString i)).length ≤ 10 := PyProof.Rows.toString_length_le h (by decide) h2
section
variable {P : Program} {w : World} {K : PySem.W.Frag} {mg : Str → Option Value} {base : Heap}
theorem ok_sni (T : T7 K mg) : FnOk P w K mg base CX0 1 T.Sn.aI T.Sn.fI ["self", "most"] (spXG T.Sn.C 1 preI (g1 "most")) := by
  refine T.FSn.ok scSpI (fun vs H Q E h => ?_) (fun cdv A outer s H vs Q E hr h => ?_)
  · obtain ⟨e, r, rfl, hl, _⟩ := h
    show r.length + 1 = 2
    omega
  · obtain ⟨e, r, rfl, hl, _, ⟨i, rfl, h0, h1⟩, he, q⟩ := h
    refine ⟨_, pss_cons (ps_expr (pe_binitG xb_OverflowError T.Sn.G (by rfl) T.oerr (by decide +kernel) (pa_cons (pv 0) (pa_cons (pe_fint (by decide +kernel) (pv 1)) pa_nil))))
      (pss_one (ps_xsetG xb_OverflowError T.Sn.G T.wSn nl3 (pv 0) (pv 1) (by rfl))), ?_⟩
    have hd := dig_len i h0 h1
    refine ⟨_, rfl, _, rfl, i, rfl, ?_, ?_, ?_, e, _, rfl, he, by show 1 ≤ 1000; decide, ?_⟩
    · have : i.natAbs < 2 ^ 60 := by omega
      by_cases hz : i.natAbs = 0
      · rw [hz]; decide
      · have := (Nat.log2_lt hz).mpr this
        omega
    · rw [Str.length_append, sizeLine_eq]
      have : (Str.empty ++ ("no more than " : Str)).length = 13 := by decide +kernel
      omega
    · rw [Str.length_append, Str.length_append, sizeLine_eq]
      have : (Str.empty ++ ("no more than " : Str)).length = 13 := by decide +kernel
      have : (" may be called" : Str).length = 14 := by decide +kernel
      omega
    rw [upd_id he]
    exact ⟨_, rfl, _, rfl, e, rfl, he, fun dx hdx => q _ ⟨dx, hdx, (fun z => by rw [z, he] at hdx; cases hdx), rfl⟩⟩
end
end My
set_option Elab.async false
set_option linter.all false
set_option maxRecDepth 100000
set_option maxHeartbeats 4000000
namespace My
open PySem L2
abbrev sNum : Stmt := top 8
abbrev sCfg : Stmt := top 11
abbrev sWant : Stmt := top 12
abbrev sVer : Stmt := top 17
abbrev sRows : Stmt := top 19
abbrev sAI : Stmt := inClass (top 20) 0
abbrev sAns : Stmt := inClass (top 20) 1
abbrev sCt : Stmt := inClass (top 20) 2
abbrev sTI : Stmt := inClass (top 21) 0
abbrev sAsk : Stmt := inClass (top 21) 1
def kI (y : V) : Bool := match y with | .int _ => true | .bl _ => true | _ => false
def kB (y : V) : Bool := match y with | .bl _ => true | _ => false
def Ty (K : PySem.W.Frag) (H : Hp) (y : V) : Prop := ∃ t, TyOf K H y t ∧ PySem.W.kitOne K t (.type "int") = some (kI y) ∧ PySem.W.kitOne K t (.type "bool") = some (kB y)
theorem Ty.int {K : PySem.W.Frag} {H : Hp} {i : Int} : Ty K H (.int i) := ⟨_, .int i, rfl, rfl⟩
def numIn (y : V) (lo hi : Int) : Bool := match y with | .int n => decide (lo ≤ n) && decide (n ≤ hi) | _ => false
def spNumX (K : PySem.W.Frag) : Sp := fun vs H Q _ => ∃ (y : V) (lo hi : Int), vs = [y, .int lo, .int hi] ∧ Ty K H y ∧ Q (.bl (numIn y lo hi)) H
structure T8 (K : PySem.W.Frag) (mg : Str → Option Value) extends T7 K mg where
  int : mg "int" = none
  bool : mg "bool" = none
  min : mg "min" = none
  list : mg "list" = none
  set : mg "set" = none
  repr : mg "repr" = none
  mp : ∃ u, mg "MOST_PIECES" = some u ∧ RelV (.int 120) u
  mh : ∃ u, mg "MOST_HANDED" = some u ∧ RelV (.int 1000000) u
  aNum : Addr
  fNum : FuncData
  FNum : Fun K "is_number" "is_number" sNum aNum fNum
  gNum : mg "is_number" = some (.ref aNum)
  bNum : Binds K fNum ["thing", "low", "high"] []
  aCfg : Addr
  fCfg : FuncData
  dCfg : Value
  eCfg : Value
  FCfg : FunD K "is_configuration" "is_configuration" sCfg dCfg eCfg aCfg fCfg
  gCfg : mg "is_configuration" = some (.ref aCfg)
  bCfg : Binds K fCfg ["thing", "count"] []
  aWant : Addr
  fWant : FuncData
  dWant : Value
  eWant : Value
  FWant : FunD K "want_configuration" "want_configuration" sWant dWant eWant aWant fWant
  gWant : mg "want_configuration" = some (.ref aWant)
  bWant : Binds K fWant ["thing", "what", "count"] []
  uWant : Value
  rWant : RelV (.int 120) uWant
  bWant1 : Binds K fWant ["thing", "what", "count"] [uWant]
  aV : Addr
  gV : mg "VERDICTS" = some (.ref aV)
  vT : ∀ H, SqT K H aV [.str "fail", .str "pass", .str "unresolved"]
  aVer : Addr
  fVer : FuncData
  FVer : Fun K "is_verdict" "is_verdict" sVer aVer fVer
  gVer : mg "is_verdict" = some (.ref aVer)
  bVer : Binds K fVer ["thing"] []
  aRow : Addr
  gRow : mg "is_row" = some (.ref aRow)
  aRows : Addr
  fRows : FuncData
  FRows : Fun K "are_rows" "are_rows" sRows aRows fRows
  gRows : mg "are_rows" = some (.ref aRows)
  bRows : Binds K fRows ["thing", "is_one"] []
  AC : Addr
  gAC : mg "Answers" = some (.ref AC)
  aAI : Addr
  fAI : FuncData
  FAI : Fun K "__init__" "Answers.__init__" sAI aAI fAI
  cAI : ClsFn K AC aAI "__init__"
  bAI : Binds K fAI ["self", "test", "most", "known", "is_one"] []
  C : Addr
  gC : mg "Trials" = some (.ref C)
  cl : Cls K C
  iA : PySem.W.findIn K (.ref C) "__class__" = some (some (.builtin "object.__class__"))
  iN : PySem.W.specialIn K (.builtin "object.__class__") "__get__" = some (some (.builtin "getset_descriptor.__get__"))
  iT : PySem.W.takesIn K (.builtin "object.__class__") = some true
  iM : PySem.W.mroIn K C (.type "object") = some true
  nTest : NoAttr K C "test"
  nMost : NoAttr K C "most"
  nVerd : NoAttr K C "verdicts"
  nCalled : NoAttr K C "called"
  nCalling : NoAttr K C "calling"
  aTI : Addr
  fTI : FuncData
  dTI : Value
  eTI : Value
  FTI : FunD K "__init__" "Trials.__init__" sTI dTI eTI aTI fTI
  mkC : Mk K C aTI
  a0 : Addr
  o0 : Obj
  n0 : Nat
  k0 : K.lookup a0 = some o0
  c0 : o0.cls = .type "tuple"
  d0 : o0.data = .seq #[] n0
  uM : Value
  rM : RelV (.int 20000) uM
  bTI : Binds K fTI ["self", "test", "most", "known"] [uM, .ref a0]
  kTI : KBinds K fTI ["self", "test", "most", "known"] ["most"] (kbT a0) (kbTV a0)
  aAsk : Addr
  fAsk : FuncData
  FAsk : Fun K "ask" "Trials.ask" sAsk aAsk fAsk
  mAsk : Meth K C "ask" aAsk
  bAsk : Binds K fAsk ["self", "parts"] []
  aAns : Addr
  fAns : FuncData
  FAns : Fun K "answer" "Answers.answer" sAns aAns fAns
  mAns : Meth K C "answer" aAns
  bAns : Binds K fAns ["self", "asked"] []
  aCt : Addr
  fCt : FuncData
  FCt : Fun K "call_test" "Answers.call_test" sCt aCt fCt
  mCt : Meth K C "call_test" aCt
  bCt : Binds K fCt ["self", "asked"] []
section
variable {P : Program} {w : World} {K : PySem.W.Frag} {mg : Str → Option Value} {base : Heap}
theorem scNum : FnScope ["thing", "low", "high"] ["thing", "low", "high"] (defScope sNum) := ⟨rfl, rfl, rfl, by decide +kernel, rfl, by decide +kernel, by decide +kernel⟩
theorem ok_numX (T : T8 K mg) : FnOk P w K mg base CX0 1 T.aNum T.fNum ["thing", "low", "high"] (spNumX K) := by
  refine T.FNum.ok scNum (fun vs H Q E h => ?_) (fun cdv A outer s H vs Q E hr h => ?_)
  · obtain ⟨i, lo, hi, rfl, _⟩ := h
    rfl
  · obtain ⟨y, lo, hi, rfl, ⟨t, ty, k1, k2⟩, q⟩ := h
    refine ⟨_, pss_one (ps_ret (pe_and (pe_callB cr_isiT (by rfl) T.isinstance (by decide +kernel) (pa_cons (pv 0) (pa_cons (pe_bltn (v := .ty "int") (by rfl) T.int (by decide +kernel) rfl) pa_nil)))
      (pe_and (pe_not (pe_callB cr_isiT (by rfl) T.isinstance (by decide +kernel) (pa_cons (pv 0) (pa_cons (pe_bltn (v := .ty "bool") (by rfl) T.bool (by decide +kernel) rfl) pa_nil))))
      (pe_one (pe_chain op_le op_le (pv 1) (pv 0) (pv 2)))))), ?_⟩
    refine ⟨_, rfl, _, _, _, _, rfl, ty, k1, _, rfl, ?_⟩
    cases y with
    | int i =>
      refine ⟨_, rfl, _, _, _, _, rfl, ty, k2, _, rfl, _, rfl, ?_⟩
      refine ⟨_, rfl, _, rfl, _, _, rfl, rfl, _, rfl, ?_⟩
      have q : Q (.bl (decide (lo ≤ i) && decide (i ≤ hi))) H := q
      by_cases h1 : lo ≤ i
      · rw [decide_eq_true h1] at q ⊢
        exact ⟨_, rfl, _, _, rfl, rfl, q⟩
      · rw [decide_eq_false h1] at q ⊢
        exact q
    | bl b => exact ⟨_, rfl, _, _, _, _, rfl, ty, k2, _, rfl, _, rfl, q⟩
    | non => exact q
    | str x => exact q
    | byt x => exact q
    | flt x => exact q
    | ref a => exact q
    | ty n => exact q
theorem tupN_get {ks : List Nat} {i : Nat} {y : V} (h : (tupN ks)[i]? = some y) : ∃ k, ks[i]? = some k ∧ y = .int (k : Int) := by
  unfold tupN at h
  rw [List.getElem?_map] at h
  cases e : ks[i]? with
  | none => rw [e] at h; cases h
  | some z => rw [e] at h; exact ⟨z, rfl, (Option.some.inj h).symm⟩
theorem rising_drop {hi : Nat} : ∀ {ks : List Nat} {lo i k : Nat}, Rising lo hi (ks.drop i) → ks[i]? = some k → lo ≤ k ∧ k < hi ∧ Rising (k + 1) hi (ks.drop (i + 1)) := by
  intro ks lo i k h e
  obtain ⟨hi', e'⟩ := List.getElem?_eq_some_iff.mp e
  rw [List.drop_eq_getElem_cons hi', e'] at h
  exact h
def spCfg : Sp := fun vs H Q _ => ∃ (t : Addr) (ks : List Nat), vs = [.ref t, .int 120] ∧ H t = some (.tup (tupN ks)) ∧ Rising 0 120 ks ∧ Q (.bl true) H
theorem kit_tt : PySem.W.kitOne K (.type "tuple") (.type "tuple") = some true := by rfl
theorem scCfg : FnScope ["thing", "count", "highest", "low", "number"] ["thing", "count"] (defScope sCfg) := ⟨rfl, rfl, rfl, by decide +kernel, rfl, by decide +kernel, by decide +kernel⟩
theorem ok_cfg (T : T8 K mg) : FnOk P w K mg base CX0 2 T.aCfg T.fCfg ["thing", "count"] spCfg := by
  have GN : FnOk P w K mg base CX0 1 T.aNum T.fNum ["thing", "low", "high"] (spNumX K) := ok_numX T
  refine T.FCfg.ok scCfg (fun vs H Q E h => ?_) (fun cdv A outer s H vs Q E hr h => ?_)
  · obtain ⟨t, ks, rfl, _⟩ := h
    rfl
  · obtain ⟨a, ks, rfl, ha, hR, q⟩ := h
    obtain ⟨u1, m1, r1⟩ := T.mp
    refine ⟨_, pss_cons (ps_if (pt_not (pt_val (pe_callB cr_isiT (by rfl) T.isinstance (by decide +kernel) (pa_cons (pv 0) (pa_cons (pe_bltn (v := .ty "tuple") (by rfl) T.bi.tuple (by decide +kernel) rfl) pa_nil))))) (pss_one (ps_ret pe_bl)) pss_nil)
      (pss_cons (ps_set (i := 2) scCfg.nd rfl (Or.inl rfl) (pe_op op_sub (pe_callB (call_min2 rfl) (by rfl) T.min (by decide +kernel) (pa_cons (pv 1) (pa_cons (pe_glob (v := .int 120) (by rfl) m1 r1) pa_nil))) pe_int))
      (pss_cons (ps_set (i := 3) scCfg.nd rfl (Or.inl rfl) pe_int)
      (pss_cons (ps_for PassesOwn.never rfl (pi_tup (pv 0)) (pg_name (i := 4) scCfg.nd rfl (Or.inl rfl))
        (pss_cons (ps_if (pt_not (pt_val (pe_call GN hr (by rfl) T.gNum T.FNum.kp T.bNum .nil pass0 (pa_cons (pv 4) (pa_cons (pv 3) (pa_cons (pv 2) pa_nil)))))) (pss_one (ps_ret pe_bl)) pss_nil)
        (pss_one (ps_set (i := 3) scCfg.nd rfl (Or.inl rfl) (pe_op op_add (pv 4) pe_int)))))
      (pss_one (ps_ret pe_bl))))), ?_⟩
    refine ⟨_, rfl, _, _, _, _, rfl, .tup ha, kit_tt, _, rfl, ?_⟩
    refine ⟨_, rfl, _, _, rfl, _, _, rfl, rfl, ?_⟩
    refine ⟨_, rfl, a, rfl, ⟨_, SqT.of ha⟩, for_tup (K := K) (a := a) (xs := tupN ks) (fun i σ H2 => H2 = H ∧ ∃ (lo : Nat) (v : Option V), σ = [some (.ref a), some (.int 120), some (.int 119), some (.int (lo : Int)), v] ∧ Rising lo 120 (ks.drop i))
      ⟨rfl, 0, none, rfl, hR⟩ (fun i σ H2 _ h => by obtain ⟨rfl, _⟩ := h; exact SqT.of ha) ?_ ?_⟩
    · rintro i y σ H2 hi ⟨rfl, lo, v, rfl, hR2⟩
      obtain ⟨k, hk, rfl⟩ := tupN_get hi
      obtain ⟨r1, r2, r3⟩ := rising_drop hR2 hk
      refine ⟨_, rfl, _, rfl, _, rfl, _, _, _, rfl, Ty.int, _, rfl, ?_⟩
      have e : numIn (.int (k : Int)) (lo : Int) 119 = true := by
        show (decide ((lo : Int) ≤ (k : Int)) && decide ((k : Int) ≤ 119)) = true
        rw [decide_eq_true (by omega), decide_eq_true (by omega)]; rfl
      rw [e]
      exact ⟨_, rfl, _, _, rfl, rfl, rfl, k + 1, _, rfl, r3⟩
    · rintro σ H2 ⟨rfl, lo, v, rfl, hR2⟩
      exact q
def spWant : Sp := fun vs H Q _ => ∃ (t : Addr) (ks : List Nat) (what : Str), vs = [.ref t, .str what, .int 120] ∧ H t = some (.tup (tupN ks)) ∧ Rising 0 120 ks ∧ Q .non H
theorem scWant : FnScope ["thing", "what", "count"] ["thing", "what", "count"] (defScope sWant) := ⟨rfl, rfl, rfl, by decide +kernel, rfl, by decide +kernel, by decide +kernel⟩
theorem ok_want (T : T8 K mg) : FnOk P w K mg base CX0 3 T.aWant T.fWant ["thing", "what", "count"] spWant := by
  have GC : FnOk P w K mg base CX0 2 T.aCfg T.fCfg ["thing", "count"] spCfg := ok_cfg T
  refine T.FWant.ok scWant (fun vs H Q E h => ?_) (fun cdv A outer s H vs Q E hr h => ?_)
  · obtain ⟨x, ks, what, rfl, _⟩ := h
    rfl
  · obtain ⟨x, ks, what, rfl, hx, hR, q⟩ := h
    refine ⟨_, pss_one (ps_if (pt_not (pt_val (pe_call GC hr (by rfl) T.gCfg T.FCfg.kp T.bCfg .nil pass0 (pa_cons (pv 0) (pa_cons (pv 2) pa_nil))))) pss_never pss_nil), ?_⟩
    exact ⟨_, rfl, _, rfl, x, ks, rfl, hx, hR, _, rfl, q⟩
def isVerd (v : V) : Bool := match v with | .str x => inV (.str x) [.str "fail", .str "pass", .str "unresolved"] | _ => false
def spVer (K : PySem.W.Frag) : Sp := fun vs H Q _ => ∃ (v : V) (t : Value), vs = [v] ∧ TyOf K H v t ∧ PySem.W.kitOne K t (.type "str") = some (match v with | .str _ => true | _ => false) ∧ Q (.bl (isVerd v)) H
theorem scVer : FnScope ["thing"] ["thing"] (defScope sVer) := ⟨rfl, rfl, rfl, by decide +kernel, rfl, by decide +kernel, by decide +kernel⟩
theorem ok_ver (T : T8 K mg) : FnOk P w K mg base CX0 1 T.aVer T.fVer ["thing"] (spVer K) := by
  refine T.FVer.ok scVer (fun vs H Q E h => ?_) (fun cdv A outer s H vs Q E hr h => ?_)
  · obtain ⟨n, t, rfl, _⟩ := h
    rfl
  · obtain ⟨v, t, rfl, ty, kt, q⟩ := h
    refine ⟨_, pss_one (ps_ret (pe_and (pe_callB cr_isiT (by rfl) T.isinstance (by decide +kernel) (pa_cons (pv 0) (pa_cons (pe_bltn (v := .ty "str") (by rfl) T.str (by decide +kernel) rfl) pa_nil)))
      (pe_one (pe_cmpR op_in_seq (pv 0) (pe_glob (v := .ref T.aV) (by rfl) T.gV rfl) (by rfl))))), ?_⟩
    refine ⟨_, rfl, _, _, _, _, rfl, ty, kt, _, rfl, ?_⟩
    cases v with
    | str x => exact ⟨_, rfl, T.aV, _, rfl, .inr (T.vT H), rfl, by decide, q⟩
    | _ => exact q
def spRows (a0 : Addr) : Sp := fun vs H Q _ => ∃ f : V, vs = [.ref a0, f] ∧ ∀ H', Same H H' → Q (.bl true) H'
theorem scRows : FnScope ["thing", "is_one", "seen", "row"] ["thing", "is_one"] (defScope sRows) := ⟨rfl, rfl, rfl, by decide +kernel, rfl, by decide +kernel, by decide +kernel⟩
theorem T8.sq0 (T : T8 K mg) (H : Hp) : SqT K H T.a0 [] := .inr ⟨T.o0, #[], T.n0, T.k0, T.c0, T.d0, Nat.zero_le _, .nil⟩
theorem ok_rows (T : T8 K mg) : FnOk P w K mg base CX0 1 T.aRows T.fRows ["thing", "is_one"] (spRows T.a0) := by
  refine T.FRows.ok scRows (fun vs H Q E h => ?_) (fun cdv A outer s H vs Q E hr h => ?_)
  · obtain ⟨f, rfl, _⟩ := h
    rfl
  · obtain ⟨f, rfl, q⟩ := h
    refine ⟨_, pss_cons (ps_if (pt_not (pt_val (pe_callB cr_isiTsK (by rfl) T.isinstance (by decide +kernel) (pa_cons (pv 0) (pa_cons (pe_tup (pa_cons (pe_bltn (v := .ty "list") (by rfl) T.list (by decide +kernel) rfl) (pa_cons (pe_bltn (v := .ty "tuple") (by rfl) T.bi.tuple (by decide +kernel) rfl) pa_nil))) pa_nil))))) (pss_one (ps_ret pe_bl)) pss_nil)
      (pss_cons (ps_set (i := 2) scRows.nd rfl (Or.inl rfl) (pe_callTy0 cr_set0 (by rfl) T.set (by decide +kernel)))
      (pss_cons (ps_for PassesOwn.never rfl (pi_tup (pv 0)) (pg_name (i := 3) scRows.nd rfl (Or.inl rfl)) pss_never)
      (pss_one (ps_ret pe_bl)))), ?_⟩
    refine ⟨_, rfl, by show 2 ≤ sizeLine; decide, fun p hp => ?_⟩
    have s1 := Same.new (o := .tup [.ty "list", .ty "tuple"]) hp
    refine ⟨T.a0, p, true, T.o0, ["list", "tuple"], rfl, T.k0, T.c0, upd_same, rfl, _, rfl, ?_⟩
    refine ⟨rfl, fun a ha => ?_⟩
    refine ⟨_, rfl, T.a0, rfl, ⟨_, T.sq0 _⟩, for_tup (K := K) (a := T.a0) (xs := []) (fun i σ H2 => Same H H2) s1 (fun i σ H2 _ h => T.sq0 _) ?_ ?_⟩
    · rintro i y σ H2 hi _
      cases hi
    · rintro σ H2 h
      exact q _ h
end
end My
set_option Elab.async false
set_option linter.all false
set_option maxRecDepth 100000
set_option maxHeartbeats 4000000
namespace My
open PySem L2
def fsT (ft : V) (m : Int) (dv lc : Addr) (cg : Bool) : List (Str × V) := [("test", ft), ("most", .int m), ("verdicts", .ref dv), ("called", .ref lc), ("calling", .bl cg)]
theorem ft_tm : ¬ (("test" : Str) = "most") := by decide +kernel
theorem ft_tv : ¬ (("test" : Str) = "verdicts") := by decide +kernel
theorem ft_tc : ¬ (("test" : Str) = "called") := by decide +kernel
theorem ft_tg : ¬ (("test" : Str) = "calling") := by decide +kernel
theorem ft_mv : ¬ (("most" : Str) = "verdicts") := by decide +kernel
theorem ft_mc : ¬ (("most" : Str) = "called") := by decide +kernel
theorem ft_mg : ¬ (("most" : Str) = "calling") := by decide +kernel
theorem ft_vc : ¬ (("verdicts" : Str) = "called") := by decide +kernel
theorem ft_vg : ¬ (("verdicts" : Str) = "calling") := by decide +kernel
theorem ft_cg : ¬ (("called" : Str) = "calling") := by decide +kernel
theorem put1 {ft m : V} : putF "most" m [("test", ft)] = ([("test", ft), ("most", m)] : List (Str × V)) := by simp [putF, ft_tm]
theorem put2 {ft m v : V} : putF "verdicts" v [("test", ft), ("most", m)] = ([("test", ft), ("most", m), ("verdicts", v)] : List (Str × V)) := by simp [putF, ft_tv, ft_mv]
theorem put3 {ft m v c : V} : putF "called" c [("test", ft), ("most", m), ("verdicts", v)] = ([("test", ft), ("most", m), ("verdicts", v), ("called", c)] : List (Str × V)) := by simp [putF, ft_tc, ft_mc, ft_vc]
theorem put4 {ft : V} {m : Int} {dv lc : Addr} {b : Bool} : putF "calling" (.bl b) [("test", ft), ("most", .int m), ("verdicts", .ref dv), ("called", .ref lc)] = fsT ft m dv lc b := by simp [putF, fsT, ft_tg, ft_mg, ft_vg, ft_cg]
theorem putG {ft : V} {m : Int} {dv lc : Addr} {a b : Bool} : putF "calling" (.bl b) (fsT ft m dv lc a) = fsT ft m dv lc b := by simp [putF, fsT, ft_tg, ft_mg, ft_vg, ft_cg]
theorem lk_test {ft : V} {m : Int} {dv lc : Addr} {a : Bool} : List.lookup ("test" : Str) (fsT ft m dv lc a) = some ft := by simp [fsT, List.lookup]
theorem lk_most {ft : V} {m : Int} {dv lc : Addr} {a : Bool} : List.lookup ("most" : Str) (fsT ft m dv lc a) = some (.int m) := by
  show List.lookup ("most" : Str) ([("test", ft), ("most", .int m), ("verdicts", .ref dv), ("called", .ref lc), ("calling", .bl a)] : List (Str × V)) = _
  rw [List.lookup_cons, beq_eq_false_iff_ne.mpr (Ne.symm ft_tm)]; simp [List.lookup]
theorem lk_verd {ft : V} {m : Int} {dv lc : Addr} {a : Bool} : List.lookup ("verdicts" : Str) (fsT ft m dv lc a) = some (.ref dv) := by
  show List.lookup ("verdicts" : Str) ([("test", ft), ("most", .int m), ("verdicts", .ref dv), ("called", .ref lc), ("calling", .bl a)] : List (Str × V)) = _
  rw [List.lookup_cons, beq_eq_false_iff_ne.mpr (Ne.symm ft_tv), List.lookup_cons, beq_eq_false_iff_ne.mpr (Ne.symm ft_mv)]; simp [List.lookup]
theorem lk_called {ft : V} {m : Int} {dv lc : Addr} {a : Bool} : List.lookup ("called" : Str) (fsT ft m dv lc a) = some (.ref lc) := by
  show List.lookup ("called" : Str) ([("test", ft), ("most", .int m), ("verdicts", .ref dv), ("called", .ref lc), ("calling", .bl a)] : List (Str × V)) = _
  rw [List.lookup_cons, beq_eq_false_iff_ne.mpr (Ne.symm ft_tc), List.lookup_cons, beq_eq_false_iff_ne.mpr (Ne.symm ft_mc), List.lookup_cons, beq_eq_false_iff_ne.mpr (Ne.symm ft_vc)]; simp [List.lookup]
theorem lk_calling {ft : V} {m : Int} {dv lc : Addr} {a : Bool} : List.lookup ("calling" : Str) (fsT ft m dv lc a) = some (.bl a) := by
  show List.lookup ("calling" : Str) ([("test", ft), ("most", .int m), ("verdicts", .ref dv), ("called", .ref lc), ("calling", .bl a)] : List (Str × V)) = _
  rw [List.lookup_cons, beq_eq_false_iff_ne.mpr (Ne.symm ft_tg), List.lookup_cons, beq_eq_false_iff_ne.mpr (Ne.symm ft_mg), List.lookup_cons, beq_eq_false_iff_ne.mpr (Ne.symm ft_vg), List.lookup_cons, beq_eq_false_iff_ne.mpr (Ne.symm ft_cg)]; simp [List.lookup]
theorem lk_no {ft : V} {m : Int} {dv lc : Addr} {a : Bool} {n : Str} (h1 : n ≠ "test") (h2 : n ≠ "most") (h3 : n ≠ "verdicts") (h4 : n ≠ "called") (h5 : n ≠ "calling") : List.lookup n (fsT ft m dv lc a) = none := by
  show List.lookup n ([("test", ft), ("most", .int m), ("verdicts", .ref dv), ("called", .ref lc), ("calling", .bl a)] : List (Str × V)) = _
  rw [List.lookup_cons, beq_eq_false_iff_ne.mpr h1, List.lookup_cons, beq_eq_false_iff_ne.mpr h2, List.lookup_cons, beq_eq_false_iff_ne.mpr h3, List.lookup_cons, beq_eq_false_iff_ne.mpr h4, List.lookup_cons, beq_eq_false_iff_ne.mpr h5]; rfl
structure TrAt (C : Addr) (H : Hp) (x dx : Addr) (ft : V) (m : Int) (dv lc : Addr) (kvs : List (List Key × V)) (rows : List V) (cg : Bool) : Prop where
  ins : H x = some (.ins C dx (fsT ft m dv lc cg))
  dic : H dv = some (.dT kvs)
  lst : H lc = some (.lst rows)
def Kx (x : Addr) (H H' : Hp) : Prop := ∀ b o, H b = some o → b ≠ x → H' b = some o
def spAI (C a0 : Addr) : Sp := fun vs H Q _ => ∃ (x dx : Addr) (ft fr : V) (m : Int), vs = [.ref x, ft, .int m, .ref a0, fr] ∧ H x = some (.ins C dx []) ∧ 0 ≤ m ∧ m ≤ 1000000 ∧
  ∀ (dv lc : Addr) (H' : Hp), H dv = none → H lc = none → Kx x H H' → TrAt C H' x dx ft m dv lc [] [] false → Q .non H'
section
variable {P : Program} {w : World} {K : PySem.W.Frag} {mg : Str → Option Value} {base : Heap}
theorem scAI : FnScope ["self", "test", "most", "known", "is_one", "asked", "verdict"] ["self", "test", "most", "known", "is_one"] (defScope sAI) := ⟨rfl, rfl, rfl, by decide +kernel, rfl, by decide +kernel, by decide +kernel⟩
theorem ok_ai (T : T8 K mg) : FnOk P w K mg base CX0 2 T.aAI T.fAI ["self", "test", "most", "known", "is_one"] (spAI T.C T.a0) := by
  have GN : FnOk P w K mg base CX0 1 T.aNum T.fNum ["thing", "low", "high"] (spNumX K) := ok_numX T
  have GR : FnOk P w K mg base CX0 1 T.aRows T.fRows ["thing", "is_one"] (spRows T.a0) := ok_rows T
  refine T.FAI.ok scAI (fun vs H Q E h => ?_) (fun cdv A outer s H vs Q E hr h => ?_)
  · obtain ⟨x, dx, ft, fr, m, rfl, _⟩ := h
    rfl
  · obtain ⟨x, dx, ft, fr, m, rfl, hx, m0, m1, q⟩ := h
    obtain ⟨u1, mh1, r1⟩ := T.mh
    refine ⟨_, pss_cons (ps_if (pt_not (pt_val (pe_call GN hr (by rfl) T.gNum T.FNum.kp T.bNum .nil pass0 (pa_cons (pv 2) (pa_cons pe_int (pa_cons (pe_glob (v := .int 1000000) (by rfl) mh1 r1) pa_nil)))))) pss_never pss_nil)
      (pss_cons (ps_if (pt_not (pt_val (pe_call GR hr (by rfl) T.gRows T.FRows.kp T.bRows .nil pass0 (pa_cons (pv 3) (pa_cons (pv 4) pa_nil))))) pss_never pss_nil)
      (pss_cons (ps_fld (pv 0) (pv 1) rfl)
      (pss_cons (ps_fld (pv 0) (pv 2) rfl)
      (pss_cons (ps_fld (pv 0) (pe_dc0 (own := [("asked", 5), ("verdict", 6)]) (by rfl) scAI.nd (pi_tup (pv 3)) (blkOk_by (own := [("asked", 5), ("verdict", 6)]) (N := ["self", "test", "most", "known", "is_one", "asked", "verdict"]) (sc := defScope sAI) (by decide +kernel))) rfl)
      (pss_cons (ps_fld (pv 0) (pe_lst pa_nil) rfl)
      (pss_one (ps_fld (pv 0) pe_bl rfl))))))), ?_⟩
    refine ⟨_, rfl, _, _, _, rfl, Ty.int, _, rfl, ?_⟩
    have e : numIn (.int m) 0 1000000 = true := by
      show (decide ((0 : Int) ≤ m) && decide (m ≤ 1000000)) = true
      rw [decide_eq_true m0, decide_eq_true m1]; rfl
    rw [e]
    refine ⟨_, rfl, _, rfl, _, rfl, fun H1 s1 => ⟨_, rfl, ?_⟩⟩
    have hx1 := s1 _ _ hx
    refine ⟨_, rfl, _, rfl, x, T.C, dx, [], rfl, hx1, T.cl, T.nTest, (by show 0 < 1000; decide), ?_⟩
    refine ⟨_, rfl, _, rfl, x, T.C, dx, _, rfl, upd_same, T.cl, T.nMost, (by show 1 < 1000; decide), ?_⟩
    rw [upd_upd, show putF "test" ft [] = ([("test", ft)] : List (Str × V)) from rfl, put1]
    refine ⟨_, rfl, T.a0, rfl, ⟨_, T.sq0 _⟩, fun dv hdv => ⟨⟨_, T.sq0 _, Nat.le_refl _⟩, ?_⟩⟩
    have nxv : x ≠ dv := fun z => by rw [← z, upd_same] at hdv; cases hdv
    have hdv0 : H1 dv = none := by rw [upd_ne (Ne.symm nxv)] at hdv; exact hdv
    refine ⟨_, rfl, x, T.C, dx, _, rfl, by rw [upd_ne nxv]; exact upd_same, T.cl, T.nVerd, (by show 2 < 1000; decide), ?_⟩
    rw [put2]
    refine ⟨Nat.zero_le _, fun lc hlc => ?_⟩
    have nxl : x ≠ lc := fun z => by rw [← z, upd_same] at hlc; cases hlc
    rw [upd_ne (Ne.symm nxl)] at hlc
    have nvl : dv ≠ lc := fun z => by rw [← z, upd_same] at hlc; cases hlc
    rw [upd_ne (Ne.symm nvl), upd_ne (Ne.symm nxl)] at hlc
    refine ⟨_, rfl, x, T.C, dx, _, rfl, by rw [upd_ne nxl]; exact upd_same, T.cl, T.nCalled, (by show 3 < 1000; decide), ?_⟩
    rw [put3]
    refine ⟨_, rfl, x, T.C, dx, _, rfl, upd_same, T.cl, T.nCalling, (by show 4 < 1000; decide), ?_⟩
    rw [put4, upd_upd]
    refine q dv lc _ (s1.free hdv0) (s1.free hlc) (fun b o hb hne => ?_) ⟨upd_same, ?_, ?_⟩
    · have hb1 := s1 _ _ hb
      rw [upd_ne hne, upd_ne (ne_of_none hb1 hlc), upd_ne hne, upd_ne (ne_of_none hb1 hdv0), upd_ne hne]
      exact hb1
    · rw [upd_ne (Ne.symm nxv), upd_ne nvl, upd_ne (Ne.symm nxv)]; exact upd_same
    · rw [upd_ne (Ne.symm nxl)]; exact upd_same
def spTI (C a0 : Addr) : Sp := fun vs H Q _ => ∃ (x dx : Addr) (ft : V) (m : Int), vs = [.ref x, ft, .int m, .ref a0] ∧ H x = some (.ins C dx []) ∧ 0 ≤ m ∧ m ≤ 1000000 ∧
  ∀ (dv lc : Addr) (H' : Hp), H dv = none → H lc = none → Kx x H H' → TrAt C H' x dx ft m dv lc [] [] false → Q .non H'
theorem scTI : FnScope ["self", "test", "most", "known"] ["self", "test", "most", "known"] (defScope sTI) := ⟨rfl, rfl, rfl, by decide +kernel, rfl, by decide +kernel, by decide +kernel⟩
theorem ok_ti (T : T8 K mg) : FnOk P w K mg base CX0 3 T.aTI T.fTI ["self", "test", "most", "known"] (spTI T.C T.a0) := by
  have GA : FnOk P w K mg base CX0 2 T.aAI T.fAI ["self", "test", "most", "known", "is_one"] (spAI T.C T.a0) := ok_ai T
  refine T.FTI.ok scTI (fun vs H Q E h => ?_) (fun cdv A outer s H vs Q E hr h => ?_)
  · obtain ⟨x, dx, ft, m, rfl, _⟩ := h
    rfl
  · obtain ⟨x, dx, ft, m, rfl, hx, m0, m1, q⟩ := h
    refine ⟨_, pss_one (ps_expr (pe_clsCall T.cAI GA hr (by rfl) T.gAC T.bAI .nil pass0 (pa_cons (pv 0) (pa_cons (pv 1) (pa_cons (pv 2) (pa_cons (pv 3) (pa_cons (pe_glob (v := .ref T.aRow) (by rfl) T.gRow rfl) pa_nil))))))), ?_⟩
    refine ⟨_, rfl, _, rfl, _, rfl, _, rfl, x, dx, ft, _, m, rfl, hx, m0, m1, fun dv lc H' h1 h2 h3 h4 => ?_⟩
    exact q dv lc H' h1 h2 h3 h4
end
end My
set_option Elab.async false
set_option linter.all false
set_option maxRecDepth 100000
set_option maxHeartbeats 4000000
namespace My
open PySem L2
def SpMono (sp : Sp) : Prop := ∀ vs H (Q Q' : VK) (E E' : XK), (∀ v H, Q v H → Q' v H) → (∀ c d H, E c d H → E' c d H) → sp vs H Q E → sp vs H Q' E'
def TyS (K : PySem.W.Frag) (H : Hp) (v : V) : Prop := ∃ t, TyOf K H v t ∧ PySem.W.kitOne K t (.type "str") = some (match v with | .str _ => true | _ => false)
def TestAt (P : Program) (w : World) (K : PySem.W.Frag) (mg : Str → Option Value) (base : Heap) (kT : Nat) (ft : Addr) (H : Hp) (sp : Sp) : Prop := FnV K H ft ∧ FnH P w K mg base kT ft H 1 sp ∧ SpMono sp
def spCt (P : Program) (w : World) (K : PySem.W.Frag) (mg : Str → Option Value) (base : Heap) (kT : Nat) (C Bd : Addr) : Sp := fun vs H Q E => ∃ (x dx dv lc ft : Addr) (m : Int) (y : V) (spT : Sp), vs = [.ref x, y] ∧ H x = some (.ins C dx (fsT (.ref ft) m dv lc false)) ∧
  TestAt P w K mg base kT ft (upd H x (.ins C dx (fsT (.ref ft) m dv lc true))) spT ∧
  spT [y] (upd H x (.ins C dx (fsT (.ref ft) m dv lc true)))
    (fun v H1 => H1 x = some (.ins C dx (fsT (.ref ft) m dv lc true)) ∧ TyS K (upd H1 x (.ins C dx (fsT (.ref ft) m dv lc false))) v ∧ (isVerd v = true → Q v (upd H1 x (.ins C dx (fsT (.ref ft) m dv lc false)))) ∧
      (isVerd v = false → ∀ de, (upd H1 x (.ins C dx (fsT (.ref ft) m dv lc false))) de = none → E (.ref Bd) (some de) (upd (upd H1 x (.ins C dx (fsT (.ref ft) m dv lc false))) de (.xd [("told", v)]))))
    (fun Ce d H1 => ∃ de, d = some de ∧ H1 x = some (.ins C dx (fsT (.ref ft) m dv lc true)) ∧ E Ce (some de) (upd H1 x (.ins C dx (fsT (.ref ft) m dv lc false))))
section
variable {P : Program} {w : World} {K : PySem.W.Frag} {mg : Str → Option Value} {base : Heap}
theorem drop2 {H : Hp} {e T x : Addr} {a b c : HO} (he : H e = none) (hT : H T = none) (hxe : x ≠ e) (hxT : x ≠ T) : drop (drop (upd (upd (upd H e a) T b) x c) e) T = upd H x c := by
  funext z
  by_cases h1 : z = T
  · rw [h1, drop_same, upd_ne (Ne.symm hxT), hT]
  · rw [drop_ne h1]
    by_cases h2 : z = e
    · rw [h2, drop_same, upd_ne (Ne.symm hxe), he]
    · rw [drop_ne h2]
      by_cases h3 : z = x
      · rw [h3, upd_same, upd_same]
      · rw [upd_ne h3, upd_ne h1, upd_ne h2, upd_ne h3]
theorem scCt : FnScope ["self", "asked", "test", "told"] ["self", "asked"] (defScope sCt) := ⟨rfl, rfl, rfl, by decide +kernel, rfl, by decide +kernel, by decide +kernel⟩
theorem ok_ct (T : T8 K mg) {kT : Nat} (hk : 2 ≤ kT) :
    FnOk P w K mg base (CXe P w) (kT + 1) T.aCt T.fCt ["self", "asked"] (spCt P w K mg base kT T.C T.Bd.C) := by
  have GV : FnOk P w K mg base CX0 kT T.aVer T.fVer ["thing"] (spVer K) := (ok_ver T).mono (by omega)
  have GB : FnOk P w K mg base CX0 1 T.Bd.aI T.Bd.fI ["self", "told"] (spXG T.Bd.C 1 preA (g1 "told")) := ok_bdi T.toT7
  refine funE_ok T.FCt scCt (fun vs H Q E h => ?_) (fun cdv A outer s H vs Q E hr h => ?_)
  · obtain ⟨x, dx, dv, lc, ft, m, y, spT, rfl, _⟩ := h
    rfl
  · obtain ⟨x, dx, dv, lc, ft, m, y, spT, rfl, hx, ⟨hf, FT, mT⟩, q⟩ := h
    refine ⟨_, pss_cons (ps_set (i := 2) scCt.nd rfl (Or.inl rfl) (pe_fld (pv 0) rfl))
      (pss_cons (ps_fld (pv 0) pe_bl rfl)
      (pss_cons (ps_fin (E := E) (tf := sFld K (tVar 0) (tC (.bl false)) "calling") (tf' := sFld K (tVar 0) (tC (.bl false)) "calling") rfl rfl rfl (fun pn' σ0 E' => pss_one (ps_set (i := 3) scCt.nd rfl (Or.inl rfl) (pe_callFAt (X := finCx (cxOf (CXe P w) P w K mg base ["self", "asked", "test", "told"] "Answers.call_test" (defScope sCt) T.aCt cdv A outer s H E) pn' σ0 E') (P := P) (w := w) (K := K) (mg := mg) (base := base) (k := kT) (E := E') rfl rfl rfl rfl rfl hr pass_fin (pv 2) (pa_cons (pv 1) pa_nil))))
          (pss_one (ps_fld (pv 0) pe_bl rfl)) (fun e => pss_one (ps_fld (pv 0) pe_bl rfl)) again_cx)
      (pss_cons (ps_if (pt_not (pt_val (pe_call GV hr (by rfl) T.gVer T.FVer.kp T.bVer .nil pass0 (pa_cons (pv 3) pa_nil))))
          (pss_one (ps_raiseG xb_TypeError.fb T.Bd.G GB (by decide) (hr.mono hk) (by rfl) T.Bd.g T.bBd pass_cx (pa_cons (pv 3) pa_nil))) pss_nil)
      (pss_one (ps_ret (pv 3)))))), ?_⟩
    refine ⟨_, rfl, x, T.C, dx, _, _, rfl, hx, T.cl, T.nTest, lk_test, ?_⟩
    refine ⟨_, rfl, x, T.C, dx, _, rfl, hx, T.cl, T.nCalling, (by show 5 < 1000; decide), ?_⟩
    rw [putG]
    refine ⟨rfl, _, rfl, ft, rfl, _, rfl, 1, spT, rfl, hf, FT, ?_⟩
    refine mT _ _ _ _ _ _ (fun v H1 h1 => ?_) (fun Ce d H1 h1 => ?_) q
    · obtain ⟨hx1, ⟨t, ty, kt⟩, q1, q2⟩ := h1
      refine ⟨_, rfl, x, T.C, dx, _, rfl, hx1, T.cl, T.nCalling, (by show 5 < 1000; decide), ?_⟩
      rw [putG]
      refine ⟨_, rfl, v, t, rfl, ty, kt, _, rfl, ?_⟩
      cases hv : isVerd v with
      | true => exact ⟨_, rfl, q1 hv⟩
      | false => exact ⟨_, rfl, rfl, fun _ _ => trivial, _, rfl, q2 hv⟩
    · obtain ⟨de, rfl, hx1, q1⟩ := h1
      refine ⟨de, rfl, fun e T1 oe he hT hne hc hd hf => ?_⟩
      have hxe : x ≠ e := ne_of_none hx1 he
      have hxT : x ≠ T1 := ne_of_none hx1 hT
      refine ⟨_, rfl, x, T.C, dx, _, rfl, by rw [upd_ne hxT, upd_ne hxe]; exact hx1, T.cl, T.nCalling, (by show 5 < 1000; decide), ?_⟩
      rw [putG]
      refine ⟨by rw [upd_ne (Ne.symm hxe), upd_ne (Ne.symm hne)]; exact upd_same, by rw [upd_ne (Ne.symm hxT)]; exact upd_same, ?_⟩
      rw [drop2 he hT hxe hxT]
      exact q1
end
end My
set_option Elab.async false
set_option linter.all false
set_option maxRecDepth 100000
set_option maxHeartbeats 4000000
namespace My
open PySem L2
def keyN (ks : List Nat) : List Key := ks.map fun (k : Nat) => (Sum.inl (k : Int) : Key)
theorem keyN_map (ks : List Nat) : (keyN ks).map kV = tupN ks := by unfold keyN tupN; rw [List.map_map]; rfl
theorem spCt_mono {P : Program} {w : World} {K : PySem.W.Frag} {mg : Str → Option Value} {base : Heap} {kT : Nat} {C Bd : Addr} : SpMono (spCt P w K mg base kT C Bd) := by
  intro vs H Q Q' E E' hQ hE h
  obtain ⟨x, dx, dv, lc, ft, m, y, spT, rfl, hx, ⟨hf, FT, mT⟩, q⟩ := h
  refine ⟨x, dx, dv, lc, ft, m, y, spT, rfl, hx, ⟨hf, FT, mT⟩, mT _ _ _ _ _ _ (fun v H1 h1 => ?_) (fun Ce d H1 h1 => ?_) q⟩
  · obtain ⟨hx1, ty, q1, q2⟩ := h1
    exact ⟨hx1, ty, fun hv => hQ _ _ (q1 hv), fun hv de hde => hE _ _ _ (q2 hv de hde)⟩
  · obtain ⟨de, e1, e2, e3⟩ := h1
    exact ⟨de, e1, e2, hE _ _ _ e3⟩
def spAns (P : Program) (w : World) (K : PySem.W.Frag) (mg : Str → Option Value) (base : Heap) (kT : Nat) (C Bd Sn : Addr) : Sp := fun vs H Q E => ∃ (x dx dv lc ft t : Addr) (m : Int) (ks : List Nat) (kvs : List (List Key × V)) (rows : List V), vs = [.ref x, .ref t] ∧ TrAt C H x dx (.ref ft) m dv lc kvs rows false ∧
  H t = some (.tup (tupN ks)) ∧ 0 ≤ m ∧ m < 10 ^ 10 ∧ kvs.length < 1000000 ∧ rows.length < 1000000 ∧ (∀ v, valV kvs (keyN ks) = some v → Q v H) ∧
  (valV kvs (keyN ks) = none → m ≤ (rows.length : Int) → ∀ de, H de = none → E (.ref Sn) (some de) (upd H de (.xd [("most", .int m)]))) ∧
  (valV kvs (keyN ks) = none → (rows.length : Int) < m → spCt P w K mg base kT C Bd [.ref x, .ref t] H (fun v H1 => TrAt C H1 x dx (.ref ft) m dv lc kvs rows false ∧ H1 t = some (.tup (tupN ks)) ∧
    ∀ p H2, H1 p = none → H2 = upd (upd (upd H1 dv (.dT (putK kvs (keyN ks) v))) p (.tup [.ref t, v])) lc (.lst (rows ++ [.ref p])) → Q v H2) E)
section
variable {P : Program} {w : World} {K : PySem.W.Frag} {mg : Str → Option Value} {base : Heap}
theorem scAns : FnScope ["self", "asked", "verdict"] ["self", "asked"] (defScope sAns) := ⟨rfl, rfl, rfl, by decide +kernel, rfl, by decide +kernel, by decide +kernel⟩
theorem ok_ans (T : T8 K mg) {kT : Nat} (hk : 2 ≤ kT) :
    FnOk P w K mg base (CXe P w) (kT + 2) T.aAns T.fAns ["self", "asked"] (spAns P w K mg base kT T.C T.Bd.C T.Sn.C) := by
  have GC := ok_ct (P := P) (w := w) (base := base) T hk
  have GS : FnOk P w K mg base CX0 1 T.Sn.aI T.Sn.fI ["self", "most"] (spXG T.Sn.C 1 preI (g1 "most")) := ok_sni T.toT7
  refine funE_ok T.FAns scAns (fun vs H Q E h => ?_) (fun cdv A outer s H vs Q E hr h => ?_)
  · obtain ⟨x, dx, dv, lc, ft, t, m, ks, kvs, rows, rfl, _⟩ := h
    rfl
  · obtain ⟨x, dx, dv, lc, ft, t, m, ks, kvs, rows, rfl, A1, ht, m0, m1, lk, lr, q1, q2, q3⟩ := h
    have hu := hu_of hr
    refine ⟨_, pss_cons (ps_if (pt_val (pe_fld (pv 0) rfl)) pss_never pss_nil)
      (pss_cons (ps_if (pt_cmp (pc_din hu (pv 1) (pe_fld (pv 0) rfl))) (pss_one (ps_ret (pe_dget hu (pe_fld (pv 0) rfl) (pv 1) (fun _ _ => rfl)))) pss_nil)
      (pss_cons (ps_if (pt_cmpR op_ge (pe_callB call_len_seq (by rfl) T.bi.len PySem.boot_len (pa_cons (pe_fld (pv 0) rfl) pa_nil)) (pe_fld (pv 0) rfl) (nomark _)) (pss_one (ps_raiseG xb_OverflowError.fb T.Sn.G GS (by decide) (hr.mono (by omega)) (by rfl) T.Sn.g T.bSn pass_cx (pa_cons (pe_fld (pv 0) rfl) pa_nil))) pss_nil)
      (pss_cons (ps_set (i := 2) scAns.nd rfl (Or.inl rfl) (pe_meth (pv 0) T.cl T.mCt GC hr T.bCt .nil pass_cx (pa_cons (pv 1) pa_nil)))
      (pss_cons (ps_dput hu (pe_fld (pv 0) rfl) (pv 1) (pv 2) rfl)
      (pss_cons (ps_expr (pe_bm PySem.F.plainAttrs_list PySem.F.slot_list_append PySem.F.type_list_append mt_append (pe_fld (pv 0) rfl) (pa_cons (pe_tup (pa_cons (pv 1) (pa_cons (pv 2) pa_nil))) pa_nil)))
      (pss_one (ps_ret (pv 2)))))))), ?_⟩
    refine ⟨_, rfl, x, T.C, dx, _, _, rfl, A1.ins, T.cl, T.nCalling, lk_calling, _, rfl, ?_⟩
    have hg : DGet H dv (.ref t) (valV kvs (keyN ks)) := DGet.t A1.dic (by rw [keyN_map]; exact ht)
    refine ⟨_, rfl, _, rfl, x, T.C, dx, _, _, rfl, A1.ins, T.cl, T.nVerd, lk_verd, dv, _, rfl, hg, _, rfl, ?_⟩
    cases hv : valV kvs (keyN ks) with
    | some v =>
      rw [hv] at hg
      exact ⟨_, rfl, x, T.C, dx, _, _, rfl, A1.ins, T.cl, T.nVerd, lk_verd, _, rfl, dv, v, rfl, hg, q1 v hv⟩
    | none =>
      refine ⟨_, rfl, x, T.C, dx, _, _, rfl, A1.ins, T.cl, T.nCalled, lk_called, lc, _, rfl, .inl (SqL.of A1.lst), _, rfl, x, T.C, dx, _, _, rfl, A1.ins, T.cl, T.nMost, lk_most, _, _, rfl, rfl, _, rfl, ite2 (fun hd => ?_) (fun hd => ?_)⟩
      · have hle : m ≤ (rows.length : Int) := of_decide_eq_true hd
        exact ⟨_, rfl, x, T.C, dx, _, _, rfl, A1.ins, T.cl, T.nMost, lk_most, rfl, fun _ _ => ⟨m, rfl, m0, m1⟩, _, rfl, q2 hv hle⟩
      · have hlt : (rows.length : Int) < m := by
          have : ¬ m ≤ (rows.length : Int) := fun z => hd (decide_eq_true z)
          omega
        refine ⟨_, rfl, x, dx, _, rfl, A1.ins, lk_no (by decide +kernel) (by decide +kernel) (by decide +kernel) (by decide +kernel) (by decide +kernel), _, rfl, ?_⟩
        refine spCt_mono _ _ _ _ _ _ (fun v H1 h1 => ?_) (fun _ _ _ z => z) (q3 hv hlt)
        obtain ⟨B1, ht1, q4⟩ := h1
        have nvx : dv ≠ x := ne_of B1.dic B1.ins (by intro z; cases z)
        have nvl : dv ≠ lc := ne_of B1.dic B1.lst (by intro z; cases z)
        have big : (1000000 : Nat) ≤ sizeLine := by decide
        refine ⟨_, rfl, _, rfl, x, T.C, dx, _, _, rfl, B1.ins, T.cl, T.nVerd, lk_verd, _, rfl, dv, _, rfl, DPut.t B1.dic (by rw [keyN_map]; exact ht1) (by omega), ?_⟩
        have hx2 : (upd H1 dv (.dT (putK kvs (keyN ks) v))) x = some (.ins T.C dx (fsT (.ref ft) m dv lc false)) := by rw [upd_ne (Ne.symm nvx)]; exact B1.ins
        have hl2 : (upd H1 dv (.dT (putK kvs (keyN ks) v))) lc = some (.lst rows) := by rw [upd_ne (Ne.symm nvl)]; exact B1.lst
        refine ⟨_, rfl, x, T.C, dx, _, _, rfl, hx2, T.cl, T.nCalled, lk_called, .inl ⟨rfl, _, SqL.of hl2⟩, ?_⟩
        refine ⟨_, rfl, _, rfl, by show 2 ≤ sizeLine; decide, fun p hp => ?_⟩
        have npl : lc ≠ p := ne_of_none hl2 hp
        refine ⟨lc, _, _, rfl, rfl, by rw [upd_ne npl]; exact hl2, by omega, _, rfl, ?_⟩
        have hp1 : H1 p = none := by
          by_cases z : p = dv
          · rw [z, upd_same] at hp; cases hp
          · rw [upd_ne z] at hp; exact hp
        exact q4 p _ hp1 rfl
def spAsk (P : Program) (w : World) (K : PySem.W.Frag) (mg : Str → Option Value) (base : Heap) (kT : Nat) (C Bd Sn : Addr) : Sp := fun vs H Q E => ∃ (x t : Addr) (ks : List Nat), vs = [.ref x, .ref t] ∧ H t = some (.tup (tupN ks)) ∧ Rising 0 120 ks ∧ (∃ dx fs, H x = some (.ins C dx fs) ∧ List.lookup ("answer" : Str) fs = none) ∧ spAns P w K mg base kT C Bd Sn [.ref x, .ref t] H Q E
theorem scAsk : FnScope ["self", "parts"] ["self", "parts"] (defScope sAsk) := ⟨rfl, rfl, rfl, by decide +kernel, rfl, by decide +kernel, by decide +kernel⟩
theorem ok_ask (T : T8 K mg) {kT : Nat} (hk : 2 ≤ kT) :
    FnOk P w K mg base (CXe P w) (kT + 3) T.aAsk T.fAsk ["self", "parts"] (spAsk P w K mg base kT T.C T.Bd.C T.Sn.C) := by
  have GA := ok_ans (P := P) (w := w) (base := base) T hk
  have GW : FnOk P w K mg base CX0 (kT + 2) T.aWant T.fWant ["thing", "what", "count"] spWant := (ok_want T).mono (by omega)
  refine funE_ok T.FAsk scAsk (fun vs H Q E h => ?_) (fun cdv A outer s H vs Q E hr h => ?_)
  · obtain ⟨x, t, ks, rfl, _⟩ := h
    rfl
  · obtain ⟨x, t, ks, rfl, ht, hR, ⟨dx, fs, hx, hl⟩, q⟩ := h
    refine ⟨_, pss_cons (ps_expr (pe_call GW hr (by rfl) T.gWant T.FWant.kp T.bWant1 (.cons T.rWant .nil) pass0 (pa_cons (pv 1) (pa_cons pe_str pa_nil))))
      (pss_one (ps_ret (pe_meth (pv 0) T.cl T.mAns GA hr T.bAns .nil pass_cx (pa_cons (pv 1) pa_nil)))), ?_⟩
    refine ⟨_, rfl, t, ks, _, rfl, ht, hR, ?_⟩
    exact ⟨_, rfl, x, dx, fs, rfl, hx, hl, _, rfl, q⟩
end
end My
set_option Elab.async false
set_option linter.all false
set_option maxRecDepth 100000
set_option maxHeartbeats 4000000
namespace My
open PySem L2
def intN (ks : List Nat) : List Int := ks.map fun (k : Nat) => (k : Int)
theorem tupN_int (ks : List Nat) : tupN ks = (intN ks).map V.int := by unfold tupN intN; rw [List.map_map]; rfl
theorem intN_len (ks : List Nat) : (intN ks).length = ks.length := by unfold intN; rw [List.length_map]
theorem tupN_len (ks : List Nat) : (tupN ks).length = ks.length := by unfold tupN; rw [List.length_map]
theorem mem_intN {x : Int} {ks : List Nat} : x ∈ intN ks ↔ ∃ k ∈ ks, x = (k : Int) := by
  unfold intN; rw [List.mem_map]
  exact ⟨fun ⟨k, a, b⟩ => ⟨k, a, b.symm⟩, fun ⟨k, a, b⟩ => ⟨k, a, b.symm⟩⟩
theorem Rising.lt {hi : Nat} : ∀ {lo : Nat} {ks : List Nat}, Rising lo hi ks → ∀ k ∈ ks, k < hi
  | _, [], _ => fun _ z => nomatch z
  | _, k :: r, ⟨_, b, c⟩ => fun j hj => (List.mem_cons.mp hj).elim (fun e => e ▸ b) fun e => Rising.lt c j e
theorem Rising.ge {hi : Nat} : ∀ {lo : Nat} {ks : List Nat}, Rising lo hi ks → ∀ k ∈ ks, lo ≤ k
  | _, [], _ => fun _ z => nomatch z
  | lo, k :: r, ⟨a, b, c⟩ => fun j hj => (List.mem_cons.mp hj).elim (fun e => e ▸ a) fun e => by have := Rising.ge (lo := k + 1) c j e; omega
theorem Rising.down {hi : Nat} : ∀ {lo lo' : Nat} {ks : List Nat}, lo ≤ lo' → Rising lo' hi ks → Rising lo hi ks
  | _, _, [], _, _ => trivial
  | lo, lo', k :: r, h, ⟨a, b, c⟩ => ⟨by omega, b, c⟩
theorem Rising.filter {hi : Nat} (p : Nat → Bool) : ∀ {lo : Nat} {ks : List Nat}, Rising lo hi ks → Rising lo hi (ks.filter p)
  | _, [], _ => trivial
  | lo, k :: r, ⟨a, b, c⟩ => by
    have ih := Rising.filter (lo := k + 1) p c
    rw [List.filter_cons]
    split
    · exact ⟨a, b, ih⟩
    · exact ih.down (by omega)
theorem Rising.up {hi : Nat} : ∀ {lo : Nat} {ks : List Nat}, Rising lo hi ks → (intN ks).Pairwise (· < ·)
  | _, [], _ => List.Pairwise.nil
  | lo, k :: r, ⟨a, b, c⟩ => by
    show ((k : Int) :: intN r).Pairwise _
    refine List.Pairwise.cons (fun x hx => ?_) (Rising.up (lo := k + 1) c)
    obtain ⟨j, hj, rfl⟩ := mem_intN.mp hx
    have := Rising.ge (lo := k + 1) c j hj
    omega
theorem up_eq : ∀ {a b : List Int}, a.Pairwise (· < ·) → b.Pairwise (· < ·) → (∀ x, x ∈ a ↔ x ∈ b) → a = b
  | [], [], _, _, _ => rfl
  | [], y :: b, _, _, h => nomatch (h y).mpr List.mem_cons_self
  | x :: a, [], _, _, h => nomatch (h x).mp List.mem_cons_self
  | x :: a, y :: b, ha, hb, h => by
    rw [List.pairwise_cons] at ha hb
    have e : x = y := by
      rcases List.mem_cons.mp ((h x).mp List.mem_cons_self) with e | e
      · exact e
      · rcases List.mem_cons.mp ((h y).mpr List.mem_cons_self) with e' | e'
        · exact e'.symm
        · have h1 := hb.1 x e
          have h2 := ha.1 y e'
          omega
    subst e
    rw [up_eq ha.2 hb.2 fun z => ⟨fun hz => ?_, fun hz => ?_⟩]
    · rcases List.mem_cons.mp ((h z).mp (List.mem_cons_of_mem _ hz)) with e | e
      · have := ha.1 z hz; omega
      · exact e
    · rcases List.mem_cons.mp ((h z).mpr (List.mem_cons_of_mem _ hz)) with e | e
      · have := hb.1 z hz; omega
      · exact e
def diffN (ks js : List Nat) : List Nat := ks.filter fun k => !decide (k ∈ js)
theorem diffN_snoc (ks js : List Nat) (k : Nat) : diffN (ks ++ [k]) js = if decide (k ∈ js) = true then diffN ks js else diffN ks js ++ [k] := by
  unfold diffN
  rw [List.filter_append]
  by_cases h : k ∈ js
  · rw [if_pos (decide_eq_true h), List.filter_cons, if_neg (by simp [h])]; simp
  · rw [if_neg (by simp [h]), List.filter_cons, if_pos (by simp [h])]; simp
theorem diffN_len (ks js : List Nat) : (diffN ks js).length ≤ ks.length := List.length_filter_le _ _
theorem inV_tupN (k : Nat) : ∀ js : List Nat, inV (.int (k : Int)) (tupN js) = decide (k ∈ js)
  | [] => by simp [inV, tupN]
  | j :: js => by
    have ih := inV_tupN k js
    show (eqV (.int (j : Int)) (.int (k : Int)) || inV (.int (k : Int)) (tupN js)) = _
    rw [ih]
    have e : eqV (.int (j : Int)) (.int (k : Int)) = decide (k = j) := by
      show ((j : Int) == (k : Int)) = decide (k = j)
      by_cases h : k = j
      · rw [h]; simp
      · rw [decide_eq_false h]; simp; omega
    rw [e]
    simp
theorem flat_tupN (js : List Nat) : (tupN js).all flatV = true := by
  rw [List.all_eq_true]
  intro y hy
  unfold tupN at hy
  obtain ⟨k, _, rfl⟩ := List.mem_map.mp hy
  rfl
theorem take_snoc {ks : List Nat} {i : Nat} {k : Nat} (h : ks[i]? = some k) : ks.take (i + 1) = ks.take i ++ [k] := by
  obtain ⟨hi, e⟩ := List.getElem?_eq_some_iff.mp h
  rw [List.take_succ_eq_append_getElem hi, e]
structure Df (K : PySem.W.Frag) (mg : Str → Option Value) (n : Str) (st : Stmt) (ps : List Str) where
  a : Addr
  f : FuncData
  F : Fun K n n st a f
  g : mg n = some (.ref a)
  b : Binds K f ps []
abbrev sIs : Stmt := top 35
theorem passF {X : Cx} : Passes (CXe X.prog X.w) X E0 := fun _ _ _ _ _ _ _ h => by
  obtain ⟨_, _, _, _, _, _, _, _, _, _, _, _, _, _, _, z⟩ := h
  exact z.elim
theorem tupN_app (ks js : List Nat) : tupN ks ++ tupN js = tupN (ks ++ js) := by unfold tupN; rw [List.map_append]
theorem But.ne {H : Hp} {m lC lL a : Addr} {n : Nat} {zs : List V} (M : MAt H m lC lL n) (h : H a = some (.tup zs)) : a ≠ m ∧ a ≠ lL := by
  obtain ⟨cells, left, hm, hC, hc, hb, hL, hl, ne⟩ := M.ex
  exact ⟨ne_of h hm (by intro z; cases z), ne_of h hL (by intro z; cases z)⟩
theorem But.tups {H H' : Hp} {m lC lL : Addr} {n : Nat} (M : MAt H m lC lL n) (b : But m lL H H') : ∀ a zs, H a = some (.tup zs) → H' a = some (.tup zs) := fun a zs h => by
  obtain ⟨cells, left, hm, hC, hc, hb, hL, hl, ne⟩ := M.ex
  exact b _ _ h (ne_of h hm (by intro z; cases z)) (ne_of h hL (by intro z; cases z))
def spIs (K : PySem.W.Frag) : Sp := fun vs H Q _ => ∃ (a b : Addr) (ks js : List Nat), vs = [.ref a, .ref b] ∧ H a = some (.tup (tupN ks)) ∧ H b = some (.tup (tupN js)) ∧ Rising 0 120 ks ∧ Rising 0 120 js ∧
  ∀ H' : Hp, Same H H' → Q (.bl (diffN ks js).isEmpty) H'
theorem eqv_nilL {ds : List PyData} (h : ds ≠ []) : PyData.eqv (.list ds) (.list []) = false := by
  cases ds with
  | nil => exact absurd rfl h
  | cons d r => rw [PyData.eqv, PyData.eqvAll]
section
variable {P : Program} {w : World} {K : PySem.W.Frag} {mg : Str → Option Value} {base : Heap}
theorem diff_step {H H1 : Hp} {D : Addr} {ks js : List Nat} {i k : Nat} {tv : VK → Prop} (htv : ∀ Q : VK, Q (.int (k : Int)) H1 → tv Q) (hD : H D = none) (hD1 : H1 D = some (.lst (tupN (diffN (ks.take i) js)))) (s1 : ∀ b u, H b = some u → H1 b = some u) (hki : ks[i]? = some k) (hlen : ks.length ≤ 1000) :
    if (if true = true then !inV (.int (k : Int)) (tupN js) else inV (.int (k : Int)) (tupN js)) = true then tv (fun y H4 => ∃ acc, H4 D = some (.lst acc) ∧ acc.length < sizeLine ∧ (upd H4 D (.lst (acc ++ [y])) D = some (.lst (tupN (diffN (ks.take (i + 1)) js))) ∧ ∀ b u, H b = some u → upd H4 D (.lst (acc ++ [y])) b = some u))
    else (H1 D = some (.lst (tupN (diffN (ks.take (i + 1)) js))) ∧ ∀ b u, H b = some u → H1 b = some u) := by
  rw [if_pos rfl, inV_tupN, take_snoc hki, diffN_snoc]
  by_cases h : k ∈ js
  · rw [decide_eq_true h, if_neg (by decide), if_pos rfl]
    exact ⟨hD1, s1⟩
  · rw [decide_eq_false h, if_pos (by decide), if_neg (by decide)]
    refine htv _ ⟨_, hD1, small1000 ?_, ?_, fun b u e => ?_⟩
    · rw [tupN_len]
      have h1 := diffN_len (ks.take i) js
      have h2 : (ks.take i).length ≤ ks.length := by rw [List.length_take]; exact Nat.min_le_right _ _
      omega
    · rw [upd_same, tupN_snoc]
    · rw [upd_ne (ne_of_none e hD)]; exact s1 _ _ e
theorem intN_small {hi : Nat} (hh : hi ≤ 1000) {lo : Nat} {ks : List Nat} (h : Rising lo hi ks) : ∀ n ∈ intN ks, n.natAbs < 2 ^ 20 := fun n hn => by
  obtain ⟨k, hk, rfl⟩ := mem_intN.mp hn
  have := h.lt k hk
  omega
theorem shwT {hi : Nat} (hh : hi ≤ 120) {ks : List Nat} (h : Rising 0 hi ks) : Shw (.tuple ((intN ks).map PyData.int)) 1 2640 := by
  have := h.len (Nat.zero_le _)
  exact ((shwInts (intN_small (by omega) h)).tuple).mono (Nat.le_refl _) (by rw [intN_len]; omega)
theorem scIs : FnScope ["_law_some_here", "_law_beside", "_law_k"] ["_law_some_here", "_law_beside"] (defScope sIs) := ⟨rfl, rfl, rfl, by decide +kernel, rfl, by decide +kernel, by decide +kernel⟩
theorem ok_is (D : Df K mg "_law_inside" sIs ["_law_some_here", "_law_beside"]) : FnOk P w K mg base CX0 1 D.a D.f ["_law_some_here", "_law_beside"] (spIs K) := by
  refine D.F.ok scIs (fun vs H Q E h => ?_) (fun cdv A outer s H vs Q E hr h => ?_)
  · obtain ⟨a, b, ks, js, rfl, _⟩ := h
    rfl
  · obtain ⟨a, b, ks, js, rfl, ha, hb, hk, hj, q3⟩ := h
    have hu : (A.deeper (PyProof.Rows.envOfC "_law_inside" (defScope sIs) s.heap.objs.size D.a cdv)).units + 64 < cLine := hr.units
    refine ⟨_, pss_one (ps_ret (pe_cmpR (op_eqD hu) (pe_lc (tt := tTest (tOp (rIn K true) (tVar 2) (tVar 1))) (te := tVar 2) (own := [("_law_k", 2)]) (g := gName 2) (by rfl) scIs.nd (pi_tup (pv 0)) (blkOk_by (own := [("_law_k", 2)]) (N := ["_law_some_here", "_law_beside", "_law_k"]) (sc := defScope sIs) (by decide +kernel)) (fun _ _ _ _ _ => pg_name (i := 2) scIs.nd rfl (Or.inl rfl)) (fun _ _ _ _ _ => pts_one (pt_cmpR op_notIn_seq (pv 2) (pv 1) (by rfl)))
        (fun _ _ _ _ _ => pv 2)) (pe_lst pa_nil) (nomark _))), ?_⟩
    refine ⟨_, rfl, a, rfl, ⟨_, SqT.of ha⟩, fun Dl hD => lc_tup (K := K) (a := a) (xs := tupN ks) (fun i H1 => H1 Dl = some (.lst (tupN (diffN (ks.take i) js))) ∧ ∀ b u, H b = some u → H1 b = some u)
      ⟨upd_same, fun b u e => Same.new hD _ _ e⟩ (fun i H1 _ h => SqT.of (h.2 _ _ ha)) ?_ ?_⟩
    · rintro i v H1 hi ⟨hD1, s1⟩
      obtain ⟨k, hki, rfl⟩ := tupN_get hi
      have hlen := hk.len (Nat.zero_le _)
      refine ⟨rfl, ?_⟩
      refine ⟨_, rfl, _, rfl, b, tupN js, rfl, .inr (SqT.of (s1 _ _ hb)), rfl, flat_tupN js, _, rfl, ?_⟩
      exact diff_step (tv := fun Q => tVar 2 _ _ Q) (fun Q q => ⟨_, rfl, q⟩) hD hD1 s1 hki (by omega)
    · rintro H1 ⟨hD1, s1⟩
      rw [tupN_len, List.take_length, tupN_int] at hD1
      refine ⟨by show 0 ≤ sizeLine; decide, fun p2 hp2 => ?_⟩
      have s2 := Same.new (o := .lst []) hp2
      have sw := shwT (by decide) (hk.filter (fun k => !decide (k ∈ js)))
      refine ⟨.list ((intN (diffN ks js)).map PyData.int), .list [], .lst (SqL.of (s2 _ _ hD1)) (dpInts _), .lst (SqL.of upd_same) .nil, ?_, by decide +kernel, ?_⟩
      · have := hk.len (Nat.zero_le _)
        exact (((shwInts (intN_small (by decide) (hk.filter (fun k => !decide (k ∈ js))))).list).mono (Nat.le_refl _) (Nat.le_refl _)).shaped (by decide)
      have fin := q3 _ (fun b u e => s2 _ _ (s1 b u e))
      cases hd : diffN ks js with
      | nil => rw [hd] at fin; exact fin
      | cons k r => rw [hd] at fin; rw [eqv_nilL (by simp [intN])]; exact fin
end
end My
set_option Elab.async false
set_option linter.all false
set_option maxRecDepth 100000
set_option maxHeartbeats 4000000
namespace My
open PySem L2
abbrev sLs : Stmt := top 34
def spLs (K : PySem.W.Frag) : Sp := fun vs H Q _ => ∃ (a b : Addr) (ks js : List Nat), vs = [.ref a, .ref b] ∧ H a = some (.tup (tupN ks)) ∧ H b = some (.tup (tupN js)) ∧ Rising 0 120 ks ∧ Rising 0 120 js ∧
  ∀ (p : Addr) (H' : Hp), Same H H' → H' p = some (.tup (tupN (diffN ks js))) → Q (.ref p) H'
section
variable {P : Program} {w : World} {K : PySem.W.Frag} {mg : Str → Option Value} {base : Heap}
theorem scLs : FnScope ["_law_some_here", "_law_beside", "_law_k"] ["_law_some_here", "_law_beside"] (defScope sLs) := ⟨rfl, rfl, rfl, by decide +kernel, rfl, by decide +kernel, by decide +kernel⟩
theorem ok_ls (bi : Bi mg) (D : Df K mg "_law_less" sLs ["_law_some_here", "_law_beside"]) : FnOk P w K mg base CX0 1 D.a D.f ["_law_some_here", "_law_beside"] (spLs K) := by
  refine D.F.ok scLs (fun vs H Q E h => ?_) (fun cdv A outer s H vs Q E hr h => ?_)
  · obtain ⟨a, b, ks, js, rfl, _⟩ := h
    rfl
  · obtain ⟨a, b, ks, js, rfl, ha, hb, hk, hj, q3⟩ := h
    refine ⟨_, pss_one (ps_ret (pe_callTy call_tuple_of (by rfl) bi.tuple (by decide +kernel) (pa_cons (pe_lc (tt := tTest (tOp (rIn K true) (tVar 2) (tVar 1))) (te := tVar 2) (own := [("_law_k", 2)]) (g := gName 2) (by rfl) scLs.nd (pi_tup (pv 0)) (blkOk_by (own := [("_law_k", 2)]) (N := ["_law_some_here", "_law_beside", "_law_k"]) (sc := defScope sLs) (by decide +kernel)) (fun _ _ _ _ _ => pg_name (i := 2) scLs.nd rfl (Or.inl rfl)) (fun _ _ _ _ _ => pts_one (pt_cmpR op_notIn_seq (pv 2) (pv 1) (by rfl)))
        (fun _ _ _ _ _ => pv 2)) pa_nil))), ?_⟩
    refine ⟨_, rfl, a, rfl, ⟨_, SqT.of ha⟩, fun Dl hD => lc_tup (K := K) (a := a) (xs := tupN ks) (fun i H1 => H1 Dl = some (.lst (tupN (diffN (ks.take i) js))) ∧ ∀ b u, H b = some u → H1 b = some u)
      ⟨upd_same, fun b u e => Same.new hD _ _ e⟩ (fun i H1 _ h => SqT.of (h.2 _ _ ha)) ?_ ?_⟩
    · rintro i v H1 hi ⟨hD1, s1⟩
      obtain ⟨k, hki, rfl⟩ := tupN_get hi
      have hlen := hk.len (Nat.zero_le _)
      refine ⟨rfl, ?_⟩
      refine ⟨_, rfl, _, rfl, b, tupN js, rfl, .inr (SqT.of (s1 _ _ hb)), rfl, flat_tupN js, _, rfl, ?_⟩
      exact diff_step (tv := fun Q => tVar 2 _ _ Q) (fun Q q => ⟨_, rfl, q⟩) hD hD1 s1 hki (by omega)
    · rintro H1 ⟨hD1, s1⟩
      rw [tupN_len, List.take_length] at hD1
      refine ⟨Dl, _, rfl, .inl ⟨SqL.of hD1, fun l hl => ?_⟩⟩
      exact q3 l _ (fun b u e => Same.new hl _ _ (s1 _ _ e)) upd_same
end
end My
set_option Elab.async false
set_option linter.all false
set_option maxRecDepth 100000
set_option maxHeartbeats 4000000
namespace My
open PySem L2
abbrev sCo : Stmt := top 36
def Tups (H : Hp) (ts : List Addr) (cs : List (List Nat)) : Prop := ts.length = cs.length ∧ ∀ (i : Nat) t c, ts[i]? = some t → cs[i]? = some c → H t = some (.tup (tupN c))
theorem Tups.sm {H H' : Hp} {ts : List Addr} {cs : List (List Nat)} (h : Tups H ts cs) (k : ∀ a xs, H a = some (.tup xs) → H' a = some (.tup xs)) : Tups H' ts cs := ⟨h.1, fun i t c e1 e2 => k _ _ (h.2 i t c e1 e2)⟩
theorem Tups.nil {H : Hp} : Tups H [] [] := ⟨rfl, fun i t c e _ => by simp at e⟩
theorem Tups.snoc {H : Hp} {ts : List Addr} {cs : List (List Nat)} {t : Addr} {c : List Nat} (h : Tups H ts cs) (ht : H t = some (.tup (tupN c))) : Tups H (ts ++ [t]) (cs ++ [c]) := by
  refine ⟨by simp [h.1], fun i u d e1 e2 => ?_⟩
  by_cases hi : i < ts.length
  · rw [List.getElem?_append_left hi] at e1
    rw [List.getElem?_append_left (by rw [← h.1]; exact hi)] at e2
    exact h.2 i u d e1 e2
  · have hz : i = ts.length := by
      have := (List.getElem?_eq_some_iff.mp e1).1
      simp at this; omega
    subst hz
    rw [List.getElem?_append_right (Nat.le_refl _), Nat.sub_self] at e1
    rw [h.1, List.getElem?_append_right (Nat.le_refl _), Nat.sub_self] at e2
    cases e1; cases e2; exact ht
theorem Tups.get {H : Hp} {ts : List Addr} {cs : List (List Nat)} (h : Tups H ts cs) {i : Nat} {v : V} (e : (ts.map V.ref)[i]? = some v) : ∃ t c, v = .ref t ∧ ts[i]? = some t ∧ cs[i]? = some c ∧ H t = some (.tup (tupN c)) := by
  rw [List.getElem?_map] at e
  cases q : ts[i]? with
  | none => rw [q] at e; cases e
  | some t =>
    rw [q] at e
    have hi : i < cs.length := by rw [← h.1]; exact (List.getElem?_eq_some_iff.mp q).1
    exact ⟨t, cs[i], (Option.some.inj e).symm, rfl, List.getElem?_eq_getElem hi, h.2 i t _ q (List.getElem?_eq_getElem hi)⟩
def spCores : Sp := fun vs H Q _ => ∃ (m lC lL : Addr) (n z : Nat), vs = [.ref m, .int (z : Int)] ∧ MAt H m lC lL n ∧ n < 2 ^ 31 ∧ z ≤ 120 ∧
  ∀ (l : Addr) (ts : List Addr) (cs : List (List Nat)) (n' : Nat) (H' : Hp), H l = none → H' l = some (.lst (ts.map V.ref)) → Tups H' ts cs → (∀ c ∈ cs, Rising 0 z c) → cs.length ≤ 4 → cs ≠ [] → n' ≤ n + 60 → MAt H' m lC lL n' → But m lL H H' → Q (.ref l) H'
def NoTw (z : Nat) (ks : List Nat) : Prop := ks.Nodup ∧ ∀ k ∈ ks, k < z
theorem up_rising {z : Nat} : ∀ {ns : List Int} {lo : Nat}, ns.Pairwise (· < ·) → (∀ n ∈ ns, (lo : Int) ≤ n ∧ n < z) → ∃ ks, ns = intN ks ∧ Rising lo z ks
  | [], _, _, _ => ⟨[], rfl, trivial⟩
  | n :: r, lo, hp, hb => by
    rw [List.pairwise_cons] at hp
    have hn := hb n List.mem_cons_self
    obtain ⟨ks, e, hk⟩ := up_rising (z := z) (ns := r) (lo := n.toNat + 1) hp.2 fun x hx => by
      have h1 := hp.1 x hx
      have h2 := hb x (List.mem_cons_of_mem _ hx)
      omega
    refine ⟨n.toNat :: ks, ?_, by omega, by omega, hk⟩
    show n :: r = ((n.toNat : Nat) : Int) :: intN ks
    rw [Int.toNat_of_nonneg (by omega), e]
theorem sorted_rising {z : Nat} {ks : List Nat} {zs : List Int} (h : NoTw z ks) (hp : zs.Perm (intN ks)) (hs : zs.Pairwise (· ≤ ·)) : ∃ us, zs = intN us ∧ Rising 0 z us := by
  have nd : (intN ks).Nodup := by
    unfold intN
    exact List.pairwise_map.mpr (h.1.imp fun {a b} ne e => ne (by
      have e : (a : Int) = (b : Int) := e
      omega))
  have nz : zs.Nodup := hp.nodup_iff.mpr nd
  refine up_rising ((hs.and nz).imp fun ⟨h1, h2⟩ => by omega) fun n hn => ?_
  obtain ⟨k, hk, rfl⟩ := mem_intN.mp (hp.mem_iff.mp hn)
  have := h.2 k hk
  omega
section
variable {P : Program} {w : World} {K : PySem.W.Frag} {mg : Str → Option Value} {base : Heap}
abbrev nCo : List Str := ["_law_m", "_law_size", "_law_found", "_law_k", "_law_core", "_law_j", "_law_one_more"]
theorem scCo : FnScope nCo ["_law_m", "_law_size"] (defScope sCo) := ⟨rfl, rfl, rfl, by decide +kernel, rfl, by decide +kernel, by decide +kernel⟩
theorem pick247 (g : Int) (h0 : 0 ≤ g) (h1 : g < 3) {H0 H : Hp} {vs : List V} (h : LitAll H0 H [.int 2, .int 4, .int 7] vs) : ∃ o : Nat, atI vs g = some (V.int (o : Int)) ∧ 2 ≤ o ∧ o ≤ 7 := by
  obtain rfl : vs = [V.int 2, V.int 4, V.int 7] := by
    cases h with | cons a h => cases h with | cons b h => cases h with | cons c h => cases a; cases b; cases c; cases h; rfl
  have : g = 0 ∨ g = 1 ∨ g = 2 := by omega
  rcases this with e | e | e <;> subst e
  · exact ⟨2, rfl, by decide, by decide⟩
  · exact ⟨4, rfl, by decide, by decide⟩
  · exact ⟨7, rfl, by decide, by decide⟩
theorem ok_cores (bi : Bi mg) (gi : mg "int" = none) (gmax : mg "max" = none) (gs : mg "sorted" = none) (D : Df K mg "_law_cores" sCo ["_law_m", "_law_size"]) (DX : Df K mg "_law_draw" sDraw ["_law_m", "_law_top"]) (DY : Df K mg "_law_mixed" sMixed ["_law_cell", "_law_k"]) :
    FnOk P w K mg base CX0 3 D.a D.f ["_law_m", "_law_size"] spCores := by
  have GX : FnOk P w K mg base CX0 2 DX.a DX.f ["_law_m", "_law_top"] spDraw := ok_draw DX.F bi DY.F DY.b DY.g
  refine D.F.ok scCo (fun vs H Q E h => ?_) (fun cdv A outer s H vs Q E hr h => ?_)
  · obtain ⟨m, lC, lL, n, z, rfl, _⟩ := h
    rfl
  · obtain ⟨m, lC, lL, n, z, rfl, M, hn, hz, q⟩ := h
    refine ⟨_, pss_cons (ps_set (i := 2) scCo.nd rfl (Or.inl rfl) (pe_lst pa_nil))
      (pss_cons (ps_for PassesOwn.never rfl (pi_range1 (by rfl) bi.range (pa_cons (pe_op op_add pe_int (pe_call GX hr (by rfl) DX.g DX.F.kp DX.b .nil pass0 (pa_cons (pv 0) (pa_cons pe_int pa_nil)))) pa_nil)) (pg_name (i := 3) scCo.nd rfl (Or.inl rfl))
        (pss_cons (ps_set (i := 4) scCo.nd rfl (Or.inl rfl) (pe_lst pa_nil))
        (pss_cons (ps_for PassesOwn.never rfl (pi_range1 (by rfl) bi.range (pa_cons (pe_op op_add (pe_call GX hr (by rfl) DX.g DX.F.kp DX.b .nil pass0 (pa_cons (pv 0) (pa_cons (pe_ix ix_list (pe_lit (.lst [.int 2, .int 4, .int 7]) (by decide +kernel)) (pe_call GX hr (by rfl) DX.g DX.F.kp DX.b .nil pass0 (pa_cons (pv 0) (pa_cons pe_int pa_nil))) (fun _ _ => rfl)) pa_nil)))
              (pe_callTy call_int1 (by rfl) gi (by decide +kernel) (pa_cons (pe_cmpR op_gt (pe_call GX hr (by rfl) DX.g DX.F.kp DX.b .nil pass0 (pa_cons (pv 0) (pa_cons pe_int pa_nil))) pe_int (nomark _)) pa_nil))) pa_nil)) (pg_name (i := 5) scCo.nd rfl (Or.inl rfl))
            (pss_cons (ps_set (i := 6) scCo.nd rfl (Or.inl rfl) (pe_call GX hr (by rfl) DX.g DX.F.kp DX.b .nil pass0 (pa_cons (pv 0) (pa_cons (pe_callB (call_max2 rfl) (by rfl) gmax (by decide +kernel) (pa_cons pe_int (pa_cons (pv 1) pa_nil))) pa_nil))))
            (pss_one (ps_if (PW.pt (pw_and (pt_cmpR op_gt (pv 1) pe_int (nomark _)) (pw_and1 (pt_cmpR op_notIn_seq (pv 6) (pv 4) (by rfl)))))
              (pss_one (ps_expr (pe_bm PySem.F.plainAttrs_list PySem.F.slot_list_append PySem.F.type_list_append mt_append (pv 4) (pa_cons (pv 6) pa_nil)))) pss_nil))))
        (pss_one (ps_expr (pe_bm PySem.F.plainAttrs_list PySem.F.slot_list_append PySem.F.type_list_append mt_append (pv 2) (pa_cons (pe_callTy call_tuple_of (by rfl) bi.tuple (by decide +kernel) (pa_cons (pe_callB cr_sortedAny (by rfl) gs (by decide +kernel) (pa_cons (pv 4) pa_nil)) pa_nil)) pa_nil)))))))
      (pss_one (ps_ret (pv 2)))), ?_⟩
    refine ⟨Nat.zero_le _, fun l0 hl0 => ?_⟩
    have s0 := Same.new (o := .lst []) hl0
    have nl0 := M.ne hl0
    refine ⟨_, rfl, m, lC, lL, n, 4, rfl, M.but s0, by omega, by decide, by decide, fun g H1 g0 g1 M1 b1 => ?_⟩
    have hl1 := b1 _ _ upd_same nl0.1 nl0.2
    have bA : But m lL H H1 := (But.of_same s0).trans b1
    refine ⟨_, _, rfl, rfl, _, rfl, by omega, by omega, ?_⟩
    refine for_range (lo := 0) (n := (1 + g).toNat) (fun i σ H2 => ∃ (n2 : Nat) (ts : List Addr) (cs : List (List Nat)) (v3 v4 v5 v6 : Option V), σ = [some (.ref m), some (.int (z : Int)), some (.ref l0), v3, v4, v5, v6] ∧ MAt H2 m lC lL n2 ∧ n2 ≤ n + 1 + 14 * i ∧ But m lL H H2 ∧ H2 l0 = some (.lst (ts.map V.ref)) ∧ Tups H2 ts cs ∧ cs.length = i ∧ ∀ c ∈ cs, Rising 0 z c)
      ⟨_, [], [], _, _, _, _, rfl, M1, by omega, bA, hl1, Tups.nil, rfl, fun c hc => by simp at hc⟩ ?_ ?_
    · rintro i σ H2 hi ⟨n2, ts, cs, v3, v4, v5, v6, rfl, M2, hn2, b2, hl2, T2, hc2, hr2⟩
      have hi4 : i < 4 := by omega
      refine ⟨Nat.zero_le _, fun l3 hl3 => ?_⟩
      have s3 := Same.new (o := .lst []) hl3
      have nl3 := M2.ne hl3
      have ne03 : l0 ≠ l3 := ne_of_none hl2 hl3
      have h30 : H l3 = none := by
        cases e : H l3 with
        | none => rfl
        | some u => rw [b2 _ _ e nl3.1 nl3.2] at hl3; cases hl3
      have nC3 : l3 ≠ lC := M2.neC hl3
      -- how many
      refine ⟨_, rfl, ?_⟩
      intro v H4 s4 a4
      cases a4 with
      | lst nn hlo al =>
      rename_i lo vs
      have nlo := (M2.but s3).ne nn
      refine ⟨_, rfl, m, lC, lL, n2, 3, rfl, (M2.but s3).but s4, by omega, by decide, by decide, fun g4 H5 g40 g41 M5 b5 => ?_⟩
      obtain ⟨o, ho, ho2, ho7⟩ := pick247 g4 g40 g41 al
      refine ⟨lo, _, _, _, rfl, rfl, SqL.of (b5 _ _ hlo nlo.1 nlo.2), ho, ?_⟩
      refine ⟨m, lC, lL, n2 + 1, (o : Int), rfl, M5, by omega, by omega, by omega, fun g6 H6 g60 g61 M6 b6 => ?_⟩
      refine ⟨_, rfl, m, lC, lL, n2 + 1 + 1, 9, rfl, M6, by omega, by decide, by decide, fun g7 H7 g70 g71 M7 b7 => ?_⟩
      refine ⟨_, _, rfl, rfl, .inr ⟨_, rfl, ?_⟩⟩
      have b7' : But m lL H H7 := b2.trans ((But.of_same s3).trans ((But.of_same s4).trans (b5.trans (b6.trans b7))))
      have up7 : ∀ a o, (upd H2 l3 (.lst [])) a = some o → a ≠ m → a ≠ lL → H7 a = some o := fun a o e n1 n2 => b7 _ _ (b6 _ _ (b5 _ _ (s4 _ _ e) n1 n2) n1 n2) n1 n2
      have hl37 : H7 l3 = some (.lst []) := up7 _ _ upd_same nl3.1 nl3.2
      have nl0m : l0 ≠ m ∧ l0 ≠ lL := nl0
      have hl07 : H7 l0 = some (.lst (ts.map V.ref)) := up7 _ _ (s3 _ _ hl2) nl0m.1 nl0m.2
      have T7 : Tups H7 ts cs := T2.sm fun a xs e => by
        have e3 := s3 _ _ e
        exact up7 _ _ e3 (M2.but s3 |> fun M => (But.ne M e3).1) (M2.but s3 |> fun M => (But.ne M e3).2)
      have he : ∃ e : Int, (if decide (0 < g7) = true then (1 : Int) else 0) = e ∧ 0 ≤ e ∧ e ≤ 1 := ⟨_, rfl, by split <;> omega, by split <;> omega⟩
      obtain ⟨e, ee, e0, e1⟩ := he
      refine ⟨_, _, rfl, rfl, ?_⟩
      rw [ee]
      refine ⟨_, rfl, by omega, by omega, ?_⟩
      refine for_range (lo := 0) (n := (g6 + e).toNat) (fun j σ H8 => ∃ (n8 : Nat) (ks : List Nat) (v5 v6 : Option V), σ = [some (.ref m), some (.int (z : Int)), some (.ref l0), some (.int (0 + (i : Int))), some (.ref l3), v5, v6] ∧ MAt H8 m lC lL n8 ∧ n8 ≤ n2 + 3 + j ∧ But m lL H H8 ∧ H8 l0 = some (.lst (ts.map V.ref)) ∧ Tups H8 ts cs ∧ H8 l3 = some (.lst (tupN ks)) ∧ NoTw z ks ∧ ks.length ≤ j)
        ⟨_, [], _, _, rfl, M7, by omega, b7', hl07, T7, hl37, ⟨List.nodup_nil, fun k hk => by simp at hk⟩, Nat.le_refl _⟩ ?_ ?_
      · rintro j σ H8 hj ⟨n8, ks, v5, v6, rfl, M8, hn8, b8, hl8, T8, hk8, hN, hkl⟩
        have hj8 : j < 8 := by omega
        have ht : ∃ t : Int, (if (z : Int) > 1 then (z : Int) else 1) = t ∧ 0 < t ∧ t ≤ 120 ∧ (0 < z → t = z) := by
          by_cases h1 : (z : Int) > 1
          · exact ⟨_, if_pos h1, by omega, by omega, fun _ => rfl⟩
          · exact ⟨_, if_neg h1, by omega, by omega, fun _ => by omega⟩
        obtain ⟨t, et, t0, t1, t2⟩ := ht
        refine ⟨_, rfl, _, rfl, _, _, rfl, m, lC, lL, n8, t, congrArg (fun q => [V.ref m, V.int q]) et, M8, by omega, t0, by omega, fun g9 H9 g90 g91 M9 b9 => ?_⟩
        have n38 := ne_of hk8 hl8
        obtain ⟨cells, left, hm8, hC8, hc8, hb8, hL8, hle8, nCL⟩ := M8.ex
        have nl38 : l3 ≠ m ∧ l3 ≠ lL := nl3
        have hk9 : H9 l3 = some (.lst (tupN ks)) := b9 _ _ hk8 nl3.1 nl3.2
        have hl9 : H9 l0 = some (.lst (ts.map V.ref)) := b9 _ _ hl8 nl0.1 nl0.2
        have T9 : Tups H9 ts cs := T8.sm (But.tups M8 b9)
        refine ⟨_, rfl, _, _, rfl, rfl, _, rfl, ?_⟩
        by_cases hz0 : (0 : Int) < (z : Int)
        · rw [decide_eq_true hz0]
          obtain ⟨k, rfl⟩ : ∃ k : Nat, g9 = (k : Int) := ⟨g9.toNat, by omega⟩
          have hkz : k < z := by have := t2 (by omega); omega
          refine ⟨_, rfl, _, rfl, l3, tupN ks, rfl, .inl (SqL.of hk9), rfl, flat_tupN ks, _, rfl, ?_⟩
          rw [if_pos rfl, inV_tupN]
          by_cases hm : k ∈ ks
          · rw [decide_eq_true hm]
            exact ⟨n8 + 1, ks, _, _, rfl, M9, by omega, b8.trans b9, hl9, T9, hk9, hN, by omega⟩
          · rw [decide_eq_false hm]
            refine ⟨_, rfl, .inl ⟨rfl, _, SqL.of hk9⟩, _, rfl, l3, _, _, rfl, rfl, hk9, small1000 (by rw [tupN_len]; omega), ?_⟩
            have eq : tupN ks ++ [V.int (k : Int)] = tupN (ks ++ [k]) := by unfold tupN; rw [List.map_append]; rfl
            rw [eq]
            have nl30 : l0 ≠ l3 := ne03
            have sb : But m lL H (upd H9 l3 (.lst (tupN (ks ++ [k])))) := fun b u eb n1 n2 => by
              have e9 := (b8.trans b9) _ _ eb n1 n2
              rw [upd_ne (fun zz => by rw [zz, h30] at eb; cases eb)]; exact e9
            refine ⟨n8 + 1, ks ++ [k], _, _, rfl, M9.upd nl3 nC3, by omega, sb, by rw [upd_ne nl30]; exact hl9, T9.sm fun a xs ea => by rw [upd_ne (ne_of ea hk9 (by intro zz; cases zz))]; exact ea, upd_same, ⟨?_, ?_⟩, by rw [List.length_append]; simp; omega⟩
            · exact List.nodup_append.mpr ⟨hN.1, by simp, fun a ha b hb => by rw [List.mem_singleton.mp hb]; exact fun e => hm (e ▸ ha)⟩
            · intro a ha
              rcases List.mem_append.mp ha with y | y
              · exact hN.2 a y
              · rw [List.mem_singleton.mp y]; exact hkz
        · rw [decide_eq_false hz0]
          exact ⟨n8 + 1, ks, _, _, rfl, M9, by omega, b8.trans b9, hl9, T9, hk9, hN, by omega⟩
      · rintro σ H8 ⟨n8, ks, v5, v6, rfl, M8, hn8, b8, hl8, T8, hk8, hN, hkl⟩
        have h1 := hN
        refine ⟨_, rfl, .inl ⟨rfl, _, SqL.of hl8⟩, _, rfl, l3, intN ks, rfl, by rw [← tupN_int]; exact SqL.of hk8, fun zs p hp hs hpn => ?_⟩
        have sp := Same.new (o := .lst (zs.map V.int)) hpn
        refine ⟨p, _, rfl, .inl ⟨SqL.of upd_same, fun t ht => ?_⟩⟩
        have st := Same.new (o := .tup (zs.map V.int)) ht
        obtain ⟨us, rfl, hU⟩ := sorted_rising hN hp hs
        have M9 := (M8.but sp).but st
        have hl9 := st _ _ (sp _ _ hl8)
        have hlc : l0 ≠ lC := by
          have := (M.neC hl0)
          exact this
        refine ⟨l0, _, _, rfl, rfl, hl9, small1000 (by rw [List.length_map, T8.1]; omega), ?_⟩
        have et : ts.map V.ref ++ [V.ref t] = (ts ++ [t]).map V.ref := by rw [List.map_append]; rfl
        rw [et]
        have nl0t : ∀ a xs, (upd (upd H8 p (.lst ((intN us).map V.int))) t (.tup ((intN us).map V.int))) a = some (.tup xs) → a ≠ l0 := fun a xs e => ne_of e hl9 (by intro zz; cases zz)
        have ht1 : (upd (upd H8 p (.lst ((intN us).map V.int))) t (.tup ((intN us).map V.int))) t = some (.tup (tupN us)) := by rw [upd_same, tupN_int]
        refine ⟨n8, ts ++ [t], cs ++ [us], _, _, _, _, rfl, M9.upd nl0 hlc, by omega, fun b u eb n1 n2 => ?_, upd_same, ?_, by rw [List.length_append]; simp [hc2], fun c hc => ?_⟩
        · rw [upd_ne (fun zz => by rw [zz, hl0] at eb; cases eb)]
          exact st _ _ (sp _ _ (b8 _ _ eb n1 n2))
        · refine (Tups.snoc ((T8.sm fun a xs e => st _ _ (sp _ _ e))) ht1).sm fun a xs e => ?_
          rw [upd_ne (nl0t a xs e)]; exact e
        · rcases List.mem_append.mp hc with y | y
          · exact hr2 c y
          · rw [List.mem_singleton.mp y]; exact hU
    · rintro σ H2 ⟨n2, ts, cs, v3, v4, v5, v6, rfl, M2, hn2, b2, hl2, T2, hc2, hr2⟩
      exact ⟨_, rfl, q l0 ts cs n2 H2 hl0 hl2 T2 hr2 (by omega) (fun z => by rw [z] at hc2; simp at hc2; omega) (by omega) M2 b2⟩
end
end My
set_option Elab.async false
set_option linter.all false
set_option maxRecDepth 100000
set_option maxHeartbeats 4000000
namespace My
open PySem L2
abbrev sTe : Stmt := top 37
abbrev sNo : Stmt := top 38
abbrev sOd : Stmt := top 39
def tells (cs : List (List Nat)) (ks : List Nat) : Str := if cs.any (fun c => (diffN c ks).isEmpty) = true then "fail" else "pass"
def tupsD (cs : List (List Nat)) : List PyData := cs.map fun c => .tuple ((intN c).map PyData.int)
theorem Tups.dp {K : PySem.W.Frag} {H : Hp} : ∀ {ts : List Addr} {cs : List (List Nat)}, Tups H ts cs → DpAll K H (ts.map V.ref) (tupsD cs)
  | [], [], _ => .nil
  | [], _ :: _, h => by simp [Tups] at h
  | _ :: _, [], h => by simp [Tups] at h
  | t :: ts, c :: cs, h => .cons (.tup (SqT.of (by rw [← tupN_int]; exact h.2 0 t c rfl rfl)) (dpInts _)) (Tups.dp (ts := ts) (cs := cs) ⟨by have := h.1; simpa using this, fun i t c e1 e2 => h.2 (i + 1) t c e1 e2⟩)
theorem tupsD_shw {cs : List (List Nat)} (h : ∀ c ∈ cs, Rising 0 120 c) (hl : cs.length ≤ 900) : Shw (.list (tupsD cs)) 2 3000000 := by
  have := shwAll_of (ds := tupsD cs) (dp := 1) (wt := 2640) fun d hd => by
    obtain ⟨c, hc, rfl⟩ := List.mem_map.mp hd
    exact shwT (by decide) (h c hc)
  have e : (tupsD cs).length = cs.length := by unfold tupsD; rw [List.length_map]
  rw [e] at this
  exact this.list.mono (Nat.le_refl _) (by omega)
def spTells (K : PySem.W.Frag) : Sp := fun vs H Q _ => ∃ (l t : Addr) (ts : List Addr) (cs : List (List Nat)) (ks : List Nat), vs = [.ref l, .ref t] ∧ H l = some (.lst (ts.map V.ref)) ∧ Tups H ts cs ∧ (∀ c ∈ cs, Rising 0 120 c) ∧ cs.length ≤ 150 ∧ H t = some (.tup (tupN ks)) ∧ Rising 0 120 ks ∧ ∀ H', Same H H' → Q (.str (tells cs ks)) H'
def numOf : List Nat → Nat
  | [] => 0
  | k :: r => 2 ^ k + numOf r
def spNo : Sp := fun vs H Q _ => ∃ (t : Addr) (ks : List Nat), vs = [.ref t] ∧ H t = some (.tup (tupN ks)) ∧ Rising 0 120 ks ∧ Q (.int ((numOf ks : Nat) : Int)) H
def mixedI (c k : Int) : Int := (c * (1 + 2 * k) * 48271 % 2147483647 + 7919 * k * k + 104729 * k) * 69621 % 2147483629 / 7
def spMixE : Sp := fun vs H Q _ => ∃ (c k : Int), vs = [.int c, .int k] ∧ -(2 ^ 62) < c ∧ c < 2 ^ 62 ∧ 0 ≤ k ∧ k < 2 ^ 40 ∧ Q (.int (mixedI c k)) H
def oddI (seed : Int) (ks : List Nat) : Int := mixedI (((numOf ks : Nat) : Int) % 2147483647 + 12347 * (ks.length : Int) + seed) (5 + (ks.length : Int)) % 4
def oddF (seed : Int) (ks : List Nat) : Str := if oddI seed ks = 1 then "pass" else if oddI seed ks = 2 then "unresolved" else "fail"
def spOd : Sp := fun vs H Q _ => ∃ (seed : Int) (t : Addr) (ks : List Nat), vs = [.int seed, .ref t] ∧ 0 ≤ seed ∧ seed < 2 ^ 32 ∧ H t = some (.tup (tupN ks)) ∧ Rising 0 120 ks ∧ ∀ H', Same H H' → Q (.str (oddF seed ks)) H'
section
variable {P : Program} {w : World} {K : PySem.W.Frag} {mg : Str → Option Value} {base : Heap}
theorem scTe : FnScope ["_law_cores_here", "_law_some_here", "_law_core"] ["_law_cores_here", "_law_some_here"] (defScope sTe) := ⟨rfl, rfl, rfl, by decide +kernel, rfl, by decide +kernel, by decide +kernel⟩
theorem ok_tells (D : Df K mg "_law_tells" sTe ["_law_cores_here", "_law_some_here"]) (DI : Df K mg "_law_inside" sIs ["_law_some_here", "_law_beside"]) : FnOk P w K mg base CX0 2 D.a D.f ["_law_cores_here", "_law_some_here"] (spTells K) := by
  have GI : FnOk P w K mg base CX0 1 DI.a DI.f ["_law_some_here", "_law_beside"] (spIs K) := ok_is DI
  refine D.F.ok scTe (fun vs H Q E h => ?_) (fun cdv A outer s H vs Q E hr h => ?_)
  · obtain ⟨l, t, ts, cs, ks, rfl, _⟩ := h
    rfl
  · obtain ⟨l, t, ts, cs, ks, rfl, hl, hT, hR, hn, ht, hk, q⟩ := h
    have hu : (A.deeper (PyProof.Rows.envOfC "_law_tells" (defScope sTe) s.heap.objs.size D.a cdv)).units + 64 < cLine := hr.units
    refine ⟨_, pss_one (ps_ret (pe_ifExp (pt_cmpR (op_neD hu) (pe_lc (te := tVar 2) (own := [("_law_core", 2)]) (g := gName 2) (by rfl) scTe.nd (pi_list (pv 0)) (blkOk_by (own := [("_law_core", 2)]) (N := ["_law_cores_here", "_law_some_here", "_law_core"]) (sc := defScope sTe) (by decide +kernel)) (fun _ _ _ _ _ => pg_name (i := 2) scTe.nd rfl (Or.inl rfl))
        (fun _ _ _ _ _ => pts_one (pt_val (pe_call GI hr (by rfl) DI.g DI.F.kp DI.b .nil pass0 (pa_cons (pv 2) (pa_cons (pv 1) pa_nil))))) (fun _ _ _ _ _ => pv 2)) (pe_lst pa_nil) (nomark _)) pe_str pe_str)), ?_⟩
    refine ⟨_, rfl, l, rfl, ⟨_, SqL.of hl⟩, fun Dl hD => lc_list (K := K) (a := l) (xs := ts.map V.ref) (fun i H1 => ∃ us : List Addr, H1 Dl = some (.lst (us.map V.ref)) ∧ Tups H1 us ((cs.take i).filter fun c => (diffN c ks).isEmpty) ∧ ∀ b u, H b = some u → H1 b = some u)
      ⟨[], upd_same, by rw [List.take_zero]; exact Tups.nil, fun b u e => Same.new hD _ _ e⟩ (fun i H1 _ ⟨us, _, _, h⟩ => SqL.of (h _ _ hl)) ?_ ?_⟩
    · rintro i v H1 hi ⟨us, hD1, hU, s1⟩
      obtain ⟨u, c, rfl, hu1, hc1, hu2⟩ := hT.get hi
      have hci : cs.take (i + 1) = cs.take i ++ [c] := by
        obtain ⟨h1, h2⟩ := List.getElem?_eq_some_iff.mp hc1
        rw [List.take_succ_eq_append_getElem h1, h2]
      refine ⟨rfl, ?_⟩
      refine ⟨_, rfl, _, rfl, u, t, c, ks, rfl, s1 _ _ hu2, s1 _ _ ht, hR c (List.mem_of_getElem? hc1), hk, fun H2 s2 => ⟨_, rfl, ?_⟩⟩
      rw [hci, List.filter_append]
      cases hb : (diffN c ks).isEmpty with
      | true =>
        have ef : [c].filter (fun c => (diffN c ks).isEmpty) = [c] := by rw [List.filter_cons, if_pos hb]; rfl
        rw [ef]
        have hl2 : us.length ≤ 1000 := by
          have h1 := hU.1
          have h2 := List.length_filter_le (fun c => (diffN c ks).isEmpty) (cs.take i)
          have h3 : (cs.take i).length ≤ cs.length := by rw [List.length_take]; exact Nat.min_le_right _ _
          omega
        have hD2 := s2 _ _ hD1
        refine ⟨_, rfl, _, hD2, small1000 (by rw [List.length_map]; exact hl2), us ++ [u], by rw [upd_same]; simp, ?_, fun b o e => by rw [upd_ne (ne_of_none e hD)]; exact s2 _ _ (s1 _ _ e)⟩
        exact ((hU.sm fun a xs e => s2 _ _ e).snoc (s2 _ _ (s1 _ _ hu2))).sm fun a xs e => by rw [upd_ne (ne_of e hD2 (by intro z; cases z))]; exact e
      | false =>
        have ef : [c].filter (fun c => (diffN c ks).isEmpty) = [] := by rw [List.filter_cons, if_neg (by rw [hb]; decide)]; rfl
        rw [ef, List.append_nil]
        exact ⟨us, s2 _ _ hD1, hU.sm fun a xs e => s2 _ _ e, fun b o e => s2 _ _ (s1 _ _ e)⟩
    · rintro H1 ⟨us, hD1, hU, s1⟩
      rw [List.length_map, hT.1, List.take_length] at hU
      refine ⟨by show 0 ≤ sizeLine; decide, fun p2 hp2 => ?_⟩
      have s2 := Same.new (o := .lst []) hp2
      have hfl : (cs.filter fun c => (diffN c ks).isEmpty).length ≤ 900 := Nat.le_trans (List.length_filter_le _ _) (by omega)
      have sw := tupsD_shw (cs := cs.filter fun c => (diffN c ks).isEmpty) (fun c hc => hR c (List.mem_filter.mp hc).1) hfl
      refine ⟨.list (tupsD (cs.filter fun c => (diffN c ks).isEmpty)), .list [], .lst (SqL.of (s2 _ _ hD1)) (hU.sm fun a xs e => s2 _ _ e).dp, .lst (SqL.of upd_same) .nil, sw.shaped (by decide), by decide +kernel, ?_⟩
      have fin := q _ (fun b u e => s2 _ _ (s1 b u e))
      unfold tells at fin
      cases hd : cs.filter fun c => (diffN c ks).isEmpty with
      | nil =>
        have ha : cs.any (fun c => (diffN c ks).isEmpty) = false := by
          rw [List.any_eq_false]
          intro c hc hz
          have : c ∈ cs.filter fun c => (diffN c ks).isEmpty := List.mem_filter.mpr ⟨hc, hz⟩
          rw [hd] at this; cases this
        rw [ha] at fin
        exact ⟨_, rfl, fin⟩
      | cons c r =>
        have ha : cs.any (fun c => (diffN c ks).isEmpty) = true := by
          rw [List.any_eq_true]
          have hm : c ∈ cs.filter fun c => (diffN c ks).isEmpty := by rw [hd]; exact List.mem_cons_self
          exact ⟨c, (List.mem_filter.mp hm).1, (List.mem_filter.mp hm).2⟩
        rw [ha] at fin
        rw [eqv_nilL (by simp [tupsD])]
        exact ⟨_, rfl, fin⟩
theorem scNo : FnScope ["_law_some_here", "_law_found", "_law_k"] ["_law_some_here"] (defScope sNo) := ⟨rfl, rfl, rfl, by decide +kernel, rfl, by decide +kernel, by decide +kernel⟩
theorem numOf_snoc (ks : List Nat) (k : Nat) : numOf (ks ++ [k]) = numOf ks + 2 ^ k := by
  induction ks with
  | nil => show 2 ^ k + 0 = 0 + 2 ^ k; omega
  | cons a r ih => show 2 ^ a + numOf (r ++ [k]) = 2 ^ a + numOf r + 2 ^ k; rw [ih]; omega
theorem ok_no (D : Df K mg "_law_number_of" sNo ["_law_some_here"]) : FnOk P w K mg base CX0 1 D.a D.f ["_law_some_here"] spNo := by
  refine D.F.ok scNo (fun vs H Q E h => ?_) (fun cdv A outer s H vs Q E hr h => ?_)
  · obtain ⟨t, ks, rfl, _⟩ := h
    rfl
  · obtain ⟨t, ks, rfl, ht, hk, q⟩ := h
    refine ⟨_, pss_cons (ps_set (i := 1) scNo.nd rfl (Or.inl rfl) pe_int)
      (pss_cons (ps_for PassesOwn.never rfl (pi_tup (pv 0)) (pg_name (i := 2) scNo.nd rfl (Or.inl rfl)) (pss_one (ps_set (i := 1) scNo.nd rfl (Or.inl rfl) (pe_op op_add (pv 1) (pe_op op_shl pe_int (pv 2))))))
      (pss_one (ps_ret (pv 1)))), ?_⟩
    refine ⟨_, rfl, t, rfl, ⟨_, SqT.of ht⟩, for_tup (K := K) (a := t) (xs := tupN ks) (fun i σ H2 => H2 = H ∧ ∃ v, σ = [some (.ref t), some (.int ((numOf (ks.take i) : Nat) : Int)), v])
      ⟨rfl, _, rfl⟩ (fun i σ H2 _ h => by obtain ⟨rfl, _⟩ := h; exact SqT.of ht) ?_ ?_⟩
    · rintro i y σ H2 hi ⟨rfl, v, rfl⟩
      obtain ⟨k, hki, rfl⟩ := tupN_get hi
      have hkb := hk.lt k (List.mem_of_getElem? hki)
      refine ⟨_, rfl, _, rfl, _, _, rfl, rfl, ⟨by omega, by omega, by decide⟩, _, _, rfl, rfl, rfl, some (.int (k : Int)), ?_⟩
      rw [take_snoc hki, numOf_snoc]
      have e : ((numOf (ks.take i) : Nat) : Int) + 1 * 2 ^ ((k : Nat) : Int).toNat = ((numOf (ks.take i) + 2 ^ k : Nat) : Int) := by
        rw [Int.toNat_natCast]; push_cast; omega
      rw [← e]
      rfl
    · rintro σ H2 ⟨rfl, v, rfl⟩
      rw [tupN_len, List.take_length]
      exact ⟨_, rfl, q⟩
theorem ok_mixE (D : Df K mg "_law_mixed" sMixed ["_law_cell", "_law_k"]) : FnOk P w K mg base CX0 1 D.a D.f ["_law_cell", "_law_k"] spMixE := by
  refine D.F.ok scMixed (fun vs H Q E h => ?_) (fun cdv A outer s H vs Q E hr h => ?_)
  · obtain ⟨c, k, rfl, _⟩ := h
    rfl
  · obtain ⟨c, k, rfl, h1, h2, h3, h4, q⟩ := h
    refine ⟨_, pss_cons (ps_set (i := 2) scMixed.nd rfl (Or.inl rfl)
        (pe_op op_add (pe_op op_add (pe_op op_mod (pe_op op_mul (pe_op op_mul (pv 0) (pe_op op_add pe_int (pe_op op_mul pe_int (pv 1)))) pe_int) pe_int)
          (pe_op op_mul (pe_op op_mul pe_int (pv 1)) (pv 1))) (pe_op op_mul pe_int (pv 1))))
      (pss_one (ps_ret (pe_op op_fdiv (pe_op op_mod (pe_op op_mul (pv 2) pe_int) pe_int) pe_int))), ?_⟩
    refine ⟨_, rfl, _, rfl, _, _, rfl, rfl, .inl ⟨by decide, by decide⟩, _, _, rfl, rfl, _, _, rfl, rfl, .inl ⟨by omega, by omega⟩, _, _, rfl, rfl, .inr ⟨by decide, by decide⟩, _, _, rfl, rfl, (by show (0 : Int) < 2147483647; decide), ?_⟩
    refine ⟨_, rfl, _, _, rfl, rfl, .inl ⟨by decide, by decide⟩, _, rfl, _, _, rfl, rfl, .inr ⟨by omega, by omega⟩, _, _, rfl, rfl, _, rfl, _, _, rfl, rfl, .inl ⟨by decide, by decide⟩, _, _, rfl, rfl, ?_⟩
    refine ⟨_, rfl, _, _, rfl, rfl, .inr ⟨by decide, by decide⟩, _, _, rfl, rfl, (by show (0 : Int) < 2147483629; decide), _, _, rfl, rfl, ⟨by decide, by decide⟩, ?_⟩
    exact q
theorem scOd : FnScope ["_law_seed", "_law_some_here", "_law_turned"] ["_law_seed", "_law_some_here"] (defScope sOd) := ⟨rfl, rfl, rfl, by decide +kernel, rfl, by decide +kernel, by decide +kernel⟩
theorem ok_odd (bi : Bi mg) (D : Df K mg "_law_odd" sOd ["_law_seed", "_law_some_here"]) (DN : Df K mg "_law_number_of" sNo ["_law_some_here"]) (DY : Df K mg "_law_mixed" sMixed ["_law_cell", "_law_k"]) : FnOk P w K mg base CX0 2 D.a D.f ["_law_seed", "_law_some_here"] spOd := by
  have GN : FnOk P w K mg base CX0 1 DN.a DN.f ["_law_some_here"] spNo := ok_no DN
  have GY : FnOk P w K mg base CX0 1 DY.a DY.f ["_law_cell", "_law_k"] spMixE := ok_mixE DY
  refine D.F.ok scOd (fun vs H Q E h => ?_) (fun cdv A outer s H vs Q E hr h => ?_)
  · obtain ⟨seed, t, ks, rfl, _⟩ := h
    rfl
  · obtain ⟨seed, t, ks, rfl, h0, h1, ht, hk, q⟩ := h
    refine ⟨_, pss_cons (ps_set (i := 2) scOd.nd rfl (Or.inl rfl) (pe_call GY hr (by rfl) DY.g DY.F.kp DY.b .nil pass0 (pa_cons (pe_op op_add (pe_op op_add (pe_op op_mod (pe_call GN hr (by rfl) DN.g DN.F.kp DN.b .nil pass0 (pa_cons (pv 1) pa_nil)) pe_int) (pe_op op_mul pe_int (pe_callB call_len_seq (by rfl) bi.len PySem.boot_len (pa_cons (pv 1) pa_nil)))) (pv 0))
        (pa_cons (pe_op op_add pe_int (pe_callB call_len_seq (by rfl) bi.len PySem.boot_len (pa_cons (pv 1) pa_nil))) pa_nil))))
      (pss_one (ps_ret (pe_ix ix_list (pe_lit (.lst [.str "fail", .str "pass", .str "unresolved", .str "fail"]) (by decide +kernel)) (pe_op op_mod (pv 2) pe_int) (fun _ _ => rfl)))), ?_⟩
    have hl := hk.len (Nat.zero_le _)
    refine ⟨_, rfl, t, ks, rfl, ht, hk, _, _, rfl, rfl, (by show (0 : Int) < 2147483647; decide), _, rfl, t, _, rfl, .inr (SqT.of ht), _, _, rfl, rfl, .inl ⟨by decide, by decide⟩, _, _, rfl, rfl, _, rfl, _, _, rfl, rfl, _, rfl, t, _, rfl, .inr (SqT.of ht), _, _, rfl, rfl, ?_⟩
    rw [tupN_len]
    refine ⟨_, _, rfl, ?_, ?_, by omega, by omega, ?_⟩
    · generalize (numOf ks : Int) = z; omega
    · generalize (numOf ks : Int) = z; omega
    intro v H2 s2 a2
    cases a2 with
    | lst n0 hb al =>
    rename_i lo vs
    obtain rfl : vs = [V.str "fail", .str "pass", .str "unresolved", .str "fail"] := by
      cases al with | cons a al => cases al with | cons b al => cases al with | cons c al => cases al with | cons d al => cases a; cases b; cases c; cases d; cases al; rfl
    refine ⟨_, rfl, _, _, rfl, rfl, (by show (0 : Int) < 4; decide), ?_⟩
    have fin := q H2 s2
    unfold oddF oddI at fin
    generalize mixedI _ _ = z at fin ⊢
    have hz : z % 4 = 0 ∨ z % 4 = 1 ∨ z % 4 = 2 ∨ z % 4 = 3 := by omega
    dsimp only
    rcases hz with e | e | e | e <;> rw [e] at fin ⊢ <;> exact ⟨lo, _, _, _, rfl, rfl, SqL.of hb, rfl, fin⟩
end
end My
set_option Elab.async false
set_option linter.all false
set_option maxRecDepth 100000
set_option maxHeartbeats 4000000
namespace My
open PySem L2
abbrev sWc : Stmt := top 42
theorem rising_iff {hi : Nat} : ∀ {lo : Nat} {ks : List Nat}, Rising lo hi ks ↔ ks.Pairwise (· < ·) ∧ ∀ k ∈ ks, lo ≤ k ∧ k < hi
  | lo, [] => ⟨fun _ => ⟨.nil, fun k h => by simp at h⟩, fun _ => trivial⟩
  | lo, j :: r => by
    constructor
    · rintro ⟨a, b, c⟩
      obtain ⟨p, q⟩ := rising_iff.mp c
      refine ⟨.cons (fun k hk => (q k hk).1) p, fun k hk => ?_⟩
      rcases List.mem_cons.mp hk with e | e
      · rw [e]; exact ⟨a, b⟩
      · have := q k e; omega
    · rintro ⟨p, q⟩
      obtain ⟨p1, p2⟩ := List.pairwise_cons.mp p
      have := q j (List.mem_cons_self ..)
      exact ⟨this.1, this.2, rising_iff.mpr ⟨p2, fun k hk => ⟨p1 k hk, (q k (List.mem_cons_of_mem _ hk)).2⟩⟩⟩
def pickN (ks js : List Nat) : List Nat := js.map fun j => ks.getD j 0
theorem getD_lt {ks : List Nat} {j : Nat} (h : j < ks.length) : ks.getD j 0 = ks[j] := by
  rw [List.getD_eq_getElem?_getD, List.getElem?_eq_getElem h]; rfl
theorem rising_pick {lo hi : Nat} {ks js : List Nat} (h : Rising lo hi ks) (h2 : Rising 0 ks.length js) : Rising lo hi (pickN ks js) := by
  obtain ⟨p, q⟩ := rising_iff.mp h
  obtain ⟨p2, q2⟩ := rising_iff.mp h2
  refine rising_iff.mpr ⟨?_, fun k hk => ?_⟩
  · unfold pickN
    rw [List.pairwise_map]
    refine p2.imp_of_mem fun {a b} ha hb hab => ?_
    have la := (q2 a ha).2
    have lb := (q2 b hb).2
    rw [getD_lt la, getD_lt lb]
    exact List.pairwise_iff_getElem.mp p a b la lb hab
  · obtain ⟨j, hj, rfl⟩ := List.mem_map.mp hk
    have lj := (q2 j hj).2
    rw [getD_lt lj]
    exact q _ (List.getElem_mem lj)
theorem atI_nat2 {α : Type} {xs : List α} {j : Nat} {v : α} (h : xs[j]? = some v) : atI xs ((j : Nat) : Int) = some v := by
  have hj : j < xs.length := (List.getElem?_eq_some_iff.mp h).1
  unfold atI ixN
  rw [if_pos (by omega), if_pos (by omega)]
  show xs[((j : Nat) : Int).toNat]? = some v
  rw [Int.toNat_natCast]; exact h
theorem tupN_at {ks : List Nat} {j : Nat} (h : j < ks.length) : atI (tupN ks) ((j : Nat) : Int) = some (V.int ((ks.getD j 0 : Nat) : Int)) := by
  refine atI_nat2 ?_
  unfold tupN
  rw [List.getElem?_map, List.getElem?_eq_getElem h, getD_lt h]; rfl
theorem pickN_sub {ks js : List Nat} (h : Rising 0 ks.length js) : diffN (pickN ks js) ks = [] := by
  unfold diffN
  rw [List.filter_eq_nil_iff]
  intro k hk
  obtain ⟨j, hj, rfl⟩ := List.mem_map.mp hk
  have lj := h.lt j hj
  rw [getD_lt lj, decide_eq_true (List.getElem_mem lj)]
  decide
theorem map_take_snoc {α β : Type} {f : α → β} {cs : List α} {i : Nat} {c : α} (h : cs[i]? = some c) : (cs.take (i + 1)).map f = (cs.take i).map f ++ [f c] := by
  obtain ⟨h1, h2⟩ := List.getElem?_eq_some_iff.mp h
  rw [List.take_succ_eq_append_getElem h1, h2, List.map_append]; rfl
def spWc : Sp := fun vs H Q _ => ∃ (m lC lL tS : Addr) (n : Nat) (ks : List Nat), vs = [.ref m, .ref tS] ∧ MAt H m lC lL n ∧ n < 2 ^ 31 ∧ H tS = some (.tup (tupN ks)) ∧ Rising 0 120 ks ∧
  ∀ (l : Addr) (ts : List Addr) (cs : List (List Nat)) (n' : Nat) (H' : Hp), H l = none → H' l = some (.lst (ts.map V.ref)) → Tups H' ts cs → (∀ c ∈ cs, Rising 0 120 c ∧ diffN c ks = []) → cs.length ≤ 4 → cs ≠ [] → n' ≤ n + 60 → MAt H' m lC lL n' → But m lL H H' → Q (.ref l) H'
section
variable {P : Program} {w : World} {K : PySem.W.Frag} {mg : Str → Option Value} {base : Heap}
abbrev nWc : List Str := ["_law_m", "_law_start_here", "_law_found", "_law_core", "_law_k"]
theorem scWc : FnScope nWc ["_law_m", "_law_start_here"] (defScope sWc) := ⟨rfl, rfl, rfl, by decide +kernel, rfl, by decide +kernel, by decide +kernel⟩
theorem ok_wc (bi : Bi mg) (gi : mg "int" = none) (gmax : mg "max" = none) (gs : mg "sorted" = none) (D : Df K mg "_law_within_cores" sWc ["_law_m", "_law_start_here"]) (DC : Df K mg "_law_cores" sCo ["_law_m", "_law_size"]) (DX : Df K mg "_law_draw" sDraw ["_law_m", "_law_top"]) (DY : Df K mg "_law_mixed" sMixed ["_law_cell", "_law_k"]) :
    FnOk P w K mg base CX0 4 D.a D.f ["_law_m", "_law_start_here"] spWc := by
  have GC : FnOk P w K mg base CX0 3 DC.a DC.f ["_law_m", "_law_size"] spCores := ok_cores bi gi gmax gs DC DX DY
  refine D.F.ok scWc (fun vs H Q E h => ?_) (fun cdv A outer s H vs Q E hr h => ?_)
  · obtain ⟨m, lC, lL, tS, n, ks, rfl, _⟩ := h
    rfl
  · obtain ⟨m, lC, lL, tS, n, ks, rfl, M, hn, hS, hk, q⟩ := h
    refine ⟨_, pss_cons (ps_set (i := 2) scWc.nd rfl (Or.inl rfl) (pe_lst pa_nil))
      (pss_cons (ps_for PassesOwn.never rfl (pi_list (pe_call GC hr (by rfl) DC.g DC.F.kp DC.b .nil pass0 (pa_cons (pv 0) (pa_cons (pe_callB call_len_seq (by rfl) bi.len PySem.boot_len (pa_cons (pv 1) pa_nil)) pa_nil)))) (pg_name (i := 3) scWc.nd rfl (Or.inl rfl))
        (pss_one (ps_expr (pe_bm PySem.F.plainAttrs_list PySem.F.slot_list_append PySem.F.type_list_append mt_append (pv 2) (pa_cons (pe_callTy call_tuple_of (by rfl) bi.tuple (by decide +kernel) (pa_cons (pe_lc (own := [("_law_k", 4)]) (g := gName 4) (te := tOp (rIxT K) (tVar 1) (tVar 4)) (by rfl) scWc.nd (pi_tup (pv 3)) (blkOk_by (own := [("_law_k", 4)]) (N := nWc) (sc := defScope sWc) (by decide +kernel))
          (fun _ _ _ _ _ => pg_name (i := 4) scWc.nd rfl (Or.inl rfl)) (fun _ _ _ _ _ => pts_nil) (fun _ _ _ _ _ => pe_ix ix_tup (pv 1) (pv 4) (fun _ _ => rfl))) pa_nil)) pa_nil)))))
      (pss_one (ps_ret (pv 2)))), ?_⟩
    refine ⟨Nat.zero_le _, fun l0 hl0 => ?_⟩
    have s0 := Same.new (o := .lst []) hl0
    have nl0 := M.ne hl0
    have nC0 := M.neC hl0
    have hlk := hk.len (Nat.zero_le _)
    refine ⟨_, rfl, _, rfl, tS, _, rfl, .inr (SqT.of (s0 _ _ hS)), m, lC, lL, n, ks.length, (by rw [tupN_len]; rfl), M.but s0, by omega, by omega, fun l ts cs n1 H1 hl hl1 hT1 hR1 hc1 hc0 hn1 M1 b1 => ?_⟩
    have nll : l0 ≠ l := fun z => by rw [← z, upd_same] at hl; cases hl
    have hl01 := b1 _ _ upd_same nl0.1 nl0.2
    have bA : But m lL H H1 := (But.of_same s0).trans b1
    have hS1 := b1.tups (M.but s0) _ _ (s0 _ _ hS)
    refine ⟨l, rfl, ⟨_, SqL.of hl1⟩, for_list (K := K) (a := l) (xs := ts.map V.ref) (fun i σ H2 => ∃ (us : List Addr) (v3 v4 : Option V), σ = [some (.ref m), some (.ref tS), some (.ref l0), v3, v4] ∧ MAt H2 m lC lL n1 ∧ But m lL H H2 ∧ H2 l0 = some (.lst (us.map V.ref)) ∧ Tups H2 us ((cs.take i).map (pickN ks)) ∧ H2 l = some (.lst (ts.map V.ref)) ∧ Tups H2 ts cs ∧ H2 tS = some (.tup (tupN ks)))
      ⟨[], _, _, rfl, M1, bA, hl01, by rw [List.take_zero]; exact Tups.nil, hl1, hT1, hS1⟩ (fun i σ H2 _ h => by obtain ⟨_, _, _, _, _, _, _, _, h, _⟩ := h; exact SqL.of h) ?_ ?_⟩
    · rintro i y σ H2 hi ⟨us, v3, v4, rfl, M2, b2, hl02, hU, hl2, hT2, hS2⟩
      obtain ⟨t, c, rfl, ht1, hci, ht⟩ := hT2.get hi
      have hcR := hR1 c (List.mem_of_getElem? hci)
      have hcl := hcR.len (Nat.zero_le _)
      refine ⟨_, rfl, .inl ⟨rfl, _, SqL.of hl02⟩, ?_⟩
      refine ⟨_, rfl, t, rfl, ⟨_, SqT.of ht⟩, fun Dl hD => lc_tup (K := K) (a := t) (xs := tupN c) (fun j H3 => H3 Dl = some (.lst (tupN (pickN ks (c.take j)))) ∧ ∀ b u, H2 b = some u → H3 b = some u)
        ⟨upd_same, fun b u e => Same.new hD _ _ e⟩ (fun j H3 _ h => SqT.of (h.2 _ _ ht)) ?_ ?_⟩
      · rintro j v H3 hj ⟨hD3, s3⟩
        obtain ⟨k, hkj, rfl⟩ := tupN_get hj
        have hkl : k < ks.length := hcR.lt k (List.mem_of_getElem? hkj)
        refine ⟨rfl, ?_⟩
        refine ⟨_, rfl, _, rfl, tS, _, _, _, rfl, rfl, SqT.of (s3 _ _ hS2), tupN_at hkl, ?_⟩
        have e : pickN ks (c.take (j + 1)) = pickN ks (c.take j) ++ [ks.getD k 0] := map_take_snoc hkj
        refine ⟨_, hD3, small1000 (by rw [tupN_len]; unfold pickN; rw [List.length_map, List.length_take]; omega), ?_, fun b u e => by rw [upd_ne (ne_of_none e hD)]; exact s3 _ _ e⟩
        rw [upd_same, e]
        unfold tupN
        rw [List.map_append]; rfl
      · rintro H3 ⟨hD3, s3⟩
        rw [tupN_len, List.take_length] at hD3
        refine ⟨Dl, _, rfl, .inl ⟨SqL.of hD3, fun p hp => ?_⟩⟩
        have sp := Same.new (o := .tup (tupN (pickN ks c))) hp
        have s4 : Same H2 (upd H3 p (.tup (tupN (pickN ks c)))) := fun b u e => sp _ _ (s3 _ _ e)
        have hl04 := s4 _ _ hl02
        have hl4 := s4 _ _ hl2
        have em : (cs.take (i + 1)).map (pickN ks) = (cs.take i).map (pickN ks) ++ [pickN ks c] := map_take_snoc hci
        have hul : us.length ≤ 4 := by
          have h1 := hU.1
          rw [List.length_map, List.length_take] at h1
          omega
        refine ⟨l0, _, _, rfl, rfl, hl04, small1000 (by rw [List.length_map]; omega), ?_⟩
        have et : us.map V.ref ++ [V.ref p] = (us ++ [p]).map V.ref := by rw [List.map_append]; rfl
        rw [et]
        have tk : ∀ a xs, (upd H3 p (.tup (tupN (pickN ks c)))) a = some (.tup xs) → (upd (upd H3 p (.tup (tupN (pickN ks c)))) l0 (.lst ((us ++ [p]).map V.ref))) a = some (.tup xs) := fun a xs e => by rw [upd_ne (ne_of e hl04 (by intro z; cases z))]; exact e
        refine ⟨us ++ [p], _, _, rfl, (M2.but s4).upd nl0 nC0, fun b u eb n1 n2 => ?_, upd_same, ?_, by rw [upd_ne (Ne.symm nll)]; exact hl4, (hT2.sm fun a xs e => s4 _ _ e).sm tk, tk _ _ (s4 _ _ hS2)⟩
        · rw [upd_ne (fun zz => by rw [zz, hl0] at eb; cases eb)]
          exact s4 _ _ (b2 _ _ eb n1 n2)
        · rw [em]
          exact ((hU.sm fun a xs e => s4 _ _ e).snoc upd_same).sm tk
    · rintro σ H2 ⟨us, v3, v4, rfl, M2, b2, hl02, hU, hl2, hT2, hS2⟩
      rw [List.length_map, hT1.1, List.take_length] at hU
      refine ⟨_, rfl, q l0 us _ n1 H2 hl0 hl02 hU (fun d hd => ?_) (by rw [List.length_map]; exact hc1) (by simp [hc0]) hn1 M2 b2⟩
      obtain ⟨c, hc, rfl⟩ := List.mem_map.mp hd
      exact ⟨rising_pick hk (hR1 c hc), pickN_sub (hR1 c hc)⟩
end
end My
set_option Elab.async false
set_option linter.all false
set_option maxRecDepth 100000
set_option maxHeartbeats 4000000
namespace My
open PySem L2
abbrev sTf : Stmt := top 43
theorem eqv_ints : ∀ a b : List Nat, PyData.eqvAll ((intN a).map PyData.int) ((intN b).map PyData.int) = decide (a = b)
  | [], [] => by show PyData.eqvAll [] [] = _; rw [PyData.eqvAll]; rfl
  | [], q :: s => by show PyData.eqvAll [] (_ :: _) = _; rw [PyData.eqvAll]; rfl
  | p :: r, [] => by show PyData.eqvAll (_ :: _) [] = _; rw [PyData.eqvAll]; rfl
  | p :: r, q :: s => by
    show PyData.eqvAll (PyData.int (p : Int) :: (intN r).map PyData.int) (PyData.int (q : Int) :: (intN s).map PyData.int) = _
    rw [PyData.eqvAll, eqv_ints r s]
    have e : PyData.eqv (.int (p : Int)) (.int (q : Int)) = decide (p = q) := by
      rw [PyData.eqv]
      by_cases h : p = q
      · subst h; simp
      · rw [decide_eq_false h]; simp; omega
    rw [e, ← Bool.decide_and]
    exact decide_eq_decide.mpr ⟨fun ⟨h1, h2⟩ => by rw [h1, h2], fun h => by injection h with h1 h2; exact ⟨h1, h2⟩⟩
theorem eqv_tup (a b : List Nat) : PyData.eqv (.tuple ((intN a).map PyData.int)) (.tuple ((intN b).map PyData.int)) = decide (a = b) := by rw [PyData.eqv, eqv_ints]
def spTell (F : List Nat → Str) : Sp := fun vs H Q _ => ∃ (t : Addr) (ks : List Nat), vs = [.ref t] ∧ H t = some (.tup (tupN ks)) ∧ Rising 0 120 ks ∧ ∀ H', Same H H' → Q (.str (F ks)) H'
theorem same_over {H H1 : Hp} {S : List Addr} (s : Same (hid H S) H1) : Same H (over H S H1) := fun b o e => by
  by_cases hb : b ∈ S
  · rw [over_in hb]; exact e
  · rw [over_out hb]; exact s b o (by rw [hid_out hb]; exact e)
theorem exts_tup {H : Hp} {S : List Addr} (x : Exts H S) {a : Addr} {xs : List V} (h : H a = some (.tup xs)) : hid H S a = some (.tup xs) := x.hid h (by intro φ z; cases z)
theorem tell_over {F : List Nat → Str} {vs : List V} {H : Hp} {S : List Addr} {Q : VK} {E : XK} (x : Exts H S) (h : spTell F vs H Q E) : spOver H S (spTell F) vs H Q E := by
  obtain ⟨t, ks, e, ht, hk, q⟩ := h
  exact ⟨t, ks, e, exts_tup x ht, hk, fun H1 s => q _ (same_over s)⟩
def Fix : HO → Prop
  | .ext _ => True
  | .frz _ _ => True
  | .tup _ => True
  | .lst _ => True
  | _ => False
def Fix0 : HO → Prop
  | .frz _ _ => True
  | .tup _ => True
  | _ => False
structure TellAt (P : Program) (w : World) (K : PySem.W.Frag) (mg : Str → Option Value) (base : Heap) (H : Hp) (f : Addr) (D : List Addr) (F : List Nat → Str) : Prop where
  run : ∀ H', (∀ b ∈ D, H' b = H b) → FnV K H' f ∧ FnH P w K mg base 3 f H' 1 (spTell F)
  dom : ∀ b ∈ D, ∃ o, H b = some o ∧ Fix o
theorem TellAt.on {P : Program} {w : World} {K : PySem.W.Frag} {mg : Str → Option Value} {base : Heap} {H H' : Hp} {f : Addr} {D : List Addr} {F : List Nat → Str} (T : TellAt P w K mg base H f D F) (k : ∀ b ∈ D, H' b = H b) : TellAt P w K mg base H' f D F where
  run := fun H2 k2 => T.run H2 fun b hb => (k2 b hb).trans (k b hb)
  dom := fun b hb => by rw [k b hb]; exact T.dom b hb
theorem TellAt.sm {P : Program} {w : World} {K : PySem.W.Frag} {mg : Str → Option Value} {base : Heap} {H H' : Hp} {f : Addr} {D R : List Addr} {F : List Nat → Str} (T : TellAt P w K mg base H f D F) (k : ∀ b o, H b = some o → b ∉ R → H' b = some o) (d : ∀ b ∈ R, b ∉ D) : TellAt P w K mg base H' f D F :=
  T.on fun b hb => by
    obtain ⟨o, e, _⟩ := T.dom b hb
    rw [e]; exact k b o e fun z => d b z hb
theorem TellAt.same {P : Program} {w : World} {K : PySem.W.Frag} {mg : Str → Option Value} {base : Heap} {H H' : Hp} {f : Addr} {D : List Addr} {F : List Nat → Str} (T : TellAt P w K mg base H f D F) (k : Same H H') : TellAt P w K mg base H' f D F := T.sm (R := []) (fun b o e _ => k b o e) (fun b z => by simp at z)
theorem TellAt.now {P : Program} {w : World} {K : PySem.W.Frag} {mg : Str → Option Value} {base : Heap} {H : Hp} {f : Addr} {D : List Addr} {F : List Nat → Str} (T : TellAt P w K mg base H f D F) : FnV K H f ∧ FnH P w K mg base 3 f H 1 (spTell F) := T.run H fun _ _ => rfl
theorem CloT.fix {H H' : Hp} {f c : Addr} {fd : FuncData} {fs : List Str} {fv : List V} {S : List Addr} (C : CloT H f fd fs fv S) (hc : fd.code = .ref c) (k : ∀ b ∈ S, H' b = H b) (kc : H' c = H c) : CloT H' f fd fs fv S where
  ob := by rw [k _ C.mem]; exact C.ob
  mem := C.mem
  sub := fun b hb => by rw [k b hb]; exact C.sub b hb
  code := by
    obtain ⟨c2, oc, u, vs, t, e1, e2, e3⟩ := C.code
    rw [hc] at e1; cases e1
    exact ⟨c, oc, u, vs, t, hc, by rw [kc]; exact e2, e3⟩
  vals := fun i x v e1 e2 => by
    obtain ⟨c, z, e⟩ := C.vals i x v e1 e2
    exact ⟨c, z, by rw [k _ (C.cells x c z).1]; exact e⟩
  inj := C.inj
  cells := fun x c e => by
    obtain ⟨z, v, e2⟩ := C.cells x c e
    exact ⟨z, v, by rw [k _ z]; exact e2⟩
  len := C.len
def KpM (m lL Pt : Addr) (H H' : Hp) : Prop := ∀ b o, H b = some o → b ≠ m → b ≠ lL → b ≠ Pt → H' b = some o
theorem KpM.trans {m lL Pt : Addr} {H H1 H2 : Hp} (a : KpM m lL Pt H H1) (b : KpM m lL Pt H1 H2) : KpM m lL Pt H H2 := fun c o h n1 n2 n3 => b c o (a c o h n1 n2 n3) n1 n2 n3
theorem KpM.of_same {m lL Pt : Addr} {H H1 : Hp} (s : Same H H1) : KpM m lL Pt H H1 := fun c o h _ _ _ => s c o h
theorem KpM.of_but {m lL Pt : Addr} {H H1 : Hp} (s : But m lL H H1) : KpM m lL Pt H H1 := fun c o h n1 n2 _ => s c o h n1 n2
theorem TabAt.tbl {H : Hp} {Pt : Addr} {qf : Nat → Nat → Str} (T : TabAt H Pt qf) : ∃ ps, H Pt = some (.tbl ps) := let ⟨ps, e, _⟩ := T; ⟨ps, e⟩
theorem TabAt.butM {H H' : Hp} {Pt m lC lL : Addr} {n : Nat} {qf : Nat → Nat → Str} (T : TabAt H Pt qf) (M : MAt H m lC lL n) (b : But m lL H H') : TabAt H' Pt qf := by
  obtain ⟨cells, left, hm, hC, hc, hb, hL, hl, ne⟩ := M.ex
  obtain ⟨ps, e, tr, tc⟩ := T
  refine ⟨ps, b _ _ e (ne_of e hm (by intro z; cases z)) (ne_of e hL (by intro z; cases z)), tr, fun pos cv z => ?_⟩
  obtain ⟨c, oc, u, vs, t, z1, z2, z3⟩ := tc pos cv z
  exact ⟨c, oc, u, vs, t, z1, b _ _ z2 (ne_of z2 hm (by intro z; cases z)) (ne_of z2 hL (by intro z; cases z)), z3⟩
theorem MAt.kp {H H' : Hp} {Pt m lC lL : Addr} {n : Nat} {qf : Nat → Nat → Str} (M : MAt H m lC lL n) (T : TabAt H Pt qf) (k : ∀ b o, H b = some o → b ≠ Pt → H' b = some o) : MAt H' m lC lL n := by
  obtain ⟨ps, e⟩ := T.tbl
  obtain ⟨cells, left, hm, hC, hc, hb, hL, hl, ne⟩ := M.ex
  exact ⟨cells, left, k _ _ hm (ne_of hm e (by intro z; cases z)), k _ _ hC (ne_of hC e (by intro z; cases z)), hc, hb, k _ _ hL (ne_of hL e (by intro z; cases z)), hl, ne⟩
def NewOld (H : Hp) (b : Addr) : Prop := H b = none ∨ ∃ o, H b = some o ∧ Fix0 o
theorem newOld_of {H H2 : Hp} {m lC lL Pt b : Addr} {n : Nat} {qf : Nat → Nat → Str} (M : MAt H2 m lC lL n) (T : TabAt H2 Pt qf) (k : KpM m lL Pt H H2) (h : H2 b = none ∨ ∃ o, H2 b = some o ∧ Fix0 o) : NewOld H b := by
  obtain ⟨cells, left, hm, hC, hc, hb, hL, hl, ne⟩ := M.ex
  obtain ⟨ps, eP⟩ := T.tbl
  have nb : b ≠ m ∧ b ≠ lL ∧ b ≠ Pt := by
    rcases h with h | ⟨o, h, f⟩
    · exact ⟨(fun z => by rw [z, hm] at h; exact nomatch h), (fun z => by rw [z, hL] at h; exact nomatch h), (fun z => by rw [z, eP] at h; exact nomatch h)⟩
    · exact ⟨(fun z => by rw [z, hm] at h; cases h; exact f), (fun z => by rw [z, hL] at h; cases h; exact f), (fun z => by rw [z, eP] at h; cases h; exact f)⟩
  cases e : H b with
  | none => exact .inl e
  | some u =>
    have e2 := k b u e nb.1 nb.2.1 nb.2.2
    rcases h with h | ⟨o, h, f⟩
    · rw [e2] at h; cases h
    · rw [e2] at h; cases h; exact .inr ⟨_, e, f⟩
def wildF (road seed : Int) (st : List Nat) (ks : List Nat) : Str :=
  if ks = st then "fail" else if 2 < road ∧ ks = [] then "pass" else if road = 4 ∧ ks.length % 2 = 0 then "unresolved" else oddF seed ks
abbrev posLam : Pos := match (defBody sTf).getD 1 (.Pass ⟨0, 0, 0, 0⟩) with
  | .If _ [.Return (some (.Lambda _ _ _ p)) _] _ _ => p
  | _ => ⟨0, 0, 0, 0⟩
abbrev qTf : Nat → Nat → Str := fun l c => if l = posLam.line ∧ c = posLam.col then (("_law_tell_for" : Str) ++ ".<locals>.") ++ "<lambda>" else (("_law_tell_for" : Str) ++ ".<locals>.") ++ "_law_wild"
def spTf (P : Program) (w : World) (K : PySem.W.Frag) (mg : Str → Option Value) (base : Heap) (Pt : Addr) : Sp := fun vs H Q _ => ∃ (m lC lL tS : Addr) (n : Nat) (ks : List Nat), vs = [.ref m, .ref tS] ∧ MAt H m lC lL n ∧ n < 2 ^ 30 ∧ H tS = some (.tup (tupN ks)) ∧ Rising 0 120 ks ∧ TabAt H Pt qTf ∧
  ∀ (f : Addr) (D : List Addr) (F : List Nat → Str) (n' : Nat) (H' : Hp), TellAt P w K mg base H' f D F → F ks = "fail" → (∀ js, isVerd (.str (F js)) = true) → (∀ b ∈ D, NewOld H b) → n' ≤ n + 70 → MAt H' m lC lL n' → KpM m lL Pt H H' → TabAt H' Pt qTf → Q (.ref f) H'
theorem verd_fail : isVerd (.str "fail") = true := by decide +kernel
theorem verd_pass : isVerd (.str "pass") = true := by decide +kernel
theorem verd_un : isVerd (.str "unresolved") = true := by decide +kernel
theorem verd_tells (cs : List (List Nat)) (ks : List Nat) : isVerd (.str (tells cs ks)) = true := by
  unfold tells; split
  · exact verd_fail
  · exact verd_pass
theorem verd_odd (seed : Int) (ks : List Nat) : isVerd (.str (oddF seed ks)) = true := by
  unfold oddF; split
  · exact verd_pass
  · split
    · exact verd_un
    · exact verd_fail
theorem verd_wild (road seed : Int) (st ks : List Nat) : isVerd (.str (wildF road seed st ks)) = true := by
  unfold wildF; split
  · exact verd_fail
  · split
    · exact verd_pass
    · split
      · exact verd_un
      · exact verd_odd _ _
theorem tells_start {cs : List (List Nat)} {ks : List Nat} (h : ∀ c ∈ cs, diffN c ks = []) (h0 : cs ≠ []) : tells cs ks = "fail" := by
  unfold tells
  rw [if_pos]
  rw [List.any_eq_true]
  cases cs with
  | nil => exact absurd rfl h0
  | cons c r => exact ⟨c, List.mem_cons_self, by rw [h c List.mem_cons_self]; rfl⟩
section
variable {P : Program} {w : World} {K : PySem.W.Frag} {mg : Str → Option Value} {base : Heap}
abbrev nTf : List Str := ["_law_m", "_law_start_here", "_law_road", "_law_cores_here", "_law_seed", "_law_wild"]
theorem scTf : FnScope nTf ["_law_m", "_law_start_here"] (defScope sTf) := ⟨rfl, rfl, rfl, by decide +kernel, rfl, by decide +kernel, by decide +kernel⟩
theorem tell_lam (DT : Df K mg "_law_tells" sTe ["_law_cores_here", "_law_some_here"]) (DI : Df K mg "_law_inside" sIs ["_law_some_here", "_law_beside"]) {H : Hp} {f l c : Addr} {ts : List Addr} {cs : List (List Nat)} {fd : FuncData} {S : List Addr} {ar : Arguments} {body : Expr} {scope : Scope} {name qual : Str} {cl : List (Str × Addr)} {pm cdv ct : Value}
    (efd : fd = mkFn name qual ar (.expr body) scope cl pm cdv ct) (L : LScope ["_law_some_here", "_law_cores_here"] ["_law_some_here"] ["_law_cores_here"] scope) (hbind : ∀ us : List Value, us.length = 1 → bindArgs (mkFn name qual ar (.expr body) scope cl pm cdv ct) ⟨us, []⟩ = pure ((["_law_some_here"] : List Str).zip us))
    (hb : ∀ {A : Around} {outer : List Env} {s : Shared} {H0 : Hp} {E : XK}, Room 2 (A.deeper (PySem.W.envX qual scope s.heap.objs.size f cdv cl)) → PE (cxL (CXe P w) P w K mg base ["_law_some_here", "_law_cores_here"] qual scope f cdv cl A outer s H0 E) body (tCall (spTells K) [] E0 (tCons (tVar 1) (tCons (tVar 0) tNil))))
    (C : CloT H f fd ["_law_cores_here"] [.ref l] S) (hc : fd.code = .ref c) (hcz : ∃ oc u, H c = some (.frz oc u)) (hl : H l = some (.lst (ts.map V.ref))) (hT : Tups H ts cs) (hR : ∀ c ∈ cs, Rising 0 120 c) (hn : cs.length ≤ 150) :
    TellAt P w K mg base H f (S ++ c :: l :: ts) (tells cs) := by
  subst efd
  refine ⟨fun H' k => ?_, fun b hb => ?_⟩
  · have kS : ∀ b ∈ S, H' b = H b := fun b hb => k b (List.mem_append_left _ hb)
    have C' := C.fix hc kS (k c (List.mem_append_right _ List.mem_cons_self))
    refine ⟨.inl ⟨_, C'.ob⟩, (clo_lam (k := 2) (sp := spTell (tells cs)) L hbind C' fun A outer s vs Q E hr h => ?_).imp fun vs Q E h => tell_over C'.sub h⟩
    obtain ⟨t, ks, rfl, ht, hk, q⟩ := h
    have hl' : H' l = some (.lst (ts.map V.ref)) := by rw [k l (List.mem_append_right _ (List.mem_cons_of_mem _ List.mem_cons_self))]; exact hl
    have hT' : Tups H' ts cs := ⟨hT.1, fun i t c e1 e2 => by
      rw [k t (List.mem_append_right _ (List.mem_cons_of_mem _ (List.mem_cons_of_mem _ (List.mem_of_getElem? e1))))]; exact hT.2 i t c e1 e2⟩
    exact ⟨_, hb hr, _, rfl, _, rfl, l, t, ts, cs, ks, rfl, C'.sub.hid hl' (by intro φ z; cases z), hT'.sm fun a xs e => exts_tup C'.sub e, hR, hn, ht, hk, q⟩
  · rcases List.mem_append.mp hb with z | z
    · obtain ⟨φ, e⟩ := C.sub b z
      exact ⟨_, e, trivial⟩
    · rcases List.mem_cons.mp z with z | z
      · obtain ⟨oc, u, e⟩ := hcz
        rw [z]; exact ⟨_, e, trivial⟩
      · rcases List.mem_cons.mp z with z | z
        · rw [z]; exact ⟨_, hl, trivial⟩
        · obtain ⟨i, hi, ei⟩ := List.getElem_of_mem z
          have := hT.2 i b (cs[i]'(by rw [← hT.1]; exact hi)) (by rw [List.getElem?_eq_getElem hi, ei]) (List.getElem?_eq_getElem _)
          exact ⟨_, this, trivial⟩
end
end My
set_option Elab.async false
set_option linter.all false
set_option maxRecDepth 100000
set_option maxHeartbeats 4000000
namespace My
open PySem L2
section
variable {P : Program} {w : World} {K : PySem.W.Frag} {mg : Str → Option Value} {base : Heap}
theorem tell_wild {H : Hp} {f tS c : Addr} {road seed : Int} {st : List Nat} {fd : FuncData} {S : List Addr} {ar : Arguments} {body : List Stmt} {scope : Scope} {name qual : Str} {cl : List (Str × Addr)} {pm cdv ct : Value}
    (efd : fd = mkFn name qual ar (.stmts body) scope cl pm cdv ct) (L : LScope ["_law_some_here", "_law_road", "_law_seed", "_law_start_here"] ["_law_some_here"] ["_law_road", "_law_seed", "_law_start_here"] scope) (hbind : ∀ us : List Value, us.length = 1 → bindArgs (mkFn name qual ar (.stmts body) scope cl pm cdv ct) ⟨us, []⟩ = pure ((["_law_some_here"] : List Str).zip us))
    (hb : ∀ {A : Around} {outer : List Env} {s : Shared} {H0 : Hp} {E : XK}, Room 2 (A.deeper (PySem.W.envX qual scope s.heap.objs.size f cdv cl)) → ∃ t, PSs (cxL (CXe P w) P w K mg base ["_law_some_here", "_law_road", "_law_seed", "_law_start_here"] qual scope f cdv cl A outer s H0 E) body t ∧
      ∀ (D : Ends) (tt tS : Addr) (ks st : List Nat) (H1 : Hp), H1 tt = some (.tup (tupN ks)) → Rising 0 120 ks → H1 tS = some (.tup (tupN st)) → Rising 0 120 st → (∀ H2, Same H1 H2 → D.rt (.str (wildF road seed st ks)) H2) → t D [some (.ref tt), some (.int road), some (.int seed), some (.ref tS)] H1)
    (C : CloT H f fd ["_law_road", "_law_seed", "_law_start_here"] [.int road, .int seed, .ref tS] S) (hc : fd.code = .ref c) (hcz : ∃ oc u, H c = some (.frz oc u)) (hS : H tS = some (.tup (tupN st))) (hst : Rising 0 120 st) :
    TellAt P w K mg base H f (S ++ [c, tS]) (wildF road seed st) := by
  subst efd
  refine ⟨fun H' k => ?_, fun b hb => ?_⟩
  · have kS : ∀ b ∈ S, H' b = H b := fun b hb => k b (List.mem_append_left _ hb)
    have C' := C.fix hc kS (k c (List.mem_append_right _ List.mem_cons_self))
    refine ⟨.inl ⟨_, C'.ob⟩, (clo_def (k := 2) (sp := spTell (wildF road seed st)) L hbind C' fun A outer s vs Q E hr h => ?_).imp fun vs Q E h => tell_over C'.sub h⟩
    obtain ⟨t, ks, rfl, ht, hk, q⟩ := h
    have hS' : H' tS = some (.tup (tupN st)) := by rw [k tS (List.mem_append_right _ (List.mem_cons_of_mem _ List.mem_cons_self))]; exact hS
    obtain ⟨tt, hp, hr2⟩ := hb (outer := outer) (H0 := hid H' S) (E := E) hr
    exact ⟨tt, hp, hr2 _ t tS ks st _ ht hk (exts_tup C'.sub hS') hst fun H2 s2 => q H2 s2⟩
  · rcases List.mem_append.mp hb with z | z
    · obtain ⟨φ, e⟩ := C.sub b z
      exact ⟨_, e, trivial⟩
    · rcases List.mem_cons.mp z with z | z
      · obtain ⟨oc, u, e⟩ := hcz
        rw [z]; exact ⟨_, e, trivial⟩
      · rw [List.mem_singleton.mp z]; exact ⟨_, hS, trivial⟩
theorem cfgD {K : PySem.W.Frag} {H : Hp} {t : Addr} {ks : List Nat} (h : H t = some (.tup (tupN ks))) : Dp K H (.ref t) (.tuple ((intN ks).map PyData.int)) := .tup (SqT.of (by rw [← tupN_int]; exact h)) (dpInts _)
theorem cfgS {ks : List Nat} (h : Rising 0 120 ks) : SeqAt.shaped (.tuple ((intN ks).map PyData.int)) = true := (shwT (by decide) h).shaped (by decide)
theorem eq_cfg {K : PySem.W.Frag} {H : Hp} {a b : Addr} {ks js : List Nat} {Q : VK} (ha : H a = some (.tup (tupN ks))) (hb : H b = some (.tup (tupN js))) (hk : Rising 0 120 ks) (hj : Rising 0 120 js) (q : Q (.bl (decide (ks = js))) H) : rEqD K (.ref a) (.ref b) H Q := by
  refine ⟨_, _, cfgD ha, cfgD hb, cfgS hk, cfgS hj, ?_⟩
  rw [eqv_tup]; exact q
theorem ok_tf (bi : Bi mg) (gi : mg "int" = none) (gmax : mg "max" = none) (gs : mg "sorted" = none) (D : Df K mg "_law_tell_for" sTf ["_law_m", "_law_start_here"]) (DW : Df K mg "_law_within_cores" sWc ["_law_m", "_law_start_here"]) (DC : Df K mg "_law_cores" sCo ["_law_m", "_law_size"]) (DX : Df K mg "_law_draw" sDraw ["_law_m", "_law_top"]) (DY : Df K mg "_law_mixed" sMixed ["_law_cell", "_law_k"])
    (DT : Df K mg "_law_tells" sTe ["_law_cores_here", "_law_some_here"]) (DI : Df K mg "_law_inside" sIs ["_law_some_here", "_law_beside"]) (DO : Df K mg "_law_odd" sOd ["_law_seed", "_law_some_here"]) (DN : Df K mg "_law_number_of" sNo ["_law_some_here"]) {c Pt : Addr} (hc : D.f.code = .ref c) (hC : PySem.W.CodeHd base c Pt) (hB : base.BuiltinsAt mg Pt) :
    FnOk P w K mg base CX0 5 D.a D.f ["_law_m", "_law_start_here"] (spTf P w K mg base Pt) := by
  have GW : FnOk P w K mg base CX0 4 DW.a DW.f ["_law_m", "_law_start_here"] spWc := ok_wc bi gi gmax gs DW DC DX DY
  have GX : FnOk P w K mg base CX0 4 DX.a DX.f ["_law_m", "_law_top"] spDraw := (ok_draw DX.F bi DY.F DY.b DY.g).mono (by decide)
  have GT : FnOk P w K mg base CX0 2 DT.a DT.f ["_law_cores_here", "_law_some_here"] (spTells K) := ok_tells DT DI
  have GO : FnOk P w K mg base CX0 2 DO.a DO.f ["_law_seed", "_law_some_here"] spOd := ok_odd bi DO DN DY
  refine fnR_of D.F scTf (fun vs H Q E h => ?_) (fun A outer s H vs Q E hr h => ?_)
  · obtain ⟨m, lC, lL, tS, n, ks, rfl, _⟩ := h
    rfl
  · obtain ⟨m, lC, lL, tS, n, ks, rfl, M, hn, hS, hk, hT, q⟩ := h
    refine ⟨_, pr_cons rfl (ps_asg (pe_tup (pa_cons (pe_call GX hr (by rfl) DX.g DX.F.kp DX.b .nil pass0 (pa_cons (pv 0) (pa_cons pe_int pa_nil))) (pa_cons (pe_call GW hr (by rfl) DW.g DW.F.kp DW.b .nil pass0 (pa_cons (pv 0) (pa_cons (pv 1) pa_nil))) (pa_cons (pe_call GX hr (by rfl) DX.g DX.F.kp DX.b .nil pass0 (pa_cons (pv 0) (pa_cons (pe_op op_pow pe_int pe_int) pa_nil))) pa_nil))))
        (pg_tup (by rfl) (pgs_cons (pg_name (i := 2) scTf.nd rfl (Or.inr rfl)) (pgs_cons (pg_name (i := 3) scTf.nd rfl (Or.inr rfl)) (pgs_cons (pg_name (i := 4) scTf.nd rfl (Or.inr rfl)) pgs_nil)))))
      (pr_if (pt_cmpR op_lt (pv 2) pe_int (nomark _))
        (pr_lam rfl (qf := qTf) (c := c) (Pt := Pt) (clos := [("_law_cores_here", s.heap.objs.size + 2)]) (fs := ["_law_cores_here"]) (ix := [3])
        (by exact ⟨hc, hC, hB, rfl, fun x a h => by
            have h := PySem.mem_of_lookup h
            simp only [List.mem_cons, List.not_mem_nil, or_false, Prod.mk.injEq] at h
            obtain ⟨rfl, rfl⟩ := h; rfl, fun y hy => by
            simp only [List.mem_cons, List.not_mem_nil, or_false] at hy
            obtain rfl := hy; exact ⟨rfl, (fun z => absurd z (show ¬ List.lookup (_ : Str) (defScope sTf).names = some NameKind.local by decide +kernel)), Or.inr (Or.inl rfl)⟩, fun i y h => by
          match i, h with
          | 0, h => exact ⟨3, rfl, h⟩, rfl, by decide +kernel, fun x a h => by
            have h := PySem.mem_of_lookup h
            simp only [List.mem_cons, List.not_mem_nil, or_false, Prod.mk.injEq] at h
            obtain ⟨rfl, rfl⟩ := h; simp, fun x a h => by
            have h := PySem.mem_of_lookup h
            simp only [List.mem_cons, List.not_mem_nil, or_false, Prod.mk.injEq] at h
            obtain ⟨rfl, rfl⟩ := h; exact Nat.le_add_right _ _⟩) (by rfl) (by rfl))
        (pr_def rfl (qf := qTf) (i := 5) (c := c) (Pt := Pt) (clos := [("_law_start_here", s.heap.objs.size + 1), ("_law_seed", s.heap.objs.size + 4), ("_law_road", s.heap.objs.size + 3)]) (fs := ["_law_road", "_law_seed", "_law_start_here"]) (ix := [2, 4, 1])
        (by exact ⟨hc, hC, hB, rfl, fun x a h => by
            have h := PySem.mem_of_lookup h
            simp only [List.mem_cons, List.not_mem_nil, or_false, Prod.mk.injEq] at h
            rcases h with ⟨rfl, rfl⟩ | ⟨rfl, rfl⟩ | ⟨rfl, rfl⟩ <;> rfl, fun y hy => by
            simp only [List.mem_cons, List.not_mem_nil, or_false] at hy
            rcases hy with rfl | rfl | rfl <;> exact ⟨rfl, (fun z => absurd z (show ¬ List.lookup (_ : Str) (defScope sTf).names = some NameKind.local by decide +kernel)), Or.inr (Or.inl rfl)⟩, fun i y h => by
          match i, h with
          | 0, h => exact ⟨2, rfl, h⟩
          | 1, h => exact ⟨4, rfl, h⟩
          | 2, h => exact ⟨1, rfl, h⟩, rfl, by decide +kernel, fun x a h => by
            have h := PySem.mem_of_lookup h
            simp only [List.mem_cons, List.not_mem_nil, or_false, Prod.mk.injEq] at h
            rcases h with ⟨rfl, rfl⟩ | ⟨rfl, rfl⟩ | ⟨rfl, rfl⟩ <;> simp, fun x a h => by
            have h := PySem.mem_of_lookup h
            simp only [List.mem_cons, List.not_mem_nil, or_false, Prod.mk.injEq] at h
            rcases h with ⟨rfl, rfl⟩ | ⟨rfl, rfl⟩ | ⟨rfl, rfl⟩ <;> exact Nat.le_add_right _ _⟩) rfl (by rfl) (by rfl) (by rfl) scTf.nd rfl rfl rfl)), ?_⟩
    refine ⟨_, rfl, m, lC, lL, n, 5, rfl, M, by omega, by decide, by decide, fun g1 H1 g10 g11 M1 b1 => ?_⟩
    have hS1 := b1.tups M _ _ hS
    refine ⟨_, rfl, _, rfl, m, lC, lL, tS, n + 1, ks, rfl, M1, by omega, hS1, hk, fun l ts cs n2 H2 hl0 hl2 hT2 hR2 hc2 hcn hn2 M2 b2 => ?_⟩
    refine ⟨_, rfl, _, _, rfl, rfl, ⟨by decide, by decide, by decide⟩, m, lC, lL, n2, (10 : Int) ^ (9 : Int).toNat, rfl, M2, by omega, by decide, by decide, fun g3 H3 g30 g31 M3 b3 => ?_⟩
    refine ⟨by show 3 ≤ sizeLine; decide, fun p hp => ?_⟩
    have s4 := Same.new (o := .tup [V.int g1, .ref l, .int g3]) hp
    have M4 := M3.but s4
    have bA : But m lL H (upd H3 p (.tup [V.int g1, .ref l, .int g3])) := b1.trans (b2.trans (b3.trans (But.of_same s4)))
    have nl := M1.ne hl0
    have hl4 := s4 _ _ (b3 _ _ hl2 nl.1 nl.2)
    have hT4 : Tups (upd H3 p (.tup [V.int g1, .ref l, .int g3])) ts cs := (hT2.sm (But.tups M2 b3)).sm fun a xs e => s4 _ _ e
    have hS4 := bA.tups M _ _ hS
    have T4 := hT.butM M bA
    have hg3 : g3 < 2 ^ 32 := by
      have : (10 : Int) ^ (9 : Int).toNat = 1000000000 := by decide
      omega
    refine ⟨p, _, rfl, SqT.of upd_same, rfl, ?_⟩
    generalize upd H3 p (.tup [V.int g1, .ref l, .int g3]) = H4 at s4 M4 bA hl4 hT4 hS4 T4 ⊢
    have hl00 : H l = none := by
      cases e : H l with
      | none => rfl
      | some u => rw [b1 _ _ e nl.1 nl.2] at hl0; cases hl0
    refine ⟨_, _, rfl, _, _, rfl, _, _, rfl, rfl, ?_⟩
    refine ⟨_, rfl, _, _, rfl, rfl, _, rfl, ite2 (fun hr2 => ?_) (fun hr2 => ?_)⟩
    · refine ⟨T4, [.ref l], rfl, fun i j hij v hv => ?_, fun H5 f cl pm cv ct S T5 k5 hS5 C => ?_⟩
      · match i, hij with
        | 0, hij => cases hij; cases hv; rfl
      obtain ⟨ps, eP⟩ := T4.tbl
      have hl5 := k5 _ _ hl4 (ne_of hl4 eP (by intro z; cases z))
      have hT5 : Tups H5 ts cs := hT4.sm fun a xs e => k5 _ _ e (ne_of e eP (by intro z; cases z))
      obtain ⟨c2, oc, u, vs2, t2, e1, e2, _⟩ := id C.code
      have kM : KpM m lL Pt H H5 := (KpM.of_but bA).trans fun b o e _ _ n => k5 b o e n
      have M5 := M4.kp T4 k5
      refine q f _ (tells cs) n2.succ H5 (tell_lam DT DI rfl ⟨rfl, rfl, rfl, by decide +kernel, rfl, by decide +kernel, by decide +kernel, by decide +kernel, fun y hy => (show ∀ z ∈ Scope.names _, z.2 = NameKind.free → z.1 ∈ (["_law_cores_here"] : List Str) by decide +kernel) _ (PySem.mem_of_lookup hy) rfl⟩ (fun us hl => match us, hl with | [_], _ => rfl) (fun hr => pe_call GT hr (by rfl) DT.g DT.F.kp DT.b .nil pass0 (pa_cons (pv 1) (pa_cons (pv 0) pa_nil))) C e1 ⟨_, _, e2⟩ hl5 hT5 (fun c hc => (hR2 c hc).1) (by omega)) (tells_start (fun c hc => (hR2 c hc).2) hcn) (verd_tells cs) (fun b hb => ?_) (by omega) M5 kM T5
      rcases List.mem_append.mp hb with z | z
      · exact newOld_of M4 T4 (KpM.of_but bA) (.inl (hS5 b z))
      · rcases List.mem_cons.mp z with z | z
        · rw [z]; exact newOld_of M5 T5 kM (.inr ⟨_, e2, trivial⟩)
        · rcases List.mem_cons.mp z with z | z
          · rw [z]; exact .inl hl00
          · obtain ⟨i, hi, ei⟩ := List.getElem_of_mem z
            have := hT5.2 i b (cs[i]'(by rw [← hT5.1]; exact hi)) (by rw [List.getElem?_eq_getElem hi, ei]) (List.getElem?_eq_getElem _)
            exact newOld_of M5 T5 kM (.inr ⟨_, this, trivial⟩)
    · refine ⟨T4, [.int g1, .int g3, .ref tS], rfl, fun i j hij v hv => ?_, fun H5 f cl pm cv ct S T5 k5 hS5 C => ?_⟩
      · match i, hij with
        | 0, hij => cases hij; cases hv; rfl
        | 1, hij => cases hij; cases hv; rfl
        | 2, hij => cases hij; cases hv; rfl
      obtain ⟨ps, eP⟩ := T4.tbl
      have hS5' := k5 _ _ hS4 (ne_of hS4 eP (by intro z; cases z))
      obtain ⟨c2, oc, u, vs2, t2, e1, e2, _⟩ := id C.code
      have kM : KpM m lL Pt H H5 := (KpM.of_but bA).trans fun b o e _ _ n => k5 b o e n
      have M5 := M4.kp T4 k5
      refine q f _ (wildF g1 g3 ks) n2.succ H5 (tell_wild rfl ⟨rfl, rfl, rfl, by decide +kernel, rfl, by decide +kernel, by decide +kernel, by decide +kernel, fun y hy => (show ∀ z ∈ Scope.names _, z.2 = NameKind.free → z.1 ∈ (["_law_road", "_law_seed", "_law_start_here"] : List Str) by decide +kernel) _ (PySem.mem_of_lookup hy) rfl⟩ (fun us hl => match us, hl with | [_], _ => rfl) (fun {A outer s H0 E} hr => ?_) C e1 ⟨_, _, e2⟩ hS5' hk) (by unfold wildF; rw [if_pos rfl]) (verd_wild g1 g3 ks) (fun b hb => ?_) (by omega) M5 kM T5
      · have hu : (A.deeper (PySem.W.envX (qTf _ _) _ s.heap.objs.size f cv cl)).units + 64 < cLine := hr.units
        refine ⟨_, pss_cons (ps_if (pt_cmpR (op_eqD hu) (pv 0) (pv 3) (nomark _)) (pss_one (ps_ret pe_str)) pss_nil)
          (pss_cons (ps_if (PW.pt (pw_and (pt_cmpR op_gt (pv 1) pe_int (nomark _)) (pw_and1 (pt_cmpR (op_eqD hu) (pv 0) (pe_tup pa_nil) (nomark _))))) (pss_one (ps_ret pe_str)) pss_nil)
          (pss_cons (ps_if (PW.pt (pw_and (pt_cmpR op_eq (pv 1) pe_int (nomark _)) (pw_and1 (pt_cmpR op_eq (pe_op op_mod (pe_callB call_len_seq (by rfl) bi.len PySem.boot_len (pa_cons (pv 0) pa_nil)) pe_int) pe_int (nomark _))))) (pss_one (ps_ret pe_str)) pss_nil)
          (pss_one (ps_ret (pe_call GO hr (by rfl) DO.g DO.F.kp DO.b .nil pass0 (pa_cons (pv 2) (pa_cons (pv 0) pa_nil))))))), ?_⟩
        intro Dd tt tS ks st H1 ht hk hS hst q
        refine ⟨_, rfl, _, rfl, eq_cfg (K := K) ht hS hk hst ⟨_, rfl, ite2 (fun h1 => ?_) (fun h1 => ?_)⟩⟩
        · have e1 : ks = st := of_decide_eq_true h1
          have fin := q H1 (fun _ _ z => z)
          unfold wildF at fin
          rw [if_pos e1] at fin
          exact fin
        have n1 : ¬ ks = st := fun z => h1 (decide_eq_true z)
        refine ⟨_, rfl, _, _, rfl, rfl, _, rfl, ?_⟩
        -- the third, the fourth
        by_cases h2 : (2 : Int) < g1
        · rw [decide_eq_true h2]
          refine ⟨_, rfl, by show 0 ≤ sizeLine; decide, fun p hp => ?_⟩
          have s2 := Same.new (o := .tup []) hp
          refine eq_cfg (K := K) (js := []) (s2 _ _ ht) upd_same hk trivial ⟨_, rfl, ite2 (fun h3 => ?_) (fun h3 => ?_)⟩
          · have e3 : ks = [] := of_decide_eq_true h3
            have fin := q _ s2
            unfold wildF at fin
            rw [if_neg n1, if_pos ⟨h2, e3⟩] at fin
            exact fin
          have n3 : ¬ (2 < g1 ∧ ks = []) := fun z => h3 (decide_eq_true z.2)
          refine ⟨_, rfl, rfl, _, rfl, ?_⟩
          by_cases h4 : V.int g1 = V.int 4
          · rw [decide_eq_true h4]
            have e4 : g1 = 4 := by injection h4
            refine ⟨_, rfl, tt, _, rfl, .inr (SqT.of (s2 _ _ ht)), _, _, rfl, rfl, (by show (0 : Int) < 2; decide), rfl, _, rfl, ite2 (fun h5 => ?_) (fun h5 => ?_)⟩
            · have h6 : V.int (((tupN ks).length : Int) % 2) = V.int 0 := of_decide_eq_true h5
              have h7 : ((tupN ks).length : Int) % 2 = 0 := by injection h6
              rw [tupN_len] at h7
              have fin := q _ s2
              unfold wildF at fin
              rw [if_neg n1, if_neg n3, if_pos ⟨e4, by omega⟩] at fin
              exact fin
            · have h7 : ¬ ((tupN ks).length : Int) % 2 = 0 := fun z => h5 (decide_eq_true (by
                show V.int (((tupN ks).length : Int) % 2) = V.int 0
                rw [z]))
              rw [tupN_len] at h7
              refine ⟨_, rfl, _, rfl, g3, tt, ks, rfl, g30, hg3, (s2 _ _ ht), hk, fun H3 s3 => ?_⟩
              have fin := q H3 (fun b o e => s3 _ _ (s2 b o e))
              unfold wildF at fin
              rw [if_neg n1, if_neg n3, if_neg (fun z => h7 (by omega))] at fin
              exact fin
          · rw [decide_eq_false h4]
            have e4 : ¬ g1 = 4 := fun z => h4 (by rw [z])
            refine ⟨_, rfl, _, rfl, g3, tt, ks, rfl, g30, hg3, (s2 _ _ ht), hk, fun H3 s3 => ?_⟩
            have fin := q H3 (fun b o e => s3 _ _ (s2 b o e))
            unfold wildF at fin
            rw [if_neg n1, if_neg n3, if_neg (fun z => e4 z.1)] at fin
            exact fin
        · rw [decide_eq_false h2]
          have n3 : ¬ (2 < g1 ∧ ks = []) := fun z => h2 z.1
          refine ⟨_, rfl, rfl, _, rfl, ?_⟩
          by_cases h4 : V.int g1 = V.int 4
          · rw [decide_eq_true h4]
            have e4 : g1 = 4 := by injection h4
            refine ⟨_, rfl, tt, _, rfl, .inr (SqT.of ht), _, _, rfl, rfl, (by show (0 : Int) < 2; decide), rfl, _, rfl, ite2 (fun h5 => ?_) (fun h5 => ?_)⟩
            · have h6 : V.int (((tupN ks).length : Int) % 2) = V.int 0 := of_decide_eq_true h5
              have h7 : ((tupN ks).length : Int) % 2 = 0 := by injection h6
              rw [tupN_len] at h7
              have fin := q _ (fun _ _ z => z : Same H1 H1)
              unfold wildF at fin
              rw [if_neg n1, if_neg n3, if_pos ⟨e4, by omega⟩] at fin
              exact fin
            · have h7 : ¬ ((tupN ks).length : Int) % 2 = 0 := fun z => h5 (decide_eq_true (by
                show V.int (((tupN ks).length : Int) % 2) = V.int 0
                rw [z]))
              rw [tupN_len] at h7
              refine ⟨_, rfl, _, rfl, g3, tt, ks, rfl, g30, hg3, ht, hk, fun H3 s3 => ?_⟩
              have fin := q H3 (fun b o e => s3 _ _ ((fun _ _ z => z : Same H1 H1) b o e))
              unfold wildF at fin
              rw [if_neg n1, if_neg n3, if_neg (fun z => h7 (by omega))] at fin
              exact fin
          · rw [decide_eq_false h4]
            have e4 : ¬ g1 = 4 := fun z => h4 (by rw [z])
            refine ⟨_, rfl, _, rfl, g3, tt, ks, rfl, g30, hg3, ht, hk, fun H3 s3 => ?_⟩
            have fin := q H3 (fun b o e => s3 _ _ ((fun _ _ z => z : Same H1 H1) b o e))
            unfold wildF at fin
            rw [if_neg n1, if_neg n3, if_neg (fun z => e4 z.1)] at fin
            exact fin
      · rcases List.mem_append.mp hb with z | z
        · exact newOld_of M4 T4 (KpM.of_but bA) (.inl (hS5 b z))
        · rcases List.mem_cons.mp z with z | z
          · rw [z]; exact newOld_of M5 T5 kM (.inr ⟨_, e2, trivial⟩)
          · rw [List.mem_singleton.mp z]
            exact .inr ⟨_, hS, trivial⟩
end
end My
set_option Elab.async false
set_option linter.all false
set_option maxRecDepth 100000
set_option maxHeartbeats 4000000
namespace My
open PySem L2
abbrev sTs : Stmt := top 40
abbrev qTs : Nat → Nat → Str := fun _ _ => (("_law_test" : Str) ++ ".<locals>.") ++ "_law_inner"
theorem small3000 {n : Nat} (h : n ≤ 3000) : n < sizeLine := by rw [sizeLine_eq]; omega
def spTest (F : List Nat → Str) (log : Addr) : Sp := fun vs H Q _ => ∃ (t : Addr) (ks : List Nat) (xs : List V), vs = [.ref t] ∧ H t = some (.tup (tupN ks)) ∧ Rising 0 120 ks ∧ H log = some (.lst xs) ∧ xs.length ≤ 3000 ∧ ∀ H', (∀ b o, H b = some o → b ≠ log → H' b = some o) → H' log = some (.lst (xs ++ [.ref t])) → Q (.str (F ks)) H'
theorem spTest_mono {F : List Nat → Str} {log : Addr} : SpMono (spTest F log) := by
  intro vs H Q Q' E E' hQ hE h
  obtain ⟨t, ks, xs, e, h1, h2, h3, h4, q⟩ := h
  exact ⟨t, ks, xs, e, h1, h2, h3, h4, fun H' k e => hQ _ _ (q H' k e)⟩
theorem test_over {F : List Nat → Str} {log : Addr} {vs : List V} {H : Hp} {S : List Addr} {Q : VK} {E : XK} (x : Exts H S) (h : spTest F log vs H Q E) : spOver H S (spTest F log) vs H Q E := by
  obtain ⟨t, ks, xs, e, ht, hk, hl, hn, q⟩ := h
  have hlS : log ∉ S := x.out hl (by intro φ z; cases z)
  refine ⟨t, ks, xs, e, exts_tup x ht, hk, x.hid hl (by intro φ z; cases z), hn, fun H1 k e1 => q _ (fun b o hb n => ?_) (by rw [over_out hlS]; exact e1)⟩
  by_cases hS : b ∈ S
  · rw [over_in hS]; exact hb
  · rw [over_out hS]; exact k b o (by rw [hid_out hS]; exact hb) n
structure TstAt (P : Program) (w : World) (K : PySem.W.Frag) (mg : Str → Option Value) (base : Heap) (H : Hp) (f : Addr) (D : List Addr) (F : List Nat → Str) (log : Addr) : Prop where
  run : ∀ H', (∀ b ∈ D, H' b = H b) → FnV K H' f ∧ FnH P w K mg base 4 f H' 1 (spTest F log)
  dom : ∀ b ∈ D, ∃ o, H b = some o ∧ Fix o
theorem TstAt.on {P : Program} {w : World} {K : PySem.W.Frag} {mg : Str → Option Value} {base : Heap} {H H' : Hp} {f log : Addr} {D : List Addr} {F : List Nat → Str} (T : TstAt P w K mg base H f D F log) (k : ∀ b ∈ D, H' b = H b) : TstAt P w K mg base H' f D F log where
  run := fun H2 k2 => T.run H2 fun b hb => (k2 b hb).trans (k b hb)
  dom := fun b hb => by rw [k b hb]; exact T.dom b hb
theorem TstAt.sm {P : Program} {w : World} {K : PySem.W.Frag} {mg : Str → Option Value} {base : Heap} {H H' : Hp} {f log : Addr} {D R : List Addr} {F : List Nat → Str} (T : TstAt P w K mg base H f D F log) (k : ∀ b o, H b = some o → b ∉ R → H' b = some o) (d : ∀ b ∈ R, b ∉ D) : TstAt P w K mg base H' f D F log :=
  T.on fun b hb => by
    obtain ⟨o, e, _⟩ := T.dom b hb
    rw [e]; exact k b o e fun z => d b z hb
def spTs (P : Program) (w : World) (K : PySem.W.Frag) (mg : Str → Option Value) (base : Heap) (Pt : Addr) : Sp := fun vs H Q _ => ∃ (log f : Addr) (D : List Addr) (F : List Nat → Str) (xs : List V), vs = [.ref log, .ref f] ∧ TellAt P w K mg base H f D F ∧ H log = some (.lst xs) ∧ log ∉ D ∧ TabAt H Pt qTs ∧
  ∀ (ft : Addr) (D' : List Addr) (H' : Hp), TstAt P w K mg base H' ft D' F log → (∀ b ∈ D', b ∈ D ∨ H b = none ∨ ∃ o, H b = some o ∧ Fix0 o) → TabAt H' Pt qTs → (∀ b o, H b = some o → b ≠ Pt → H' b = some o) → Q (.ref ft) H'
section
variable {P : Program} {w : World} {K : PySem.W.Frag} {mg : Str → Option Value} {base : Heap}
theorem scTs : FnScope ["_law_log", "_law_tell", "_law_inner"] ["_law_log", "_law_tell"] (defScope sTs) := ⟨rfl, rfl, rfl, by decide +kernel, rfl, by decide +kernel, by decide +kernel⟩
theorem test_clo {H : Hp} {f log tl c : Addr} {D : List Addr} {F : List Nat → Str} {fd : FuncData} {S : List Addr} {ar : Arguments} {body : List Stmt} {scope : Scope} {name qual : Str} {cl : List (Str × Addr)} {pm cdv ct : Value}
    (efd : fd = mkFn name qual ar (.stmts body) scope cl pm cdv ct) (L : LScope ["_law_some_here", "_law_log", "_law_tell"] ["_law_some_here"] ["_law_log", "_law_tell"] scope) (hbind : ∀ us : List Value, us.length = 1 → bindArgs (mkFn name qual ar (.stmts body) scope cl pm cdv ct) ⟨us, []⟩ = pure ((["_law_some_here"] : List Str).zip us))
    (hb : ∀ {A : Around} {outer : List Env} {s : Shared} {H0 : Hp} {E : XK}, Room 3 (A.deeper (PySem.W.envX qual scope s.heap.objs.size f cdv cl)) → PSs (cxL (CXe P w) P w K mg base ["_law_some_here", "_law_log", "_law_tell"] qual scope f cdv cl A outer s H0 E) body
      (tSeq (tDrop (tBM K "list" rAppend (tVar 1) (tCons (tVar 0) tNil))) (tRet (tCallF P w K mg base 3 E (tVar 2) (tCons (tVar 0) tNil)))))
    (C : CloT H f fd ["_law_log", "_law_tell"] [.ref log, .ref tl] S) (hc : fd.code = .ref c) (hcz : ∃ oc u, H c = some (.frz oc u)) (T : TellAt P w K mg base H tl D F) (hS : ∀ b ∈ S, b ∉ D) (hl : log ∉ D) :
    TstAt P w K mg base H f (S ++ c :: D) F log := by
  subst efd
  refine ⟨fun H' k => ?_, fun b hb => ?_⟩
  · have kS : ∀ b ∈ S, H' b = H b := fun b hb => k b (List.mem_append_left _ hb)
    have C' := C.fix hc kS (k c (List.mem_append_right _ List.mem_cons_self))
    have kD : ∀ b ∈ D, H' b = H b := fun b hb => k b (List.mem_append_right _ (List.mem_cons_of_mem _ hb))
    refine ⟨.inl ⟨_, C'.ob⟩, (clo_def (k := 3) (sp := spTest F log) L hbind C' fun A outer s vs Q E hr h => ?_).imp fun vs Q E h => test_over C'.sub h⟩
    obtain ⟨t, ks, xs, rfl, ht, hk, hlog, hn, q⟩ := h
    refine ⟨_, hb hr, ?_⟩
    refine ⟨_, rfl, .inl ⟨rfl, _, SqL.of hlog⟩, _, rfl, log, _, _, rfl, rfl, hlog, small3000 hn, ?_⟩
    have k1 : ∀ b ∈ D, (upd (hid H' S) log (.lst (xs ++ [V.ref t]))) b = H b := fun b hb => by
      have nb : b ≠ log := fun z => hl (by rw [← z]; exact hb)
      rw [upd_ne nb, hid_out (fun z => hS b z hb)]
      exact kD b hb
    obtain ⟨hf, FT⟩ := T.run _ k1
    refine ⟨_, rfl, tl, rfl, _, rfl, 1, spTell F, rfl, hf, FT, t, ks, rfl, ?_, hk, fun H2 s2 => q H2 (fun b o e n => s2 _ _ ?_) (s2 _ _ upd_same)⟩
    · rw [upd_ne (ne_of ht hlog (by intro z; cases z))]; exact ht
    · rw [upd_ne n]; exact e
  · rcases List.mem_append.mp hb with z | z
    · obtain ⟨φ, e⟩ := C.sub b z
      exact ⟨_, e, trivial⟩
    · rcases List.mem_cons.mp z with z | z
      · obtain ⟨oc, u, e⟩ := hcz
        rw [z]; exact ⟨_, e, trivial⟩
      · exact T.dom b z
theorem ok_ts (D : Df K mg "_law_test" sTs ["_law_log", "_law_tell"]) {c Pt : Addr} (hc : D.f.code = .ref c) (hC : PySem.W.CodeHd base c Pt) (hB : base.BuiltinsAt mg Pt) : FnOk P w K mg base CX0 1 D.a D.f ["_law_log", "_law_tell"] (spTs P w K mg base Pt) := by
  refine fnR_of D.F scTs (fun vs H Q E h => ?_) (fun A outer s H vs Q E hr h => ?_)
  · obtain ⟨log, f, D0, F, xs, rfl, _⟩ := h
    rfl
  · obtain ⟨log, f, D0, F, xs, rfl, hT, hlog, hD, hP, q⟩ := h
    refine ⟨_, pr_def rfl (qf := qTs) (i := 2) (c := c) (Pt := Pt) (clos := [("_law_tell", s.heap.objs.size + 2), ("_law_log", s.heap.objs.size + 1)]) (fs := ["_law_log", "_law_tell"]) (ix := [0, 1])
        (by exact ⟨hc, hC, hB, rfl, fun x a h => by
            have h := PySem.mem_of_lookup h
            simp only [List.mem_cons, List.not_mem_nil, or_false, Prod.mk.injEq] at h
            rcases h with ⟨rfl, rfl⟩ | ⟨rfl, rfl⟩ <;> rfl, fun y hy => by
            simp only [List.mem_cons, List.not_mem_nil, or_false] at hy
            rcases hy with rfl | rfl <;> exact ⟨rfl, (fun z => absurd z (show ¬ List.lookup (_ : Str) (defScope sTs).names = some NameKind.local by decide +kernel)), Or.inr (Or.inl rfl)⟩, fun i y h => by
          match i, h with
          | 0, h => exact ⟨0, rfl, h⟩
          | 1, h => exact ⟨1, rfl, h⟩, rfl, by decide +kernel, fun x a h => by
            have h := PySem.mem_of_lookup h
            simp only [List.mem_cons, List.not_mem_nil, or_false, Prod.mk.injEq] at h
            rcases h with ⟨rfl, rfl⟩ | ⟨rfl, rfl⟩ <;> simp, fun x a h => by
            have h := PySem.mem_of_lookup h
            simp only [List.mem_cons, List.not_mem_nil, or_false, Prod.mk.injEq] at h
            rcases h with ⟨rfl, rfl⟩ | ⟨rfl, rfl⟩ <;> exact Nat.le_add_right _ _⟩) rfl (by rfl) (by rfl) (by rfl) scTs.nd rfl rfl rfl, ?_⟩
    refine ⟨hP, [.ref log, .ref f], rfl, fun i j hij v hv => ?_, fun H5 g cl pm cv ct S T5 k5 hS5 C => ?_⟩
    · match i, hij with
      | 0, hij => cases hij; cases hv; rfl
      | 1, hij => cases hij; cases hv; rfl
    obtain ⟨ps, eP⟩ := hP.tbl
    obtain ⟨c2, oc, u, vs2, t2, e1, e2, _⟩ := id C.code
    have hSD : ∀ b ∈ S, b ∉ D0 := fun b hb z => by
      obtain ⟨o, e, _⟩ := hT.dom b z
      rw [hS5 b hb] at e; cases e
    have hT5 : TellAt P w K mg base H5 f D0 F := hT.sm (R := [Pt]) (fun b o e n => k5 b o e (fun z => n (List.mem_singleton.mpr z))) (fun b hb z => by
      rw [List.mem_singleton.mp hb] at z
      obtain ⟨o, e, fx⟩ := hT.dom Pt z
      rw [eP] at e; cases e; exact fx)
    refine q g _ H5 (test_clo rfl ⟨rfl, rfl, rfl, by decide +kernel, rfl, by decide +kernel, by decide +kernel, by decide +kernel, fun y hy => (show ∀ z ∈ Scope.names _, z.2 = NameKind.free → z.1 ∈ (["_law_log", "_law_tell"] : List Str) by decide +kernel) _ (PySem.mem_of_lookup hy) rfl⟩ (fun us hl => match us, hl with | [_], _ => rfl) (fun {A outer s H0 E} hr => ?_) C e1 ⟨_, _, e2⟩ hT5 hSD hD) (fun b hb => ?_) T5 k5
    · exact pss_cons (ps_expr (pe_bm PySem.F.plainAttrs_list PySem.F.slot_list_append PySem.F.type_list_append mt_append (pv 1) (pa_cons (pv 0) pa_nil))) (pss_one (ps_ret (pe_callF hr pass_cxL (pv 2) (pa_cons (pv 0) pa_nil))))
    · have hc2 : H c2 = none ∨ ∃ o, H c2 = some o ∧ Fix0 o := by
        cases e : H c2 with
        | none => exact .inl rfl
        | some o =>
          have ne : c2 ≠ Pt := fun zz => by
            obtain ⟨ps5, e5⟩ := T5.tbl
            rw [zz, e5] at e2; cases e2
          have := k5 c2 o e ne
          rw [e2] at this; cases this
          exact .inr ⟨_, rfl, trivial⟩
      rcases List.mem_append.mp hb with z | z
      · exact .inr (.inl (hS5 b z))
      · rcases List.mem_cons.mp z with z | z
        · rw [z]; exact .inr hc2
        · exact .inl z
end
end My
set_option Elab.async false
set_option linter.all false
set_option maxRecDepth 100000
set_option maxHeartbeats 4000000
namespace My
open PySem L2
def kvF (F : List Nat → Str) (as : List (List Nat)) : List (List Key × V) := as.map fun ks => (keyN ks, V.str (F ks))
theorem keyN_inj : ∀ {a b : List Nat}, keyN a = keyN b → a = b
  | [], [], _ => rfl
  | [], _ :: _, h => by unfold keyN at h; cases h
  | _ :: _, [], h => by unfold keyN at h; cases h
  | x :: a, y :: b, h => by
    unfold keyN at h
    rw [List.map_cons, List.map_cons] at h
    injection h with h1 h2
    injection h1 with h1
    have e : x = y := by omega
    rw [e, keyN_inj (a := a) (b := b) h2]
theorem valV_kvF (F : List Nat → Str) (ks : List Nat) : ∀ as : List (List Nat), valV (kvF F as) (keyN ks) = if ks ∈ as then some (V.str (F ks)) else none
  | [] => by simp [kvF, valV_nil]
  | a :: r => by
    show valV ((keyN a, V.str (F a)) :: kvF F r) (keyN ks) = _
    by_cases h : a = ks
    · rw [valV_pos (by rw [h]), if_pos (by rw [h]; exact List.mem_cons_self), h]
    · rw [valV_neg (fun z => h (keyN_inj z)), valV_kvF F ks r]
      by_cases h2 : ks ∈ r
      · rw [if_pos h2, if_pos (List.mem_cons_of_mem _ h2)]
      · rw [if_neg h2, if_neg (fun z => by rcases List.mem_cons.mp z with y | y; exact h y.symm; exact h2 y)]
theorem putK_kvF {F : List Nat → Str} {ks : List Nat} {as : List (List Nat)} (h : ks ∉ as) : putK (kvF F as) (keyN ks) (V.str (F ks)) = kvF F (as ++ [ks]) := by
  rw [putK_new _ (by rw [valV_kvF, if_neg h])]
  unfold kvF; rw [List.map_append]; rfl
def Rws (F : List Nat → Str) (H : Hp) (rs ts : List Addr) (as : List (List Nat)) : Prop := rs.length = as.length ∧ ∀ (i : Nat) r t ks, rs[i]? = some r → ts[i]? = some t → as[i]? = some ks → H r = some (.tup [.ref t, .str (F ks)])
theorem Rws.sm {F : List Nat → Str} {H H' : Hp} {rs ts : List Addr} {as : List (List Nat)} (h : Rws F H rs ts as) (k : ∀ a xs, H a = some (.tup xs) → H' a = some (.tup xs)) : Rws F H' rs ts as := ⟨h.1, fun i r t ks e1 e2 e3 => k _ _ (h.2 i r t ks e1 e2 e3)⟩
theorem Rws.snoc {F : List Nat → Str} {H : Hp} {rs ts : List Addr} {as : List (List Nat)} {r t : Addr} {ks : List Nat} (h : Rws F H rs ts as) (ht : ts.length = as.length) (hr : H r = some (.tup [.ref t, .str (F ks)])) : Rws F H (rs ++ [r]) (ts ++ [t]) (as ++ [ks]) := by
  refine ⟨by simp [h.1], fun i r' t' ks' e1 e2 e3 => ?_⟩
  by_cases hi : i < as.length
  · rw [List.getElem?_append_left (by rw [h.1]; exact hi)] at e1
    rw [List.getElem?_append_left (by rw [ht]; exact hi)] at e2
    rw [List.getElem?_append_left hi] at e3
    exact h.2 i r' t' ks' e1 e2 e3
  · have hz : i = as.length := by
      have := (List.getElem?_eq_some_iff.mp e3).1
      simp at this; omega
    subst hz
    rw [List.getElem?_append_right (by rw [h.1]; exact Nat.le_refl _), h.1, Nat.sub_self] at e1
    rw [List.getElem?_append_right (by rw [ht]; exact Nat.le_refl _), ht, Nat.sub_self] at e2
    rw [List.getElem?_append_right (Nat.le_refl _), Nat.sub_self] at e3
    cases e1; cases e2; cases e3; exact hr
structure Tri (P : Program) (w : World) (K : PySem.W.Frag) (mg : Str → Option Value) (base : Heap) (C : Addr) (H : Hp) (x dx dv lc lg ft : Addr) (D : List Addr) (F : List Nat → Str) (as : List (List Nat)) : Prop where
  tr : ∃ rs ts : List Addr, TrAt C H x dx (.ref ft) 20000 dv lc (kvF F as) (rs.map V.ref) false ∧ H lg = some (.lst (ts.map V.ref)) ∧ Tups H ts as ∧ Rws F H rs ts as
  nd : as.Nodup
  ris : ∀ ks ∈ as, Rising 0 120 ks
  tst : TstAt P w K mg base H ft D F lg
  vd : ∀ js, isVerd (.str (F js)) = true
  nD : x ∉ D ∧ dv ∉ D ∧ lc ∉ D ∧ lg ∉ D
  ne : lc ≠ lg
def Sm4 (x dv lc lg : Addr) (H H' : Hp) : Prop := ∀ b o, H b = some o → b ≠ x → b ≠ dv → b ≠ lc → b ≠ lg → H' b = some o
theorem Sm4.trans {x dv lc lg : Addr} {H H1 H2 : Hp} (a : Sm4 x dv lc lg H H1) (b : Sm4 x dv lc lg H1 H2) : Sm4 x dv lc lg H H2 := fun c o h n1 n2 n3 n4 => b c o (a c o h n1 n2 n3 n4) n1 n2 n3 n4
theorem Sm4.of {x dv lc lg : Addr} {H H1 : Hp} (s : Same H H1) : Sm4 x dv lc lg H H1 := fun c o h _ _ _ _ => s c o h
section
variable {P : Program} {w : World} {K : PySem.W.Frag} {mg : Str → Option Value} {base : Heap} {C : Addr} {H H' : Hp} {x dx dv lc lg ft : Addr} {D : List Addr} {F : List Nat → Str} {as : List (List Nat)}
theorem Tri.same (T : Tri P w K mg base C H x dx dv lc lg ft D F as) (s : Same H H') : Tri P w K mg base C H' x dx dv lc lg ft D F as where
  tr := by
    obtain ⟨rs, ts, a, b, c, d⟩ := T.tr
    exact ⟨rs, ts, ⟨s _ _ a.ins, s _ _ a.dic, s _ _ a.lst⟩, s _ _ b, c.sm fun _ _ e => s _ _ e, d.sm fun _ _ e => s _ _ e⟩
  nd := T.nd
  ris := T.ris
  tst := T.tst.sm (R := []) (fun b o e _ => s b o e) (fun b z => by simp at z)
  vd := T.vd
  nD := T.nD
  ne := T.ne
theorem Tri.tups (T : Tri P w K mg base C H x dx dv lc lg ft D F as) (k : Sm4 x dv lc lg H H') : ∀ a xs, H a = some (.tup xs) → H' a = some (.tup xs) := fun a xs e => by
  obtain ⟨rs, ts, t, b, _⟩ := T.tr
  exact k a _ e (ne_of e t.ins (by intro z; cases z)) (ne_of e t.dic (by intro z; cases z)) (ne_of e t.lst (by intro z; cases z)) (ne_of e b (by intro z; cases z))
theorem ask_tri {Bd Sn t : Addr} {ks : List Nat} {Q : VK} {E : XK} (T : Tri P w K mg base C H x dx dv lc lg ft D F as) (ht : H t = some (.tup (tupN ks))) (hk : Rising 0 120 ks) (hl : as.length ≤ 2900)
    (q : ∀ H', Tri P w K mg base C H' x dx dv lc lg ft D F (if ks ∈ as then as else as ++ [ks]) → Sm4 x dv lc lg H H' → Q (.str (F ks)) H') : spAsk P w K mg base 4 C Bd Sn [.ref x, .ref t] H Q E := by
  obtain ⟨rs, ts, A1, hlg, hT, hR⟩ := T.tr
  have lrs : (rs.map V.ref).length = as.length := by rw [List.length_map, hR.1]
  refine ⟨x, t, ks, rfl, ht, hk, ⟨dx, _, A1.ins, lk_no (by decide +kernel) (by decide +kernel) (by decide +kernel) (by decide +kernel) (by decide +kernel)⟩, x, dx, dv, lc, ft, t, 20000, ks, kvF F as, rs.map V.ref, rfl, A1, ht, by decide, by decide, by unfold kvF; rw [List.length_map]; omega, by rw [lrs]; omega, fun v hv => ?_, fun hv hm => ?_, fun hv _ => ?_⟩
  · rw [valV_kvF] at hv
    by_cases hm : ks ∈ as
    · rw [if_pos hm] at hv
      cases hv
      exact q H (by rw [if_pos hm]; exact T) (Sm4.of fun _ _ z => z)
    · rw [if_neg hm] at hv; cases hv
  · rw [lrs] at hm; omega
  · have hm : ks ∉ as := fun z => by rw [valV_kvF, if_pos z] at hv; cases hv
    have nxl : x ≠ lg := ne_of A1.ins hlg (by intro z; cases z)
    have nvx : dv ≠ x := ne_of A1.dic A1.ins (by intro z; cases z)
    have nvl : dv ≠ lc := ne_of A1.dic A1.lst (by intro z; cases z)
    have nvg : dv ≠ lg := ne_of A1.dic hlg (by intro z; cases z)
    have ncx : lc ≠ x := ne_of A1.lst A1.ins (by intro z; cases z)
    have kc : ∀ b ∈ D, (upd H x (.ins C dx (fsT (.ref ft) 20000 dv lc true))) b = H b := fun b hb => by
      have nb : b ≠ x := fun z => T.nD.1 (by rw [← z]; exact hb)
      rw [upd_ne nb]
    obtain ⟨hf, FT⟩ := T.tst.run _ kc
    refine ⟨x, dx, dv, lc, ft, 20000, .ref t, spTest F lg, rfl, A1.ins, ⟨hf, FT, spTest_mono⟩, ?_⟩
    refine ⟨t, ks, ts.map V.ref, rfl, by rw [upd_ne (ne_of ht A1.ins (by intro z; cases z))]; exact ht, hk, by rw [upd_ne (Ne.symm nxl)]; exact hlg, by rw [List.length_map, hT.1]; omega, fun H1 k1 e1 => ?_⟩
    have hx1 : H1 x = some (.ins C dx (fsT (.ref ft) 20000 dv lc true)) := k1 _ _ upd_same nxl
    refine ⟨hx1, ⟨_, .str _, rfl⟩, fun _ => ?_, fun z => by rw [T.vd] at z; cases z⟩
    have kH : ∀ b o, H b = some o → b ≠ x → b ≠ lg → (upd H1 x (.ins C dx (fsT (.ref ft) 20000 dv lc false))) b = some o := fun b o e n1 n2 => by
      rw [upd_ne n1]; exact k1 b o (by rw [upd_ne n1]; exact e) n2
    have hv2 := kH _ _ A1.dic nvx nvg
    have hc2 := kH _ _ A1.lst ncx T.ne
    have ht2 := kH _ _ ht (ne_of ht A1.ins (by intro z; cases z)) (ne_of ht hlg (by intro z; cases z))
    have hg2 : (upd H1 x (.ins C dx (fsT (.ref ft) 20000 dv lc false))) lg = some (.lst (ts.map V.ref ++ [.ref t])) := by rw [upd_ne (Ne.symm nxl)]; exact e1
    have hx2 : (upd H1 x (.ins C dx (fsT (.ref ft) 20000 dv lc false))) x = some (.ins C dx (fsT (.ref ft) 20000 dv lc false)) := upd_same
    generalize upd H1 x (.ins C dx (fsT (.ref ft) 20000 dv lc false)) = H2 at kH hv2 hc2 ht2 hg2 hx2 ⊢
    refine ⟨⟨hx2, hv2, hc2⟩, ht2, fun p H3 hp e3 => ?_⟩
    rw [putK_kvF hm] at e3
    have np : ∀ b o, H2 b = some o → b ≠ p := fun b o e => ne_of_none e hp
    -- what is where
    have at3 : ∀ b o, H2 b = some o → b ≠ dv → b ≠ lc → H3 b = some o := fun b o e n1 n2 => by rw [e3, upd_ne n2, upd_ne (np b o e), upd_ne n1]; exact e
    have hp3 : H3 p = some (.tup [.ref t, .str (F ks)]) := by rw [e3, upd_ne (Ne.symm (np _ _ hc2)), upd_same]
    have hv3 : H3 dv = some (.dT (kvF F (as ++ [ks]))) := by rw [e3, upd_ne nvl, upd_ne (np _ _ hv2), upd_same]
    have hc3 : H3 lc = some (.lst (rs.map V.ref ++ [.ref p])) := by rw [e3, upd_same]
    have hx3 := at3 _ _ hx2 (Ne.symm nvx) (Ne.symm ncx)
    have hg3 := at3 _ _ hg2 (Ne.symm nvg) (Ne.symm T.ne)
    have sm : Sm4 x dv lc lg H H3 := fun b o e n1 n2 n3 n4 => at3 b o (kH b o e n1 n4) n2 n3
    have tk := T.tups sm
    have ht3 := tk _ _ ht
    refine q H3 ?_ sm
    rw [if_neg hm]
    refine ⟨⟨rs ++ [p], ts ++ [t], ⟨hx3, hv3, by rw [List.map_append]; exact hc3⟩, by rw [List.map_append]; exact hg3, (hT.sm tk).snoc ht3, (hR.sm tk).snoc hT.1 hp3⟩, ?_, ?_, ?_, T.vd, T.nD, T.ne⟩
    · exact List.nodup_append.mpr ⟨T.nd, by simp, fun a ha b hb => by rw [List.mem_singleton.mp hb]; exact fun e => hm (e ▸ ha)⟩
    · intro a ha
      rcases List.mem_append.mp ha with z | z
      · exact T.ris a z
      · rw [List.mem_singleton.mp z]; exact hk
    · refine T.tst.sm (R := [x, dv, lc, lg]) (fun b o e n => ?_) (fun b hb => ?_)
      · simp only [List.mem_cons, List.not_mem_nil, or_false, not_or] at n
        exact sm b o e n.1 n.2.1 n.2.2.1 n.2.2.2
      · simp only [List.mem_cons, List.not_mem_nil, or_false] at hb
        rcases hb with z | z | z | z <;> rw [z]
        · exact T.nD.1
        · exact T.nD.2.1
        · exact T.nD.2.2.1
        · exact T.nD.2.2.2
end
end My
set_option Elab.async false
set_option linter.all false
set_option maxRecDepth 100000
set_option maxHeartbeats 4000000
namespace My
open PySem L2
abbrev sFl : Stmt := inClass (top 21) 2
abbrev sWTr : Stmt := top 22
abbrev sWV : Stmt := top 23
abbrev sWF : Stmt := top 24
structure TX where
  x : Addr
  dx : Addr
  dv : Addr
  lc : Addr
  lg : Addr
  ft : Addr
  D : List Addr
  F : List Nat → Str
abbrev TriA (P : Program) (w : World) (K : PySem.W.Frag) (mg : Str → Option Value) (base : Heap) (C : Addr) (H : Hp) (X : TX) (as : List (List Nat)) : Prop := Tri P w K mg base C H X.x X.dx X.dv X.lc X.lg X.ft X.D X.F as
abbrev SmX (X : TX) (H H' : Hp) : Prop := Sm4 X.x X.dv X.lc X.lg H H'
def asked (as : List (List Nat)) (ks : List Nat) : List (List Nat) := if ks ∈ as then as else as ++ [ks]
def addAll (as raw : List (List Nat)) : List (List Nat) := raw.foldl asked as
theorem addAll_snoc (as raw : List (List Nat)) (l : List Nat) : addAll as (raw ++ [l]) = asked (addAll as raw) l := by unfold addAll; rw [List.foldl_append]; rfl
theorem asked_len (as : List (List Nat)) (l : List Nat) : (asked as l).length ≤ as.length + 1 := by
  unfold asked; split
  · omega
  · simp
theorem addAll_len (as : List (List Nat)) : ∀ raw : List (List Nat), (addAll as raw).length ≤ as.length + raw.length := fun raw => by
  induction raw generalizing as with
  | nil => exact Nat.le_refl _
  | cons a r ih =>
    have h1 := ih (asked as a)
    have h2 := asked_len as a
    show (addAll (asked as a) r).length ≤ as.length + (r.length + 1)
    omega
structure Tm (K : PySem.W.Frag) (mg : Str → Option Value) extends T8 K mg where
  max : mg "max" = none
  sorted : mg "sorted" = none
  reversed : mg "reversed" = none
  aFl : Addr
  fFl : FuncData
  FFl : Fun K "fails" "Trials.fails" sFl aFl fFl
  mFl : Meth K C "fails" aFl
  bFl : Binds K fFl ["self", "parts"] []
  wtr : Df K mg "want_trials" sWTr ["thing"]
  wv : Df K mg "want_verdict" sWV ["trials", "parts", "wanted"]
  wf : Df K mg "want_failing" sWF ["trials", "parts"]
def spFl (P : Program) (w : World) (K : PySem.W.Frag) (mg : Str → Option Value) (base : Heap) (C : Addr) : Sp := fun vs H Q _ => ∃ (X : TX) (t : Addr) (ks : List Nat) (as : List (List Nat)), vs = [.ref X.x, .ref t] ∧ TriA P w K mg base C H X as ∧ H t = some (.tup (tupN ks)) ∧ Rising 0 120 ks ∧ as.length ≤ 2900 ∧
  ∀ H', TriA P w K mg base C H' X (asked as ks) → SmX X H H' → Q (.bl (decide (X.F ks = "fail"))) H'
def spWfT (P : Program) (w : World) (K : PySem.W.Frag) (mg : Str → Option Value) (base : Heap) (C : Addr) : Sp := fun vs H Q _ => ∃ (X : TX) (t : Addr) (ks : List Nat) (as : List (List Nat)), vs = [.ref X.x, .ref t] ∧ TriA P w K mg base C H X as ∧ H t = some (.tup (tupN ks)) ∧ Rising 0 120 ks ∧ as.length ≤ 2900 ∧ X.F ks = "fail" ∧
  ∀ H', TriA P w K mg base C H' X (asked as ks) → SmX X H H' → Q .non H'
section
variable {P : Program} {w : World} {K : PySem.W.Frag} {mg : Str → Option Value} {base : Heap}
theorem kit_self (C : Addr) : PySem.W.kitOne K (.ref C) (.ref C) = some true := by
  unfold PySem.W.kitOne
  rw [if_pos (by simp)]
theorem scFl : FnScope ["self", "parts"] ["self", "parts"] (defScope sFl) := ⟨rfl, rfl, rfl, by decide +kernel, rfl, by decide +kernel, by decide +kernel⟩
theorem ok_fl (T : Tm K mg) : FnOk P w K mg base (CXe P w) 8 T.aFl T.fFl ["self", "parts"] (spFl P w K mg base T.C) := by
  have GA : FnOk P w K mg base (CXe P w) 7 T.aAsk T.fAsk ["self", "parts"] (spAsk P w K mg base 4 T.C T.Bd.C T.Sn.C) := ok_ask T.toT8 (by decide)
  refine funE_ok T.FFl scFl (fun vs H Q E h => ?_) (fun cdv A outer s H vs Q E hr h => ?_)
  · obtain ⟨X, t, ks, as, rfl, _⟩ := h
    rfl
  · obtain ⟨X, t, ks, as, rfl, hX, ht, hk, hl, q⟩ := h
    refine ⟨_, pss_one (ps_ret (pe_cmpR op_eq (pe_meth (pv 0) T.cl T.mAsk GA hr T.bAsk .nil pass_cx (pa_cons (pv 1) pa_nil)) pe_str (nomark _))), ?_⟩
    obtain ⟨rs, ts, A1, _⟩ := hX.tr
    refine ⟨_, rfl, X.x, X.dx, _, rfl, A1.ins, lk_no (by decide +kernel) (by decide +kernel) (by decide +kernel) (by decide +kernel) (by decide +kernel), _, rfl, ask_tri hX ht hk hl fun H' T' s' => ?_⟩
    refine ⟨rfl, ?_⟩
    have e : decide (V.str (X.F ks) = V.str "fail") = decide (X.F ks = "fail") := by
      rw [decide_eq_decide]
      exact ⟨fun e => by injection e, fun e => by rw [e]⟩
    rw [e]
    exact q H' T' s'
theorem scWTr : FnScope ["thing"] ["thing"] (defScope sWTr) := ⟨rfl, rfl, rfl, by decide +kernel, rfl, by decide +kernel, by decide +kernel⟩
def spWTr (C : Addr) : Sp := fun vs H Q _ => ∃ (x dx : Addr) (fs : List (Str × V)), vs = [.ref x] ∧ H x = some (.ins C dx fs) ∧ Q .non H
theorem ok_wtr (T : Tm K mg) : FnOk P w K mg base CX0 1 T.wtr.a T.wtr.f ["thing"] (spWTr T.C) := by
  refine T.wtr.F.ok scWTr (fun vs H Q E h => ?_) (fun cdv A outer s H vs Q E hr h => ?_)
  · obtain ⟨x, dx, fs, rfl, _⟩ := h
    rfl
  · obtain ⟨x, dx, fs, rfl, hx, q⟩ := h
    refine ⟨_, pss_one (ps_if (pt_not (pt_val (pe_callB cr_isiC (by rfl) T.isinstance (by decide +kernel) (pa_cons (pv 0) (pa_cons (pe_glob (v := .ref T.C) (by rfl) T.gC rfl) pa_nil))))) pss_never pss_nil), ?_⟩
    exact ⟨_, rfl, _, T.C, _, _, rfl, .ins hx T.cl T.iA T.iN T.iT T.iM, kit_self T.C, _, rfl, q⟩
theorem scWV : FnScope ["trials", "parts", "wanted", "verdict"] ["trials", "parts", "wanted"] (defScope sWV) := ⟨rfl, rfl, rfl, by decide +kernel, rfl, by decide +kernel, by decide +kernel⟩
def spWvT (P : Program) (w : World) (K : PySem.W.Frag) (mg : Str → Option Value) (base : Heap) (C : Addr) : Sp := fun vs H Q _ => ∃ (X : TX) (t : Addr) (ks : List Nat) (as : List (List Nat)), vs = [.ref X.x, .ref t, .str (X.F ks)] ∧ TriA P w K mg base C H X as ∧ H t = some (.tup (tupN ks)) ∧ Rising 0 120 ks ∧ as.length ≤ 2900 ∧
  ∀ H', TriA P w K mg base C H' X (asked as ks) → SmX X H H' → Q .non H'
theorem ok_wv (T : Tm K mg) : FnOk P w K mg base (CXe P w) 8 T.wv.a T.wv.f ["trials", "parts", "wanted"] (spWvT P w K mg base T.C) := by
  have GA : FnOk P w K mg base (CXe P w) 7 T.aAsk T.fAsk ["self", "parts"] (spAsk P w K mg base 4 T.C T.Bd.C T.Sn.C) := ok_ask T.toT8 (by decide)
  refine funE_ok T.wv.F scWV (fun vs H Q E h => ?_) (fun cdv A outer s H vs Q E hr h => ?_)
  · obtain ⟨X, t, ks, as, rfl, _⟩ := h
    rfl
  · obtain ⟨X, t, ks, as, rfl, hX, ht, hk, hl, q⟩ := h
    refine ⟨_, pss_cons (ps_set (i := 3) scWV.nd rfl (Or.inl rfl) (pe_meth (pv 0) T.cl T.mAsk GA hr T.bAsk .nil pass_cx (pa_cons (pv 1) pa_nil)))
      (pss_one (ps_if (pt_cmpR op_ne (pv 3) (pv 2) (nomark _)) pss_never pss_nil)), ?_⟩
    obtain ⟨rs, ts, A1, _⟩ := hX.tr
    refine ⟨_, rfl, X.x, X.dx, _, rfl, A1.ins, lk_no (by decide +kernel) (by decide +kernel) (by decide +kernel) (by decide +kernel) (by decide +kernel), _, rfl, ask_tri hX ht hk hl fun H' T' s' => ?_⟩
    refine ⟨_, rfl, _, rfl, rfl, _, rfl, ?_⟩
    rw [decide_eq_true rfl]
    exact q H' T' s'
theorem scWF : FnScope ["trials", "parts"] ["trials", "parts"] (defScope sWF) := ⟨rfl, rfl, rfl, by decide +kernel, rfl, by decide +kernel, by decide +kernel⟩
theorem ok_wf (T : Tm K mg) : FnOk P w K mg base (CXe P w) 9 T.wf.a T.wf.f ["trials", "parts"] (spWfT P w K mg base T.C) := by
  have GV : FnOk P w K mg base (CXe P w) 8 T.wv.a T.wv.f ["trials", "parts", "wanted"] (spWvT P w K mg base T.C) := ok_wv T
  have GT1 : FnOk P w K mg base CX0 8 T.wtr.a T.wtr.f ["thing"] (spWTr T.C) := (ok_wtr T).mono (by decide)
  have GW : FnOk P w K mg base CX0 8 T.aWant T.fWant ["thing", "what", "count"] spWant := (ok_want T.toT8).mono (by decide)
  refine funE_ok T.wf.F scWF (fun vs H Q E h => ?_) (fun cdv A outer s H vs Q E hr h => ?_)
  · obtain ⟨X, t, ks, as, rfl, _⟩ := h
    rfl
  · obtain ⟨X, t, ks, as, rfl, hX, ht, hk, hl, hf, q⟩ := h
    refine ⟨_, pss_cons (ps_expr (pe_call GT1 hr (by rfl) T.wtr.g T.wtr.F.kp T.wtr.b .nil pass0 (pa_cons (pv 0) pa_nil)))
      (pss_cons (ps_expr (pe_call GW hr (by rfl) T.gWant T.FWant.kp T.bWant1 (.cons T.rWant .nil) pass0 (pa_cons (pv 1) (pa_cons pe_str pa_nil))))
      (pss_one (ps_expr (pe_call GV hr (by rfl) T.wv.g T.wv.F.kp T.wv.b .nil pass_cx (pa_cons (pv 0) (pa_cons (pv 1) (pa_cons pe_str pa_nil))))))), ?_⟩
    obtain ⟨rs, ts, A1, _⟩ := hX.tr
    refine ⟨_, rfl, X.x, X.dx, _, rfl, A1.ins, ?_⟩
    refine ⟨_, rfl, t, ks, _, rfl, ht, hk, ?_⟩
    exact ⟨_, rfl, _, rfl, X, t, ks, as, by rw [hf]; rfl, hX, ht, hk, hl, q⟩
end
end My
set_option Elab.async false
set_option linter.all false
set_option maxRecDepth 100000
set_option maxHeartbeats 4000000
namespace My
open PySem L2
theorem Rising.nodup {lo hi : Nat} {ks : List Nat} (h : Rising lo hi ks) : ks.Nodup := (rising_iff.mp h).1.imp fun h => by omega
section
variable {P : Program} {w : World} {K : PySem.W.Frag} {mg : Str → Option Value} {base : Heap}
theorem ne_cfg {K : PySem.W.Frag} {H : Hp} {a b : Addr} {ks js : List Nat} {Q : VK} (ha : H a = some (.tup (tupN ks))) (hb : H b = some (.tup (tupN js))) (hk : Rising 0 120 ks) (hj : Rising 0 120 js) (q : Q (.bl (!decide (ks = js))) H) : rNeD K (.ref a) (.ref b) H Q := by
  refine ⟨_, _, cfgD ha, cfgD hb, cfgS hk, cfgS hj, ?_⟩
  rw [eqv_tup]; exact q
end
end My
set_option Elab.async false
set_option linter.all false
set_option maxRecDepth 100000
set_option maxHeartbeats 4000000
namespace My
open PySem L2
theorem noP {σ : St} {H : Hp} {Q : Option Int → Hp → Prop} (h : Q none H) : tNoPart σ H Q := h
theorem catB {K : PySem.W.Frag} {H : Hp} {a b : Addr} {xs ys : List V} {Q : VK} (h : H a = some (.tup xs)) (h' : H b = some (.tup ys)) (hz : xs.length + ys.length ≤ 1000) (q : ∀ H' c, Same H H' → H' c = some (.tup (xs ++ ys)) → Q (.ref c) H') : rCatA K (.ref a) (.ref b) H Q :=
  ⟨a, b, xs, ys, rfl, rfl, SqT.of h, SqT.of h', Nat.le_trans hz (by decide), fun e => q H b (fun _ _ z => z) (by rw [e]; exact h'), fun e => q H a (fun _ _ z => z) (by rw [e, List.append_nil]; exact h), fun p hp => q _ p (Same.new hp) upd_same⟩
theorem cut_to {xs : List V} {k : Nat} (h : k ≤ xs.length) : cutV xs none (some ((k : Nat) : Int)) = xs.take k := by
  unfold cutV
  rw [HT.sIx_nat, Nat.min_eq_left h]
  show (xs.drop 0).take (k - 0) = _
  simp
end My
set_option Elab.async false
set_option linter.all false
set_option maxRecDepth 100000
set_option maxHeartbeats 4000000
namespace My
open PySem L2
theorem Rising.sub {lo hi : Nat} {a b : List Nat} (h : Rising lo hi b) (s : a.Sublist b) : Rising lo hi a := rising_iff.mpr ⟨(rising_iff.mp h).1.sublist s, fun k hk => (rising_iff.mp h).2 k (s.subset hk)⟩
theorem Rising.erase {lo hi : Nat} {ks : List Nat} (h : Rising lo hi ks) (i : Nat) : Rising lo hi (ks.eraseIdx i) := h.sub (List.eraseIdx_sublist _ _)
theorem Rising.le {hi : Nat} {ks : List Nat} (h : Rising 0 hi ks) : ks.length ≤ hi := by have := h.len (Nat.zero_le _); omega
theorem pe_callFX {X : Cx} {P : Program} {w : World} {K : PySem.W.Frag} {mg : Str → Option Value} {base : Heap} {k : Nat} {E : XK} {d : Str} {p pos : Pos} {e : Expr} {es : List Expr} {td : TE} {ta : TA} (e1 : X.prog = P) (e2 : X.w = w) (e3 : X.K = K) (e4 : X.mg = mg) (e5 : X.base = base) (hr : Room k X.A) (hx : Passes (CXe X.prog X.w) X E) (hd : PE X (.Name d p) td) (ha : PA X (e :: es) ta)
    (he : starEach (e :: es) X.env = (false, eval e X.env) :: starEach es X.env := by rfl) (hpl : (backTo pos (starEach es X.env)).any (·.1) = false := by rfl) :
    PE X (.Call (.Name d p) (e :: es) [] pos) (tCallF P w K mg base k E td ta) := by
  subst e1 e2 e3 e4 e5
  exact pe_callF hr hx hd ha he hpl
end My
set_option Elab.async false
set_option linter.all false
set_option maxRecDepth 100000
set_option maxHeartbeats 4000000
namespace My
open PySem L2
abbrev sRw : Stmt := inClass (top 21) 3
abbrev sLn : Stmt := inClass (top 21) 11
structure Tn (K : PySem.W.Frag) (mg : Str → Option Value) extends Tm K mg where
  aRw : Addr
  fRw : FuncData
  FRw : Fun K "rows" "Trials.rows" sRw aRw fRw
  mRw : Meth K C "rows" aRw
  bRw : Binds K fRw ["self"] []
  aLn : Addr
  fLn : FuncData
  FLn : Fun K "__len__" "Trials.__len__" sLn aLn fLn
  mLn : Meth K C "__len__" aLn
  bLn : Binds K fLn ["self"] []
def spRw (C : Addr) : Sp := fun vs H Q _ => ∃ (x dx dv lc : Addr) (ft : V) (m : Int) (cg : Bool) (rows : List V), vs = [.ref x] ∧ H x = some (.ins C dx (fsT ft m dv lc cg)) ∧ H lc = some (.lst rows) ∧ ∀ l, H l = none → Q (.ref l) (upd H l (.lst rows))
def spLn (C : Addr) : Sp := fun vs H Q _ => ∃ (x dx dv lc : Addr) (ft : V) (m : Int) (cg : Bool) (rows : List V), vs = [.ref x] ∧ H x = some (.ins C dx (fsT ft m dv lc cg)) ∧ H lc = some (.lst rows) ∧ Q (.int rows.length) H
section
variable {P : Program} {w : World} {K : PySem.W.Frag} {mg : Str → Option Value} {base : Heap}
theorem scRw : FnScope ["self"] ["self"] (defScope sRw) := ⟨rfl, rfl, rfl, by decide +kernel, rfl, by decide +kernel, by decide +kernel⟩
theorem scLn : FnScope ["self"] ["self"] (defScope sLn) := ⟨rfl, rfl, rfl, by decide +kernel, rfl, by decide +kernel, by decide +kernel⟩
theorem ok_rw (T : Tn K mg) : FnOk P w K mg base CX0 1 T.aRw T.fRw ["self"] (spRw T.C) := by
  refine T.FRw.ok scRw (fun vs H Q E h => ?_) (fun cdv A outer s H vs Q E hr h => ?_)
  · obtain ⟨x, dx, dv, lc, ft, m, cg, rows, rfl, _⟩ := h
    rfl
  · obtain ⟨x, dx, dv, lc, ft, m, cg, rows, rfl, hx, hl, q⟩ := h
    refine ⟨_, pss_one (ps_ret (pe_callTy call_list_of (by rfl) T.list (by decide +kernel) (pa_cons (pe_fld (pv 0) rfl) pa_nil))), ?_⟩
    exact ⟨_, rfl, x, T.C, dx, _, _, rfl, hx, T.cl, T.nCalled, lk_called, lc, _, rfl, .inl (SqL.of hl), q⟩
theorem ok_ln (T : Tn K mg) : FnOk P w K mg base CX0 1 T.aLn T.fLn ["self"] (spLn T.C) := by
  refine T.FLn.ok scLn (fun vs H Q E h => ?_) (fun cdv A outer s H vs Q E hr h => ?_)
  · obtain ⟨x, dx, dv, lc, ft, m, cg, rows, rfl, _⟩ := h
    rfl
  · obtain ⟨x, dx, dv, lc, ft, m, cg, rows, rfl, hx, hl, q⟩ := h
    refine ⟨_, pss_one (ps_ret (pe_callB call_len_seq (by rfl) T.bi.len PySem.boot_len (pa_cons (pe_fld (pv 0) rfl) pa_nil))), ?_⟩
    exact ⟨_, rfl, x, T.C, dx, _, _, rfl, hx, T.cl, T.nCalled, lk_called, lc, _, rfl, .inl (SqL.of hl), q⟩
end
end My
set_option Elab.async false
set_option linter.all false
set_option maxRecDepth 100000
set_option maxHeartbeats 4000000
namespace My
open PySem L2
def rowsD (F : List Nat → Str) (as : List (List Nat)) : List PyData := as.map fun ks => .tuple [.tuple ((intN ks).map PyData.int), .str (F ks)]
theorem shw_verd {x : Str} (h : isVerd (.str x) = true) : Shw (.str x) 0 200 := by
  have : x = "fail" ∨ x = "pass" ∨ x = "unresolved" := by
    unfold isVerd inV at h
    simp only [List.any_cons, List.any_nil, Bool.or_false, Bool.or_eq_true] at h
    rcases h with h | h | h
    · exact .inl (Eq.symm (by simpa [eqV] using h))
    · exact .inr (.inl (Eq.symm (by simpa [eqV] using h)))
    · exact .inr (.inr (Eq.symm (by simpa [eqV] using h)))
  rcases this with rfl | rfl | rfl <;> exact ⟨by decide +kernel, by decide +kernel, by decide +kernel, by decide +kernel, by decide +kernel, by decide +kernel⟩
theorem rowsD_shw {F : List Nat → Str} {as : List (List Nat)} (hv : ∀ ks, isVerd (.str (F ks)) = true) (h : ∀ c ∈ as, Rising 0 120 c) (hl : as.length ≤ 900) : Shw (.list (rowsD F as)) 3 3000000 := by
  have := shwAll_of (ds := rowsD F as) (dp := 2) (wt := 2842) fun d hd => by
    obtain ⟨c, hc, rfl⟩ := List.mem_map.mp hd
    have h1 := shwAll_cons (shwT (by decide) (h c hc)) (shwAll_cons ((shw_verd (hv c)).mono (Nat.zero_le 1) (Nat.le_refl _)) shwAll_nil)
    exact h1.tuple.mono (by decide) (by decide)
  have e : (rowsD F as).length = as.length := by unfold rowsD; rw [List.length_map]
  rw [e] at this
  exact this.list.mono (Nat.le_refl _) (by omega)
theorem rowsD_dp {K : PySem.W.Frag} {F : List Nat → Str} {H : Hp} : ∀ {rs ts : List Addr} {as : List (List Nat)}, ts.length = as.length → Tups H ts as → Rws F H rs ts as → DpAll K H (rs.map V.ref) (rowsD F as)
  | [], ts, [], _, _, _ => .nil
  | [], ts, _ :: _, _, _, h => by have := h.1; simp at this
  | _ :: _, ts, [], _, _, h => by have := h.1; simp at this
  | r :: rs, [], c :: as, e, _, _ => by simp at e
  | r :: rs, t :: ts, c :: as, e, hT, h => by
    have h0 := h.2 0 r t c rfl rfl rfl
    have t0 := hT.2 0 t c rfl rfl
    refine .cons (.tup (SqT.of h0) (.cons (.tup (SqT.of (by rw [← tupN_int]; exact t0)) (dpInts _)) (.cons (.str _) .nil))) (rowsD_dp (ts := ts) (by simpa using e) ⟨by simpa using e, fun i t c e1 e2 => hT.2 (i + 1) t c e1 e2⟩ ⟨by have := h.1; simpa using this, fun i r t ks e1 e2 e3 => h.2 (i + 1) r t ks e1 e2 e3⟩)
end My
set_option Elab.async false
set_option linter.all false
set_option maxRecDepth 100000
set_option maxHeartbeats 4000000
namespace My
open PySem L2
abbrev sStt : Stmt := top 41
def spStt : Sp := fun vs H Q _ => ∃ (m lC lL : Addr) (n z : Nat), vs = [.ref m, .int (z : Int)] ∧ MAt H m lC lL n ∧ n < 2 ^ 30 ∧ z ≤ 60 ∧
  ∀ (t : Addr) (ks : List Nat) (n' : Nat) (H' : Hp), H' t = some (.tup (tupN ks)) → Rising 0 z ks → n' ≤ n + 130 → MAt H' m lC lL n' → But m lL H H' → Q (.ref t) H'
theorem rising_range (z : Nat) : Rising 0 z (List.range z) := rising_iff.mpr ⟨List.pairwise_lt_range, fun k hk => ⟨Nat.zero_le _, List.mem_range.mp hk⟩⟩
section
variable {P : Program} {w : World} {K : PySem.W.Frag} {mg : Str → Option Value} {base : Heap}
theorem scStt : FnScope ["_law_m", "_law_size", "_law_some_here"] ["_law_m", "_law_size"] (defScope sStt) := ⟨rfl, rfl, rfl, by decide +kernel, rfl, by decide +kernel, by decide +kernel⟩
theorem ok_stt (bi : Bi mg) (D : Df K mg "_law_start" sStt ["_law_m", "_law_size"]) (DS : Df K mg "_law_some" sSome ["_law_m", "_law_size"]) (DX : Df K mg "_law_draw" sDraw ["_law_m", "_law_top"]) (DY : Df K mg "_law_mixed" sMixed ["_law_cell", "_law_k"]) : FnOk P w K mg base CX0 4 D.a D.f ["_law_m", "_law_size"] spStt := by
  have GS : FnOk P w K mg base CX0 3 DS.a DS.f ["_law_m", "_law_size"] spSome := ok_some DS.F bi DX.F DX.b DX.g DY.F DY.b DY.g
  have GX : FnOk P w K mg base CX0 3 DX.a DX.f ["_law_m", "_law_top"] spDraw := (ok_draw DX.F bi DY.F DY.b DY.g).mono (by decide)
  refine D.F.ok scStt (fun vs H Q E h => ?_) (fun cdv A outer s H vs Q E hr h => ?_)
  · obtain ⟨m, lC, lL, n, z, rfl, _⟩ := h
    rfl
  · obtain ⟨m, lC, lL, n, z, rfl, M, hn, hz, q⟩ := h
    refine ⟨_, pss_cons (ps_set (i := 2) scStt.nd rfl (Or.inl rfl) (pe_call GS hr (by rfl) DS.g DS.F.kp DS.b .nil pass0 (pa_cons (pv 0) (pa_cons (pv 1) pa_nil))))
      (pss_one (ps_ret (pe_ifExp (PW.pt (pw_or (pt_cmpR op_gt (pe_callB call_len_seq (by rfl) bi.len PySem.boot_len (pa_cons (pv 2) pa_nil)) pe_int (nomark _)) (pw_or1 (pt_cmpR op_eq (pe_call GX hr (by rfl) DX.g DX.F.kp DX.b .nil pass0 (pa_cons (pv 0) (pa_cons pe_int pa_nil))) pe_int (nomark _)))))
        (pv 2) (pe_callTy (cr_tupleR (by rfl)) (by rfl) bi.tuple (by decide +kernel) (pa_cons (pe_callTy cr_range1 (by rfl) bi.range (by decide +kernel) (pa_cons (pv 1) pa_nil)) pa_nil))))), ?_⟩
    refine ⟨_, rfl, _, rfl, m, lC, lL, n, z, rfl, M, by omega, by omega, fun t ks n1 H1 ht0 ht hk hn1 M1 b1 => ?_⟩
    refine ⟨_, rfl, t, _, rfl, .inr (SqT.of ht), ?_⟩
    refine ⟨_, _, rfl, rfl, _, rfl, ite2 (fun _ => ?_) (fun _ => ?_)⟩
    · exact ⟨_, rfl, q t ks n1 H1 ht hk (by omega) M1 b1⟩
    · refine ⟨_, rfl, m, lC, lL, n1, 3, rfl, M1, by omega, by decide, by decide, fun g H2 g0 g1 M2 b2 => ?_⟩
      refine ⟨rfl, _, rfl, ?_⟩
      refine ite2 (fun _ => ?_) (fun _ => ?_)
      · exact ⟨_, rfl, q t ks (n1 + 1) H2 (b2.tups M1 _ _ ht) hk (by omega) M2 (b1.trans b2)⟩
      · refine ⟨_, rfl, (z : Int), rfl, fun p hp => ⟨p, z, rfl, upd_same, by omega, fun l hl => ?_⟩⟩
        have s1 := Same.new (o := .rng 0 (z : Int)) hp
        have s2 := Same.new (o := .tup (upTo z)) hl
        have s12 := s1.trans s2
        exact q l (List.range z) (n1 + 1) _ upd_same (rising_range z) (by omega) ((M2.but s1).but s2) (b1.trans (b2.trans (But.of_same s12)))
end
end My
set_option Elab.async false
set_option linter.all false
set_option maxRecDepth 100000
set_option maxHeartbeats 4000000
namespace My
open PySem L2
theorem erase_diff : ∀ {ks : List Nat} {i n : Nat}, ks.Nodup → ks[i]? = some n → ks.eraseIdx i = diffN ks [n]
  | [], _, _, _, h => by simp at h
  | a :: r, 0, n, nd, h => by
    have h : a = n := by simpa using h
    subst h
    rw [List.nodup_cons] at nd
    unfold diffN
    rw [List.eraseIdx_cons_zero, List.filter_cons_of_neg (by simp)]
    exact (List.filter_eq_self.mpr fun k hk => by
      have : k ≠ a := fun z => nd.1 (z ▸ hk)
      simp [this]).symm
  | a :: r, i + 1, n, nd, h => by
    rw [List.nodup_cons] at nd
    have h : r[i]? = some n := by simpa using h
    have ne : a ≠ n := fun z => nd.1 (z ▸ List.mem_of_getElem? h)
    rw [List.eraseIdx_cons_succ, erase_diff nd.2 h]
    unfold diffN
    rw [List.filter_cons_of_pos (by simp [ne])]
theorem mem_asked {as : List (List Nat)} {ks c : List Nat} : c ∈ asked as ks ↔ c ∈ as ∨ c = ks := by
  unfold asked
  split
  · rename_i h
    exact ⟨.inl, fun z => z.elim id fun e => e ▸ h⟩
  · rw [List.mem_append, List.mem_singleton]
theorem mem_addAll : ∀ {raw as : List (List Nat)} {c : List Nat}, c ∈ addAll as raw ↔ c ∈ as ∨ c ∈ raw
  | [], as, c => ⟨.inl, fun z => z.elim id fun z => nomatch z⟩
  | r :: raw, as, c => by
    show c ∈ addAll (asked as r) raw ↔ _
    rw [mem_addAll, mem_asked, List.mem_cons, or_assoc]
theorem addAll_old : ∀ {raw as : List (List Nat)}, (∀ c ∈ raw, c ∈ as) → addAll as raw = as
  | [], _, _ => rfl
  | r :: raw, as, h => by
    have e : asked as r = as := by unfold asked; rw [if_pos (h r List.mem_cons_self)]
    show addAll (asked as r) raw = as
    rw [e]
    exact addAll_old fun c hc => h c (List.mem_cons_of_mem _ hc)
theorem asked_nil (ks : List Nat) : asked [] ks = [ks] := by unfold asked; rw [if_neg (by simp)]; rfl
theorem TabAt.keep {H H' : Hp} {Pt : Addr} {qf : Nat → Nat → Str} (T : TabAt H Pt qf) (k1 : ∀ ps, H Pt = some (.tbl ps) → H' Pt = some (.tbl ps)) (k2 : ∀ b oc u, H b = some (.frz oc u) → H' b = some (.frz oc u)) : TabAt H' Pt qf := by
  obtain ⟨ps, e, tr, tc⟩ := T
  refine ⟨ps, k1 _ e, tr, fun pos cv z => ?_⟩
  obtain ⟨c, oc, u, vs, t, z1, z2, z3⟩ := tc pos cv z
  exact ⟨c, oc, u, vs, t, z1, k2 _ _ _ z2, z3⟩
theorem mk_same {C x dx : Addr} {H H' : Hp} (hx : H x = none) (hd : H dx = none) (k : Kx x (upd (upd H dx (.own x)) x (.ins C dx [])) H') : Same H H' := fun b o hb => by
  have h1 : b ≠ x := ne_of_none hb hx
  exact k b o (by rw [upd_ne h1, upd_ne (ne_of_none hb hd)]; exact hb) h1
theorem upd_free {H : Hp} {a b : Addr} {o : HO} (h : upd H a o b = none) : H b = none ∧ b ≠ a := by
  have ne : b ≠ a := fun z => by rw [z, upd_same] at h; cases h
  rw [upd_ne ne] at h
  exact ⟨h, ne⟩
end My
set_option Elab.async false
set_option linter.all false
set_option maxRecDepth 100000
set_option maxHeartbeats 4000000
namespace My
open PySem L2
section
variable {P : Program} {w : World} {K : PySem.W.Frag} {mg : Str → Option Value} {base : Heap}
theorem tri_made {C Ps f lg ft x dx dv lc : Addr} {D D' : List Addr} {F : List Nat → Str} {H2 H3 H4 : Hp} (hv : ∀ js, isVerd (.str (F js)) = true) (hF2 : TellAt P w K mg base H2 f D F) (hlg2 : H2 lg = some (.lst [])) (lgD : lg ∉ D) (TS2 : TabAt H2 Ps qTs)
    (hT3 : TstAt P w K mg base H3 ft D' F lg) (hD3 : ∀ b ∈ D', b ∈ D ∨ H2 b = none ∨ ∃ o, H2 b = some o ∧ Fix0 o) (TS3 : TabAt H3 Ps qTs) (k3 : ∀ b o, H2 b = some o → b ≠ Ps → H3 b = some o)
    (hx : H3 x = none) (hdx : H3 dx = none) (hdv : upd (upd H3 dx (.own x)) x (.ins C dx []) dv = none) (hlc : upd (upd H3 dx (.own x)) x (.ins C dx []) lc = none) (k4 : Kx x (upd (upd H3 dx (.own x)) x (.ins C dx [])) H4) (A4 : TrAt C H4 x dx (.ref ft) 20000 dv lc [] [] false) :
    TriA P w K mg base C H4 ⟨x, dx, dv, lc, lg, ft, D', F⟩ [] ∧ (∀ b o, H2 b = some o → b ≠ Ps → H4 b = some o ∧ b ≠ x ∧ b ≠ dv ∧ b ≠ lc) ∧ TabAt H4 Ps qTs ∧ TellAt P w K mg base H4 f D F ∧ Same H3 H4 ∧ Ps ∉ D := by
  obtain ⟨pss, ePs⟩ := TS2.tbl
  have s4 := mk_same hx hdx k4
  obtain ⟨hdv1, nvx⟩ := upd_free hdv
  obtain ⟨hdv3, _⟩ := upd_free hdv1
  obtain ⟨hlc1, ncx⟩ := upd_free hlc
  obtain ⟨hlc3, _⟩ := upd_free hlc1
  have kx4 : ∀ b o, H2 b = some o → b ≠ Ps → H4 b = some o ∧ b ≠ x ∧ b ≠ dv ∧ b ≠ lc := fun b o e n => by
    have e3 := k3 b o e n
    exact ⟨s4 _ _ e3, ne_of_none e3 hx, ne_of_none e3 hdv3, ne_of_none e3 hlc3⟩
  have lgP : lg ≠ Ps := fun z => by rw [z, ePs] at hlg2; cases hlg2
  have PsD : Ps ∉ D := fun z => by
    obtain ⟨o, e, fx⟩ := hF2.dom _ z
    rw [ePs] at e; cases e; exact fx
  have hlg3 := k3 _ _ hlg2 lgP
  have nD' : ∀ b, H3 b = none → b ∉ D' := fun b e z => by
    obtain ⟨o, e2, _⟩ := hT3.dom b z
    rw [e] at e2; cases e2
  have lgD' : lg ∉ D' := fun z => by
    rcases hD3 lg z with h | h | ⟨o, h, fx⟩
    · exact lgD h
    · rw [hlg2] at h; cases h
    · rw [hlg2] at h; cases h; exact fx
  refine ⟨{
      tr := ⟨[], [], A4, s4 _ _ hlg3, Tups.nil, ⟨rfl, fun i r t ks e _ _ => by simp at e⟩⟩
      nd := List.nodup_nil
      ris := fun ks h => nomatch h
      tst := hT3.sm (R := []) (fun b o e _ => s4 b o e) (fun b z => by simp at z)
      vd := hv
      nD := ⟨nD' _ hx, nD' _ hdv3, nD' _ hlc3, lgD'⟩
      ne := fun z => by have z : lc = lg := z; rw [z, hlg3] at hlc3; cases hlc3 }, kx4, TS3.keep (fun ps e => s4 _ _ e) (fun b oc u e => s4 _ _ e), hF2.sm (R := [Ps]) (fun b o e n => (kx4 b o e fun z => n (List.mem_singleton.mpr z)).1) (fun b hb => by rw [List.mem_singleton.mp hb]; exact PsD), s4, PsD⟩
theorem TabAt.smx {C Ps : Addr} {H H' : Hp} {X : TX} {as : List (List Nat)} {qf : Nat → Nat → Str} (T : TabAt H Ps qf) (hX : TriA P w K mg base C H X as) (s : SmX X H H') : TabAt H' Ps qf := by
  obtain ⟨rs, ts, a, b, _⟩ := hX.tr
  exact T.keep (fun ps e => s _ _ e (ne_of e a.ins (by intro z; cases z)) (ne_of e a.dic (by intro z; cases z)) (ne_of e a.lst (by intro z; cases z)) (ne_of e b (by intro z; cases z)))
    (fun c oc u e => s _ _ e (ne_of e a.ins (by intro z; cases z)) (ne_of e a.dic (by intro z; cases z)) (ne_of e a.lst (by intro z; cases z)) (ne_of e b (by intro z; cases z)))
end
end My
set_option Elab.async false
set_option linter.all false
set_option maxRecDepth 100000
set_option maxHeartbeats 4000000
namespace My
open PySem L2
def shR (F : List Nat → Str) (a k : List Nat) : Nat → Nat → Nat → List (List Nat) → Nat × List (List Nat)
  | 0, _, hi, raw => (hi, raw)
  | fu + 1, lo, hi, raw => if 1 < hi - lo then (if F (a.take ((lo + hi) / 2) ++ k) = "fail" then shR F a k fu lo ((lo + hi) / 2) (raw ++ [a.take ((lo + hi) / 2) ++ k]) else shR F a k fu ((lo + hi) / 2) hi (raw ++ [a.take ((lo + hi) / 2) ++ k])) else (hi, raw)
def shO (F : List Nat → Str) (a k : List Nat) (raw : List (List Nat)) : Nat × List (List Nat) := shR F a k a.length 0 a.length raw
def qkR (F : List Nat → Str) : Nat → List Nat → List Nat → List (List Nat) → List Nat × List (List Nat)
  | 0, _, k, raw => (k, raw)
  | fu + 1, a, k, raw => if a = [] then (k, raw) else if F k = "fail" then (k, raw ++ [k]) else qkR F fu (a.take ((shO F a k (raw ++ [k])).1 - 1)) (a.getD ((shO F a k (raw ++ [k])).1 - 1) 0 :: k) (shO F a k (raw ++ [k])).2
def qkO (F : List Nat → Str) (ks : List Nat) : List Nat × List (List Nat) := qkR F (ks.length + 1) ks [] []
structure ShI (F : List Nat → Str) (a k : List Nat) (h : Nat) : Prop where
  pos : 1 ≤ h
  le : h ≤ a.length
  fail : F (a.take h ++ k) = "fail"
  not : F (a.take (h - 1) ++ k) ≠ "fail"
theorem shR_spec {F : List Nat → Str} {a k : List Nat} : ∀ {fu lo hi : Nat} {raw : List (List Nat)}, hi - lo ≤ fu → lo < hi → hi ≤ a.length → F (a.take hi ++ k) = "fail" → F (a.take lo ++ k) ≠ "fail" → ShI F a k (shR F a k fu lo hi raw).1
  | 0, lo, hi, raw, h1, h2, h3, h4, h5 => by omega
  | fu + 1, lo, hi, raw, h1, h2, h3, h4, h5 => by
    unfold shR
    split
    · split
      · rename_i h6 h7
        exact shR_spec (by omega) (by omega) (by omega) h7 h5
      · rename_i h6 h7
        exact shR_spec (by omega) (by omega) (by omega) h4 h7
    · rename_i h6
      have : lo = hi - 1 := by omega
      exact ⟨by omega, h3, h4, this ▸ h5⟩
theorem shR_len {F : List Nat → Str} {a k : List Nat} : ∀ {L fu lo hi : Nat} {raw : List (List Nat)}, hi - lo ≤ 2 ^ L → (shR F a k fu lo hi raw).2.length ≤ raw.length + L
  | L, 0, lo, hi, raw, h => by unfold shR; exact Nat.le_add_right _ _
  | 0, fu + 1, lo, hi, raw, h => by
    unfold shR
    rw [if_neg (by simp at h; omega)]
    exact Nat.le_refl _
  | L + 1, fu + 1, lo, hi, raw, h => by
    have h : hi - lo ≤ 2 ^ L * 2 := h
    unfold shR
    split
    · split
      · have := shR_len (F := F) (a := a) (k := k) (L := L) (fu := fu) (lo := lo) (hi := (lo + hi) / 2) (raw := raw ++ [a.take ((lo + hi) / 2) ++ k]) (by omega)
        rw [List.length_append, List.length_singleton] at this
        omega
      · have := shR_len (F := F) (a := a) (k := k) (L := L) (fu := fu) (lo := (lo + hi) / 2) (hi := hi) (raw := raw ++ [a.take ((lo + hi) / 2) ++ k]) (by omega)
        rw [List.length_append, List.length_singleton] at this
        omega
    · exact Nat.le_add_right _ _
theorem shR_mem {F : List Nat → Str} {a k : List Nat} {p : List Nat → Prop} (hp : ∀ i, p (a.take i ++ k)) : ∀ {fu lo hi : Nat} {raw : List (List Nat)}, (∀ c ∈ raw, p c) → ∀ c ∈ (shR F a k fu lo hi raw).2, p c
  | 0, lo, hi, raw, h => by unfold shR; exact h
  | fu + 1, lo, hi, raw, h => by
    have h2 : ∀ c ∈ raw ++ [a.take ((lo + hi) / 2) ++ k], p c := fun c hc => by
      rcases List.mem_append.mp hc with z | z
      · exact h c z
      · rw [List.mem_singleton.mp z]; exact hp _
    unfold shR
    split
    · split
      · exact shR_mem hp h2
      · exact shR_mem hp h2
    · exact h
theorem shO_spec {F : List Nat → Str} {a k : List Nat} {raw : List (List Nat)} (ha : a ≠ []) (h : F (a ++ k) = "fail") (hn : F k ≠ "fail") : ShI F a k (shO F a k raw).1 :=
  shR_spec (Nat.le_refl _) (List.length_pos_iff.mpr ha) (Nat.le_refl _) (by rw [List.take_length]; exact h) (by rw [List.take_zero]; exact hn)
theorem take_pred {a : List Nat} {h : Nat} (h1 : 1 ≤ h) (h2 : h ≤ a.length) (k : List Nat) : a.take (h - 1) ++ a.getD (h - 1) 0 :: k = a.take h ++ k := by
  obtain ⟨j, rfl⟩ : ∃ j, h = j + 1 := ⟨h - 1, by omega⟩
  have hj : j < a.length := by omega
  rw [Nat.add_sub_cancel, List.take_succ_eq_append_getElem hj, List.append_assoc, List.getD_eq_getElem?_getD, List.getElem?_eq_getElem hj]
  rfl
structure QkI (F : List Nat → Str) (ks p : List Nat) (raw : List (List Nat)) : Prop where
  fail : F p = "fail"
  sub : p.Sublist ks
  all : ∀ c ∈ raw, c.Sublist ks
theorem qkR_spec {F : List Nat → Str} {ks : List Nat} : ∀ {fu : Nat} {a k : List Nat} {raw : List (List Nat)}, a.length < fu → F (a ++ k) = "fail" → (a ++ k).Sublist ks → (∀ c ∈ raw, c.Sublist ks) → QkI F ks (qkR F fu a k raw).1 (qkR F fu a k raw).2
  | 0, a, k, raw, h1, _, _, _ => by omega
  | fu + 1, a, k, raw, h1, h2, h3, h4 => by
    unfold qkR
    have hk : k.Sublist ks := (List.sublist_append_right a k).trans h3
    have h5 : ∀ c ∈ raw ++ [k], c.Sublist ks := fun c hc => by
      rcases List.mem_append.mp hc with z | z
      · exact h4 c z
      · rw [List.mem_singleton.mp z]; exact hk
    split
    · rename_i e
      rw [e] at h2
      exact ⟨h2, hk, h4⟩
    · split
      · rename_i e1 e2
        exact ⟨e2, hk, h5⟩
      · rename_i e1 e2
        have S := shO_spec (raw := raw ++ [k]) e1 h2 e2
        have h6 : ∀ c ∈ (shO F a k (raw ++ [k])).2, c.Sublist ks := shR_mem (p := fun c => c.Sublist ks) (fun i => ((List.take_sublist i a).append_right k).trans h3) h5
        refine qkR_spec ?_ ?_ ?_ h6
        · rw [List.length_take]; have := S.pos; have := S.le; omega
        · rw [take_pred S.pos S.le]; exact S.fail
        · rw [take_pred S.pos S.le]; exact ((List.take_sublist _ a).append_right k).trans h3
theorem qkR_len {F : List Nat → Str} {L : Nat} : ∀ {fu : Nat} {a k : List Nat} {raw : List (List Nat)}, a.length < fu → F (a ++ k) = "fail" → a.length ≤ 2 ^ L → (qkR F fu a k raw).2.length + k.length * (1 + L) ≤ raw.length + (qkR F fu a k raw).1.length * (1 + L) + 1
  | 0, a, k, raw, h1, _, _ => by omega
  | fu + 1, a, k, raw, h1, h2, h3 => by
    unfold qkR
    split
    · show raw.length + k.length * (1 + L) ≤ raw.length + k.length * (1 + L) + 1; omega
    · split
      · show (raw ++ [k]).length + k.length * (1 + L) ≤ raw.length + k.length * (1 + L) + 1
        rw [List.length_append, List.length_singleton]; omega
      · rename_i e1 e2
        have S := shO_spec (raw := raw ++ [k]) e1 h2 e2
        have hl : (shO F a k (raw ++ [k])).2.length ≤ (raw ++ [k]).length + L := shR_len (by omega)
        rw [List.length_append, List.length_singleton] at hl
        have ih := qkR_len (F := F) (L := L) (fu := fu) (a := a.take ((shO F a k (raw ++ [k])).1 - 1)) (k := a.getD ((shO F a k (raw ++ [k])).1 - 1) 0 :: k) (raw := (shO F a k (raw ++ [k])).2)
          (by rw [List.length_take]; have := S.pos; have := S.le; omega) (by rw [take_pred S.pos S.le]; exact S.fail) (by rw [List.length_take]; omega)
        rw [List.length_cons, Nat.succ_mul] at ih
        omega
theorem qkO_len {F : List Nat → Str} {ks : List Nat} {L : Nat} (h : F ks = "fail") (h2 : ks.length ≤ 2 ^ L) : (qkO F ks).2.length ≤ 2 * (qkO F ks).1.length * L + 1 := by
  cases L with
  | succ L =>
    have := qkR_len (F := F) (L := L + 1) (fu := ks.length + 1) (a := ks) (k := []) (raw := []) (by omega) (by rw [List.append_nil]; exact h) h2
    show (qkR F (ks.length + 1) ks [] []).2.length ≤ 2 * (qkR F (ks.length + 1) ks [] []).1.length * (L + 1) + 1
    generalize (qkR F (ks.length + 1) ks [] []).1.length = n at this ⊢
    simp only [List.length_nil, Nat.zero_mul, Nat.add_zero, Nat.zero_add] at this
    have e : n * (1 + (L + 1)) ≤ n * (2 * (L + 1)) := Nat.mul_le_mul_left n (by omega)
    have e2 : 2 * n * (L + 1) = n * (2 * (L + 1)) := by rw [Nat.mul_comm 2 n, Nat.mul_assoc]
    omega
  | zero =>
    rw [Nat.mul_zero]
    match ks, h, h2 with
    | [], _, _ => exact Nat.zero_le 1
    | [x], h, _ =>
      show (qkR F 2 [x] [] []).2.length ≤ 0 + 1
      unfold qkR
      rw [if_neg (by simp)]
      split
      · exact Nat.le_refl 1
      · show (qkR F 1 [] _ [[]]).2.length ≤ 1
        unfold qkR
        rw [if_pos rfl]
        exact Nat.le_refl 1
    | _ :: _ :: _, _, h2 => simp at h2
def Mono (F : List Nat → Str) : Prop := ∀ s t : List Nat, (∀ x ∈ s, x ∈ t) → F s = "fail" → F t = "fail"
def loG (F : List Nat → Str) : List Nat → List Nat → List Nat
  | k, [] => k
  | k, x :: rb => if F (rb.reverse ++ k) = "fail" then loG F k rb else loG F (x :: k) rb
def loS (F : List Nat → Str) (now : List Nat) (x : Nat) : List Nat := if F (diffN now [x]) = "fail" then diffN now [x] else now
theorem loG_skip {F : List Nat → Str} (M : Mono F) {p k : List Nat} (h : F (p ++ k) = "fail") : ∀ r : List Nat, loG F k (r ++ p.reverse) = loG F k p.reverse
  | [] => rfl
  | x :: r => by
    show loG F k (x :: (r ++ p.reverse)) = _
    rw [loG, if_pos (M _ _ (fun y hy => ?_) h)]
    · exact loG_skip M h r
    · simp only [List.reverse_append, List.reverse_reverse, List.mem_append] at hy ⊢
      rcases hy with z | z
      · exact .inl (.inl z)
      · exact .inr z
theorem loG_all {F : List Nat → Str} (M : Mono F) {k : List Nat} (h : F k = "fail") (r : List Nat) : loG F k r = k := by
  have := loG_skip M (p := []) (k := k) h r
  rw [List.reverse_nil, List.append_nil] at this
  exact this
theorem qkR_loG {F : List Nat → Str} (M : Mono F) : ∀ {fu : Nat} {a k : List Nat} {raw : List (List Nat)}, a.length < fu → F (a ++ k) = "fail" → (qkR F fu a k raw).1 = loG F k a.reverse
  | 0, a, k, raw, h1, _ => by omega
  | fu + 1, a, k, raw, h1, h2 => by
    unfold qkR
    split
    · rename_i e; rw [e]; rfl
    · split
      · rename_i e1 e2
        exact (loG_all M e2 _).symm
      · rename_i e1 e2
        have S := shO_spec (raw := raw ++ [k]) e1 h2 e2
        rw [qkR_loG M (by rw [List.length_take]; have := S.pos; have := S.le; omega) (by rw [take_pred S.pos S.le]; exact S.fail)]
        generalize (shO F a k (raw ++ [k])).1 = h at S
        have e3 : a.reverse = (a.drop h).reverse ++ (a.take h).reverse := by rw [← List.reverse_append, List.take_append_drop]
        rw [e3, loG_skip M S.fail]
        have e4 := take_pred S.pos S.le []
        rw [List.append_nil] at e4
        rw [← e4, List.reverse_append]
        show _ = loG F k (a.getD (h - 1) 0 :: (a.take (h - 1)).reverse)
        rw [loG, if_neg (by rw [List.reverse_reverse]; exact S.not)]
theorem diff_last {b k : List Nat} {x : Nat} (h : (b ++ x :: k).Nodup) : diffN (b ++ x :: k) [x] = b ++ k := by
  have e : (b ++ x :: k)[b.length]? = some x := by rw [List.getElem?_append_right (Nat.le_refl _), Nat.sub_self]; rfl
  rw [← erase_diff h e, List.eraseIdx_append_of_length_le (Nat.le_refl _), Nat.sub_self]
  rfl
theorem loS_loG {F : List Nat → Str} : ∀ {r k : List Nat}, (r.reverse ++ k).Nodup → r.foldl (loS F) (r.reverse ++ k) = loG F k r
  | [], k, _ => rfl
  | x :: r, k, h => by
    have e : (x :: r).reverse ++ k = r.reverse ++ x :: k := by rw [List.reverse_cons, List.append_assoc]; rfl
    rw [e] at h ⊢
    have h2 : (r.reverse ++ k).Nodup := h.sublist ((List.sublist_cons_self x k).append_left r.reverse)
    rw [List.foldl_cons, loG]
    unfold loS
    rw [diff_last h]
    split
    · exact loS_loG h2
    · exact loS_loG h
def loO (F : List Nat → Str) (ks : List Nat) : List Nat := ks.reverse.foldl (loS F) ks
theorem loO_qk {F : List Nat → Str} (M : Mono F) {ks : List Nat} (nd : ks.Nodup) (h : F ks = "fail") : (qkO F ks).1 = loO F ks := by
  unfold qkO loO
  rw [qkR_loG M (Nat.lt_succ_self _) (by rw [List.append_nil]; exact h)]
  have := loS_loG (F := F) (r := ks.reverse) (k := []) (by rw [List.reverse_reverse, List.append_nil]; exact nd)
  rw [List.reverse_reverse, List.append_nil] at this
  exact this.symm
theorem mono_tells (cs : List (List Nat)) : Mono (tells cs) := fun s t hs h => by
  unfold tells at h ⊢
  split at h
  · rename_i h1
    rw [if_pos]
    rw [List.any_eq_true] at h1 ⊢
    obtain ⟨c, hc, e⟩ := h1
    refine ⟨c, hc, ?_⟩
    rw [List.isEmpty_iff] at e ⊢
    unfold diffN at e ⊢
    rw [List.filter_eq_nil_iff] at e ⊢
    intro k hk z
    refine e k hk ?_
    simp only [Bool.not_eq_true', decide_eq_false_iff_not] at z ⊢
    exact fun y => z (hs k y)
  · exact absurd h (by decide +kernel)
theorem qkO_spec {F : List Nat → Str} {ks : List Nat} (h : F ks = "fail") : QkI F ks (qkO F ks).1 (qkO F ks).2 :=
  qkR_spec (Nat.lt_succ_self _) (by rw [List.append_nil]; exact h) (by rw [List.append_nil]; exact List.Sublist.refl _) fun c hc => nomatch hc
end My
set_option Elab.async false
set_option linter.all false
set_option maxRecDepth 100000
set_option maxHeartbeats 4000000
namespace My
open PySem L2
abbrev sSh : Stmt := top 26
abbrev sQk : Stmt := top 27
def spSh (P : Program) (w : World) (K : PySem.W.Frag) (mg : Str → Option Value) (base : Heap) (C : Addr) : Sp := fun vs H Q _ => ∃ (X : TX) (ta tk : Addr) (a k : List Nat) (as raw : List (List Nat)), vs = [.ref X.x, .ref ta, .ref tk] ∧ TriA P w K mg base C H X (addAll as raw) ∧ H ta = some (.tup (tupN a)) ∧ H tk = some (.tup (tupN k)) ∧ Rising 0 120 (a ++ k) ∧ as.length + raw.length + a.length ≤ 2900 ∧
  ∀ H', TriA P w K mg base C H' X (addAll as (shO X.F a k raw).2) → SmX X H H' → Q (.int (((shO X.F a k raw).1 : Nat) : Int)) H'
def spQk (P : Program) (w : World) (K : PySem.W.Frag) (mg : Str → Option Value) (base : Heap) (C : Addr) : Sp := fun vs H Q _ => ∃ (X : TX) (t : Addr) (ks : List Nat) (as : List (List Nat)), vs = [.ref X.x, .ref t] ∧ TriA P w K mg base C H X as ∧ H t = some (.tup (tupN ks)) ∧ Rising 0 120 ks ∧ as.length ≤ 2000 ∧ ks.length ≤ 20 ∧ X.F ks = "fail" ∧
  ∀ p H', H' p = some (.tup (tupN (qkO X.F ks).1)) → TriA P w K mg base C H' X (addAll (asked as ks) (qkO X.F ks).2) → SmX X H H' → Q (.ref p) H'
theorem tupN_take (a : List Nat) (i : Nat) : (tupN a).take i = tupN (a.take i) := by unfold tupN; rw [List.map_take]
section
variable {P : Program} {w : World} {K : PySem.W.Frag} {mg : Str → Option Value} {base : Heap}
abbrev nSh : List Str := ["trials", "ahead", "kept", "low", "high", "middle"]
abbrev nQk : List Str := ["trials", "parts", "ahead", "kept", "last"]
theorem scSh : FnScope nSh ["trials", "ahead", "kept"] (defScope sSh) := ⟨rfl, rfl, rfl, by decide +kernel, rfl, by decide +kernel, by decide +kernel⟩
theorem scQk : FnScope nQk ["trials", "parts"] (defScope sQk) := ⟨rfl, rfl, rfl, by decide +kernel, rfl, by decide +kernel, by decide +kernel⟩
theorem ok_sh (T : Tm K mg) (D : Df K mg "shortest" sSh ["trials", "ahead", "kept"]) : FnOk P w K mg base CX0 10 D.a D.f ["trials", "ahead", "kept"] (spSh P w K mg base T.C) := by
  have GL : FnOk P w K mg base (CXe P w) 9 T.aFl T.fFl ["self", "parts"] (spFl P w K mg base T.C) := (ok_fl T).mono (by decide)
  refine D.F.ok scSh (fun vs H Q E h => ?_) (fun cdv A outer s H vs Q E hr h => ?_)
  · obtain ⟨X, ta, tk, a, k, as, raw, rfl, _⟩ := h
    rfl
  · obtain ⟨X, ta, tk, a, k, as, raw, rfl, hX, ha, hk, hak, hl, q⟩ := h
    refine ⟨_, pss_cons (ps_set (i := 3) scSh.nd rfl (Or.inl rfl) pe_int)
      (pss_cons (ps_set (i := 4) scSh.nd rfl (Or.inl rfl) (pe_callB call_len_seq (by rfl) T.bi.len PySem.boot_len (pa_cons (pv 1) pa_nil)))
      (pss_cons (ps_while PassesOwn.never (pt_cmpR op_gt (pe_op op_sub (pv 4) (pv 3)) pe_int (nomark _))
        (pss_cons (ps_set (i := 5) scSh.nd rfl (Or.inl rfl) (pe_op op_fdiv (pe_op op_add (pv 3) (pv 4)) pe_int))
        (pss_one (ps_if (pt_val (pe_meth (E := E0) (pv 0) T.cl T.mFl GL hr T.bFl .nil passF (pa_cons (pe_op op_catA (pe_slice (r := rSlTB K) sl_tupB (pv 1) po_none (po_some (pv 5))) (pv 2)) pa_nil)))
          (pss_one (ps_set (i := 4) scSh.nd rfl (Or.inl rfl) (pv 5))) (pss_one (ps_set (i := 3) scSh.nd rfl (Or.inl rfl) (pv 5)))))))
      (pss_one (ps_ret (pv 4))))), ?_⟩
    refine ⟨_, rfl, ta, _, rfl, .inr (SqT.of ha), ?_⟩
    rw [tupN_len]
    refine ⟨fun μ σ H2 => ∃ (lo hi fu : Nat) (raw2 : List (List Nat)) (v5 : Option V), σ = [some (.ref X.x), some (.ref ta), some (.ref tk), some (.int (lo : Int)), some (.int (hi : Int)), v5] ∧ μ = hi - lo ∧ hi - lo ≤ fu ∧ hi ≤ a.length ∧ lo ≤ hi ∧ shO X.F a k raw = shR X.F a k fu lo hi raw2 ∧
        TriA P w K mg base T.C H2 X (addAll as raw2) ∧ SmX X H H2 ∧ raw2.length + (hi - lo) ≤ raw.length + a.length,
      ⟨_, 0, a.length, a.length, raw, none, rfl, rfl, Nat.le_refl _, Nat.le_refl _, Nat.zero_le _, rfl, hX, (fun _ _ e _ _ _ _ => e), Nat.le_refl _⟩, ?_⟩
    rintro μ σ H2 ⟨lo, hi, fu, raw2, v5, rfl, rfl, hfu, hhi, hlo, es, X2, s2, hr2⟩
    refine ⟨_, rfl, _, rfl, _, _, rfl, rfl, _, _, rfl, rfl, _, rfl, ite2 (fun hd => ?_) (fun hd => ?_)⟩
    · have hd := of_decide_eq_true hd
      have hd : 1 < hi - lo := by omega
      obtain ⟨fu', rfl⟩ : ∃ fu', fu = fu' + 1 := ⟨fu - 1, by omega⟩
      refine ⟨fun σ' H' => ∃ (lo2 hi2 : Nat) (raw3 : List (List Nat)) (v5 : Option V), σ' = [some (.ref X.x), some (.ref ta), some (.ref tk), some (.int (lo2 : Int)), some (.int (hi2 : Int)), v5] ∧ hi2 - lo2 < hi - lo ∧ hi2 - lo2 ≤ fu' ∧ hi2 ≤ a.length ∧ lo2 ≤ hi2 ∧ shO X.F a k raw = shR X.F a k fu' lo2 hi2 raw3 ∧
        TriA P w K mg base T.C H' X (addAll as raw3) ∧ SmX X H H' ∧ raw3.length + (hi2 - lo2) ≤ raw.length + a.length, ?_, ?_⟩
      · rintro σ' H' ⟨lo2, hi2, raw3, v5, rfl, m, h1, h2, h3, h4, h5, h6, h7⟩
        exact ⟨_, m, lo2, hi2, fu', raw3, v5, rfl, rfl, h1, h2, h3, h4, h5, h6, h7⟩
      have em : ((lo : Int) + (hi : Int)) / 2 = (((lo + hi) / 2 : Nat) : Int) := by omega
      refine ⟨_, rfl, _, rfl, _, _, rfl, rfl, _, _, rfl, rfl, ⟨by decide, by decide⟩, ?_⟩
      have ha2 := hX.tups s2 _ _ ha
      have hk2 := hX.tups s2 _ _ hk
      obtain ⟨rs, ts, A2, _⟩ := X2.tr
      generalize hmi : (lo + hi) / 2 = mi at em
      have hm1 : lo < mi ∧ mi < hi := by omega
      have hma : mi ≤ a.length := by omega
      refine ⟨_, rfl, X.x, X.dx, _, rfl, A2.ins, lk_no (by decide +kernel) (by decide +kernel) (by decide +kernel) (by decide +kernel) (by decide +kernel), ?_⟩
      refine ⟨_, rfl, noP ⟨_, rfl, _, rfl, slB ha2 fun H3 b s3 hb => ?_⟩⟩
      rw [em, cut_to (by rw [tupN_len]; exact hma), tupN_take] at hb
      refine ⟨_, rfl, catB hb (s3 _ _ hk2) ?_ fun H4 c s4 hc => ?_⟩
      · have hlen := hak.le
        rw [List.length_append] at hlen
        rw [tupN_len, tupN_len, List.length_take]; omega
      rw [tupN_app] at hc
      have s24 := s3.trans s4
      have X4 := X2.same s24
      have hal := addAll_len as raw2
      refine ⟨X, c, a.take mi ++ k, addAll as raw2, rfl, X4, hc, hak.sub ((List.take_sublist mi a).append_right k), by omega, fun H5 X5 s5 => ?_⟩
      rw [← addAll_snoc] at X5
      have sm5 : SmX X H H5 := (s2.trans (Sm4.of s24)).trans s5
      refine ⟨_, rfl, ?_⟩
      by_cases hF : X.F (a.take mi ++ k) = "fail"
      · rw [decide_eq_true hF]
        refine ⟨_, rfl, lo, mi, raw2 ++ [a.take mi ++ k], _, by rw [← em]; rfl, by omega, by omega, by omega, by omega, ?_, X5, sm5, by rw [List.length_append, List.length_singleton]; omega⟩
        rw [es]
        show (if 1 < hi - lo then _ else _) = _
        rw [hmi, if_pos hd, if_pos hF]
      · rw [decide_eq_false hF]
        refine ⟨_, rfl, mi, hi, raw2 ++ [a.take mi ++ k], _, by rw [← em]; rfl, by omega, by omega, by omega, by omega, ?_, X5, sm5, by rw [List.length_append, List.length_singleton]; omega⟩
        rw [es]
        show (if 1 < hi - lo then _ else _) = _
        rw [hmi, if_pos hd, if_neg hF]
    · have hd : ¬ 1 < hi - lo := fun z => hd (decide_eq_true (by omega))
      have e2 : shR X.F a k fu lo hi raw2 = (hi, raw2) := by
        cases fu with
        | zero => rfl
        | succ n => unfold shR; rw [if_neg hd]
      refine ⟨_, rfl, ?_⟩
      rw [es, e2] at q
      exact q H2 X2 s2
theorem ok_qk (T : Tm K mg) (D : Df K mg "quick" sQk ["trials", "parts"]) (DS : Df K mg "shortest" sSh ["trials", "ahead", "kept"]) : FnOk P w K mg base CX0 11 D.a D.f ["trials", "parts"] (spQk P w K mg base T.C) := by
  have GF : FnOk P w K mg base (CXe P w) 10 T.wf.a T.wf.f ["trials", "parts"] (spWfT P w K mg base T.C) := (ok_wf T).mono (by decide)
  have GL : FnOk P w K mg base (CXe P w) 10 T.aFl T.fFl ["self", "parts"] (spFl P w K mg base T.C) := (ok_fl T).mono (by decide)
  have GS : FnOk P w K mg base CX0 10 DS.a DS.f ["trials", "ahead", "kept"] (spSh P w K mg base T.C) := ok_sh T DS
  refine D.F.ok scQk (fun vs H Q E h => ?_) (fun cdv A outer s H vs Q E hr h => ?_)
  · obtain ⟨X, t, ks, as, rfl, _⟩ := h
    rfl
  · obtain ⟨X, t, ks, as, rfl, hX, ht, hk, hl, hn, hf, q⟩ := h
    refine ⟨_, pss_cons (ps_expr (pe_call (E := E0) GF hr (by rfl) T.wf.g T.wf.F.kp T.wf.b .nil passF (pa_cons (pv 0) (pa_cons (pv 1) pa_nil))))
      (pss_cons (ps_set (i := 2) scQk.nd rfl (Or.inl rfl) (pv 1))
      (pss_cons (ps_set (i := 3) scQk.nd rfl (Or.inl rfl) (pe_tup pa_nil))
      (pss_cons (ps_while PassesOwn.never (PW.pt (pw_and (pt_truth (pv 2) (by intro _; rfl)) (pw_and1 (pt_not (pt_val (pe_meth (E := E0) (pv 0) T.cl T.mFl GL hr T.bFl .nil passF (pa_cons (pv 3) pa_nil)))))))
        (pss_cons (ps_set (i := 4) scQk.nd rfl (Or.inl rfl) (pe_op op_sub (pe_call GS hr (by rfl) DS.g DS.F.kp DS.b .nil pass0 (pa_cons (pv 0) (pa_cons (pv 2) (pa_cons (pv 3) pa_nil)))) pe_int))
        (pss_cons (ps_set (i := 3) scQk.nd rfl (Or.inl rfl) (pe_op op_catA (pe_tup (pa_cons (pe_ix ix_tup (pv 2) (pv 4) (fun _ _ => rfl)) pa_nil)) (pv 3)))
        (pss_one (ps_set (i := 2) scQk.nd rfl (Or.inl rfl) (pe_slice (r := rSlTB K) sl_tupB (pv 2) po_none (po_some (pv 4))))))))
      (pss_one (ps_ret (pv 3)))))), ?_⟩
    refine ⟨_, rfl, _, rfl, X, t, ks, as, rfl, hX, ht, hk, by omega, hf, fun H1 X1 m1 => ?_⟩
    have ht1 := hX.tups m1 _ _ ht
    generalize has : asked as ks = a0 at X1 q
    have ha0 : a0.length ≤ 2001 := by rw [← has]; have := asked_len as ks; omega
    refine ⟨_, rfl, by show 0 ≤ sizeLine; decide, fun p0 hp0 => ?_⟩
    have s0 := Same.new (o := .tup []) hp0
    refine ⟨fun μ σ H2 => ∃ (ta tk : Addr) (a k : List Nat) (raw : List (List Nat)) (fu : Nat) (v4 : Option V), σ = [some (.ref X.x), some (.ref t), some (.ref ta), some (.ref tk), v4] ∧ μ = a.length ∧ qkO X.F ks = qkR X.F fu a k raw ∧ a.length < fu ∧ X.F (a ++ k) = "fail" ∧ Rising 0 120 (a ++ k) ∧
        H2 ta = some (.tup (tupN a)) ∧ H2 tk = some (.tup (tupN k)) ∧ TriA P w K mg base T.C H2 X (addAll a0 raw) ∧ SmX X H H2 ∧ raw.length + a.length * 22 ≤ 440 ∧ a.length ≤ 20,
      ⟨_, t, p0, ks, [], [], ks.length + 1, none, rfl, rfl, rfl, Nat.lt_succ_self _, by rw [List.append_nil]; exact hf, by rw [List.append_nil]; exact hk, s0 _ _ ht1, upd_same, X1.same s0, m1.trans (Sm4.of s0), by show 0 + ks.length * 22 ≤ 440; omega, hn⟩, ?_⟩
    rintro μ σ H2 ⟨ta, tk, a, k, raw, fu, v4, rfl, rfl, es, hfu, hfa, hak, ha, hkk, X2, s2, hrw, ha20⟩
    obtain ⟨fu', rfl⟩ : ∃ fu', fu = fu' + 1 := ⟨fu - 1, by omega⟩
    by_cases ea : a = []
    · subst ea
      have e2 : qkO X.F ks = (k, raw) := by rw [es]; unfold qkR; rw [if_pos rfl]
      refine ⟨_, rfl, false, .inr (.inl ⟨_, SqT.of ha, rfl⟩), ?_⟩
      refine ⟨_, rfl, ?_⟩
      rw [e2] at q
      exact q tk H2 hkk X2 s2
    have etr : true = !(tupN a).isEmpty := by
      cases a with
      | nil => exact absurd rfl ea
      | cons x r => rfl
    refine ⟨_, rfl, true, .inr (.inl ⟨_, SqT.of ha, etr⟩), ?_⟩
    obtain ⟨rs, ts, A2, _⟩ := X2.tr
    have hal := addAll_len a0 raw
    have hkr : Rising 0 120 k := hak.sub (List.sublist_append_right a k)
    refine ⟨_, rfl, X.x, X.dx, _, rfl, A2.ins, lk_no (by decide +kernel) (by decide +kernel) (by decide +kernel) (by decide +kernel) (by decide +kernel), _, rfl, X, tk, k, addAll a0 raw, rfl, X2, hkk, hkr, by omega, fun H3 X3 s3 => ?_⟩
    rw [← addAll_snoc] at X3
    have sm3 : SmX X H H3 := s2.trans s3
    have ha3 := X2.tups s3 _ _ ha
    have hk3 := X2.tups s3 _ _ hkk
    refine ⟨_, rfl, ?_⟩
    by_cases hF : X.F k = "fail"
    · rw [decide_eq_true hF]
      have e2 : qkO X.F ks = (k, raw ++ [k]) := by rw [es]; unfold qkR; rw [if_neg ea, if_pos hF]
      refine ⟨_, rfl, ?_⟩
      rw [e2] at q
      exact q tk H3 hk3 X3 sm3
    rw [decide_eq_false hF]
    have S := shO_spec (raw := raw ++ [k]) ea hfa hF
    have hsl : (shO X.F a k (raw ++ [k])).2.length ≤ (raw ++ [k]).length + a.length := shR_len (Nat.le_of_lt (by rw [Nat.sub_zero]; exact Nat.lt_two_pow_self))
    have e3 : qkO X.F ks = qkR X.F fu' (a.take ((shO X.F a k (raw ++ [k])).1 - 1)) (a.getD ((shO X.F a k (raw ++ [k])).1 - 1) 0 :: k) (shO X.F a k (raw ++ [k])).2 := by
      rw [es]
      show (if a = [] then _ else _) = _
      rw [if_neg ea, if_neg hF]
    rw [List.length_append, List.length_singleton] at hsl
    generalize hNN : a.length = NN at hrw ha20 hfu hsl
    refine ⟨fun σ' H' => ∃ (ta tk : Addr) (a k : List Nat) (raw : List (List Nat)) (v4 : Option V), σ' = [some (.ref X.x), some (.ref t), some (.ref ta), some (.ref tk), v4] ∧ qkO X.F ks = qkR X.F fu' a k raw ∧ a.length < fu' ∧ X.F (a ++ k) = "fail" ∧ Rising 0 120 (a ++ k) ∧
        H' ta = some (.tup (tupN a)) ∧ H' tk = some (.tup (tupN k)) ∧ TriA P w K mg base T.C H' X (addAll a0 raw) ∧ SmX X H H' ∧ raw.length + a.length * 22 ≤ 440 ∧ a.length ≤ 20 ∧ a.length < NN, ?_, ?_⟩
    · rintro σ' H' ⟨ta, tk, a, k, raw, v4, rfl, h1, h2, h3, h4, h5, h6, h7, h8, h9, h10, h11⟩
      exact ⟨_, h11, ta, tk, a, k, raw, fu', v4, rfl, rfl, h1, h2, h3, h4, h5, h6, h7, h8, h9, h10⟩
    refine ⟨_, rfl, _, rfl, _, rfl, X, ta, tk, a, k, a0, raw ++ [k], rfl, X3, ha3, hk3, hak, by rw [List.length_append, List.length_singleton, hNN]; omega, fun H4 X4 s4 => ?_⟩
    have sm4 := sm3.trans s4
    have ha4 := X3.tups s4 _ _ ha3
    have hk4 := X3.tups s4 _ _ hk3
    generalize hh : (shO X.F a k (raw ++ [k])).1 = h at S e3 ⊢
    generalize (shO X.F a k (raw ++ [k])).2 = rw2 at hsl e3 X4 ⊢
    have hp := S.pos
    have hle := S.le
    have ehi : ((h : Nat) : Int) - 1 = ((h - 1 : Nat) : Int) := by omega
    obtain ⟨x, hx⟩ : ∃ x, a[h - 1]? = some x := ⟨a[h - 1]'(by omega), List.getElem?_eq_getElem _⟩
    have hgd : a.getD (h - 1) 0 = x := by rw [List.getD_eq_getElem?_getD, hx]; rfl
    have hat : atI (tupN a) (((h : Nat) : Int) - 1) = some (.int (x : Int)) := by
      unfold atI ixN
      rw [tupN_len, if_pos (by omega), if_pos (by omega), ehi]
      show (tupN a)[((h - 1 : Nat) : Int).toNat]? = _
      rw [Int.toNat_natCast]
      unfold tupN
      rw [List.getElem?_map, hx]; rfl
    refine ⟨_, _, rfl, rfl, ?_⟩
    refine ⟨_, rfl, _, rfl, ta, _, _, _, rfl, rfl, SqT.of ha4, hat, ?_⟩
    refine ⟨by show 1 ≤ sizeLine; decide, fun u hu => ?_⟩
    have s5 := Same.new (o := .tup [V.int (x : Int)]) hu
    have ht1' : (upd H4 u (.tup [V.int (x : Int)])) u = some (.tup (tupN [x])) := upd_same
    have hkl := hak.le
    rw [List.length_append] at hkl
    refine ⟨_, rfl, catB ht1' (s5 _ _ hk4) (by rw [tupN_len, tupN_len, List.length_singleton]; omega) fun H6 c s6 hc => ?_⟩
    rw [tupN_app] at hc
    have s46 := s5.trans s6
    refine ⟨_, rfl, noP ⟨_, rfl, _, rfl, slB (s46 _ _ ha4) fun H7 b s7 hb => ?_⟩⟩
    rw [ehi, cut_to (by rw [tupN_len]; omega), tupN_take] at hb
    have s47 := s46.trans s7
    rw [hgd] at e3
    have etp := take_pred hp hle k
    rw [hgd] at etp
    refine ⟨b, c, a.take (h - 1), x :: k, rw2, _, rfl, e3, by rw [List.length_take]; omega, by rw [etp]; exact S.fail, by rw [etp]; exact hak.sub ((List.take_sublist h a).append_right k), hb, s7 _ _ hc, X4.same s47, sm4.trans (Sm4.of s47), ?_, by rw [List.length_take]; omega, by rw [List.length_take]; omega⟩
    have : (a.take (h - 1)).length ≤ NN - 1 := by rw [List.length_take]; omega
    have := Nat.mul_le_mul_right 22 this
    rw [Nat.sub_mul] at this
    omega
end
end My
set_option Elab.async false
set_option linter.all false
set_option maxRecDepth 100000
set_option maxHeartbeats 4000000
namespace My
open PySem L2
abbrev sLo : Stmt := top 44
abbrev sDb : Stmt := top 45
abbrev sQr : Stmt := top 46
theorem diff_nil {c ks : List Nat} (h : c.Sublist ks) : diffN c ks = [] := by
  unfold diffN
  rw [List.filter_eq_nil_iff]
  intro k hk
  simp [h.subset hk]
theorem perm_up {a : List Nat} {b : List Int} (ha : (intN a).Pairwise (· < ·)) (hp : b.Perm (intN a)) (hs : b.Pairwise (· ≤ ·)) : b = intN a := by
  have hnd : b.Nodup := hp.nodup_iff.mpr (ha.imp fun h => by omega)
  exact up_eq ((hs.and hnd).imp fun ⟨h1, h2⟩ => by omega) ha fun x => hp.mem_iff
def spLo (K : PySem.W.Frag) : Sp := fun vs H Q _ => ∃ (l t : Addr) (ts : List Addr) (cs : List (List Nat)) (ks : List Nat), vs = [.ref l, .ref t] ∧ H l = some (.lst (ts.map V.ref)) ∧ Tups H ts cs ∧ (∀ c ∈ cs, Rising 0 120 c) ∧ cs.length ≤ 150 ∧ H t = some (.tup (tupN ks)) ∧ Rising 0 120 ks ∧
  ∀ p H', Same H H' → H' p = some (.tup (tupN (loO (tells cs) ks))) → Q (.ref p) H'
def spDb : Sp := fun vs H Q _ => ∃ n : Nat, vs = [.int (n : Int)] ∧ n ≤ 60 ∧ ∀ L : Nat, n ≤ 2 ^ L → L ≤ 6 → Q (.int (L : Int)) H
def spQr (P : Program) (w : World) (K : PySem.W.Frag) (mg : Str → Option Value) (base : Heap) : Sp := fun vs H Q _ => ∃ (f tS lg p : Addr) (D ts : List Addr) (F : List Nat → Str) (ks pe : List Nat) (as : List (List Nat)), vs = [.ref f, .ref tS, .ref lg, .ref p] ∧ TellAt P w K mg base H f D F ∧ H tS = some (.tup (tupN ks)) ∧ Rising 0 120 ks ∧
  H lg = some (.lst (ts.map V.ref)) ∧ Tups H ts as ∧ as.Nodup ∧ (∀ c ∈ as, c.Sublist ks) ∧ as.length ≤ 900 ∧ H p = some (.tup (tupN pe)) ∧ pe.Sublist ks ∧ F pe = "fail" ∧ ∀ H', Same H H' → Q (.bl true) H'
section
variable {P : Program} {w : World} {K : PySem.W.Frag} {mg : Str → Option Value} {base : Heap}
theorem scLo : FnScope ["_law_cores_here", "_law_start_here", "_law_now", "_law_one", "_law_less_here"] ["_law_cores_here", "_law_start_here"] (defScope sLo) := ⟨rfl, rfl, rfl, by decide +kernel, rfl, by decide +kernel, by decide +kernel⟩
theorem scDb : FnScope ["_law_size", "_law_found"] ["_law_size"] (defScope sDb) := ⟨rfl, rfl, rfl, by decide +kernel, rfl, by decide +kernel, by decide +kernel⟩
abbrev nQr : List Str := ["_law_tell", "_law_start_here", "_law_log", "_law_told", "_law_some_here"]
theorem scQr : FnScope nQr ["_law_tell", "_law_start_here", "_law_log", "_law_told"] (defScope sQr) := ⟨rfl, rfl, rfl, by decide +kernel, rfl, by decide +kernel, by decide +kernel⟩
theorem ok_lo (D : Df K mg "_law_left_out" sLo ["_law_cores_here", "_law_start_here"]) (DL : Df K mg "_law_less" sLs ["_law_some_here", "_law_beside"]) (DT : Df K mg "_law_tells" sTe ["_law_cores_here", "_law_some_here"]) (DI : Df K mg "_law_inside" sIs ["_law_some_here", "_law_beside"]) (bi : Bi mg) :
    FnOk P w K mg base CX0 4 D.a D.f ["_law_cores_here", "_law_start_here"] (spLo K) := by
  have GL : FnOk P w K mg base CX0 3 DL.a DL.f ["_law_some_here", "_law_beside"] (spLs K) := (ok_ls bi DL).mono (by decide)
  have GT : FnOk P w K mg base CX0 3 DT.a DT.f ["_law_cores_here", "_law_some_here"] (spTells K) := (ok_tells DT DI).mono (by decide)
  refine D.F.ok scLo (fun vs H Q E h => ?_) (fun cdv A outer s H vs Q E hr h => ?_)
  · obtain ⟨l, t, ts, cs, ks, rfl, _⟩ := h
    rfl
  · obtain ⟨l, t, ts, cs, ks, rfl, hl, hT, hR, hn, ht, hk, q⟩ := h
    refine ⟨_, pss_cons (ps_set (i := 2) scLo.nd rfl (Or.inl rfl) (pv 1))
      (pss_cons (ps_for PassesOwn.never rfl (pi_tup (pe_rev (pv 1))) (pg_name (i := 3) scLo.nd rfl (Or.inl rfl))
          (pss_cons (ps_set (i := 4) scLo.nd rfl (Or.inl rfl) (pe_call GL hr (by rfl) DL.g DL.F.kp DL.b .nil pass0 (pa_cons (pv 2) (pa_cons (pe_tup (pa_cons (pv 3) pa_nil)) pa_nil))))
          (pss_one (ps_if (pt_cmpR op_eq (pe_call GT hr (by rfl) DT.g DT.F.kp DT.b .nil pass0 (pa_cons (pv 0) (pa_cons (pv 4) pa_nil))) pe_str (nomark _)) (pss_one (ps_set (i := 2) scLo.nd rfl (Or.inl rfl) (pv 4))) pss_nil))))
      (pss_one (ps_ret (pv 2)))), ?_⟩
    refine ⟨_, rfl, ?_⟩
    refine ⟨_, rfl, t, _, rfl, SqT.of ht, fun rp hrp => ?_⟩
    have sr := Same.new (o := .tup (tupN ks).reverse) hrp
    have erev : (tupN ks).reverse = tupN ks.reverse := by unfold tupN; rw [List.map_reverse]
    rw [erev] at sr ⊢
    refine ⟨rp, rfl, ⟨_, SqT.of upd_same⟩, for_tup (K := K) (a := rp) (xs := tupN ks.reverse) (fun i σ H3 => ∃ (now : List Nat) (tn : Addr) (v3 v4 : Option V), (ks.reverse.take i).foldl (loS (tells cs)) ks = now ∧ σ = [some (.ref l), some (.ref t), some (.ref tn), v3, v4] ∧ Same H H3 ∧ H3 tn = some (.tup (tupN now)) ∧ Rising 0 120 now ∧ H3 rp = some (.tup (tupN ks.reverse)))
      ⟨ks, t, _, _, by rw [List.take_zero]; rfl, rfl, sr, sr _ _ ht, hk, upd_same⟩ (fun i σ H3 _ h => by obtain ⟨_, _, _, _, _, _, _, _, _, h⟩ := h; exact SqT.of h) ?_ ?_⟩
    · rintro i y σ H3 hy ⟨now, tn, v3, v4, e, rfl, s3, htn, hnow, hrp3⟩
      obtain ⟨n, hn1, rfl⟩ := tupN_get hy
      obtain ⟨hil, hin⟩ := List.getElem?_eq_some_iff.mp hn1
      have hnb := hk.lt n (List.mem_reverse.mp (List.mem_of_getElem? hn1))
      have htk : ks.reverse.take (i + 1) = ks.reverse.take i ++ [n] := by rw [List.take_succ_eq_append_getElem hil, hin]
      refine ⟨_, rfl, _, rfl, by show 1 ≤ sizeLine; decide, fun u hu => ?_⟩
      have su := Same.new (o := .tup [V.int (n : Int)]) hu
      refine ⟨tn, u, now, [n], rfl, su _ _ htn, upd_same, hnow, ⟨Nat.zero_le _, hnb, trivial⟩, fun p H5 s5 hp5 => ?_⟩
      have s35 := su.trans s5
      have s05 := s3.trans s35
      refine ⟨_, rfl, _, rfl, l, p, ts, cs, diffN now [n], rfl, s05 _ _ hl, hT.sm fun _ _ e => s05 _ _ e, hR, hn, hp5, hnow.filter _, fun H6 s6 => ?_⟩
      have s06 := s05.trans s6
      have ef : (ks.reverse.take (i + 1)).foldl (loS (tells cs)) ks = loS (tells cs) now n := by rw [htk, List.foldl_append, e]; rfl
      refine ⟨rfl, _, rfl, ?_⟩
      by_cases hF : tells cs (diffN now [n]) = "fail"
      · rw [decide_eq_true (by rw [hF])]
        refine ⟨_, rfl, diffN now [n], p, _, _, ?_, rfl, s06, s6 _ _ hp5, hnow.filter _, s6 _ _ (s35 _ _ hrp3)⟩
        rw [ef]; unfold loS; rw [if_pos hF]
      · rw [decide_eq_false (fun z => hF (by injection z))]
        refine ⟨now, tn, _, _, ?_, rfl, s06, s6 _ _ (s35 _ _ htn), hnow, s6 _ _ (s35 _ _ hrp3)⟩
        rw [ef]; unfold loS; rw [if_neg hF]
    · rintro σ H3 ⟨now, tn, v3, v4, e, rfl, s3, htn, _, _⟩
      rw [tupN_len, List.take_length] at e
      refine ⟨_, rfl, q tn H3 s3 ?_⟩
      rw [show loO (tells cs) ks = now from e]
      exact htn
theorem ok_db (D : Df K mg "_law_doublings" sDb ["_law_size"]) : FnOk P w K mg base CX0 1 D.a D.f ["_law_size"] spDb := by
  refine D.F.ok scDb (fun vs H Q E h => ?_) (fun cdv A outer s H vs Q E hr h => ?_)
  · obtain ⟨n, rfl, _⟩ := h
    rfl
  · obtain ⟨n, rfl, hn, q⟩ := h
    refine ⟨_, pss_cons (ps_set (i := 1) scDb.nd rfl (Or.inl rfl) pe_int)
      (pss_cons (ps_while PassesOwn.never (pt_cmpR op_lt (pe_op op_shl pe_int (pv 1)) (pv 0) (nomark _)) (pss_one (ps_set (i := 1) scDb.nd rfl (Or.inl rfl) (pe_op op_add (pv 1) pe_int))))
      (pss_one (ps_ret (pv 1)))), ?_⟩
    refine ⟨fun μ σ H2 => H2 = H ∧ ∃ f : Nat, σ = [some (.int (n : Int)), some (.int (f : Int))] ∧ μ = 6 - f ∧ f ≤ 6, ⟨_, rfl, 0, rfl, rfl, by omega⟩, ?_⟩
    rintro μ σ H2 ⟨rfl, f, rfl, rfl, hf⟩
    have e2 : (1 : Int) * 2 ^ ((f : Nat) : Int).toNat = ((2 ^ f : Nat) : Int) := by rw [Int.toNat_natCast, Int.one_mul]; push_cast; rfl
    refine ⟨_, rfl, _, _, rfl, rfl, ⟨by omega, by omega, by decide⟩, _, rfl, _, _, rfl, rfl, _, rfl, ite2 (fun h1 => ?_) (fun h1 => ?_)⟩
    · have h1 : (1 : Int) * 2 ^ ((f : Nat) : Int).toNat < (n : Int) := of_decide_eq_true h1
      rw [e2] at h1
      have h1 : 2 ^ f < n := by omega
      have hf5 : f ≤ 5 := by
        by_cases hz : f ≤ 5
        · exact hz
        · have : f = 6 := by omega
          subst this
          omega
      refine ⟨fun σ' H' => H' = H2 ∧ σ' = [some (.int (n : Int)), some (.int ((f + 1 : Nat) : Int))], ?_, ?_⟩
      · rintro σ' H' ⟨rfl, rfl⟩
        exact ⟨_, by omega, rfl, f + 1, rfl, rfl, by omega⟩
      · refine ⟨_, rfl, _, _, rfl, rfl, rfl, ?_⟩
        rfl
    · have h1 : n ≤ 2 ^ f := by
        by_cases hz : n ≤ 2 ^ f
        · exact hz
        · refine absurd (decide_eq_true ?_) h1
          show (1 : Int) * 2 ^ ((f : Nat) : Int).toNat < (n : Int)
          rw [e2]; omega
      exact ⟨_, rfl, q f h1 hf⟩
theorem ok_qr (bi : Bi mg) (gis : mg "isinstance" = none) (gl : mg "list" = none) (gso : mg "sorted" = none) (gal : mg "all" = none) (gse : mg "set" = none) (D : Df K mg "_law_quick_right" sQr ["_law_tell", "_law_start_here", "_law_log", "_law_told"]) (DI : Df K mg "_law_inside" sIs ["_law_some_here", "_law_beside"]) :
    FnOk P w K mg base CX0 4 D.a D.f ["_law_tell", "_law_start_here", "_law_log", "_law_told"] (spQr P w K mg base) := by
  have GIs : FnOk P w K mg base CX0 3 DI.a DI.f ["_law_some_here", "_law_beside"] (spIs K) := (ok_is DI).mono (by decide)
  refine D.F.ok scQr (fun vs H Q E h => ?_) (fun cdv A outer s H vs Q E hr h => ?_)
  · obtain ⟨f, tS, lg, p, D0, ts, F, ks, pe, as, rfl, _⟩ := h
    rfl
  · obtain ⟨f, tS, lg, p, D0, ts, F, ks, pe, as, rfl, hF, hS, hk, hlg, hT, hnd, hsubs, hal, hp, hsub, hfp, q⟩ := h
    have hu : (A.deeper (PyProof.Rows.envOfC "_law_quick_right" (defScope sQr) s.heap.objs.size D.a cdv)).units + 64 < cLine := hr.units
    refine ⟨_, pss_cons (ps_if (PW.pt (pw_or (pt_not (pt_val (pe_callB cr_isiT (by rfl) gis (by decide +kernel) (pa_cons (pv 3) (pa_cons (pe_bltn (v := .ty "tuple") (by rfl) bi.tuple (by decide +kernel) rfl) pa_nil)))))
        (pw_or (pt_not (pt_val (pe_call GIs hr (by rfl) DI.g DI.F.kp DI.b .nil pass0 (pa_cons (pv 3) (pa_cons (pv 1) pa_nil)))))
          (pw_or1 (pt_cmpR (op_neD hu) (pe_callTy call_list_of (by rfl) gl (by decide +kernel) (pa_cons (pv 3) pa_nil)) (pe_callB cr_sortedTup (by rfl) gso (by decide +kernel) (pa_cons (pv 3) pa_nil)) (nomark _)))))) (pss_one (ps_ret pe_bl)) pss_nil)
      (pss_cons (ps_if (PW.pt (pw_or (pt_cmpR op_ne (pe_callF (E := E0) hr passF (pv 0) (pa_cons (pv 3) pa_nil)) pe_str (nomark _))
          (pw_or1 (pt_cmpR op_ne (pe_lenset (by rfl) hu (by rfl) bi.len PySem.boot_len (by rfl) gse (by decide +kernel) (pa_cons (pv 2) pa_nil)) (pe_callB call_len_seq (by rfl) bi.len PySem.boot_len (pa_cons (pv 2) pa_nil)) (nomark _))))) (pss_one (ps_ret pe_bl)) pss_nil)
      (pss_one (ps_ret (pe_callB (cr_all rfl) (by rfl) gal (by decide +kernel) (pa_cons (pe_lc (te := tCall (spIs K) [] E0 (tCons (tVar 4) (tCons (tVar 1) tNil))) (own := [("_law_some_here", 4)]) (g := gName 4) (by rfl) scQr.nd (pi_list (pv 2)) (blkOk_by (own := [("_law_some_here", 4)]) (N := nQr) (sc := defScope sQr) (by decide +kernel)) (fun _ _ _ _ _ => pg_name (i := 4) scQr.nd rfl (Or.inl rfl)) (fun _ _ _ _ _ => pts_nil)
            (fun _ _ _ _ _ => pe_call GIs hr (by rfl) DI.g DI.F.kp DI.b .nil pass0 (pa_cons (pv 4) (pa_cons (pv 1) pa_nil)))) pa_nil))))), ?_⟩
    -- the first look
    have hpr : Rising 0 120 pe := hk.sub hsub
    refine ⟨_, rfl, _, _, _, _, rfl, .tup hp, kit_tt, _, rfl, ?_⟩
    refine ⟨_, rfl, _, rfl, p, tS, pe, ks, rfl, hp, hS, hpr, hk, fun H7 s7 => ?_⟩
    rw [diff_nil hsub]
    refine ⟨_, rfl, ?_⟩
    have hp7 := s7 _ _ hp
    have hp7' : H7 p = some (.tup ((intN pe).map V.int)) := by rw [← tupN_int]; exact hp7
    refine ⟨_, rfl, p, (intN pe).map V.int, rfl, .inr (SqT.of hp7'), fun l8 hl8 => ?_⟩
    have s8 := Same.new (o := .lst ((intN pe).map V.int)) hl8
    refine ⟨_, rfl, p, intN pe, rfl, SqT.of (s8 _ _ hp7'), fun ns9 l9 hpm hps hl9 => ?_⟩
    have ens := perm_up hpr.up hpm hps
    subst ens
    have s9 := Same.new (o := .lst ((intN pe).map V.int)) hl9
    have swp : Shw (.list ((intN pe).map PyData.int)) 1 2640 := (shwInts (intN_small (by decide) hpr)).list.mono (Nat.le_refl _) (by rw [intN_len]; have := hpr.le; omega)
    refine ⟨.list ((intN pe).map PyData.int), .list ((intN pe).map PyData.int), .lst (SqL.of (s9 _ _ upd_same)) (dpInts _), .lst (SqL.of upd_same) (dpInts _), swp.shaped (by decide), swp.shaped (by decide), ?_⟩
    rw [swp.refl]
    refine ⟨_, rfl, ?_⟩
    generalize upd (upd H7 l8 (.lst ((intN pe).map V.int))) l9 (.lst ((intN pe).map V.int)) = H9 at s9 ⊢
    have s09 : Same H H9 := (s7.trans s8).trans s9
    -- the second
    obtain ⟨hf9, FT9⟩ := (hF.same s09).now
    refine ⟨_, rfl, f, rfl, _, rfl, 1, spTell F, rfl, hf9, FT9, p, pe, rfl, s09 _ _ hp, hpr, fun H10 s10 => ?_⟩
    rw [hfp]
    have s010 := s09.trans s10
    have hT10 := hT.sm fun _ _ e => s010 _ _ e
    have hlg10 := s010 _ _ hlg
    have htl := hT.1
    have hzl : ((as.map keyN).zip ts).length = as.length := by rw [List.length_zip, List.length_map, htl, Nat.min_self]
    refine ⟨rfl, _, rfl, ?_⟩
    refine ⟨_, rfl, lg, (as.map keyN).zip ts, rfl, ?_, fun x hx => ?_, ?_, by rw [hzl]; omega, ?_⟩
    · rw [List.map_snd_zip (by rw [List.length_map, htl]; exact Nat.le_refl _)]
      exact SqL.of hlg10
    · obtain ⟨i, hi, e⟩ := List.getElem_of_mem hx
      rw [hzl] at hi
      rw [List.getElem_zip] at e
      rw [← e]
      dsimp only
      rw [List.getElem_map, keyN_map]
      exact hT10.2 i _ _ (List.getElem?_eq_getElem (by omega)) (List.getElem?_eq_getElem hi)
    · rw [List.map_fst_zip (by rw [List.length_map, htl]; exact Nat.le_refl _)]
      exact List.Pairwise.map _ (fun a b h e => h (keyN_inj e)) hnd
    refine ⟨_, rfl, lg, _, rfl, .inl (SqL.of hlg10), ?_⟩
    refine ⟨rfl, ?_⟩
    refine ⟨_, rfl, ?_⟩
    rw [hzl, List.length_map, htl, decide_eq_true rfl]
    -- the third
    have hS10 := s010 _ _ hS
    refine ⟨_, rfl, lg, rfl, ⟨_, SqL.of hlg10⟩, fun D13 hD13 => lc_list (K := K) (a := lg) (xs := ts.map V.ref) (fun i H13 => H13 D13 = some (.lst ((List.replicate i true).map V.bl)) ∧ ∀ b o, H10 b = some o → H13 b = some o)
      ⟨upd_same, fun b o e => Same.new hD13 _ _ e⟩ (fun i H13 _ h => SqL.of (h.2 _ _ hlg10)) ?_ ?_⟩
    · rintro i v H13 hi ⟨hD, s13⟩
      obtain ⟨u, c, rfl, hu1, hc1, hu2⟩ := hT10.get hi
      have hcl := List.mem_of_getElem? hc1
      refine ⟨rfl, ?_⟩
      refine ⟨_, rfl, _, rfl, u, tS, c, ks, rfl, s13 _ _ hu2, s13 _ _ hS10, hk.sub (hsubs c hcl), hk, fun H14 s14 => ?_⟩
      rw [diff_nil (hsubs c hcl)]
      have hi14 : i < ts.length := (List.getElem?_eq_some_iff.mp hu1).1
      refine ⟨_, s14 _ _ hD, small1000 (by rw [List.length_map, List.length_replicate]; omega), ?_, fun b o e => ?_⟩
      · rw [upd_same, List.replicate_succ', List.map_append]; rfl
      · rw [upd_ne (ne_of_none e hD13)]; exact s14 _ _ (s13 _ _ e)
    rintro H14 ⟨hD14, s14⟩
    refine ⟨D13, _, rfl, SqL.of hD14, ?_⟩
    have eall : ∀ n : Nat, (List.replicate n true).all id = true := fun n => by
      rw [List.all_eq_true]
      intro b hb
      rw [List.eq_of_mem_replicate hb]; rfl
    rw [eall]
    exact q H14 fun b o e => s14 _ _ (s010 _ _ e)
end
end My
set_option Elab.async false
set_option linter.all false
set_option maxRecDepth 100000
set_option maxHeartbeats 4000000
namespace My
open PySem L2
def Kn : HO → Prop
  | .frz _ _ => True
  | .tup _ => True
  | .tbl _ => True
  | _ => False
structure KSt (m lC lL tS cc : Addr) (oc : Obj) (ks : List Nat) (tabs : List (Addr × (Nat → Nat → Str))) (n : Nat) (H : Hp) : Prop where
  ma : MAt H m lC lL n
  tb : ∀ p ∈ tabs, TabAt H p.1 p.2
  fz : H cc = some (.frz oc (.own 0))
  st : H tS = some (.tup (tupN ks))
section
variable {m lC lL tS cc : Addr} {oc : Obj} {ks : List Nat} {tabs : List (Addr × (Nat → Nat → Str))} {n n' : Nat} {H H' : Hp}
theorem KSt.mv (S : KSt m lC lL tS cc oc ks tabs n H) (R : List Addr) (k : ∀ b o, H b = some o → b ∉ R → H' b = some o) (d : ∀ b ∈ R, b ≠ m ∧ b ≠ lC ∧ b ≠ lL ∧ ∀ o, H b = some o → ¬ Kn o) : KSt m lC lL tS cc oc ks tabs n H' := by
  have nk : ∀ b o, H b = some o → Kn o → b ∉ R := fun b o e kn z => (d b z).2.2.2 o e kn
  refine ⟨?_, fun p hp => (S.tb p hp).keep (fun ps e => k _ _ e (nk _ _ e trivial)) (fun b oc u e => k _ _ e (nk _ _ e trivial)), k _ _ S.fz (nk _ _ S.fz trivial), k _ _ S.st (nk _ _ S.st trivial)⟩
  obtain ⟨cells, left, hm, hC, hc, hb, hL, hl, ne⟩ := S.ma.ex
  exact ⟨cells, left, k _ _ hm fun z => (d _ z).1 rfl, k _ _ hC fun z => (d _ z).2.1 rfl, hc, hb, k _ _ hL fun z => (d _ z).2.2.1 rfl, hl, ne⟩
theorem KSt.same (S : KSt m lC lL tS cc oc ks tabs n H) (s : Same H H') : KSt m lC lL tS cc oc ks tabs n H' := S.mv [] (fun b o e _ => s b o e) fun b z => by simp at z
theorem KSt.tab (S : KSt m lC lL tS cc oc ks tabs n H) {P : Addr} {qf : Nat → Nat → Str} (hp : (P, qf) ∈ tabs) (un : ∀ p ∈ tabs, p.1 = P → p = (P, qf)) (T : TabAt H' P qf) (k : ∀ b o, H b = some o → b ≠ P → H' b = some o) : KSt m lC lL tS cc oc ks tabs n H' := by
  obtain ⟨ps, eP⟩ := (S.tb _ hp).tbl
  have nb : ∀ b o, H b = some o → (∀ ps, o ≠ .tbl ps) → b ≠ P := fun b o e h z => by rw [z, eP] at e; cases e; exact h _ rfl
  refine ⟨S.ma.kp (S.tb _ hp) k, fun p hq => ?_, k _ _ S.fz (nb _ _ S.fz (by intro _ z; cases z)), k _ _ S.st (nb _ _ S.st (by intro _ z; cases z))⟩
  by_cases e : p.1 = P
  · rw [un p hq e]; exact T
  · exact (S.tb p hq).keep (fun ps z => k _ _ z e) fun b oc u z => k _ _ z (nb _ _ z (by intro _ y; cases y))
theorem KSt.smx {Pg : Program} {w : World} {K : PySem.W.Frag} {mg : Str → Option Value} {base : Heap} {C : Addr} {X : TX} {as : List (List Nat)} (S : KSt m lC lL tS cc oc ks tabs n H) (hX : TriA Pg w K mg base C H X as) (s : SmX X H H') (o : ∀ b, b = m ∨ b = lC ∨ b = lL → b ≠ X.x ∧ b ≠ X.dv ∧ b ≠ X.lc ∧ b ≠ X.lg) : KSt m lC lL tS cc oc ks tabs n H' := by
  obtain ⟨rs, ts, a, b, _⟩ := hX.tr
  have hm := o m (.inl rfl)
  have hC := o lC (.inr (.inl rfl))
  have hL := o lL (.inr (.inr rfl))
  refine S.mv [X.x, X.dv, X.lc, X.lg] (fun c u e z => ?_) fun c z => ?_
  · simp only [List.mem_cons, List.not_mem_nil, or_false, not_or] at z
    exact s c u e z.1 z.2.1 z.2.2.1 z.2.2.2
  · simp only [List.mem_cons, List.not_mem_nil, or_false] at z
    rcases z with z | z | z | z <;> rw [z]
    · exact ⟨Ne.symm hm.1, Ne.symm hC.1, Ne.symm hL.1, fun u e => by rw [a.ins] at e; cases e; exact id⟩
    · exact ⟨Ne.symm hm.2.1, Ne.symm hC.2.1, Ne.symm hL.2.1, fun u e => by rw [a.dic] at e; cases e; exact id⟩
    · exact ⟨Ne.symm hm.2.2.1, Ne.symm hC.2.2.1, Ne.symm hL.2.2.1, fun u e => by rw [a.lst] at e; cases e; exact id⟩
    · exact ⟨Ne.symm hm.2.2.2, Ne.symm hC.2.2.2, Ne.symm hL.2.2.2, fun u e => by rw [b] at e; cases e; exact id⟩
theorem KSt.kpM (S : KSt m lC lL tS cc oc ks tabs n H) {P : Addr} {qf : Nat → Nat → Str} (hp : (P, qf) ∈ tabs) (un : ∀ p ∈ tabs, p.1 = P → p = (P, qf)) (T : TabAt H' P qf) (M : MAt H' m lC lL n') (k : KpM m lL P H H') : KSt m lC lL tS cc oc ks tabs n' H' := by
  obtain ⟨ps, eP⟩ := (S.tb _ hp).tbl
  obtain ⟨cells, left, hm, hC, hc, hb, hL, hl, ne⟩ := S.ma.ex
  have nb : ∀ b o, H b = some o → Kn o → b ≠ m ∧ b ≠ lL := fun b o e h => ⟨(fun z => by rw [z, hm] at e; cases e; exact h), fun z => by rw [z, hL] at e; cases e; exact h⟩
  have nP : ∀ b o, H b = some o → (∀ ps, o ≠ .tbl ps) → b ≠ P := fun b o e h z => by rw [z, eP] at e; cases e; exact h _ rfl
  have kk : ∀ b o, H b = some o → Kn o → b ≠ P → H' b = some o := fun b o e h n => k b o e (nb b o e h).1 (nb b o e h).2 n
  refine ⟨M, fun p hq => ?_, kk _ _ S.fz trivial (nP _ _ S.fz (by intro _ z; cases z)), kk _ _ S.st trivial (nP _ _ S.st (by intro _ z; cases z))⟩
  by_cases e : p.1 = P
  · rw [un p hq e]; exact T
  · exact (S.tb p hq).keep (fun ps z => kk _ _ z trivial e) fun b oc u z => kk _ _ z trivial (nP _ _ z (by intro _ y; cases y))
theorem KSt.hid (S : KSt m lC lL tS cc oc ks tabs n H) (hd : ∀ vs, oc.data ≠ .fields vs) : MAt (hid H [cc]) m lC lL n ∧ ∀ p ∈ tabs, TabAt (My.hid H [cc]) p.1 p.2 := by
  have out : ∀ b o, H b = some o → (∀ oc u, o ≠ .frz oc u) → My.hid H [cc] b = some o := fun b o e h => by
    rw [hid_out fun z => by rw [List.mem_singleton.mp z, S.fz] at e; cases e; exact h _ _ rfl]; exact e
  obtain ⟨cells, left, hm, hC, hc, hb, hL, hl, ne⟩ := S.ma.ex
  refine ⟨⟨cells, left, out _ _ hm (by intro _ _ z; cases z), out _ _ hC (by intro _ _ z; cases z), hc, hb, out _ _ hL (by intro _ _ z; cases z), hl, ne⟩, fun p hp => ?_⟩
  obtain ⟨ps, e, tr, tc⟩ := S.tb p hp
  refine ⟨ps, out _ _ e (by intro _ _ z; cases z), tr, fun pos cv z => ?_⟩
  obtain ⟨c, o2, u, vs, t, z1, z2, z3, z4⟩ := tc pos cv z
  refine ⟨c, o2, u, vs, t, z1, ?_, z3, z4⟩
  rw [hid_out fun y => by rw [List.mem_singleton.mp y, S.fz] at z2; cases z2; exact hd _ z3]; exact z2
end
theorem frz_same {H : Hp} {cs : List Addr} {F : Addr → Obj} (h : ∀ c ∈ cs, H c = none) : Same H (frzH H cs F) := fun b o e => by
  rw [frz_out fun z => by rw [h b z] at e; cases e]; exact e
structure LAt (H : Hp) (l : Addr) (ts : List Addr) (cs : List (List Nat)) : Prop where
  ls : H l = some (.lst (ts.map V.ref))
  tp : Tups H ts cs
theorem LAt.mv {H H' : Hp} {l : Addr} {ts : List Addr} {cs : List (List Nat)} (S : LAt H l ts cs) (R : List Addr) (k : ∀ b o, H b = some o → b ∉ R → H' b = some o) (hl : l ∉ R) (d : ∀ b ∈ R, ∀ xs, H b ≠ some (.tup xs)) : LAt H' l ts cs :=
  ⟨k _ _ S.ls hl, S.tp.sm fun a xs e => k _ _ e fun z => d a z xs e⟩
theorem LAt.same {H H' : Hp} {l : Addr} {ts : List Addr} {cs : List (List Nat)} (S : LAt H l ts cs) (s : Same H H') : LAt H' l ts cs := ⟨s _ _ S.ls, S.tp.sm fun a xs e => s _ _ e⟩
section
variable {P : Program} {w : World} {K : PySem.W.Frag} {mg : Str → Option Value} {base : Heap}
theorem tell_lamF (DT : Df K mg "_law_tells" sTe ["_law_cores_here", "_law_some_here"]) (DI : Df K mg "_law_inside" sIs ["_law_some_here", "_law_beside"]) {H : Hp} {f l c cc : Addr} {ts : List Addr} {cs : List (List Nat)} {fd : FuncData} {ar : Arguments} {body : Expr} {scope : Scope} {name qual : Str} {pm cdv ct : Value}
    (efd : fd = mkFn name qual ar (.expr body) scope [("_law_cores_here", cc)] pm cdv ct) (L : LScope ["_law_some_here", "_law_cores_here"] ["_law_some_here"] ["_law_cores_here"] scope) (hbind : ∀ us : List Value, us.length = 1 → bindArgs (mkFn name qual ar (.expr body) scope [("_law_cores_here", cc)] pm cdv ct) ⟨us, []⟩ = pure ((["_law_some_here"] : List Str).zip us))
    (hb : ∀ {A : Around} {outer : List Env} {s : Shared} {H0 : Hp} {E : XK}, Room 2 (A.deeper (PySem.W.envX qual scope s.heap.objs.size f cdv [("_law_cores_here", cc)])) → PE (cxL (CXe P w) P w K mg base ["_law_some_here", "_law_cores_here"] qual scope f cdv [("_law_cores_here", cc)] A outer s H0 E) body (tCall (spTells K) [] E0 (tCons (tVar 1) (tCons (tVar 0) tNil))))
    (C : CloF H f fd ["_law_cores_here"] [.ref l]) (hc : fd.code = .ref c) (LA : LAt H l ts cs) (hR : ∀ c ∈ cs, Rising 0 120 c) (hn : cs.length ≤ 150) :
    TellAt P w K mg base H f (domF f c fd ++ l :: ts) (tells cs) := by
  subst efd
  refine ⟨fun H' k => ?_, fun b hb => ?_⟩
  · have C' := C.fix hc fun b hb => k b (List.mem_append_left _ hb)
    refine ⟨.inl ⟨_, C'.ob⟩, (clo_lamF (k := 2) (sp := spTell (tells cs)) L hbind C' fun A outer s vs Q E hr h => ?_).imp fun vs Q E h => tell_over C'.ext1 h⟩
    obtain ⟨t, ks, rfl, ht, hk, q⟩ := h
    have hl' : H' l = some (.lst (ts.map V.ref)) := by rw [k l (List.mem_append_right _ List.mem_cons_self)]; exact LA.ls
    have hT' : Tups H' ts cs := ⟨LA.tp.1, fun i t c e1 e2 => by
      rw [k t (List.mem_append_right _ (List.mem_cons_of_mem _ (List.mem_of_getElem? e1)))]; exact LA.tp.2 i t c e1 e2⟩
    exact ⟨_, hb hr, _, rfl, _, rfl, l, t, ts, cs, ks, rfl, C'.ext1.hid hl' (by intro φ z; cases z), hT'.sm fun a xs e => exts_tup C'.ext1 e, hR, hn, ht, hk, q⟩
  · rcases List.mem_append.mp hb with z | z
    · unfold domF at z
      rcases List.mem_cons.mp z with z | z
      · rw [z]; exact ⟨_, C.ob, trivial⟩
      · rcases List.mem_cons.mp z with z | z
        · obtain ⟨c2, oc, u, vs, t, e1, e2, _⟩ := C.code
          rw [hc] at e1; cases e1
          rw [z]; exact ⟨_, e2, trivial⟩
        · have z : b = cc := by simpa [mkFn] using z
          obtain ⟨oc, y, v, e2, _⟩ := C.cells "_law_cores_here" cc (by rfl)
          rw [z]; exact ⟨_, e2, trivial⟩
    · rcases List.mem_cons.mp z with z | z
      · rw [z]; exact ⟨_, LA.ls, trivial⟩
      · obtain ⟨i, hi, ei⟩ := List.getElem_of_mem z
        have := LA.tp.2 i b (cs[i]'(by rw [← LA.tp.1]; exact hi)) (by rw [List.getElem?_eq_getElem hi, ei]) (List.getElem?_eq_getElem _)
        exact ⟨_, this, trivial⟩
end
end My
set_option Elab.async false
set_option linter.all false
set_option maxRecDepth 100000
set_option maxHeartbeats 4000000
namespace My
open PySem L2
abbrev sLaw : Stmt := top 47
abbrev nLaw : List Str := ["_law_script", "_law_m", "_law_turn", "_law_start_here", "_law_log", "_law_told", "_law_tell", "_law_done", "_law_cores_here", "_law_some_here"]
abbrev qLaw : Nat → Nat → Str := fun _ _ => (("law" : Str) ++ ".<locals>.") ++ "<lambda>"
theorem scLaw : FnScope nLaw ["_law_script"] (defScope sLaw) := ⟨rfl, rfl, rfl, by decide +kernel, rfl, by decide +kernel, by decide +kernel⟩
theorem funCN_ok {P : Program} {w : World} {K : PySem.W.Frag} {mg : Str → Option Value} {base : Heap} {x qual : Str} {st : Stmt} {f : Addr} {fd : FuncData} {N ps : List Str} {k : Nat} {sp : Sp} (F : Fun K x qual st f fd) (S : FnScope N ps (defScope st)) (len : ∀ vs H Q E, sp vs H Q E → vs.length = ps.length)
    (hbody : ∀ (A : Around) (outer : List Env) (s : Shared) (H : Hp) (vs : List V) (Q : VK) (E : XK), Room k (A.deeper (PyProof.Rows.envOfC qual (defScope st) s.heap.objs.size f fd.code)) → sp vs H Q E →
      ∃ t, PSs (cxOf CX0 P w K mg base N qual (defScope st) f fd.code A outer s H E).nox (defBody st) t ∧ t { nx := fun _ H' => Q .non H', rt := Q } (L2.start N vs) H) : FnOk P w K mg base CX0 (k + 1) f fd ps sp := by
  obtain ⟨oc, od, kV, doc, pm, an, cdv, ct, osl, rfl, lk, hcd⟩ := F.ex
  refine fn_of lk hcd S len fun A outer s H vs Q E hr hsp => ?_
  obtain ⟨t, h, q⟩ := hbody A outer s H vs Q E hr hsp
  exact ⟨t, h.nox, q⟩
def spLaw3 (K : PySem.W.Frag) (ts : List (Addr × Addr)) : Sp := fun vs H Q _ => ∃ (a : Addr) (ns : List Int), vs = [.ref a] ∧ SqL K H a (ns.map V.int) ∧ ns.length ≤ 63 ∧ (∀ p ∈ ts, H p.2 = some (.tbl #[])) ∧ ∀ H', Q (.bl true) H'
structure Tq3 (base : Heap) (mg : Str → Option Value) (cF PF cS PS cL PL : Addr) : Prop where
  f : PySem.W.CodeHd base cF PF ∧ base.BuiltinsAt mg PF
  s : PySem.W.CodeHd base cS PS ∧ base.BuiltinsAt mg PS
  l : PySem.W.CodeHd base cL PL ∧ base.BuiltinsAt mg PL
  ne : PF ≠ PS ∧ PF ≠ PL ∧ PS ≠ PL
theorem sqL_same {K : PySem.W.Frag} {H H' : Hp} {a : Addr} {xs : List V} (h : SqL K H a xs) (s : Same H H') : SqL K H' a xs := by
  rcases h with h | h
  · rcases h with h | ⟨o, h⟩
    · exact .inl (.inl (s _ _ h))
    · exact .inl (.inr ⟨o, s _ _ h⟩)
  · exact .inr h
theorem sizes_at (r : Int) (h0 : 0 ≤ r) (h1 : r < 3) : ∃ z : Nat, atI [V.int 5, V.int 12, V.int 20] r = some (V.int (z : Int)) ∧ z ≤ 20 := by
  have : r = 0 ∨ r = 1 ∨ r = 2 := by omega
  rcases this with e | e | e <;> subst e <;> first
    | exact ⟨5, rfl, by decide⟩ | exact ⟨12, rfl, by decide⟩ | exact ⟨20, rfl, by decide⟩
theorem tab_no {H : Hp} {P b : Addr} {qf : Nat → Nat → Str} {o : HO} (T : TabAt H P qf) (h : H b = some o) (n : ∀ ps, o ≠ .tbl ps) : b ∉ [P] := fun z => by
  obtain ⟨ps, e⟩ := T.tbl
  rw [List.mem_singleton.mp z, e] at h; cases h; exact n _ rfl
theorem mat_some {H : Hp} {m lC lL b : Addr} {n : Nat} (M : MAt H m lC lL n) (hb : b = m ∨ b = lC ∨ b = lL) : ∃ o, H b = some o ∧ ∀ ps, o ≠ .tbl ps := by
  obtain ⟨cells, left, hm, hC, hc, hb2, hL, hl, ne⟩ := M.ex
  rcases hb with rfl | rfl | rfl
  · exact ⟨_, hm, by intro _ z; cases z⟩
  · exact ⟨_, hC, by intro _ z; cases z⟩
  · exact ⟨_, hL, by intro _ z; cases z⟩
theorem dom_no {H : Hp} {f c cc l lg : Addr} {x : Str} {ts : List Addr} {cs : List (List Nat)} {fd : FuncData} {fs : List Str} {fv : List V} {xs : List V} (C : CloF H f fd fs fv) (hc : fd.code = .ref c) (LA : LAt H l ts cs) (hlg : H lg = some (.lst xs)) (ne : lg ≠ l) (hcl : fd.closure = [(x, cc)]) : lg ∉ domF f c fd ++ l :: ts := fun z => by
  rcases List.mem_append.mp z with z | z
  · unfold domF at z
    rcases List.mem_cons.mp z with z | z
    · rw [z, C.ob] at hlg; cases hlg
    · rcases List.mem_cons.mp z with z | z
      · obtain ⟨c2, oc, u, vs, t, e1, e2, _⟩ := C.code
        rw [hc] at e1; cases e1
        rw [z, e2] at hlg; cases hlg
      · rw [hcl] at z
        have z : lg = cc := by simpa using z
        obtain ⟨oc, y, v, e2, _⟩ := C.cells x cc (by rw [hcl]; simp [List.lookup])
        rw [z, e2] at hlg; cases hlg
  · rcases List.mem_cons.mp z with z | z
    · exact ne z
    · obtain ⟨i, hi, ei⟩ := List.getElem_of_mem z
      have := LA.tp.2 i lg (cs[i]'(by rw [← LA.tp.1]; exact hi)) (by rw [List.getElem?_eq_getElem hi, ei]) (List.getElem?_eq_getElem _)
      rw [this] at hlg; cases hlg
structure Tl (K : PySem.W.Frag) (mg : Str → Option Value) extends Tn K mg where
  all : mg "all" = none
  qk : Df K mg "quick" sQk ["trials", "parts"]
  sh : Df K mg "shortest" sSh ["trials", "ahead", "kept"]
  kQk : KBinds K qk.f ["trials", "parts"] ["parts", "trials"] kb02r kb02r
  lo : Df K mg "_law_left_out" sLo ["_law_cores_here", "_law_start_here"]
  db : Df K mg "_law_doublings" sDb ["_law_size"]
  qr : Df K mg "_law_quick_right" sQr ["_law_tell", "_law_start_here", "_law_log", "_law_told"]
  ls : Df K mg "_law_less" sLs ["_law_some_here", "_law_beside"]
  tf : Df K mg "_law_tell_for" sTf ["_law_m", "_law_start_here"]
  ts : Df K mg "_law_test" sTs ["_law_log", "_law_tell"]
  wc : Df K mg "_law_within_cores" sWc ["_law_m", "_law_start_here"]
  co : Df K mg "_law_cores" sCo ["_law_m", "_law_size"]
  dx : Df K mg "_law_draw" sDraw ["_law_m", "_law_top"]
  dy : Df K mg "_law_mixed" sMixed ["_law_cell", "_law_k"]
  te : Df K mg "_law_tells" sTe ["_law_cores_here", "_law_some_here"]
  is : Df K mg "_law_inside" sIs ["_law_some_here", "_law_beside"]
  od : Df K mg "_law_odd" sOd ["_law_seed", "_law_some_here"]
  no : Df K mg "_law_number_of" sNo ["_law_some_here"]
  fo : Df K mg "_law_folded" sFolded ["_law_script"]
  be : Df K mg "_law_begun" sBegun ["_law_script"]
  so : Df K mg "_law_some" sSome ["_law_m", "_law_size"]
  st : Df K mg "_law_start" sStt ["_law_m", "_law_size"]
section
variable {P : Program} {w : World} {K : PySem.W.Frag} {mg : Str → Option Value} {base : Heap}
theorem ok_law (T : Tl K mg) {f : Addr} {fd : FuncData} {cF PF cS PS cL PL : Addr} (hF : T.tf.f.code = .ref cF) (hS : T.ts.f.code = .ref cS) (hL : fd.code = .ref cL) (X3 : Tq3 base mg cF PF cS PS cL PL) (F : Fun K "law" "law" sLaw f fd) : FnOk P w K mg base CX0 14 f fd ["_law_script"] (spLaw3 K [(cF, PF), (cS, PS), (cL, PL)]) := by
  have GB : FnOk P w K mg base CX0 13 T.be.a T.be.f ["_law_script"] (spBegun K) := (ok_begun T.be.F T.bi T.fo.F T.fo.b T.fo.g).mono (by decide)
  have GX : FnOk P w K mg base CX0 13 T.dx.a T.dx.f ["_law_m", "_law_top"] spDraw := (ok_draw T.dx.F T.bi T.dy.F T.dy.b T.dy.g).mono (by decide)
  have GS : FnOk P w K mg base CX0 13 T.st.a T.st.f ["_law_m", "_law_size"] spStt := (ok_stt T.bi T.st T.so T.dx T.dy).mono (by decide)
  have GW : FnOk P w K mg base CX0 13 T.wc.a T.wc.f ["_law_m", "_law_start_here"] spWc := (ok_wc T.bi T.int T.max T.sorted T.wc T.co T.dx T.dy).mono (by decide)
  have GF : FnOk P w K mg base CX0 13 T.tf.a T.tf.f ["_law_m", "_law_start_here"] (spTf P w K mg base PF) := (ok_tf T.bi T.int T.max T.sorted T.tf T.wc T.co T.dx T.dy T.te T.is T.od T.no hF X3.f.1 X3.f.2).mono (by decide)
  have GT : FnOk P w K mg base CX0 13 T.ts.a T.ts.f ["_law_log", "_law_tell"] (spTs P w K mg base PS) := (ok_ts T.ts hS X3.s.1 X3.s.2).mono (by decide)
  have GI : FnOk P w K mg base CX0 12 T.aTI T.fTI ["self", "test", "most", "known"] (spTI T.C T.a0) := (ok_ti T.toT8).mono (by decide)
  have GQ : FnOk P w K mg base CX0 13 T.qk.a T.qk.f ["trials", "parts"] (spQk P w K mg base T.C) := (ok_qk T.toTm T.qk T.sh).mono (by decide)
  have GLo : FnOk P w K mg base CX0 13 T.lo.a T.lo.f ["_law_cores_here", "_law_start_here"] (spLo K) := (ok_lo T.lo T.ls T.te T.is T.bi).mono (by decide)
  have GDb : FnOk P w K mg base CX0 13 T.db.a T.db.f ["_law_size"] spDb := (ok_db T.db).mono (by decide)
  have GQr : FnOk P w K mg base CX0 13 T.qr.a T.qr.f ["_law_tell", "_law_start_here", "_law_log", "_law_told"] (spQr P w K mg base) := (ok_qr T.bi T.isinstance T.list T.sorted T.all T.set T.qr T.is).mono (by decide)
  have GR : FnOk P w K mg base CX0 13 T.aRw T.fRw ["self"] (spRw T.C) := (ok_rw T.toTn).mono (by decide)
  have GN : FnOk P w K mg base CX0 2 T.aLn T.fLn ["self"] (spLn T.C) := (ok_ln T.toTn).mono (by decide)
  have GTe : FnOk P w K mg base CX0 2 T.te.a T.te.f ["_law_cores_here", "_law_some_here"] (spTells K) := ok_tells T.te T.is
  refine funCN_ok F scLaw (fun vs H Q E h => ?_) (fun A outer s H vs Q E hr h => ?_)
  · obtain ⟨a, ns, rfl, _⟩ := h
    rfl
  · obtain ⟨a, ns, rfl, hSq, hn, hPt, q⟩ := h
    have hu : (A.deeper (PyProof.Rows.envOfC "law" (defScope sLaw) s.heap.objs.size f fd.code)).units + 64 < cLine := hr.units
    have hr3 : Room 3 (A.deeper (PyProof.Rows.envOfC "law" (defScope sLaw) s.heap.objs.size f fd.code)) := hr.mono (by decide)
    refine ⟨_, pss_cons (ps_set (i := 1) scLaw.nd rfl (Or.inl rfl) (pe_call GB hr (by rfl) T.be.g T.be.F.kp T.be.b .nil pass0 (pa_cons (pv 0) pa_nil)))
      (pss_cons (ps_for PassesOwn.never rfl (pi_range1 (by rfl) T.bi.range (pa_cons (pe_op op_add pe_int (pe_callB (call_min2 rfl) (by rfl) T.min (by decide +kernel) (pa_cons pe_int (pa_cons (pe_op op_fdiv (pe_callB call_len_seq (by rfl) T.bi.len PySem.boot_len (pa_cons (pv 0) pa_nil)) pe_int) pa_nil)))) pa_nil)) (pg_name (i := 2) scLaw.nd rfl (Or.inl rfl))
        (pss_cons (ps_set (i := 3) scLaw.nd rfl (Or.inl rfl) (pe_call GS hr (by rfl) T.st.g T.st.F.kp T.st.b .nil pass0 (pa_cons (pv 1) (pa_cons (pe_ix ix_list (pe_lst (pa_cons pe_int (pa_cons pe_int (pa_cons pe_int pa_nil)))) (pe_call GX hr (by rfl) T.dx.g T.dx.F.kp T.dx.b .nil pass0 (pa_cons (pv 1) (pa_cons pe_int pa_nil))) (fun _ _ => rfl)) pa_nil))))
        (pss_cons (ps_asg (pe_tup (pa_cons (pe_call GW hr (by rfl) T.wc.g T.wc.F.kp T.wc.b .nil pass0 (pa_cons (pv 1) (pa_cons (pv 3) pa_nil))) (pa_cons (pe_lst pa_nil) pa_nil))) (pg_tup (by rfl) (pgs_cons (pg_name (i := 8) scLaw.nd rfl (Or.inr rfl)) (pgs_cons (pg_name (i := 4) scLaw.nd rfl (Or.inl rfl)) pgs_nil))))
        (pss_keep (ks := ["_law_cores_here"]) (cs := [s.heap.objs.size + 2]) (ix := [8]) (by
            refine ⟨fun i x h => ?_, rfl⟩
            match i, h with
            | 0, h => cases h; exact ⟨_, 8, rfl, rfl, rfl, rfl, rfl, (fun z => absurd z (show ¬ List.lookup (_ : Str) (defScope sLaw).names = some NameKind.local by decide +kernel)), Or.inr (Or.inl rfl)⟩)
          (pss_cons (ps_set (i := 5) scLaw.nd rfl (Or.inl rfl) (pe_call GQ hr (by rfl) T.qk.g T.qk.F.kp T.qk.b .nil pass0 (pa_cons (pe_make (dvs := [.int 20000, .ref T.a0]) T.mkC GI hr (by rfl) T.gC T.bTI (.cons T.rM (.cons rfl .nil)) pass0 (pa_cons (pe_call GT hr (by rfl) T.ts.g T.ts.F.kp T.ts.b .nil pass0 (pa_cons (pv 4) (pa_cons (pe_lamF (qf := qLaw) (c := cL) (Pt := PL) (clos := [("_law_cores_here", s.heap.objs.size + 2)]) (fs := ["_law_cores_here"]) (ix := [8]) ?ML (by rfl) (by rfl)) pa_nil))) pa_nil)) (pa_cons (pv 3) pa_nil))))
          (pss_cons (ps_if (PW.pt (pw_or (pt_cmpR (op_neD hu) (pv 5) (pe_call GLo hr (by rfl) T.lo.g T.lo.F.kp T.lo.b .nil pass0 (pa_cons (pv 8) (pa_cons (pv 3) pa_nil))) (nomark _)) (pw_or1 (pt_cmpR op_gt (pe_callB call_len_seq (by rfl) T.bi.len PySem.boot_len (pa_cons (pv 4) pa_nil)) (pe_op op_add (pe_op op_mul (pe_op op_mul pe_int (pe_callB call_len_seq (by rfl) T.bi.len PySem.boot_len (pa_cons (pv 5) pa_nil))) (pe_call GDb hr (by rfl) T.db.g T.db.F.kp T.db.b .nil pass0 (pa_cons (pe_callB call_len_seq (by rfl) T.bi.len PySem.boot_len (pa_cons (pv 3) pa_nil)) pa_nil))) pe_int) (nomark _))))) (pss_one (ps_ret pe_bl)) pss_nil)
          (pss_cons (ps_if (pt_not (pt_val (pe_call GQr hr (by rfl) T.qr.g T.qr.F.kp T.qr.b .nil pass0 (pa_cons (pe_lamF (qf := qLaw) (c := cL) (Pt := PL) (clos := [("_law_cores_here", s.heap.objs.size + 2)]) (fs := ["_law_cores_here"]) (ix := [8]) ?ML2 (by rfl) (by rfl)) (pa_cons (pv 3) (pa_cons (pv 4) (pa_cons (pv 5) pa_nil))))))) (pss_one (ps_ret pe_bl)) pss_nil)
          (pss_cons (ps_asg (pe_tup (pa_cons (pe_call GF hr (by rfl) T.tf.g T.tf.F.kp T.tf.b .nil pass0 (pa_cons (pv 1) (pa_cons (pv 3) pa_nil))) (pa_cons (pe_lst pa_nil) pa_nil))) (pg_tup (by rfl) (pgs_cons (pg_name (i := 6) scLaw.nd rfl (Or.inr rfl)) (pgs_cons (pg_name (i := 4) scLaw.nd rfl (Or.inl rfl)) pgs_nil))))
          (pss_cons (ps_set (i := 7) scLaw.nd rfl (Or.inl rfl) (pe_make (dvs := [.int 20000, .ref T.a0]) T.mkC GI hr (by rfl) T.gC T.bTI (.cons T.rM (.cons rfl .nil)) pass0 (pa_cons (pe_call GT hr (by rfl) T.ts.g T.ts.F.kp T.ts.b .nil pass0 (pa_cons (pv 4) (pa_cons (pv 6) pa_nil))) pa_nil)))
          (pss_cons (ps_set (i := 5) scLaw.nd rfl (Or.inl rfl) (pe_callK0 GQ hr (by rfl) T.qk.g T.qk.F.kp T.kQk pass0 (pk_cons (pv 3) (pk_cons (pv 7) pk_nil))))
          (pss_cons (ps_if (PW.pt (pw_or (pt_not (pt_val (pe_call GQr hr (by rfl) T.qr.g T.qr.F.kp T.qr.b .nil pass0 (pa_cons (pv 6) (pa_cons (pv 3) (pa_cons (pv 4) (pa_cons (pv 5) pa_nil))))))) (pw_or1 (pt_cmpR (op_neD hu) (pe_meth0 (pv 7) T.cl T.mRw GR hr T.bRw .nil pass0) (pe_lc (te := tTup (tCons (tVar 9) (tCons (tCallF P w K mg base 3 E0 (tVar 6) (tCons (tVar 9) tNil)) tNil))) (own := [("_law_some_here", 9)]) (g := gName 9) (by rfl) scLaw.nd (pi_list (pv 4)) (blkOk_by (own := [("_law_some_here", 9)]) (N := nLaw) (sc := defScope sLaw) (by decide +kernel)) (fun _ _ _ _ _ => pg_name (i := 9) scLaw.nd rfl (Or.inl rfl)) (fun _ _ _ _ _ => pts_nil)
            (fun _ _ _ _ _ => pe_tup (pa_cons (pv 9) (pa_cons (pe_callFX (P := P) (w := w) (K := K) (mg := mg) (base := base) (k := 3) (E := E0) rfl rfl rfl rfl rfl hr3 passF (pv 6) (pa_cons (pv 9) pa_nil)) pa_nil)))) (nomark _))))) (pss_one (ps_ret pe_bl)) pss_nil)
          (pss_one (ps_if (PW.pt (pw_or (pt_cmpR (op_neD hu) (pe_call GQ hr (by rfl) T.qk.g T.qk.F.kp T.qk.b .nil pass0 (pa_cons (pv 7) (pa_cons (pv 3) pa_nil))) (pv 5) (nomark _)) (pw_or1 (pt_cmpR op_ne (pe_callB call_len_seq (by rfl) T.bi.len PySem.boot_len (pa_cons (pv 4) pa_nil)) (pe_callB (cr_lenO T.mLn GN (hr.mono (by decide)) T.bLn) (by rfl) T.bi.len PySem.boot_len (pa_cons (pv 7) pa_nil)) (nomark _))))) (pss_one (ps_ret pe_bl)) pss_nil)))))))))))))
      (pss_one (ps_ret pe_bl))), ?_⟩
    case ML =>
      exact ⟨hL, X3.l.1, X3.l.2, rfl, fun x a h => by
            have h := PySem.mem_of_lookup h
            simp only [List.mem_cons, List.not_mem_nil, or_false, Prod.mk.injEq] at h
            obtain ⟨rfl, rfl⟩ := h; rfl, fun y hy => by
            simp only [List.mem_cons, List.not_mem_nil, or_false] at hy
            obtain rfl := hy; exact ⟨rfl, (fun z => absurd z (show ¬ List.lookup (_ : Str) (defScope sLaw).names = some NameKind.local by decide +kernel)), Or.inr (Or.inl rfl)⟩, fun i y h => by
          match i, h with
          | 0, h => exact ⟨8, rfl, h⟩, rfl, by decide +kernel, fun x a h => by
            have h := PySem.mem_of_lookup h
            simp only [List.mem_cons, List.not_mem_nil, or_false, Prod.mk.injEq] at h
            obtain ⟨rfl, rfl⟩ := h; simp, fun x a h => by
            have h := PySem.mem_of_lookup h
            simp only [List.mem_cons, List.not_mem_nil, or_false, Prod.mk.injEq] at h
            obtain ⟨rfl, rfl⟩ := h; exact Nat.le_add_right _ _⟩
    case ML2 =>
      exact ⟨hL, X3.l.1, X3.l.2, rfl, fun x a h => by
            have h := PySem.mem_of_lookup h
            simp only [List.mem_cons, List.not_mem_nil, or_false, Prod.mk.injEq] at h
            obtain ⟨rfl, rfl⟩ := h; rfl, fun y hy => by
            simp only [List.mem_cons, List.not_mem_nil, or_false] at hy
            obtain rfl := hy; exact ⟨rfl, (fun z => absurd z (show ¬ List.lookup (_ : Str) (defScope sLaw).names = some NameKind.local by decide +kernel)), Or.inr (Or.inl rfl)⟩, fun i y h => by
          match i, h with
          | 0, h => exact ⟨8, rfl, h⟩, rfl, by decide +kernel, fun x a h => by
            have h := PySem.mem_of_lookup h
            simp only [List.mem_cons, List.not_mem_nil, or_false, Prod.mk.injEq] at h
            obtain ⟨rfl, rfl⟩ := h; simp, fun x a h => by
            have h := PySem.mem_of_lookup h
            simp only [List.mem_cons, List.not_mem_nil, or_false, Prod.mk.injEq] at h
            obtain ⟨rfl, rfl⟩ := h; exact Nat.le_add_right _ _⟩
    have tabsUn : ∀ (Pq : Addr) (qf : Nat → Nat → Str), (Pq, qf) ∈ [(PF, qTf), (PS, qTs), (PL, qLaw)] → ∀ p ∈ [(PF, qTf), (PS, qTs), (PL, qLaw)], p.1 = Pq → p = (Pq, qf) := by
      obtain ⟨n1, n2, n3⟩ := X3.ne
      intro Pq qf h1 p h2 e
      simp only [List.mem_cons, List.not_mem_nil, or_false, Prod.mk.injEq] at h1 h2
      rcases h1 with ⟨rfl, rfl⟩ | ⟨rfl, rfl⟩ | ⟨rfl, rfl⟩ <;> rcases h2 with rfl | rfl | rfl <;> first | rfl | exact absurd e (by first | exact n1 | exact n2 | exact n3 | exact Ne.symm n1 | exact Ne.symm n2 | exact Ne.symm n3)
    refine ⟨_, rfl, a, ns, rfl, hSq, hn, fun m lC lL H1 hm0 hL0 M1 s1 => ?_⟩
    refine ⟨_, rfl, a, _, rfl, .inl (sqL_same hSq s1), ?_⟩
    refine ⟨_, _, rfl, rfl, ⟨by decide, by decide⟩, _, _, rfl, _, _, rfl, rfl, ?_⟩
    rw [List.length_map]
    obtain ⟨N, hN⟩ : ∃ N : Int, (4 + (if ((ns.length : Nat) : Int) / 4 < 4 then ((ns.length : Nat) : Int) / 4 else 4) : Int) = N := ⟨_, rfl⟩
    have hN0 : 0 ≤ N ∧ N ≤ 8 := by
      rw [← hN]
      split <;> omega
    refine ⟨N, by rw [← hN], by omega, by omega, for_range (lo := 0) (n := N.toNat) (fun i σ H3 => (∃ v2 v3 v4 v5 v6 v7 v8 v9, σ = [some (.ref a), some (.ref m), v2, v3, v4, v5, v6, v7, v8, v9]) ∧ ∃ n, n ≤ 1000 * i ∧ MAt H3 m lC lL n ∧ ∀ p ∈ [(PF, qTf), (PS, qTs), (PL, qLaw)], TabAt H3 p.1 p.2)
      ⟨⟨_, _, _, _, _, _, _, _, rfl⟩, 0, Nat.zero_le _, M1, fun p hp => by
        simp only [List.mem_cons, List.not_mem_nil, or_false] at hp
        rcases hp with rfl | rfl | rfl
        · exact TabAt.start (s1 _ _ (hPt (cF, PF) (by simp)))
        · exact TabAt.start (s1 _ _ (hPt (cS, PS) (by simp)))
        · exact TabAt.start (s1 _ _ (hPt (cL, PL) (by simp)))⟩ ?_ ?_⟩
    · rintro i σ H3 hi ⟨⟨v2, v3, v4, v5, v6, v7, v8, v9, rfl⟩, n, hn3, M3, TB3⟩
      have hi8 : i < 8 := by omega
      refine ⟨_, rfl, by show 3 ≤ sizeLine; decide, fun l hl => ?_⟩
      have s4 := Same.new (o := .lst [V.int 5, V.int 12, V.int 20]) hl
      have M4 := M3.but s4
      refine ⟨_, rfl, m, lC, lL, n, 3, rfl, M4, by omega, by decide, by decide, fun g H5 g0 g1 M5 b5 => ?_⟩
      obtain ⟨z, hz, hz20⟩ := sizes_at g g0 g1
      have nl := M3.ne hl
      have hl5 := b5 _ _ upd_same nl.1 nl.2
      refine ⟨l, _, _, _, rfl, rfl, SqL.of hl5, hz, ?_⟩
      refine ⟨m, lC, lL, n + 1, z, rfl, M5, by omega, by omega, fun tS ks n2 H6 ht hkz hn2 M6 b6 => ?_⟩
      have hk : Rising 0 120 ks := hkz.mono (by omega)
      have hk20 : ks.length ≤ 20 := by have := hkz.le; omega
      have TB6 : ∀ p ∈ [(PF, qTf), (PS, qTs), (PL, qLaw)], TabAt H6 p.1 p.2 := fun p hp => (((TB3 p hp).same s4).butM M4 b5).butM M5 b6
      refine ⟨_, rfl, _, rfl, m, lC, lL, tS, n2, ks, rfl, M6, by omega, ht, hk, fun l ts cs n3 H7 hl0 hl7 hT7 hR7 hc7 hcn hn3' M7 b7 => ?_⟩
      have TB7 : ∀ p ∈ [(PF, qTf), (PS, qTs), (PL, qLaw)], TabAt H7 p.1 p.2 := fun p hp => (TB6 p hp).butM M6 b7
      have ht7 := b7.tups M6 _ _ ht
      have hRc : ∀ c ∈ cs, Rising 0 120 c := fun c hc => (hR7 c hc).1
      have hfk : tells cs ks = "fail" := tells_start (fun c hc => (hR7 c hc).2) hcn
      have nl7 := M6.ne hl0
      have nC7 := M6.neC hl0
      refine ⟨Nat.zero_le _, fun lg hlg => ?_⟩
      have s8 := Same.new (o := .lst []) hlg
      refine ⟨by show 2 ≤ sizeLine; decide, fun pt hpt => ?_⟩
      have s9 := Same.new (o := .tup [V.ref l, .ref lg]) hpt
      have s79 := s8.trans s9
      refine ⟨pt, _, rfl, SqT.of upd_same, rfl, ?_⟩
      have hlg9 := s9 _ _ (upd_same (H := H7) (a := lg) (o := .lst []))
      generalize upd (upd H7 lg (.lst [])) pt (.tup [V.ref l, .ref lg]) = H9 at s9 s79 hlg9 ⊢
      refine ⟨_, _, rfl, _, _, rfl, rfl, ?_⟩
      intro Fz hFz hcn0
      obtain ⟨u0, _, hcd⟩ := hFz 0 _ 8 (.ref l) rfl rfl rfl
      have sB := frz_same (F := Fz) hcn0
      have hz : frzH H9 [s.heap.objs.size + 2] Fz (s.heap.objs.size + 2) = some (.frz (Fz (s.heap.objs.size + 2)) (.own 0)) := frz_in (List.mem_singleton.mpr rfl)
      have hoc : ∀ vs, (Fz (s.heap.objs.size + 2)).data ≠ .fields vs := fun vs z => by rw [hcd] at z; cases z
      clear hFz hcn0
      generalize frzH H9 [s.heap.objs.size + 2] Fz = HB at sB hz ⊢
      generalize Fz (s.heap.objs.size + 2) = ocz at hz hoc hcd
      have s7B := s79.trans sB
      have SB : KSt m lC lL tS (s.heap.objs.size + 2) ocz ks [(PF, qTf), (PS, qTs), (PL, qLaw)] n3 HB := ⟨M7.but s7B, fun p hp => (TB7 p hp).same s7B, hz, s7B _ _ ht7⟩
      have LB : LAt HB l ts cs := ⟨s7B _ _ hl7, hT7.sm fun _ _ e => s7B _ _ e⟩
      have hlgB := sB _ _ hlg9
      have mF : (PF, qTf) ∈ [(PF, qTf), (PS, qTs), (PL, qLaw)] := by simp
      have mS : (PS, qTs) ∈ [(PF, qTf), (PS, qTs), (PL, qLaw)] := by simp
      have mL : (PL, qLaw) ∈ [(PF, qTf), (PS, qTs), (PL, qLaw)] := by simp
      have nlg := M7.ne hlg
      have nlgC := M7.neC hlg
      have llg : l ≠ lg := ne_of_none hl7 hlg
      clear M1 M3 M4 M5 TB3 TB6 TB7
      -- the first lambda
      refine ⟨_, rfl, SB.tb _ mL, fun x c e => ?_, [.ref l], rfl, fun i j hij v hv => ?_, fun H10 f1 pm cv ct TL10 k10 hf0 C10 => ?_⟩
      · have h := PySem.mem_of_lookup e
        simp only [List.mem_cons, List.not_mem_nil, or_false, Prod.mk.injEq] at h
        obtain ⟨rfl, rfl⟩ := h; exact ⟨_, 0, hz⟩
      · match i, hij with
        | 0, hij => cases hij; cases hv; rfl
      have S10 := SB.tab mL (tabsUn _ _ mL) TL10 k10
      have L10 : LAt H10 l ts cs := LB.mv [PL] (fun b o e n => k10 b o e fun z => n (List.mem_singleton.mpr z)) (tab_no (SB.tb _ mL) LB.ls (by intro _ z; cases z)) fun b hb xs e => by
        obtain ⟨ps, e2⟩ := (SB.tb _ mL).tbl
        rw [List.mem_singleton.mp hb, e2] at e; cases e
      have hlg10 := k10 _ _ hlgB fun z => tab_no (SB.tb _ mL) hlgB (by intro _ z; cases z) (List.mem_singleton.mpr z)
      obtain ⟨c10, oc10, u10, vs10, t10, e10, _⟩ := id C10.code
      have TA10 := tell_lamF (P := P) (w := w) (K := K) (mg := mg) (base := base) T.te T.is rfl ⟨rfl, rfl, rfl, by decide +kernel, rfl, by decide +kernel, by decide +kernel, by decide +kernel, fun y hy => (show ∀ z ∈ Scope.names _, z.2 = NameKind.free → z.1 ∈ (["_law_cores_here"] : List Str) by decide +kernel) _ (PySem.mem_of_lookup hy) rfl⟩ (fun us hl => match us, hl with | [_], _ => rfl) (fun hr => pe_call GTe hr (by rfl) T.te.g T.te.F.kp T.te.b .nil pass0 (pa_cons (pv 1) (pa_cons (pv 0) pa_nil))) C10 e10 L10 hRc (by omega)
      have lgD10 := dom_no C10 e10 L10 hlg10 (Ne.symm llg) rfl
      generalize domF f1 c10 _ ++ l :: ts = D10 at TA10 lgD10
      -- the trials of it
      refine ⟨lg, f1, D10, tells cs, [], rfl, TA10, hlg10, lgD10, S10.tb _ mS, fun ft D11 H11 hT11 hD11 TS11 k11 => ?_⟩
      refine fun x dx hx hdx nx => ⟨x, dx, _, _, rfl, upd_same, by decide, by decide, fun dv lc H12 hdv hlc k12 A12 => ⟨rfl, ?_⟩⟩
      obtain ⟨hX12, kx12, TS12, TA12, s1112, PsD⟩ := tri_made (verd_tells cs) TA10 hlg10 lgD10 (S10.tb _ mS) hT11 hD11 TS11 k11 hx hdx hdv hlc k12 A12
      have S12 := S10.tab mS (tabsUn _ _ mS) TS12 fun b o e n => (kx12 b o e n).1
      have L12 : LAt H12 l ts cs := L10.mv [PS] (fun b o e n => (kx12 b o e fun z => n (List.mem_singleton.mpr z)).1) (tab_no (S10.tb _ mS) L10.ls (by intro _ z; cases z)) fun b hb xs e => by
        obtain ⟨ps, e2⟩ := (S10.tb _ mS).tbl
        rw [List.mem_singleton.mp hb, e2] at e; cases e
      have oX : ∀ b, b = m ∨ b = lC ∨ b = lL → b ≠ x ∧ b ≠ dv ∧ b ≠ lc ∧ b ≠ lg := fun b hb => by
        obtain ⟨o, e, nt⟩ := mat_some S10.ma hb
        have := (kx12 b o e fun z => tab_no (S10.tb _ mS) e nt (List.mem_singleton.mpr z)).2
        refine ⟨this.1, this.2.1, this.2.2, ?_⟩
        rcases hb with rfl | rfl | rfl
        · exact Ne.symm nlg.1
        · exact Ne.symm nlgC
        · exact Ne.symm nlg.2
      have oL : l ≠ x ∧ l ≠ dv ∧ l ≠ lc := (kx12 l _ L10.ls fun z => tab_no (S10.tb _ mS) L10.ls (by intro _ z; cases z) (List.mem_singleton.mpr z)).2
      generalize hX : (⟨x, dx, dv, lc, lg, ft, D11, tells cs⟩ : TX) = X at hX12
      have eF : X.F = tells cs := by rw [← hX]
      have exx : X.x = x := by rw [← hX]
      have exd : X.dv = dv := by rw [← hX]
      have exc : X.lc = lc := by rw [← hX]
      have exl : X.lg = lg := by rw [← hX]
      rw [← exx, ← exd, ← exc] at oL
      have oX : ∀ b, b = m ∨ b = lC ∨ b = lL → b ≠ X.x ∧ b ≠ X.dv ∧ b ≠ X.lc ∧ b ≠ X.lg := by rw [exx, exd, exc, exl]; exact oX
      -- quick
      refine ⟨_, rfl, X, tS, ks, [], by rw [exx]; rfl, hX12, S12.st, hk, Nat.zero_le _, hk20, by rw [eF]; exact hfk, ?_⟩
      rw [eF, asked_nil]
      have hlo := loO_qk (mono_tells cs) hk.nodup hfk
      have hlen := fun L => qkO_len (F := tells cs) (ks := ks) (L := L) hfk
      have hbig : (qkO (tells cs) ks).2.length ≤ 241 := by
        have h1 := hlen 6 (by omega)
        have h2 : (qkO (tells cs) ks).1.length ≤ 20 := Nat.le_trans (qkO_spec hfk).sub.length_le hk20
        omega
      obtain ⟨hfp, hsub, hall⟩ := qkO_spec hfk
      generalize hlg0 : addAll [ks] (qkO (tells cs) ks).2 = log
      have hloglen : log.length ≤ 1 + (qkO (tells cs) ks).2.length := by rw [← hlg0]; exact addAll_len [ks] _
      have hlsub : ∀ c ∈ log, c.Sublist ks := fun c hc => by
        rw [← hlg0] at hc
        rcases mem_addAll.mp hc with z | z
        · rw [List.mem_singleton.mp z]; exact List.Sublist.refl _
        · exact hall c z
      generalize (qkO (tells cs) ks).1 = pe at hlo hlen hfp hsub ⊢
      generalize (qkO (tells cs) ks).2 = raw at hlen hbig hall hlg0 hloglen
      intro p1 H13 hp13 hX13 k13
      have hpr : Rising 0 120 pe := hk.sub hsub
      have S13 := S12.smx hX12 k13 oX
      obtain ⟨rs12, ts12, A12', hlg12, _, _⟩ := hX12.tr
      have L13 : LAt H13 l ts cs := L12.mv [X.x, X.dv, X.lc, X.lg] (fun c u e z => by
          simp only [List.mem_cons, List.not_mem_nil, or_false, not_or] at z
          exact k13 c u e z.1 z.2.1 z.2.2.1 z.2.2.2) (by
          simp only [List.mem_cons, List.not_mem_nil, or_false, not_or]
          exact ⟨oL.1, oL.2.1, oL.2.2, by rw [exl]; exact llg⟩) fun b hb xs e => by
        simp only [List.mem_cons, List.not_mem_nil, or_false] at hb
        rcases hb with z | z | z | z <;> rw [z] at e
        · rw [A12'.ins] at e; cases e
        · rw [A12'.dic] at e; cases e
        · rw [A12'.lst] at e; cases e
        · rw [hlg12] at e; cases e
      obtain ⟨rs13, ts13, A13, hlg13, hT13, _⟩ := hX13.tr
      rw [exl] at hlg13
      have hnd13 := hX13.nd
      -- as leaving out tells
      refine ⟨_, rfl, _, rfl, _, rfl, l, tS, ts, cs, ks, rfl, L13.ls, L13.tp, hRc, by omega, S13.st, hk, fun p2 H14 s14 hp14 => ?_⟩
      rw [← hlo] at hp14
      refine ne_cfg (s14 _ _ hp13) hp14 hpr hpr ?_
      rw [decide_eq_true rfl]
      refine ⟨_, rfl, ?_⟩
      have S14 := S13.same s14
      have L14 := L13.same s14
      have hlg14 := s14 _ _ hlg13
      have hp14' := s14 _ _ hp13
      refine ⟨_, rfl, lg, _, rfl, .inl (SqL.of hlg14), ?_⟩
      refine ⟨_, rfl, p1, _, rfl, .inr (SqT.of hp14'), ?_⟩
      rw [tupN_len]
      refine ⟨_, _, rfl, rfl, .inl ⟨by decide, by decide⟩, ?_⟩
      refine ⟨_, rfl, tS, _, rfl, .inr (SqT.of S14.st), ?_⟩
      rw [tupN_len]
      have hpe20 : pe.length ≤ 20 := Nat.le_trans hsub.length_le hk20
      refine ⟨ks.length, rfl, by omega, fun L hL hL6 => ?_⟩
      refine ⟨_, _, rfl, rfl, .inl ⟨by omega, by omega⟩, _, _, rfl, rfl, _, _, rfl, rfl, _, rfl, ite2 (fun hd => ?_) (fun _ => ?_)⟩
      · exfalso
        have hd := of_decide_eq_true hd
        have hl6 : (List.map V.ref ts13).length = log.length := by rw [List.length_map]; exact hT13.1
        rw [hl6] at hd
        have hN : 2 * (pe.length : Int) * (L : Int) = ((2 * pe.length * L : Nat) : Int) := by push_cast; rfl
        rw [hN] at hd
        have := hlen L hL
        omega
      -- the second lambda
      refine ⟨S14.tb _ mL, fun x c e => ?_, [.ref l], rfl, fun i j hij v hv => ?_, fun H15 f2 pm2 cv2 ct2 TL15 k15 hf02 C15 => ?_⟩
      · have h := PySem.mem_of_lookup e
        simp only [List.mem_cons, List.not_mem_nil, or_false, Prod.mk.injEq] at h
        obtain ⟨rfl, rfl⟩ := h; exact ⟨_, 0, S14.fz⟩
      · match i, hij with
        | 0, hij => cases hij; cases hv; rfl
      have S15 := S14.tab mL (tabsUn _ _ mL) TL15 k15
      have L15 : LAt H15 l ts cs := L14.mv [PL] (fun b o e n => k15 b o e fun z => n (List.mem_singleton.mpr z)) (tab_no (S14.tb _ mL) L14.ls (by intro _ z; cases z)) fun b hb xs e => by
        obtain ⟨ps, e2⟩ := (S14.tb _ mL).tbl
        rw [List.mem_singleton.mp hb, e2] at e; cases e
      have hlg15 := k15 _ _ hlg14 fun z => tab_no (S14.tb _ mL) hlg14 (by intro _ z; cases z) (List.mem_singleton.mpr z)
      have kt15 : ∀ b xs, H14 b = some (.tup xs) → H15 b = some (.tup xs) := fun b xs e => k15 _ _ e fun z => tab_no (S14.tb _ mL) e (by intro _ z; cases z) (List.mem_singleton.mpr z)
      obtain ⟨c15, oc15, u15, vs15, t15, e15, _⟩ := id C15.code
      have TA15 := tell_lamF (P := P) (w := w) (K := K) (mg := mg) (base := base) T.te T.is rfl ⟨rfl, rfl, rfl, by decide +kernel, rfl, by decide +kernel, by decide +kernel, by decide +kernel, fun y hy => (show ∀ z ∈ Scope.names _, z.2 = NameKind.free → z.1 ∈ (["_law_cores_here"] : List Str) by decide +kernel) _ (PySem.mem_of_lookup hy) rfl⟩ (fun us hl => match us, hl with | [_], _ => rfl) (fun hr => pe_call GTe hr (by rfl) T.te.g T.te.F.kp T.te.b .nil pass0 (pa_cons (pv 1) (pa_cons (pv 0) pa_nil))) C15 e15 L15 hRc (by omega)
      refine ⟨_, rfl, _, rfl, _, rfl, f2, tS, lg, p1, _, ts13, tells cs, ks, pe, log, rfl, TA15, S15.st, hk, hlg15, (hT13.sm fun _ _ e => s14 _ _ e).sm kt15, hnd13, hlsub, by omega, kt15 _ _ hp14', hsub, hfp, fun H16 s16 => ?_⟩
      refine ⟨_, rfl, ?_⟩
      have S16 := S15.same s16
      -- any test
      refine ⟨_, rfl, _, rfl, m, lC, lL, tS, n3, ks, rfl, S16.ma, by omega, S16.st, hk, S16.tb _ mF, fun f3 D3 F3 n4 H17 hF3 hfk3 hv3 _ hn4 M17 km17 TF17 => ?_⟩
      have S17 := S16.kpM mF (tabsUn _ _ mF) TF17 M17 km17
      refine ⟨Nat.zero_le _, fun lg2 hlg2 => ?_⟩
      have s18 := Same.new (o := .lst []) hlg2
      refine ⟨by show 2 ≤ sizeLine; decide, fun pt2 hpt2 => ?_⟩
      have s19 := Same.new (o := .tup [V.ref f3, .ref lg2]) hpt2
      have s1719 := s18.trans s19
      refine ⟨pt2, _, rfl, SqT.of upd_same, rfl, ?_⟩
      have hlg19 := s19 _ _ (upd_same (H := H17) (a := lg2) (o := .lst []))
      have lg2D : lg2 ∉ D3 := fun z => by
        obtain ⟨o, e, _⟩ := hF3.dom lg2 z
        rw [hlg2] at e; cases e
      have nlg2 := M17.ne hlg2
      have nlg2C := M17.neC hlg2
      generalize upd (upd H17 lg2 (.lst [])) pt2 (.tup [V.ref f3, .ref lg2]) = H19 at s19 s1719 hlg19 ⊢
      refine ⟨_, _, rfl, _, _, rfl, rfl, ?_⟩
      have S19 := S17.same s1719
      have TA19 := hF3.same s1719
      refine ⟨_, rfl, _, rfl, lg2, f3, D3, F3, [], rfl, TA19, hlg19, lg2D, S19.tb _ mS, fun ft2 D21 H21 hT21 hD21 TS21 k21 => ?_⟩
      refine fun x2 dx2 hx2 hdx2 nx2 => ⟨x2, dx2, _, _, rfl, upd_same, by decide, by decide, fun dv2 lc2 H22 hdv2 hlc2 k22 A22 => ⟨rfl, ?_⟩⟩
      obtain ⟨hX22, kx22, TS22, TA22, s2122, PsD3⟩ := tri_made hv3 TA19 hlg19 lg2D (S19.tb _ mS) hT21 hD21 TS21 k21 hx2 hdx2 hdv2 hlc2 k22 A22
      have S22 := S19.tab mS (tabsUn _ _ mS) TS22 fun b o e n => (kx22 b o e n).1
      have oX2 : ∀ b, b = m ∨ b = lC ∨ b = lL → b ≠ x2 ∧ b ≠ dv2 ∧ b ≠ lc2 ∧ b ≠ lg2 := fun b hb => by
        obtain ⟨o, e, nt⟩ := mat_some S19.ma hb
        have := (kx22 b o e fun z => tab_no (S19.tb _ mS) e nt (List.mem_singleton.mpr z)).2
        refine ⟨this.1, this.2.1, this.2.2, ?_⟩
        rcases hb with rfl | rfl | rfl
        · exact Ne.symm nlg2.1
        · exact Ne.symm nlg2C
        · exact Ne.symm nlg2.2
      have kD22 : ∀ b o, H19 b = some o → b ≠ PS → b ≠ lg2 → H22 b = some o ∧ b ≠ x2 ∧ b ≠ dv2 ∧ b ≠ lc2 ∧ b ≠ lg2 := fun b o e n1 n2 => by
        have := kx22 b o e n1
        exact ⟨this.1, this.2.1, this.2.2.1, this.2.2.2, n2⟩
      generalize hX2 : (⟨x2, dx2, dv2, lc2, lg2, ft2, D21, F3⟩ : TX) = X2 at hX22
      have eF2 : X2.F = F3 := by rw [← hX2]
      have exx2 : X2.x = x2 := by rw [← hX2]
      have exd2 : X2.dv = dv2 := by rw [← hX2]
      have exc2 : X2.lc = lc2 := by rw [← hX2]
      have exl2 : X2.lg = lg2 := by rw [← hX2]
      have oX2 : ∀ b, b = m ∨ b = lC ∨ b = lL → b ≠ X2.x ∧ b ≠ X2.dv ∧ b ≠ X2.lc ∧ b ≠ X2.lg := by rw [exx2, exd2, exc2, exl2]; exact oX2
      have kD22 : ∀ b o, H19 b = some o → b ≠ PS → b ≠ lg2 → H22 b = some o ∧ b ≠ X2.x ∧ b ≠ X2.dv ∧ b ≠ X2.lc ∧ b ≠ X2.lg := by rw [exx2, exd2, exc2, exl2]; exact kD22
      refine ⟨_, rfl, _, rfl, X2, tS, ks, [], by rw [exx2]; rfl, hX22, S22.st, hk, Nat.zero_le _, hk20, by rw [eF2]; exact hfk3, ?_⟩
      rw [eF2, asked_nil]
      have hbig3 : (qkO F3 ks).2.length ≤ 241 := by
        have h1 := qkO_len (F := F3) (ks := ks) (L := 6) hfk3 (by omega)
        have h2 : (qkO F3 ks).1.length ≤ 20 := Nat.le_trans (qkO_spec hfk3).sub.length_le hk20
        omega
      obtain ⟨hfp3, hsub3, hall3⟩ := qkO_spec hfk3
      generalize hlg30 : addAll [ks] (qkO F3 ks).2 = log3
      have hloglen3 : log3.length ≤ 1 + (qkO F3 ks).2.length := by rw [← hlg30]; exact addAll_len [ks] _
      have hks3 : ks ∈ log3 := by rw [← hlg30]; exact mem_addAll.mpr (.inl List.mem_cons_self)
      have hin3 : ∀ c ∈ (qkO F3 ks).2, c ∈ log3 := fun c hc => by rw [← hlg30]; exact mem_addAll.mpr (.inr hc)
      have hlsub3 : ∀ c ∈ log3, c.Sublist ks := fun c hc => by
        rw [← hlg30] at hc
        rcases mem_addAll.mp hc with z | z
        · rw [List.mem_singleton.mp z]; exact List.Sublist.refl _
        · exact hall3 c z
      generalize hpe3 : (qkO F3 ks).1 = pe3 at hfp3 hsub3 ⊢
      intro p3 H23 hp23 hX23 k23
      have hpr3 : Rising 0 120 pe3 := hk.sub hsub3
      have S23 := S22.smx hX22 k23 oX2
      have old23 : ∀ b o, H19 b = some o → b ∉ [PS, lg2] → H23 b = some o := fun b o e n => by
        simp only [List.mem_cons, List.not_mem_nil, or_false, not_or] at n
        obtain ⟨h, n1, n2, n3, n4⟩ := kD22 b o e n.1 n.2
        exact k23 _ _ h n1 n2 n3 n4
      have TA23 : TellAt P w K mg base H23 f3 D3 F3 := TA19.sm (R := [PS, lg2]) old23 fun b hb => by
        simp only [List.mem_cons, List.not_mem_nil, or_false] at hb
        rcases hb with rfl | rfl
        · exact PsD3
        · exact lg2D
      obtain ⟨rs23, ts23, A23, hlg23, hT23, hR23⟩ := id hX23.tr
      rw [exl2] at hlg23
      -- what quick must be
      refine ⟨_, rfl, _, rfl, _, rfl, _, rfl, f3, tS, lg2, p3, D3, ts23, F3, ks, pe3, log3, rfl, TA23, S23.st, hk, hlg23, hT23, hX23.nd, hlsub3, by omega, hp23, hsub3, hfp3, fun H24 s24 => ?_⟩
      refine ⟨_, rfl, ?_⟩
      have S24 := S23.same s24
      have TA24 := TA23.same s24
      have hX24 := hX23.same s24
      obtain ⟨rs24, ts24, A24, hlg24, hT24, hR24⟩ := id hX24.tr
      rw [exl2] at hlg24
      have htl := hT24.1
      have hrl := hR24.1
      have hal24 : log3.length ≤ 900 := by omega
      refine ⟨_, rfl, x2, X2.dx, _, rfl, by rw [← exx2]; exact A24.ins, lk_no (by decide +kernel) (by decide +kernel) (by decide +kernel) (by decide +kernel) (by decide +kernel), X2.x, X2.dx, X2.dv, X2.lc, _, _, _, rs24.map V.ref, by rw [exx2]; rfl, A24.ins, A24.lst, fun lr hlr => ?_⟩
      have s25 := Same.new (o := .lst (rs24.map V.ref)) hlr
      refine ⟨_, rfl, lg2, rfl, ⟨_, SqL.of (s25 _ _ hlg24)⟩, fun Dl hD => lc_list (K := K) (a := lg2) (xs := ts24.map V.ref) (fun i H2 => ∃ us : List Addr, H2 Dl = some (.lst (us.map V.ref)) ∧ Rws X2.F H2 us (ts24.take i) (log3.take i) ∧ Same (upd H24 lr (.lst (rs24.map V.ref))) H2)
        ⟨[], upd_same, ⟨by simp, fun i r t ks e1 _ _ => by simp at e1⟩, Same.new hD⟩ (fun i H2 _ ⟨us, _, _, h⟩ => SqL.of (h _ _ (s25 _ _ hlg24))) ?_ ?_⟩
      · rintro i v H2 hi ⟨us, hD2, hU, s2⟩
        obtain ⟨u, c, rfl, hu1, hc1, hu2⟩ := hT24.get hi
        have htk : ts24.take (i + 1) = ts24.take i ++ [u] := by
          obtain ⟨h1, h2⟩ := List.getElem?_eq_some_iff.mp hu1
          rw [List.take_succ_eq_append_getElem h1, h2]
        have hak : log3.take (i + 1) = log3.take i ++ [c] := by
          obtain ⟨h1, h2⟩ := List.getElem?_eq_some_iff.mp hc1
          rw [List.take_succ_eq_append_getElem h1, h2]
        refine ⟨rfl, ?_⟩
        have s02 := s25.trans s2
        obtain ⟨hf2, FT2⟩ := (TA24.same s02).now
        refine ⟨_, rfl, _, rfl, f3, rfl, _, rfl, 1, spTell F3, rfl, hf2, FT2, u, c, rfl, s02 _ _ hu2, hX24.ris c (List.mem_of_getElem? hc1), fun H3 s3 => ?_⟩
        refine ⟨by show 2 ≤ sizeLine; decide, fun p hp => ?_⟩
        have s4 := Same.new (o := .tup [V.ref u, .str (F3 c)]) hp
        have hD4 := s4 _ _ (s3 _ _ hD2)
        have hul : us.length ≤ 900 := by
          have := hU.1
          rw [List.length_take] at this
          omega
        have kt : ∀ a xs, H2 a = some (.tup xs) → upd (upd H3 p (.tup [V.ref u, .str (F3 c)])) Dl (.lst (us.map V.ref ++ [V.ref p])) a = some (.tup xs) := fun a xs e => by rw [upd_ne (ne_of e hD2 (by intro z; cases z))]; exact s4 _ _ (s3 _ _ e)
        refine ⟨_, hD4, small1000 (by rw [List.length_map]; omega), us ++ [p], by rw [upd_same]; simp, ?_, fun b o e => by rw [upd_ne (ne_of_none e hD)]; exact s4 _ _ (s3 _ _ (s2 _ _ e))⟩
        rw [htk, hak]
        refine (hU.sm kt).snoc (by rw [List.length_take, List.length_take, htl]) ?_
        have hpD : p ≠ Dl := fun z => by rw [z] at hp; rw [s3 _ _ hD2] at hp; cases hp
        rw [upd_ne hpD, eF2]
        exact upd_same
      rintro H25 ⟨us, hD25, hU, s25'⟩
      rw [List.length_map, List.take_length, htl, List.take_length] at hU
      have s2425 := s25.trans s25'
      have sw := rowsD_shw hX24.vd hX24.ris hal24
      have hT25 := hT24.sm fun _ _ e => s2425 _ _ e
      have hR25 := hR24.sm fun _ _ e => s2425 _ _ e
      refine ⟨.list (rowsD X2.F log3), .list (rowsD X2.F log3), .lst (SqL.of (s25' _ _ upd_same)) (rowsD_dp htl hT25 hR25), .lst (SqL.of hD25) (rowsD_dp htl hT25 hU), sw.shaped (by decide), sw.shaped (by decide), ?_⟩
      rw [sw.refl]
      refine ⟨_, rfl, ?_⟩
      have S25 := S24.same s2425
      have hX25 := hX24.same s2425
      -- once more
      refine ⟨_, rfl, _, rfl, X2, tS, ks, log3, by rw [exx2]; rfl, hX25, S25.st, hk, by omega, hk20, by rw [eF2]; exact hfk3, ?_⟩
      rw [eF2, hpe3]
      have ea : asked log3 ks = log3 := by unfold asked; rw [if_pos hks3]
      rw [ea, addAll_old hin3]
      intro p4 H26 hp26 hX26 k26
      refine ⟨_, rfl, ne_cfg hp26 (hX25.tups k26 _ _ (s2425 _ _ (s24 _ _ hp23))) hpr3 hpr3 ?_⟩
      rw [decide_eq_true rfl]
      refine ⟨_, rfl, ?_⟩
      have S26 := S25.smx hX25 k26 oX2
      obtain ⟨rs26, ts26, A26, hlg26, hT26, hR26⟩ := hX26.tr
      rw [exl2] at hlg26
      refine ⟨_, rfl, lg2, _, rfl, .inl (SqL.of hlg26), ?_⟩
      have hl26 : (ts26.map V.ref).length = log3.length := by rw [List.length_map]; exact hT26.1
      have hr26 : (rs26.map V.ref).length = log3.length := by rw [List.length_map, hR26.1]
      refine ⟨_, rfl, x2, X2.dx, _, rfl, by rw [← exx2]; exact A26.ins, X2.x, X2.dx, X2.dv, X2.lc, _, _, _, rs26.map V.ref, by rw [exx2], A26.ins, A26.lst, ((rs26.map V.ref).length : Int), rfl, by omega, by omega, ?_⟩
      rw [hl26, hr26]
      refine ⟨rfl, _, rfl, ?_⟩
      rw [decide_eq_true rfl]
      obtain ⟨MZ, TZ⟩ := S26.hid hoc
      exact ⟨⟨_, _, _, _, _, _, _, _, rfl⟩, n4, by rw [Nat.mul_succ]; omega, MZ, TZ⟩
    · rintro σ H3 ⟨⟨v2, v3, v4, v5, v6, v7, v8, v9, rfl⟩, _⟩
      exact q _
end
end My
set_option Elab.async false
set_option linter.all false
set_option maxRecDepth 100000
set_option maxHeartbeats 4000000
namespace My
open PySem PySem.Spec PyProof.Rows L2
theorem all_mk {l : PySem.W.OpenLaw} {w : World} {K : PySem.W.Frag} {h : Heap} {mg : Str → Option Value} {fa : Addr} (X : K.In h) (G : h.Ns mainGlobals mg) (hfa : mg "law" = some (.ref fa))
    {CBV : Addr} {NBV : Addr} {fBV : Addr} {nmBVE : Str} {qBVE : Str} {bsBVE : List Value} {snBVE : List Str} {subBVE : List Value} {abBVE : Bool} {colBVE : Option Bool} {ddBVE : Option Addr} {x0BVE : Option Value} {x1BVE : Option Value} {x2BVE : Option Value} {x3BVE : Option Value} {x5BVE : Option Value} {ocBV : Value} {kVBV : Value} {docBV : Value} {pmBV : Value} {cdBV : Value} {ctBV : Value} {odBV : Option Addr} {anBV : Option Addr} {slBV : Array (Option Value)} {CBd : Addr} {NBd : Addr} {fBd : Addr} {nmBdE : Str} {qBdE : Str} {bsBdE : List Value} {snBdE : List Str} {subBdE : List Value} {abBdE : Bool} {colBdE : Option Bool} {ddBdE : Option Addr} {x0BdE : Option Value} {x1BdE : Option Value} {x2BdE : Option Value} {x3BdE : Option Value} {x5BdE : Option Value} {ocBd : Value} {kVBd : Value} {docBd : Value} {pmBd : Value} {cdBd : Value} {ctBd : Value} {odBd : Option Addr} {anBd : Option Addr} {slBd : Array (Option Value)} {CSn : Addr} {NSn : Addr} {fSn : Addr} {nmSnE : Str} {qSnE : Str} {bsSnE : List Value} {snSnE : List Str} {subSnE : List Value} {abSnE : Bool} {colSnE : Option Bool} {ddSnE : Option Addr} {x0SnE : Option Value} {x1SnE : Option Value} {x2SnE : Option Value} {x3SnE : Option Value} {x5SnE : Option Value} {ocSn : Value} {kVSn : Value} {docSn : Value} {pmSn : Value} {cdSn : Value} {ctSn : Value} {odSn : Option Addr} {anSn : Option Addr} {slSn : Array (Option Value)} {CNe : Addr} {NNe : Addr} {fNe : Addr} {nmNeE : Str} {qNeE : Str} {bsNeE : List Value} {snNeE : List Str} {subNeE : List Value} {abNeE : Bool} {colNeE : Option Bool} {ddNeE : Option Addr} {x0NeE : Option Value} {x1NeE : Option Value} {x2NeE : Option Value} {x3NeE : Option Value} {x5NeE : Option Value} {ocNe : Value} {kVNe : Value} {docNe : Value} {pmNe : Value} {cdNe : Value} {ctNe : Value} {odNe : Option Addr} {anNe : Option Addr} {slNe : Array (Option Value)} {CNo : Addr} {NNo : Addr} {fNo : Addr} {nmNoE : Str} {qNoE : Str} {bsNoE : List Value} {snNoE : List Str} {subNoE : List Value} {abNoE : Bool} {colNoE : Option Bool} {ddNoE : Option Addr} {x0NoE : Option Value} {x1NoE : Option Value} {x2NoE : Option Value} {x3NoE : Option Value} {x5NoE : Option Value} {ocNo : Value} {kVNo : Value} {docNo : Value} {pmNo : Value} {cdNo : Value} {ctNo : Value} {odNo : Option Addr} {anNo : Option Addr} {slNo : Array (Option Value)} {tk_mp : Tok} {tk_mh : Tok} {fNum : Addr} {ocNum : Value} {kVNum : Value} {docNum : Value} {pmNum : Value} {cdNum : Value} {ctNum : Value} {odNum : Option Addr} {anNum : Option Addr} {slNum : Array (Option Value)} {tkC : Tok} {tkW : Tok} {fCfg : Addr} {TCfg : Addr} {ocCfg : Value} {kVCfg : Value} {docCfg : Value} {pmCfg : Value} {cdCfg : Value} {ctCfg : Value} {odCfg : Option Addr} {anCfg : Option Addr} {slCfg : Array (Option Value)} {tcCfg : Value} {tdCfg : Option Addr} {tnCfg : Nat} {tsCfg : Array (Option Value)} {fWant : Addr} {TWant : Addr} {ocWant : Value} {kVWant : Value} {docWant : Value} {pmWant : Value} {cdWant : Value} {ctWant : Value} {odWant : Option Addr} {anWant : Option Addr} {slWant : Array (Option Value)} {tcWant : Value} {tdWant : Option Addr} {tnWant : Nat} {tsWant : Array (Option Value)} {w1 : Tok} {w2 : Tok} {w3 : Tok} {aVt : Addr} {wd : Option Addr} {wn : Nat} {ws : Array (Option Value)} {fVer : Addr} {ocVer : Value} {kVVer : Value} {docVer : Value} {pmVer : Value} {cdVer : Value} {ctVer : Value} {odVer : Option Addr} {anVer : Option Addr} {slVer : Array (Option Value)} {fRow : Addr} {fRows : Addr} {ocRows : Value} {kVRows : Value} {docRows : Value} {pmRows : Value} {cdRows : Value} {ctRows : Value} {odRows : Option Addr} {anRows : Option Addr} {slRows : Array (Option Value)} {AC : Addr} {fAI : Addr} {ocAI : Value} {kVAI : Value} {docAI : Value} {pmAI : Value} {cdAI : Value} {ctAI : Value} {odAI : Option Addr} {anAI : Option Addr} {slAI : Array (Option Value)} {C : Addr} {fTI : Addr} {ocTI : Value} {kVTI : Value} {docTI : Value} {pmTI : Value} {cdTI : Value} {ctTI : Value} {odTI : Option Addr} {anTI : Option Addr} {slTI : Array (Option Value)} {dKw : Addr} {tkM : Tok} {a00 : Addr} {ocK : Value} {odK : Option Addr} {hs1 : Int} {tk1 : Tok} {hs2 : Int} {tk2 : Tok} {nK : Nat} {slK : Array (Option Value)} {od0 : Option Addr} {n00 : Nat} {sl0 : Array (Option Value)} {fAsk : Addr} {ocAsk : Value} {kVAsk : Value} {docAsk : Value} {pmAsk : Value} {cdAsk : Value} {ctAsk : Value} {odAsk : Option Addr} {anAsk : Option Addr} {slAsk : Array (Option Value)} {fAns : Addr} {ocAns : Value} {kVAns : Value} {docAns : Value} {pmAns : Value} {cdAns : Value} {ctAns : Value} {odAns : Option Addr} {anAns : Option Addr} {slAns : Array (Option Value)} {fCt : Addr} {ocCt : Value} {kVCt : Value} {docCt : Value} {pmCt : Value} {cdCt : Value} {ctCt : Value} {odCt : Option Addr} {anCt : Option Addr} {slCt : Array (Option Value)} {fFl : Addr} {ocFl : Value} {kVFl : Value} {docFl : Value} {pmFl : Value} {cdFl : Value} {ctFl : Value} {odFl : Option Addr} {anFl : Option Addr} {slFl : Array (Option Value)} {fRw : Addr} {ocRw : Value} {kVRw : Value} {docRw : Value} {pmRw : Value} {cdRw : Value} {ctRw : Value} {odRw : Option Addr} {anRw : Option Addr} {slRw : Array (Option Value)} {fLn : Addr} {ocLn : Value} {kVLn : Value} {docLn : Value} {pmLn : Value} {cdLn : Value} {ctLn : Value} {odLn : Option Addr} {anLn : Option Addr} {slLn : Array (Option Value)} {fWTr : Addr} {ocWTr : Value} {kVWTr : Value} {docWTr : Value} {pmWTr : Value} {cdWTr : Value} {ctWTr : Value} {odWTr : Option Addr} {anWTr : Option Addr} {slWTr : Array (Option Value)} {fWV : Addr} {ocWV : Value} {kVWV : Value} {docWV : Value} {pmWV : Value} {cdWV : Value} {ctWV : Value} {odWV : Option Addr} {anWV : Option Addr} {slWV : Array (Option Value)} {fWF : Addr} {ocWF : Value} {kVWF : Value} {docWF : Value} {pmWF : Value} {cdWF : Value} {ctWF : Value} {odWF : Option Addr} {anWF : Option Addr} {slWF : Array (Option Value)} {fQk : Addr} {ocQk : Value} {kVQk : Value} {docQk : Value} {pmQk : Value} {cdQk : Value} {ctQk : Value} {odQk : Option Addr} {anQk : Option Addr} {slQk : Array (Option Value)} {fSh : Addr} {ocSh : Value} {kVSh : Value} {docSh : Value} {pmSh : Value} {cdSh : Value} {ctSh : Value} {odSh : Option Addr} {anSh : Option Addr} {slSh : Array (Option Value)} {fLo : Addr} {ocLo : Value} {kVLo : Value} {docLo : Value} {pmLo : Value} {cdLo : Value} {ctLo : Value} {odLo : Option Addr} {anLo : Option Addr} {slLo : Array (Option Value)} {fDb : Addr} {ocDb : Value} {kVDb : Value} {docDb : Value} {pmDb : Value} {cdDb : Value} {ctDb : Value} {odDb : Option Addr} {anDb : Option Addr} {slDb : Array (Option Value)} {fQr : Addr} {ocQr : Value} {kVQr : Value} {docQr : Value} {pmQr : Value} {cdQr : Value} {ctQr : Value} {odQr : Option Addr} {anQr : Option Addr} {slQr : Array (Option Value)} {fLs : Addr} {ocLs : Value} {kVLs : Value} {docLs : Value} {pmLs : Value} {cdLs : Value} {ctLs : Value} {odLs : Option Addr} {anLs : Option Addr} {slLs : Array (Option Value)} {fTf : Addr} {ocTf : Value} {kVTf : Value} {docTf : Value} {pmTf : Value} {cdTf : Value} {ctTf : Value} {odTf : Option Addr} {anTf : Option Addr} {slTf : Array (Option Value)} {fTs : Addr} {ocTs : Value} {kVTs : Value} {docTs : Value} {pmTs : Value} {cdTs : Value} {ctTs : Value} {odTs : Option Addr} {anTs : Option Addr} {slTs : Array (Option Value)} {fWc : Addr} {ocWc : Value} {kVWc : Value} {docWc : Value} {pmWc : Value} {cdWc : Value} {ctWc : Value} {odWc : Option Addr} {anWc : Option Addr} {slWc : Array (Option Value)} {fCo : Addr} {ocCo : Value} {kVCo : Value} {docCo : Value} {pmCo : Value} {cdCo : Value} {ctCo : Value} {odCo : Option Addr} {anCo : Option Addr} {slCo : Array (Option Value)} {fDx : Addr} {ocDx : Value} {kVDx : Value} {docDx : Value} {pmDx : Value} {cdDx : Value} {ctDx : Value} {odDx : Option Addr} {anDx : Option Addr} {slDx : Array (Option Value)} {fDy : Addr} {ocDy : Value} {kVDy : Value} {docDy : Value} {pmDy : Value} {cdDy : Value} {ctDy : Value} {odDy : Option Addr} {anDy : Option Addr} {slDy : Array (Option Value)} {fTe : Addr} {ocTe : Value} {kVTe : Value} {docTe : Value} {pmTe : Value} {cdTe : Value} {ctTe : Value} {odTe : Option Addr} {anTe : Option Addr} {slTe : Array (Option Value)} {fIs : Addr} {ocIs : Value} {kVIs : Value} {docIs : Value} {pmIs : Value} {cdIs : Value} {ctIs : Value} {odIs : Option Addr} {anIs : Option Addr} {slIs : Array (Option Value)} {fOd : Addr} {ocOd : Value} {kVOd : Value} {docOd : Value} {pmOd : Value} {cdOd : Value} {ctOd : Value} {odOd : Option Addr} {anOd : Option Addr} {slOd : Array (Option Value)} {fNu : Addr} {ocNu : Value} {kVNu : Value} {docNu : Value} {pmNu : Value} {cdNu : Value} {ctNu : Value} {odNu : Option Addr} {anNu : Option Addr} {slNu : Array (Option Value)} {fFo : Addr} {ocFo : Value} {kVFo : Value} {docFo : Value} {pmFo : Value} {cdFo : Value} {ctFo : Value} {odFo : Option Addr} {anFo : Option Addr} {slFo : Array (Option Value)} {fBe : Addr} {ocBe : Value} {kVBe : Value} {docBe : Value} {pmBe : Value} {cdBe : Value} {ctBe : Value} {odBe : Option Addr} {anBe : Option Addr} {slBe : Array (Option Value)} {fSo : Addr} {ocSo : Value} {kVSo : Value} {docSo : Value} {pmSo : Value} {cdSo : Value} {ctSo : Value} {odSo : Option Addr} {anSo : Option Addr} {slSo : Array (Option Value)} {fSt : Addr} {ocSt : Value} {kVSt : Value} {docSt : Value} {pmSt : Value} {cdSt : Value} {ctSt : Value} {odSt : Option Addr} {anSt : Option Addr} {slSt : Array (Option Value)} {fLaw : Addr} {ocLaw : Value} {kVLaw : Value} {docLaw : Value} {pmLaw : Value} {cdLaw : Value} {ctLaw : Value} {odLaw : Option Addr} {anLaw : Option Addr} {slLaw : Array (Option Value)} {cF3 : Addr} {PF3 : Addr} {ocF3 : Value} {odF3 : Option Addr} {vsF3 : Array Value} {slF3 : Array (Option Value)} {cS3 : Addr} {PS3 : Addr} {ocS3 : Value} {odS3 : Option Addr} {vsS3 : Array Value} {slS3 : Array (Option Value)} {cL3 : Addr} {PL3 : Addr} {ocL3 : Value} {odL3 : Option Addr} {vsL3 : Array Value} {slL3 : Array (Option Value)}
    (z_range : PySem.W.nsIn K mainGlobals "range" = some none)
    (z_enumerate : PySem.W.nsIn K mainGlobals "enumerate" = some none)
    (z_len : PySem.W.nsIn K mainGlobals "len" = some none)
    (z_tuple : PySem.W.nsIn K mainGlobals "tuple" = some none)
    (z_isinstance : PySem.W.nsIn K mainGlobals "isinstance" = some none)
    (z_str : PySem.W.nsIn K mainGlobals "str" = some none)
    (z_ValueError : PySem.W.nsIn K mainGlobals "ValueError" = some none)
    (z_TypeError : PySem.W.nsIn K mainGlobals "TypeError" = some none)
    (z_OverflowError : PySem.W.nsIn K mainGlobals "OverflowError" = some none)
    (z_RuntimeError : PySem.W.nsIn K mainGlobals "RuntimeError" = some none)
    (z_LookupError : PySem.W.nsIn K mainGlobals "LookupError" = some none)
    (z_Exception : PySem.W.nsIn K mainGlobals "Exception" = some none)
    (z_int : PySem.W.nsIn K mainGlobals "int" = some none)
    (z_bool : PySem.W.nsIn K mainGlobals "bool" = some none)
    (z_min : PySem.W.nsIn K mainGlobals "min" = some none)
    (z_list : PySem.W.nsIn K mainGlobals "list" = some none)
    (z_set : PySem.W.nsIn K mainGlobals "set" = some none)
    (z_repr : PySem.W.nsIn K mainGlobals "repr" = some none)
    (z_max : PySem.W.nsIn K mainGlobals "max" = some none)
    (z_sorted : PySem.W.nsIn K mainGlobals "sorted" = some none)
    (z_reversed : PySem.W.nsIn K mainGlobals "reversed" = some none)
    (z_all : PySem.W.nsIn K mainGlobals "all" = some none)
    (aBV : PySem.W.nsIn K mainGlobals "BadValue" = some (some (.ref CBV)))
    (clBV : K.lookup CBV = some (excClassObj nmBVE qBVE CBV NBV bsBVE [.type "ValueError", .type "Exception", .type "BaseException", .type "object"] true snBVE subBVE abBVE colBVE ddBVE x0BVE x1BVE x2BVE x3BVE x5BVE "ValueError.__new__"))
    (nsBV : PySem.W.nsOkIn K NBV = true)
    (inBV : PySem.W.nsIn K NBV "__init__" = some (some (.ref fBV)))
    (nsetBV : PySem.W.nsIn K NBV "__setattr__" = some none)
    (ngetBV : PySem.W.nsIn K NBV "__getattribute__" = some none)
    (nhkBV : PySem.W.nsIn K NBV "__getattr__" = some none)
    (nclBV : PySem.W.nsIn K NBV "__class__" = some none)
    (w0BV : PySem.W.nsIn K NBV "what" = some none)
    (fnBV : PySem.W.isFn K (.ref fBV) = true)
    (kpBV : PySem.W.keepIn K (.ref CBV) = true)
    (lBV : K.lookup fBV = some ⟨ocBV, odBV, .func (PySem.W.fnOf "__init__" "BadValue.__init__" (defArgs sBVI) (defBody sBVI) (defScope sBVI) .none kVBV docBV pmBV anBV cdBV ctBV), slBV⟩)
    (cBV : PySem.W.codeIn K cdBV "BadValue.__init__" = true)
    (kBV : PySem.W.keepIn K (.ref fBV) = true)
    (aBd : PySem.W.nsIn K mainGlobals "BadVerdict" = some (some (.ref CBd)))
    (clBd : K.lookup CBd = some (excClassObj nmBdE qBdE CBd NBd bsBdE [.type "TypeError", .type "Exception", .type "BaseException", .type "object"] true snBdE subBdE abBdE colBdE ddBdE x0BdE x1BdE x2BdE x3BdE x5BdE "TypeError.__new__"))
    (nsBd : PySem.W.nsOkIn K NBd = true)
    (inBd : PySem.W.nsIn K NBd "__init__" = some (some (.ref fBd)))
    (nsetBd : PySem.W.nsIn K NBd "__setattr__" = some none)
    (ngetBd : PySem.W.nsIn K NBd "__getattribute__" = some none)
    (nhkBd : PySem.W.nsIn K NBd "__getattr__" = some none)
    (nclBd : PySem.W.nsIn K NBd "__class__" = some none)
    (w0Bd : PySem.W.nsIn K NBd "told" = some none)
    (fnBd : PySem.W.isFn K (.ref fBd) = true)
    (kpBd : PySem.W.keepIn K (.ref CBd) = true)
    (lBd : K.lookup fBd = some ⟨ocBd, odBd, .func (PySem.W.fnOf "__init__" "BadVerdict.__init__" (defArgs sBdI) (defBody sBdI) (defScope sBdI) .none kVBd docBd pmBd anBd cdBd ctBd), slBd⟩)
    (cBd : PySem.W.codeIn K cdBd "BadVerdict.__init__" = true)
    (kBd : PySem.W.keepIn K (.ref fBd) = true)
    (aSn : PySem.W.nsIn K mainGlobals "Spent" = some (some (.ref CSn)))
    (clSn : K.lookup CSn = some (excClassObj nmSnE qSnE CSn NSn bsSnE [.type "OverflowError", .type "ArithmeticError", .type "Exception", .type "BaseException", .type "object"] true snSnE subSnE abSnE colSnE ddSnE x0SnE x1SnE x2SnE x3SnE x5SnE "OverflowError.__new__"))
    (nsSn : PySem.W.nsOkIn K NSn = true)
    (inSn : PySem.W.nsIn K NSn "__init__" = some (some (.ref fSn)))
    (nsetSn : PySem.W.nsIn K NSn "__setattr__" = some none)
    (ngetSn : PySem.W.nsIn K NSn "__getattribute__" = some none)
    (nhkSn : PySem.W.nsIn K NSn "__getattr__" = some none)
    (nclSn : PySem.W.nsIn K NSn "__class__" = some none)
    (w0Sn : PySem.W.nsIn K NSn "most" = some none)
    (fnSn : PySem.W.isFn K (.ref fSn) = true)
    (kpSn : PySem.W.keepIn K (.ref CSn) = true)
    (lSn : K.lookup fSn = some ⟨ocSn, odSn, .func (PySem.W.fnOf "__init__" "Spent.__init__" (defArgs sSpI) (defBody sSpI) (defScope sSpI) .none kVSn docSn pmSn anSn cdSn ctSn), slSn⟩)
    (cSn : PySem.W.codeIn K cdSn "Spent.__init__" = true)
    (kSn : PySem.W.keepIn K (.ref fSn) = true)
    (aNe : PySem.W.nsIn K mainGlobals "Nested" = some (some (.ref CNe)))
    (clNe : K.lookup CNe = some (excClassObj nmNeE qNeE CNe NNe bsNeE [.type "RuntimeError", .type "Exception", .type "BaseException", .type "object"] true snNeE subNeE abNeE colNeE ddNeE x0NeE x1NeE x2NeE x3NeE x5NeE "RuntimeError.__new__"))
    (nsNe : PySem.W.nsOkIn K NNe = true)
    (inNe : PySem.W.nsIn K NNe "__init__" = some (some (.ref fNe)))
    (nsetNe : PySem.W.nsIn K NNe "__setattr__" = some none)
    (ngetNe : PySem.W.nsIn K NNe "__getattribute__" = some none)
    (nhkNe : PySem.W.nsIn K NNe "__getattr__" = some none)
    (nclNe : PySem.W.nsIn K NNe "__class__" = some none)
    (fnNe : PySem.W.isFn K (.ref fNe) = true)
    (kpNe : PySem.W.keepIn K (.ref CNe) = true)
    (lNe : K.lookup fNe = some ⟨ocNe, odNe, .func (PySem.W.fnOf "__init__" "Nested.__init__" (defArgs sNeI) (defBody sNeI) (defScope sNeI) .none kVNe docNe pmNe anNe cdNe ctNe), slNe⟩)
    (cNe : PySem.W.codeIn K cdNe "Nested.__init__" = true)
    (kNe : PySem.W.keepIn K (.ref fNe) = true)
    (aNo : PySem.W.nsIn K mainGlobals "NotSo" = some (some (.ref CNo)))
    (clNo : K.lookup CNo = some (excClassObj nmNoE qNoE CNo NNo bsNoE [.type "LookupError", .type "Exception", .type "BaseException", .type "object"] true snNoE subNoE abNoE colNoE ddNoE x0NoE x1NoE x2NoE x3NoE x5NoE "LookupError.__new__"))
    (nsNo : PySem.W.nsOkIn K NNo = true)
    (inNo : PySem.W.nsIn K NNo "__init__" = some (some (.ref fNo)))
    (nsetNo : PySem.W.nsIn K NNo "__setattr__" = some none)
    (ngetNo : PySem.W.nsIn K NNo "__getattribute__" = some none)
    (nhkNo : PySem.W.nsIn K NNo "__getattr__" = some none)
    (nclNo : PySem.W.nsIn K NNo "__class__" = some none)
    (w0No : PySem.W.nsIn K NNo "parts" = some none)
    (w1No : PySem.W.nsIn K NNo "verdict" = some none)
    (fnNo : PySem.W.isFn K (.ref fNo) = true)
    (kpNo : PySem.W.keepIn K (.ref CNo) = true)
    (lNo : K.lookup fNo = some ⟨ocNo, odNo, .func (PySem.W.fnOf "__init__" "NotSo.__init__" (defArgs sNoI) (defBody sNoI) (defScope sNoI) .none kVNo docNo pmNo anNo cdNo ctNo), slNo⟩)
    (cNo : PySem.W.codeIn K cdNo "NotSo.__init__" = true)
    (kNo : PySem.W.keepIn K (.ref fNo) = true)
    (g_mp : PySem.W.nsIn K mainGlobals "MOST_PIECES" = some (some (.int 120 tk_mp)))
    (g_mh : PySem.W.nsIn K mainGlobals "MOST_HANDED" = some (some (.int 1000000 tk_mh)))
    (aNum : PySem.W.nsIn K mainGlobals "is_number" = some (some (.ref fNum)))
    (lNum : K.lookup fNum = some ⟨ocNum, odNum, .func (PySem.W.fnOf "is_number" "is_number" (defArgs sNum) (defBody sNum) (defScope sNum) .none kVNum docNum pmNum anNum cdNum ctNum), slNum⟩)
    (cNum : PySem.W.codeIn K cdNum "is_number" = true)
    (kNum : PySem.W.keepIn K (.ref fNum) = true)
    (aCfg : PySem.W.nsIn K mainGlobals "is_configuration" = some (some (.ref fCfg)))
    (lCfg : K.lookup fCfg = some ⟨ocCfg, odCfg, .func (PySem.W.fnOf "is_configuration" "is_configuration" (defArgs sCfg) (defBody sCfg) (defScope sCfg) (.ref TCfg) kVCfg docCfg pmCfg anCfg cdCfg ctCfg), slCfg⟩)
    (cCfg : PySem.W.codeIn K cdCfg "is_configuration" = true)
    (kCfg : PySem.W.keepIn K (.ref fCfg) = true)
    (tCfg : K.lookup TCfg = some ⟨tcCfg, tdCfg, .seq #[(.int 120 tkC)] tnCfg, tsCfg⟩)
    (aWant : PySem.W.nsIn K mainGlobals "want_configuration" = some (some (.ref fWant)))
    (lWant : K.lookup fWant = some ⟨ocWant, odWant, .func (PySem.W.fnOf "want_configuration" "want_configuration" (defArgs sWant) (defBody sWant) (defScope sWant) (.ref TWant) kVWant docWant pmWant anWant cdWant ctWant), slWant⟩)
    (cWant : PySem.W.codeIn K cdWant "want_configuration" = true)
    (kWant : PySem.W.keepIn K (.ref fWant) = true)
    (tWant : K.lookup TWant = some ⟨tcWant, tdWant, .seq #[(.int 120 tkW)] tnWant, tsWant⟩)
    (gVt : PySem.W.nsIn K mainGlobals "VERDICTS" = some (some (.ref aVt)))
    (lVt : K.lookup aVt = some ⟨.type "tuple", wd, .seq #[.str "fail" w1, .str "pass" w2, .str "unresolved" w3] wn, ws⟩)
    (aVer : PySem.W.nsIn K mainGlobals "is_verdict" = some (some (.ref fVer)))
    (lVer : K.lookup fVer = some ⟨ocVer, odVer, .func (PySem.W.fnOf "is_verdict" "is_verdict" (defArgs sVer) (defBody sVer) (defScope sVer) .none kVVer docVer pmVer anVer cdVer ctVer), slVer⟩)
    (cVer : PySem.W.codeIn K cdVer "is_verdict" = true)
    (kVer : PySem.W.keepIn K (.ref fVer) = true)
    (aRow0 : PySem.W.nsIn K mainGlobals "is_row" = some (some (.ref fRow)))
    (aRows : PySem.W.nsIn K mainGlobals "are_rows" = some (some (.ref fRows)))
    (lRows : K.lookup fRows = some ⟨ocRows, odRows, .func (PySem.W.fnOf "are_rows" "are_rows" (defArgs sRows) (defBody sRows) (defScope sRows) .none kVRows docRows pmRows anRows cdRows ctRows), slRows⟩)
    (cRows : PySem.W.codeIn K cdRows "are_rows" = true)
    (kRows : PySem.W.keepIn K (.ref fRows) = true)
    (aAC : PySem.W.nsIn K mainGlobals "Answers" = some (some (.ref AC)))
    (rdAC : PySem.W.readsIn K AC (.type "type") = true)
    (tyAC : PySem.W.typeIn K (.ref AC) = some (.type "type"))
    (fdAC : PySem.W.findCls K (.ref AC) (.type "type") "__init__" = some (.val (.ref fAI)))
    (hdAC : PySem.W.handedIn (.ref fAI) = true)
    (lAI : K.lookup fAI = some ⟨ocAI, odAI, .func (PySem.W.fnOf "__init__" "Answers.__init__" (defArgs sAI) (defBody sAI) (defScope sAI) .none kVAI docAI pmAI anAI cdAI ctAI), slAI⟩)
    (cAI : PySem.W.codeIn K cdAI "Answers.__init__" = true)
    (kAI : PySem.W.keepIn K (.ref fAI) = true)
    (aC : PySem.W.nsIn K mainGlobals "Trials" = some (some (.ref C)))
    (pg : PySem.W.plainGet K C Str.empty = true)
    (hdi : PySem.W.hasDictIn K C = true)
    (po : PySem.W.plainOver K C = true)
    (sa : PySem.W.findIn K (.ref C) "__setattr__" = some (some (.builtin "object.__setattr__")))
    (mkI : PySem.W.makesIn K C = true)
    (kc : PySem.W.keepIn K (.ref C) = true)
    (iA : PySem.W.findIn K (.ref C) "__class__" = some (some (.builtin "object.__class__")))
    (iN : PySem.W.specialIn K (.builtin "object.__class__") "__get__" = some (some (.builtin "getset_descriptor.__get__")))
    (iT : PySem.W.takesIn K (.builtin "object.__class__") = some true)
    (iM : PySem.W.mroIn K C (.type "object") = some true)
    (nTest : PySem.W.findIn K (.ref C) "test" = some none)
    (nMost : PySem.W.findIn K (.ref C) "most" = some none)
    (nVerd : PySem.W.findIn K (.ref C) "verdicts" = some none)
    (nCalled : PySem.W.findIn K (.ref C) "called" = some none)
    (nCalling : PySem.W.findIn K (.ref C) "calling" = some none)
    (aTI0 : PySem.W.findIn K (.ref C) "__init__" = some (some (.ref fTI)))
    (iTI : PySem.W.isFn K (.ref fTI) = true)
    (lTI : K.lookup fTI = some ⟨ocTI, odTI, .func (PySem.W.fnOf "__init__" "Trials.__init__" (defArgs sTI) (defBody sTI) (defScope sTI) .none kVTI docTI pmTI anTI cdTI ctTI), slTI⟩)
    (cTI : PySem.W.codeIn K cdTI "Trials.__init__" = true)
    (kTI : PySem.W.keepIn K (.ref fTI) = true)
    (eKw : kVTI = .ref dKw)
    (lKw : K.lookup dKw = some ⟨ocK, odK, .dict #[⟨hs1, .str "most" tk1, .int 20000 tkM⟩, ⟨hs2, .str "known" tk2, .ref a00⟩] nK, slK⟩)
    (l00 : K.lookup a00 = some ⟨.type "tuple", od0, .seq #[] n00, sl0⟩)
    (aAsk : PySem.W.findIn K (.ref C) "ask" = some (some (.ref fAsk)))
    (iAsk : PySem.W.isFn K (.ref fAsk) = true)
    (lAsk : K.lookup fAsk = some ⟨ocAsk, odAsk, .func (PySem.W.fnOf "ask" "Trials.ask" (defArgs sAsk) (defBody sAsk) (defScope sAsk) .none kVAsk docAsk pmAsk anAsk cdAsk ctAsk), slAsk⟩)
    (cAsk : PySem.W.codeIn K cdAsk "Trials.ask" = true)
    (kAsk : PySem.W.keepIn K (.ref fAsk) = true)
    (aAns : PySem.W.findIn K (.ref C) "answer" = some (some (.ref fAns)))
    (iAns : PySem.W.isFn K (.ref fAns) = true)
    (lAns : K.lookup fAns = some ⟨ocAns, odAns, .func (PySem.W.fnOf "answer" "Answers.answer" (defArgs sAns) (defBody sAns) (defScope sAns) .none kVAns docAns pmAns anAns cdAns ctAns), slAns⟩)
    (cAns : PySem.W.codeIn K cdAns "Answers.answer" = true)
    (kAns : PySem.W.keepIn K (.ref fAns) = true)
    (aCt : PySem.W.findIn K (.ref C) "call_test" = some (some (.ref fCt)))
    (iCt : PySem.W.isFn K (.ref fCt) = true)
    (lCt : K.lookup fCt = some ⟨ocCt, odCt, .func (PySem.W.fnOf "call_test" "Answers.call_test" (defArgs sCt) (defBody sCt) (defScope sCt) .none kVCt docCt pmCt anCt cdCt ctCt), slCt⟩)
    (cCt : PySem.W.codeIn K cdCt "Answers.call_test" = true)
    (kCt : PySem.W.keepIn K (.ref fCt) = true)
    (aFl : PySem.W.findIn K (.ref C) "fails" = some (some (.ref fFl)))
    (iFl : PySem.W.isFn K (.ref fFl) = true)
    (lFl : K.lookup fFl = some ⟨ocFl, odFl, .func (PySem.W.fnOf "fails" "Trials.fails" (defArgs sFl) (defBody sFl) (defScope sFl) .none kVFl docFl pmFl anFl cdFl ctFl), slFl⟩)
    (cFl : PySem.W.codeIn K cdFl "Trials.fails" = true)
    (kFl : PySem.W.keepIn K (.ref fFl) = true)
    (aRw : PySem.W.findIn K (.ref C) "rows" = some (some (.ref fRw)))
    (iRw : PySem.W.isFn K (.ref fRw) = true)
    (lRw : K.lookup fRw = some ⟨ocRw, odRw, .func (PySem.W.fnOf "rows" "Trials.rows" (defArgs sRw) (defBody sRw) (defScope sRw) .none kVRw docRw pmRw anRw cdRw ctRw), slRw⟩)
    (cRw : PySem.W.codeIn K cdRw "Trials.rows" = true)
    (kRw : PySem.W.keepIn K (.ref fRw) = true)
    (aLn : PySem.W.findIn K (.ref C) "__len__" = some (some (.ref fLn)))
    (iLn : PySem.W.isFn K (.ref fLn) = true)
    (lLn : K.lookup fLn = some ⟨ocLn, odLn, .func (PySem.W.fnOf "__len__" "Trials.__len__" (defArgs sLn) (defBody sLn) (defScope sLn) .none kVLn docLn pmLn anLn cdLn ctLn), slLn⟩)
    (cLn : PySem.W.codeIn K cdLn "Trials.__len__" = true)
    (kLn : PySem.W.keepIn K (.ref fLn) = true)
    (aWTr : PySem.W.nsIn K mainGlobals "want_trials" = some (some (.ref fWTr)))
    (lWTr : K.lookup fWTr = some ⟨ocWTr, odWTr, .func (PySem.W.fnOf "want_trials" "want_trials" (defArgs sWTr) (defBody sWTr) (defScope sWTr) .none kVWTr docWTr pmWTr anWTr cdWTr ctWTr), slWTr⟩)
    (cWTr : PySem.W.codeIn K cdWTr "want_trials" = true)
    (kWTr : PySem.W.keepIn K (.ref fWTr) = true)
    (aWV : PySem.W.nsIn K mainGlobals "want_verdict" = some (some (.ref fWV)))
    (lWV : K.lookup fWV = some ⟨ocWV, odWV, .func (PySem.W.fnOf "want_verdict" "want_verdict" (defArgs sWV) (defBody sWV) (defScope sWV) .none kVWV docWV pmWV anWV cdWV ctWV), slWV⟩)
    (cWV : PySem.W.codeIn K cdWV "want_verdict" = true)
    (kWV : PySem.W.keepIn K (.ref fWV) = true)
    (aWF : PySem.W.nsIn K mainGlobals "want_failing" = some (some (.ref fWF)))
    (lWF : K.lookup fWF = some ⟨ocWF, odWF, .func (PySem.W.fnOf "want_failing" "want_failing" (defArgs sWF) (defBody sWF) (defScope sWF) .none kVWF docWF pmWF anWF cdWF ctWF), slWF⟩)
    (cWF : PySem.W.codeIn K cdWF "want_failing" = true)
    (kWF : PySem.W.keepIn K (.ref fWF) = true)
    (aQk : PySem.W.nsIn K mainGlobals "quick" = some (some (.ref fQk)))
    (lQk : K.lookup fQk = some ⟨ocQk, odQk, .func (PySem.W.fnOf "quick" "quick" (defArgs sQk) (defBody sQk) (defScope sQk) .none kVQk docQk pmQk anQk cdQk ctQk), slQk⟩)
    (cQk : PySem.W.codeIn K cdQk "quick" = true)
    (kQk : PySem.W.keepIn K (.ref fQk) = true)
    (aSh : PySem.W.nsIn K mainGlobals "shortest" = some (some (.ref fSh)))
    (lSh : K.lookup fSh = some ⟨ocSh, odSh, .func (PySem.W.fnOf "shortest" "shortest" (defArgs sSh) (defBody sSh) (defScope sSh) .none kVSh docSh pmSh anSh cdSh ctSh), slSh⟩)
    (cSh : PySem.W.codeIn K cdSh "shortest" = true)
    (kSh : PySem.W.keepIn K (.ref fSh) = true)
    (aLo : PySem.W.nsIn K mainGlobals "_law_left_out" = some (some (.ref fLo)))
    (lLo : K.lookup fLo = some ⟨ocLo, odLo, .func (PySem.W.fnOf "_law_left_out" "_law_left_out" (defArgs sLo) (defBody sLo) (defScope sLo) .none kVLo docLo pmLo anLo cdLo ctLo), slLo⟩)
    (cLo : PySem.W.codeIn K cdLo "_law_left_out" = true)
    (kLo : PySem.W.keepIn K (.ref fLo) = true)
    (aDb : PySem.W.nsIn K mainGlobals "_law_doublings" = some (some (.ref fDb)))
    (lDb : K.lookup fDb = some ⟨ocDb, odDb, .func (PySem.W.fnOf "_law_doublings" "_law_doublings" (defArgs sDb) (defBody sDb) (defScope sDb) .none kVDb docDb pmDb anDb cdDb ctDb), slDb⟩)
    (cDb : PySem.W.codeIn K cdDb "_law_doublings" = true)
    (kDb : PySem.W.keepIn K (.ref fDb) = true)
    (aQr : PySem.W.nsIn K mainGlobals "_law_quick_right" = some (some (.ref fQr)))
    (lQr : K.lookup fQr = some ⟨ocQr, odQr, .func (PySem.W.fnOf "_law_quick_right" "_law_quick_right" (defArgs sQr) (defBody sQr) (defScope sQr) .none kVQr docQr pmQr anQr cdQr ctQr), slQr⟩)
    (cQr : PySem.W.codeIn K cdQr "_law_quick_right" = true)
    (kQr : PySem.W.keepIn K (.ref fQr) = true)
    (aLs : PySem.W.nsIn K mainGlobals "_law_less" = some (some (.ref fLs)))
    (lLs : K.lookup fLs = some ⟨ocLs, odLs, .func (PySem.W.fnOf "_law_less" "_law_less" (defArgs sLs) (defBody sLs) (defScope sLs) .none kVLs docLs pmLs anLs cdLs ctLs), slLs⟩)
    (cLs : PySem.W.codeIn K cdLs "_law_less" = true)
    (kLs : PySem.W.keepIn K (.ref fLs) = true)
    (aTf : PySem.W.nsIn K mainGlobals "_law_tell_for" = some (some (.ref fTf)))
    (lTf : K.lookup fTf = some ⟨ocTf, odTf, .func (PySem.W.fnOf "_law_tell_for" "_law_tell_for" (defArgs sTf) (defBody sTf) (defScope sTf) .none kVTf docTf pmTf anTf cdTf ctTf), slTf⟩)
    (cTf : PySem.W.codeIn K cdTf "_law_tell_for" = true)
    (kTf : PySem.W.keepIn K (.ref fTf) = true)
    (aTs : PySem.W.nsIn K mainGlobals "_law_test" = some (some (.ref fTs)))
    (lTs : K.lookup fTs = some ⟨ocTs, odTs, .func (PySem.W.fnOf "_law_test" "_law_test" (defArgs sTs) (defBody sTs) (defScope sTs) .none kVTs docTs pmTs anTs cdTs ctTs), slTs⟩)
    (cTs : PySem.W.codeIn K cdTs "_law_test" = true)
    (kTs : PySem.W.keepIn K (.ref fTs) = true)
    (aWc : PySem.W.nsIn K mainGlobals "_law_within_cores" = some (some (.ref fWc)))
    (lWc : K.lookup fWc = some ⟨ocWc, odWc, .func (PySem.W.fnOf "_law_within_cores" "_law_within_cores" (defArgs sWc) (defBody sWc) (defScope sWc) .none kVWc docWc pmWc anWc cdWc ctWc), slWc⟩)
    (cWc : PySem.W.codeIn K cdWc "_law_within_cores" = true)
    (kWc : PySem.W.keepIn K (.ref fWc) = true)
    (aCo : PySem.W.nsIn K mainGlobals "_law_cores" = some (some (.ref fCo)))
    (lCo : K.lookup fCo = some ⟨ocCo, odCo, .func (PySem.W.fnOf "_law_cores" "_law_cores" (defArgs sCo) (defBody sCo) (defScope sCo) .none kVCo docCo pmCo anCo cdCo ctCo), slCo⟩)
    (cCo : PySem.W.codeIn K cdCo "_law_cores" = true)
    (kCo : PySem.W.keepIn K (.ref fCo) = true)
    (aDx : PySem.W.nsIn K mainGlobals "_law_draw" = some (some (.ref fDx)))
    (lDx : K.lookup fDx = some ⟨ocDx, odDx, .func (PySem.W.fnOf "_law_draw" "_law_draw" (defArgs sDraw) (defBody sDraw) (defScope sDraw) .none kVDx docDx pmDx anDx cdDx ctDx), slDx⟩)
    (cDx : PySem.W.codeIn K cdDx "_law_draw" = true)
    (kDx : PySem.W.keepIn K (.ref fDx) = true)
    (aDy : PySem.W.nsIn K mainGlobals "_law_mixed" = some (some (.ref fDy)))
    (lDy : K.lookup fDy = some ⟨ocDy, odDy, .func (PySem.W.fnOf "_law_mixed" "_law_mixed" (defArgs sMixed) (defBody sMixed) (defScope sMixed) .none kVDy docDy pmDy anDy cdDy ctDy), slDy⟩)
    (cDy : PySem.W.codeIn K cdDy "_law_mixed" = true)
    (kDy : PySem.W.keepIn K (.ref fDy) = true)
    (aTe : PySem.W.nsIn K mainGlobals "_law_tells" = some (some (.ref fTe)))
    (lTe : K.lookup fTe = some ⟨ocTe, odTe, .func (PySem.W.fnOf "_law_tells" "_law_tells" (defArgs sTe) (defBody sTe) (defScope sTe) .none kVTe docTe pmTe anTe cdTe ctTe), slTe⟩)
    (cTe : PySem.W.codeIn K cdTe "_law_tells" = true)
    (kTe : PySem.W.keepIn K (.ref fTe) = true)
    (aIs : PySem.W.nsIn K mainGlobals "_law_inside" = some (some (.ref fIs)))
    (lIs : K.lookup fIs = some ⟨ocIs, odIs, .func (PySem.W.fnOf "_law_inside" "_law_inside" (defArgs sIs) (defBody sIs) (defScope sIs) .none kVIs docIs pmIs anIs cdIs ctIs), slIs⟩)
    (cIs : PySem.W.codeIn K cdIs "_law_inside" = true)
    (kIs : PySem.W.keepIn K (.ref fIs) = true)
    (aOd : PySem.W.nsIn K mainGlobals "_law_odd" = some (some (.ref fOd)))
    (lOd : K.lookup fOd = some ⟨ocOd, odOd, .func (PySem.W.fnOf "_law_odd" "_law_odd" (defArgs sOd) (defBody sOd) (defScope sOd) .none kVOd docOd pmOd anOd cdOd ctOd), slOd⟩)
    (cOd : PySem.W.codeIn K cdOd "_law_odd" = true)
    (kOd : PySem.W.keepIn K (.ref fOd) = true)
    (aNu : PySem.W.nsIn K mainGlobals "_law_number_of" = some (some (.ref fNu)))
    (lNu : K.lookup fNu = some ⟨ocNu, odNu, .func (PySem.W.fnOf "_law_number_of" "_law_number_of" (defArgs sNo) (defBody sNo) (defScope sNo) .none kVNu docNu pmNu anNu cdNu ctNu), slNu⟩)
    (cNu : PySem.W.codeIn K cdNu "_law_number_of" = true)
    (kNu : PySem.W.keepIn K (.ref fNu) = true)
    (aFo : PySem.W.nsIn K mainGlobals "_law_folded" = some (some (.ref fFo)))
    (lFo : K.lookup fFo = some ⟨ocFo, odFo, .func (PySem.W.fnOf "_law_folded" "_law_folded" (defArgs sFolded) (defBody sFolded) (defScope sFolded) .none kVFo docFo pmFo anFo cdFo ctFo), slFo⟩)
    (cFo : PySem.W.codeIn K cdFo "_law_folded" = true)
    (kFo : PySem.W.keepIn K (.ref fFo) = true)
    (aBe : PySem.W.nsIn K mainGlobals "_law_begun" = some (some (.ref fBe)))
    (lBe : K.lookup fBe = some ⟨ocBe, odBe, .func (PySem.W.fnOf "_law_begun" "_law_begun" (defArgs sBegun) (defBody sBegun) (defScope sBegun) .none kVBe docBe pmBe anBe cdBe ctBe), slBe⟩)
    (cBe : PySem.W.codeIn K cdBe "_law_begun" = true)
    (kBe : PySem.W.keepIn K (.ref fBe) = true)
    (aSo : PySem.W.nsIn K mainGlobals "_law_some" = some (some (.ref fSo)))
    (lSo : K.lookup fSo = some ⟨ocSo, odSo, .func (PySem.W.fnOf "_law_some" "_law_some" (defArgs sSome) (defBody sSome) (defScope sSome) .none kVSo docSo pmSo anSo cdSo ctSo), slSo⟩)
    (cSo : PySem.W.codeIn K cdSo "_law_some" = true)
    (kSo : PySem.W.keepIn K (.ref fSo) = true)
    (aSt : PySem.W.nsIn K mainGlobals "_law_start" = some (some (.ref fSt)))
    (lSt : K.lookup fSt = some ⟨ocSt, odSt, .func (PySem.W.fnOf "_law_start" "_law_start" (defArgs sStt) (defBody sStt) (defScope sStt) .none kVSt docSt pmSt anSt cdSt ctSt), slSt⟩)
    (cSt : PySem.W.codeIn K cdSt "_law_start" = true)
    (kSt : PySem.W.keepIn K (.ref fSt) = true)
    (aLaw : PySem.W.nsIn K mainGlobals "law" = some (some (.ref fLaw)))
    (lLaw : K.lookup fLaw = some ⟨ocLaw, odLaw, .func (PySem.W.fnOf "law" "law" (defArgs sLaw) (defBody sLaw) (defScope sLaw) .none kVLaw docLaw pmLaw anLaw cdLaw ctLaw), slLaw⟩)
    (cLaw : PySem.W.codeIn K cdLaw "law" = true)
    (kLaw : PySem.W.keepIn K (.ref fLaw) = true)
    (eF3 : cdTf = .ref cF3)
    (lF3 : K.lookup cF3 = some ⟨ocF3, odF3, .fields vsF3, slF3⟩)
    (pF3 : vsF3[11]? = some (.ref PF3))
    (nF3 : K.lookup PF3 = none)
    (eS3 : cdTs = .ref cS3)
    (lS3 : K.lookup cS3 = some ⟨ocS3, odS3, .fields vsS3, slS3⟩)
    (pS3 : vsS3[11]? = some (.ref PS3))
    (nS3 : K.lookup PS3 = none)
    (eL3 : cdLaw = .ref cL3)
    (lL3 : K.lookup cL3 = some ⟨ocL3, odL3, .fields vsL3, slL3⟩)
    (pL3 : vsL3[11]? = some (.ref PL3))
    (nL3 : K.lookup PL3 = none)
    (neFS : PF3 ≠ PS3)
    (neFL : PF3 ≠ PL3)
    (neSL : PS3 ≠ PL3) :
    ∃ (fd : FuncData) (ts : List (Addr × Addr)), (∀ p ∈ ts, (∃ x0 ∈ (["_law_tell_for", "_law_test", "law"] : List Str), PySem.W.tabIn K x0 = some p) ∧ K.lookup p.2 = none) ∧ (∀ (s : Shared) (v : Value), BindsTo s fd ⟨[v], []⟩ [("_law_script", v)]) ∧ ∀ base : Heap, K.In base → base.Ns mainGlobals mg → (∀ p ∈ ts, PySem.W.CodeHd base p.1 p.2 ∧ base.BuiltinsAt mg p.2) → FnOk l.prog w K mg base CX0 14 fa fd ["_law_script"] (spLaw3 K ts) := by
  have e := hfa.symm.trans (PySem.W.mg_of X G aLaw)
  cases e
  have FBV := fun_mk (st := sBVI) lBV cBV kBV
  have bBV := FBV.binds (ps := ["self", "what"]) fun _ _ _ _ _ _ us hl => match us, hl with | [_, _], _ => rfl
  have kbBV : KBinds K (PySem.W.fnOf "__init__" "BadValue.__init__" (defArgs sBVI) (defBody sBVI) (defScope sBVI) .none kVBV docBV pmBV anBV cdBV ctBV) ["self", "what"] ["what"] kb11 kb11 := ⟨fun s us ws _ hl => match us, ws, hl with | [_], [_], _ => .of_eq rfl, kb11_rel⟩
  have FBd := fun_mk (st := sBdI) lBd cBd kBd
  have bBd := FBd.binds (ps := ["self", "told"]) fun _ _ _ _ _ _ us hl => match us, hl with | [_, _], _ => rfl
  have kbBd : KBinds K (PySem.W.fnOf "__init__" "BadVerdict.__init__" (defArgs sBdI) (defBody sBdI) (defScope sBdI) .none kVBd docBd pmBd anBd cdBd ctBd) ["self", "told"] ["told"] kb11 kb11 := ⟨fun s us ws _ hl => match us, ws, hl with | [_], [_], _ => .of_eq rfl, kb11_rel⟩
  have FSn := fun_mk (st := sSpI) lSn cSn kSn
  have bSn := FSn.binds (ps := ["self", "most"]) fun _ _ _ _ _ _ us hl => match us, hl with | [_, _], _ => rfl
  have kbSn : KBinds K (PySem.W.fnOf "__init__" "Spent.__init__" (defArgs sSpI) (defBody sSpI) (defScope sSpI) .none kVSn docSn pmSn anSn cdSn ctSn) ["self", "most"] ["most"] kb11 kb11 := ⟨fun s us ws _ hl => match us, ws, hl with | [_], [_], _ => .of_eq rfl, kb11_rel⟩
  have FNe := fun_mk (st := sNeI) lNe cNe kNe
  have bNe := FNe.binds (ps := ["self"]) fun _ _ _ _ _ _ us hl => match us, hl with | [_], _ => rfl
  have FNo := fun_mk (st := sNoI) lNo cNo kNo
  have bNo := FNo.binds (ps := ["self", "parts", "verdict"]) fun _ _ _ _ _ _ us hl => match us, hl with | [_, _, _], _ => rfl
  have kbNo : KBinds K (PySem.W.fnOf "__init__" "NotSo.__init__" (defArgs sNoI) (defBody sNoI) (defScope sNoI) .none kVNo docNo pmNo anNo cdNo ctNo) ["self", "parts", "verdict"] ["verdict", "parts"] kb12r kb12r := ⟨fun s us ws _ hl => match us, ws, hl with | [_], [_, _], _ => .of_eq rfl, kb12r_rel⟩
  have FNum := fun_mk (st := sNum) lNum cNum kNum
  have bNum := FNum.binds (ps := ["thing", "low", "high"]) fun _ _ _ _ _ _ us hl => match us, hl with | [_, _, _], _ => rfl
  have FCfg := funD_mk (st := sCfg) lCfg cCfg kCfg
  have bCfg : Binds K _ ["thing", "count"] [] := FCfg.bindsD tCfg rfl fun _ _ _ _ _ us hl => by
    match us, hl with
    | [_, _], _ => exact ⟨_, rfl, rfl⟩
    | [], hl => simp at hl
    | [_], hl => simp at hl
    | _ :: _ :: _ :: _, hl => simp at hl
  have FWant := funD_mk (st := sWant) lWant cWant kWant
  have bWant : Binds K _ ["thing", "what", "count"] [] := FWant.bindsD tWant rfl fun _ _ _ _ _ us hl => by
    match us, hl with
    | [_, _, _], _ => exact ⟨_, rfl, rfl⟩
    | [], hl => simp at hl
    | [_], hl => simp at hl
    | [_, _], hl => simp at hl
    | _ :: _ :: _ :: _ :: _, hl => simp at hl
  have bWant1 : Binds K _ ["thing", "what", "count"] [(.int 120 tkW)] := FWant.bindsD tWant rfl fun _ _ _ _ _ us hl => by
    match us, hl with
    | [_, _], _ => exact ⟨_, rfl, rfl⟩
    | [], hl => simp at hl
    | [_], hl => simp at hl
    | _ :: _ :: _ :: _, hl => simp at hl
  have FVer := fun_mk (st := sVer) lVer cVer kVer
  have bVer := FVer.binds (ps := ["thing"]) fun _ _ _ _ _ _ us hl => match us, hl with | [_], _ => rfl
  have FRows := fun_mk (st := sRows) lRows cRows kRows
  have bRows := FRows.binds (ps := ["thing", "is_one"]) fun _ _ _ _ _ _ us hl => match us, hl with | [_, _], _ => rfl
  have FAI := fun_mk (st := sAI) lAI cAI kAI
  have bAI := FAI.binds (ps := ["self", "test", "most", "known", "is_one"]) fun _ _ _ _ _ _ us hl => match us, hl with | [_, _, _, _, _], _ => rfl
  subst eKw
  have FTI := funD_mk (st := sTI) lTI cTI kTI
  have bTI : Binds K _ ["self", "test", "most", "known"] [.int 20000 tkM, .ref a00] := FTI.bindsLoad2 lKw fun _ _ _ _ _ us hl => by
    match us, hl with
    | [_, _], _ => exact ⟨_, _, _, _, rfl, rfl, rfl⟩
    | [], hl => simp at hl
    | [_], hl => simp at hl
    | _ :: _ :: _ :: _, hl => simp at hl
  have kbTI : KBinds K _ ["self", "test", "most", "known"] ["most"] (kbT a00) (kbTV a00) := FTI.kbindsLoad lKw (fun _ _ _ _ _ us ws hl => match us, ws, hl with | [_, _], [_], _ => ⟨_, _, rfl, rfl⟩) (kbT_rel a00)
  have FAsk := fun_mk (st := sAsk) lAsk cAsk kAsk
  have bAsk := FAsk.binds (ps := ["self", "parts"]) fun _ _ _ _ _ _ us hl => match us, hl with | [_, _], _ => rfl
  have FAns := fun_mk (st := sAns) lAns cAns kAns
  have bAns := FAns.binds (ps := ["self", "asked"]) fun _ _ _ _ _ _ us hl => match us, hl with | [_, _], _ => rfl
  have FCt := fun_mk (st := sCt) lCt cCt kCt
  have bCt := FCt.binds (ps := ["self", "asked"]) fun _ _ _ _ _ _ us hl => match us, hl with | [_, _], _ => rfl
  have FFl := fun_mk (st := sFl) lFl cFl kFl
  have bFl := FFl.binds (ps := ["self", "parts"]) fun _ _ _ _ _ _ us hl => match us, hl with | [_, _], _ => rfl
  have FRw := fun_mk (st := sRw) lRw cRw kRw
  have bRw := FRw.binds (ps := ["self"]) fun _ _ _ _ _ _ us hl => match us, hl with | [_], _ => rfl
  have FLn := fun_mk (st := sLn) lLn cLn kLn
  have bLn := FLn.binds (ps := ["self"]) fun _ _ _ _ _ _ us hl => match us, hl with | [_], _ => rfl
  have FWTr := fun_mk (st := sWTr) lWTr cWTr kWTr
  have bWTr := FWTr.binds (ps := ["thing"]) fun _ _ _ _ _ _ us hl => match us, hl with | [_], _ => rfl
  have FWV := fun_mk (st := sWV) lWV cWV kWV
  have bWV := FWV.binds (ps := ["trials", "parts", "wanted"]) fun _ _ _ _ _ _ us hl => match us, hl with | [_, _, _], _ => rfl
  have FWF := fun_mk (st := sWF) lWF cWF kWF
  have bWF := FWF.binds (ps := ["trials", "parts"]) fun _ _ _ _ _ _ us hl => match us, hl with | [_, _], _ => rfl
  have FQk := fun_mk (st := sQk) lQk cQk kQk
  have bQk := FQk.binds (ps := ["trials", "parts"]) fun _ _ _ _ _ _ us hl => match us, hl with | [_, _], _ => rfl
  have kQk0 : KBinds K (PySem.W.fnOf "quick" "quick" (defArgs sQk) (defBody sQk) (defScope sQk) .none kVQk docQk pmQk anQk cdQk ctQk) ["trials", "parts"] ["parts", "trials"] kb02r kb02r := ⟨fun s us ws _ hl => match us, ws, hl with | [], [_, _], _ => .of_eq rfl, kb02r_rel⟩
  have FSh := fun_mk (st := sSh) lSh cSh kSh
  have bSh := FSh.binds (ps := ["trials", "ahead", "kept"]) fun _ _ _ _ _ _ us hl => match us, hl with | [_, _, _], _ => rfl
  have FLo := fun_mk (st := sLo) lLo cLo kLo
  have bLo := FLo.binds (ps := ["_law_cores_here", "_law_start_here"]) fun _ _ _ _ _ _ us hl => match us, hl with | [_, _], _ => rfl
  have FDb := fun_mk (st := sDb) lDb cDb kDb
  have bDb := FDb.binds (ps := ["_law_size"]) fun _ _ _ _ _ _ us hl => match us, hl with | [_], _ => rfl
  have FQr := fun_mk (st := sQr) lQr cQr kQr
  have bQr := FQr.binds (ps := ["_law_tell", "_law_start_here", "_law_log", "_law_told"]) fun _ _ _ _ _ _ us hl => match us, hl with | [_, _, _, _], _ => rfl
  have FLs := fun_mk (st := sLs) lLs cLs kLs
  have bLs := FLs.binds (ps := ["_law_some_here", "_law_beside"]) fun _ _ _ _ _ _ us hl => match us, hl with | [_, _], _ => rfl
  have FTf := fun_mk (st := sTf) lTf cTf kTf
  have bTf := FTf.binds (ps := ["_law_m", "_law_start_here"]) fun _ _ _ _ _ _ us hl => match us, hl with | [_, _], _ => rfl
  have FTs := fun_mk (st := sTs) lTs cTs kTs
  have bTs := FTs.binds (ps := ["_law_log", "_law_tell"]) fun _ _ _ _ _ _ us hl => match us, hl with | [_, _], _ => rfl
  have FWc := fun_mk (st := sWc) lWc cWc kWc
  have bWc := FWc.binds (ps := ["_law_m", "_law_start_here"]) fun _ _ _ _ _ _ us hl => match us, hl with | [_, _], _ => rfl
  have FCo := fun_mk (st := sCo) lCo cCo kCo
  have bCo := FCo.binds (ps := ["_law_m", "_law_size"]) fun _ _ _ _ _ _ us hl => match us, hl with | [_, _], _ => rfl
  have FDx := fun_mk (st := sDraw) lDx cDx kDx
  have bDx := FDx.binds (ps := ["_law_m", "_law_top"]) fun _ _ _ _ _ _ us hl => match us, hl with | [_, _], _ => rfl
  have FDy := fun_mk (st := sMixed) lDy cDy kDy
  have bDy := FDy.binds (ps := ["_law_cell", "_law_k"]) fun _ _ _ _ _ _ us hl => match us, hl with | [_, _], _ => rfl
  have FTe := fun_mk (st := sTe) lTe cTe kTe
  have bTe := FTe.binds (ps := ["_law_cores_here", "_law_some_here"]) fun _ _ _ _ _ _ us hl => match us, hl with | [_, _], _ => rfl
  have FIs := fun_mk (st := sIs) lIs cIs kIs
  have bIs := FIs.binds (ps := ["_law_some_here", "_law_beside"]) fun _ _ _ _ _ _ us hl => match us, hl with | [_, _], _ => rfl
  have FOd := fun_mk (st := sOd) lOd cOd kOd
  have bOd := FOd.binds (ps := ["_law_seed", "_law_some_here"]) fun _ _ _ _ _ _ us hl => match us, hl with | [_, _], _ => rfl
  have FNu := fun_mk (st := sNo) lNu cNu kNu
  have bNu := FNu.binds (ps := ["_law_some_here"]) fun _ _ _ _ _ _ us hl => match us, hl with | [_], _ => rfl
  have FFo := fun_mk (st := sFolded) lFo cFo kFo
  have bFo := FFo.binds (ps := ["_law_script"]) fun _ _ _ _ _ _ us hl => match us, hl with | [_], _ => rfl
  have FBe := fun_mk (st := sBegun) lBe cBe kBe
  have bBe := FBe.binds (ps := ["_law_script"]) fun _ _ _ _ _ _ us hl => match us, hl with | [_], _ => rfl
  have FSo := fun_mk (st := sSome) lSo cSo kSo
  have bSo := FSo.binds (ps := ["_law_m", "_law_size"]) fun _ _ _ _ _ _ us hl => match us, hl with | [_, _], _ => rfl
  have FSt := fun_mk (st := sStt) lSt cSt kSt
  have bSt := FSt.binds (ps := ["_law_m", "_law_size"]) fun _ _ _ _ _ _ us hl => match us, hl with | [_, _], _ => rfl
  have FLaw := fun_mk (st := sLaw) lLaw cLaw kLaw
  have bLaw := FLaw.binds (ps := ["_law_script"]) fun _ _ _ _ _ _ us hl => match us, hl with | [_], _ => rfl
  subst eF3
  have tabF : PySem.W.tabIn K "_law_tell_for" = some (cF3, PF3) := by
    unfold PySem.W.tabIn
    rw [aTf]; dsimp only; rw [lTf]; dsimp only [PySem.W.fnOf]; rw [lF3]; dsimp only; rw [pF3]
  subst eS3
  have tabS : PySem.W.tabIn K "_law_test" = some (cS3, PS3) := by
    unfold PySem.W.tabIn
    rw [aTs]; dsimp only; rw [lTs]; dsimp only [PySem.W.fnOf]; rw [lS3]; dsimp only; rw [pS3]
  subst eL3
  have tabL : PySem.W.tabIn K "law" = some (cL3, PL3) := by
    unfold PySem.W.tabIn
    rw [aLaw]; dsimp only; rw [lLaw]; dsimp only [PySem.W.fnOf]; rw [lL3]; dsimp only; rw [pL3]
  let T : Tl K mg := {
    bi := ⟨PySem.W.mg_none_of X G z_range, PySem.W.mg_none_of X G z_enumerate, PySem.W.mg_none_of X G z_len, PySem.W.mg_none_of X G z_tuple⟩,
    isinstance := PySem.W.mg_none_of X G z_isinstance,
    str := PySem.W.mg_none_of X G z_str,
    verr := PySem.W.mg_none_of X G z_ValueError,
    terr := PySem.W.mg_none_of X G z_TypeError,
    oerr := PySem.W.mg_none_of X G z_OverflowError,
    rerr := PySem.W.mg_none_of X G z_RuntimeError,
    lerr := PySem.W.mg_none_of X G z_LookupError,
    xerr := PySem.W.mg_none_of X G z_Exception,
    int := PySem.W.mg_none_of X G z_int,
    bool := PySem.W.mg_none_of X G z_bool,
    min := PySem.W.mg_none_of X G z_min,
    list := PySem.W.mg_none_of X G z_list,
    set := PySem.W.mg_none_of X G z_set,
    repr := PySem.W.mg_none_of X G z_repr,
    max := PySem.W.mg_none_of X G z_max,
    sorted := PySem.W.mg_none_of X G z_sorted,
    reversed := PySem.W.mg_none_of X G z_reversed,
    all := PySem.W.mg_none_of X G z_all,
    BV := { C := CBV, N := NBV, aI := fBV, fI := (PySem.W.fnOf "__init__" "BadValue.__init__" (defArgs sBVI) (defBody sBVI) (defScope sBVI) .none kVBV docBV pmBV anBV cdBV ctBV), G := ⟨⟨_, _, _, _, _, _, _, _, _, _, _, _, _, clBV⟩, nsBV, inBV, nsetBV, ngetBV, nhkBV, fnBV, kpBV⟩, g := PySem.W.mg_of X G aBV, nc := nclBV },
    FBV := FBV,
    bBV := bBV,
    kBV := kbBV,
    wBV := w0BV,
    Bd := { C := CBd, N := NBd, aI := fBd, fI := (PySem.W.fnOf "__init__" "BadVerdict.__init__" (defArgs sBdI) (defBody sBdI) (defScope sBdI) .none kVBd docBd pmBd anBd cdBd ctBd), G := ⟨⟨_, _, _, _, _, _, _, _, _, _, _, _, _, clBd⟩, nsBd, inBd, nsetBd, ngetBd, nhkBd, fnBd, kpBd⟩, g := PySem.W.mg_of X G aBd, nc := nclBd },
    FBd := FBd,
    bBd := bBd,
    kBd := kbBd,
    wBd := w0Bd,
    Sn := { C := CSn, N := NSn, aI := fSn, fI := (PySem.W.fnOf "__init__" "Spent.__init__" (defArgs sSpI) (defBody sSpI) (defScope sSpI) .none kVSn docSn pmSn anSn cdSn ctSn), G := ⟨⟨_, _, _, _, _, _, _, _, _, _, _, _, _, clSn⟩, nsSn, inSn, nsetSn, ngetSn, nhkSn, fnSn, kpSn⟩, g := PySem.W.mg_of X G aSn, nc := nclSn },
    FSn := FSn,
    bSn := bSn,
    kSn := kbSn,
    wSn := w0Sn,
    Ne := { C := CNe, N := NNe, aI := fNe, fI := (PySem.W.fnOf "__init__" "Nested.__init__" (defArgs sNeI) (defBody sNeI) (defScope sNeI) .none kVNe docNe pmNe anNe cdNe ctNe), G := ⟨⟨_, _, _, _, _, _, _, _, _, _, _, _, _, clNe⟩, nsNe, inNe, nsetNe, ngetNe, nhkNe, fnNe, kpNe⟩, g := PySem.W.mg_of X G aNe, nc := nclNe },
    FNe := FNe,
    bNe := bNe,
    No := { C := CNo, N := NNo, aI := fNo, fI := (PySem.W.fnOf "__init__" "NotSo.__init__" (defArgs sNoI) (defBody sNoI) (defScope sNoI) .none kVNo docNo pmNo anNo cdNo ctNo), G := ⟨⟨_, _, _, _, _, _, _, _, _, _, _, _, _, clNo⟩, nsNo, inNo, nsetNo, ngetNo, nhkNo, fnNo, kpNo⟩, g := PySem.W.mg_of X G aNo, nc := nclNo },
    FNo := FNo,
    bNo := bNo,
    kNo := kbNo,
    w1No := w0No,
    w2No := w1No,
    mp := ⟨_, PySem.W.mg_of X G g_mp, ⟨_, rfl⟩⟩,
    mh := ⟨_, PySem.W.mg_of X G g_mh, ⟨_, rfl⟩⟩,
    aNum := fNum,
    fNum := _,
    FNum := FNum,
    gNum := PySem.W.mg_of X G aNum,
    bNum := bNum,
    bCfg := bCfg,
    aCfg := fCfg,
    fCfg := _,
    dCfg := _,
    eCfg := _,
    FCfg := FCfg,
    gCfg := PySem.W.mg_of X G aCfg,
    bWant := bWant,
    bWant1 := bWant1,
    aWant := fWant,
    fWant := _,
    dWant := _,
    eWant := _,
    FWant := FWant,
    gWant := PySem.W.mg_of X G aWant,
    uWant := _,
    rWant := ⟨_, rfl⟩,
    aV := aVt,
    gV := PySem.W.mg_of X G gVt,
    vT := fun H => .inr ⟨_, _, _, lVt, rfl, rfl, (by show 3 ≤ sizeLine; decide), .cons ⟨_, rfl⟩ (.cons ⟨_, rfl⟩ (.cons ⟨_, rfl⟩ .nil))⟩,
    aVer := fVer,
    fVer := _,
    FVer := FVer,
    gVer := PySem.W.mg_of X G aVer,
    bVer := bVer,
    aRow := fRow,
    gRow := PySem.W.mg_of X G aRow0,
    aRows := fRows,
    fRows := _,
    FRows := FRows,
    gRows := PySem.W.mg_of X G aRows,
    bRows := bRows,
    AC := AC,
    gAC := PySem.W.mg_of X G aAC,
    aAI := fAI,
    fAI := _,
    FAI := FAI,
    cAI := ⟨rdAC, tyAC, hdAC, fdAC, kAI⟩,
    bAI := bAI,
    C := C,
    gC := PySem.W.mg_of X G aC,
    cl := ⟨pg, hdi, po, sa⟩,
    iA := iA,
    iN := iN,
    iT := iT,
    iM := iM,
    nTest := nTest,
    nMost := nMost,
    nVerd := nVerd,
    nCalled := nCalled,
    nCalling := nCalling,
    aTI := fTI,
    fTI := _,
    dTI := _,
    eTI := _,
    FTI := FTI,
    mkC := ⟨mkI, aTI0, iTI, kc⟩,
    a0 := a00,
    o0 := _,
    n0 := n00,
    k0 := l00,
    c0 := rfl,
    d0 := rfl,
    uM := _,
    rM := ⟨_, rfl⟩,
    bTI := bTI,
    kTI := kbTI,
    aAsk := fAsk,
    fAsk := _,
    FAsk := FAsk,
    bAsk := bAsk,
    mAsk := ⟨aAsk, iAsk, kAsk⟩,
    aAns := fAns,
    fAns := _,
    FAns := FAns,
    bAns := bAns,
    mAns := ⟨aAns, iAns, kAns⟩,
    aCt := fCt,
    fCt := _,
    FCt := FCt,
    bCt := bCt,
    mCt := ⟨aCt, iCt, kCt⟩,
    aFl := fFl,
    fFl := _,
    FFl := FFl,
    bFl := bFl,
    mFl := ⟨aFl, iFl, kFl⟩,
    aRw := fRw,
    fRw := _,
    FRw := FRw,
    bRw := bRw,
    mRw := ⟨aRw, iRw, kRw⟩,
    aLn := fLn,
    fLn := _,
    FLn := FLn,
    bLn := bLn,
    mLn := ⟨aLn, iLn, kLn⟩,
    wtr := { a := fWTr, f := _, F := FWTr, g := PySem.W.mg_of X G aWTr, b := bWTr },
    wv := { a := fWV, f := _, F := FWV, g := PySem.W.mg_of X G aWV, b := bWV },
    wf := { a := fWF, f := _, F := FWF, g := PySem.W.mg_of X G aWF, b := bWF },
    qk := { a := fQk, f := _, F := FQk, g := PySem.W.mg_of X G aQk, b := bQk },
    sh := { a := fSh, f := _, F := FSh, g := PySem.W.mg_of X G aSh, b := bSh },
    lo := { a := fLo, f := _, F := FLo, g := PySem.W.mg_of X G aLo, b := bLo },
    db := { a := fDb, f := _, F := FDb, g := PySem.W.mg_of X G aDb, b := bDb },
    qr := { a := fQr, f := _, F := FQr, g := PySem.W.mg_of X G aQr, b := bQr },
    ls := { a := fLs, f := _, F := FLs, g := PySem.W.mg_of X G aLs, b := bLs },
    tf := { a := fTf, f := _, F := FTf, g := PySem.W.mg_of X G aTf, b := bTf },
    ts := { a := fTs, f := _, F := FTs, g := PySem.W.mg_of X G aTs, b := bTs },
    wc := { a := fWc, f := _, F := FWc, g := PySem.W.mg_of X G aWc, b := bWc },
    co := { a := fCo, f := _, F := FCo, g := PySem.W.mg_of X G aCo, b := bCo },
    dx := { a := fDx, f := _, F := FDx, g := PySem.W.mg_of X G aDx, b := bDx },
    dy := { a := fDy, f := _, F := FDy, g := PySem.W.mg_of X G aDy, b := bDy },
    te := { a := fTe, f := _, F := FTe, g := PySem.W.mg_of X G aTe, b := bTe },
    is := { a := fIs, f := _, F := FIs, g := PySem.W.mg_of X G aIs, b := bIs },
    od := { a := fOd, f := _, F := FOd, g := PySem.W.mg_of X G aOd, b := bOd },
    no := { a := fNu, f := _, F := FNu, g := PySem.W.mg_of X G aNu, b := bNu },
    fo := { a := fFo, f := _, F := FFo, g := PySem.W.mg_of X G aFo, b := bFo },
    be := { a := fBe, f := _, F := FBe, g := PySem.W.mg_of X G aBe, b := bBe },
    so := { a := fSo, f := _, F := FSo, g := PySem.W.mg_of X G aSo, b := bSo },
    st := { a := fSt, f := _, F := FSt, g := PySem.W.mg_of X G aSt, b := bSt },
    kQk := kQk0 }
  refine ⟨PySem.W.fnOf "law" "law" (defArgs sLaw) (defBody sLaw) (defScope sLaw) .none kVLaw docLaw pmLaw anLaw (.ref cL3) ctLaw, [(cF3, PF3), (cS3, PS3), (cL3, PL3)], ?h1, ?h2, ?h3⟩
  case h3 =>
    intro base _ _ hX
    exact ok_law T rfl rfl rfl ⟨hX (cF3, PF3) (by simp), hX (cS3, PS3) (by simp), hX (cL3, PL3) (by simp), ⟨neFS, neFL, neSL⟩⟩ FLaw
  case h2 => exact fun s v => .of_eq rfl
  case h1 =>
    intro p hp
    simp only [List.mem_cons, List.not_mem_nil, or_false] at hp
    rcases hp with rfl | rfl | rfl
    · exact ⟨⟨"_law_tell_for", by simp, tabF⟩, nF3⟩
    · exact ⟨⟨"_law_test", by simp, tabS⟩, nS3⟩
    · exact ⟨⟨"law", by simp, tabL⟩, nL3⟩
theorem walk {l : PySem.W.OpenLaw} {q : Program} {loose : List Str} {XP : (Str → Option Value) → Heap → Prop} {YP : World → Heap → Prop} {d : DefRec} {K : Params → PySem.W.Frag} (hn : l.most = some 63) (hdf : d.params.defaults = []) (hrec : ∀ x0 ∈ (["_law_tell_for", "_law_test", "law"] : List Str), ∃ d0, (recsOf q).find? (fun e => e.name == x0) = some d0)
    (hY : ∀ (w : World) (h : Heap), YP w h → (K w.params).In h)
    (F : ∀ (w : World) (mg : Str → Option Value) (fa : Addr) (h : Heap), (K w.params).In h → h.Ns mainGlobals mg → mg d.name = some (.ref fa) →
      ∃ (fd : FuncData) (ts : List (Addr × Addr)), (∀ p ∈ ts, (∃ x0 ∈ (["_law_tell_for", "_law_test", "law"] : List Str), PySem.W.tabIn (K w.params) x0 = some p) ∧ (K w.params).lookup p.2 = none) ∧ (∀ (s : Shared) (v : Value), BindsTo s fd ⟨[v], []⟩ [("_law_script", v)]) ∧ ∀ base : Heap, (K w.params).In base → base.Ns mainGlobals mg → (∀ p ∈ ts, PySem.W.CodeHd base p.1 p.2 ∧ base.BuiltinsAt mg p.2) → FnOk l.prog w (K w.params) mg base CX0 14 fa fd ["_law_script"] (spLaw3 (K w.params) ts)) :
    PySem.W.WalkO q loose XP YP l.row.toRowW d [] (fun f vs => PySem.call f vs) :=
  walk_Ts (n := 63) (k := 14) (x := "_law_script") (xs := ["_law_tell_for", "_law_test", "law"]) (CX := fun _ => CX0) (sp := fun w ts => spLaw3 (K w.params) ts) hn (by decide) hdf ⟨rfl, by decide, by decide, rfl⟩ hrec hY F (fun _ _ a ts ns hl hT hS => ⟨a, ns, rfl, hS, hl, hT, fun _ => rfl⟩) fun _ _ _ _ _ z => z
end My
open PySem PySem.W PyProof.Rows
set_option Elab.async false
set_option maxRecDepth 100000 in
set_option maxHeartbeats 0 in
theorem PySem.Challenge.cw_leastfail_k23_whole_quick_as_cut_down_holds : PySem.Challenge.rw_leastfail_k23_whole_quick_as_cut_down.Holds := by
  w_on; o_law; k_head; (case hw => w_witness2)
  k_fill
  refine My.walk (l := PySem.Challenge.rw_leastfail_k23_whole_quick_as_cut_down) rfl rfl (fun x0 hx0 => by
    simp only [List.mem_cons, List.not_mem_nil, or_false] at hx0
    rcases hx0 with rfl | rfl | rfl <;> exact ⟨_, rfl⟩) (fun w h Y => by first | exact PySem.W.km_in_of Y | exact PySem.W.kIn_of Y) ?F
  case F =>
    intro w mg fa h KX G hmg
    refine' My.all_mk KX G hmg ?z_range ?z_enumerate ?z_len ?z_tuple ?z_isinstance ?z_str ?z_ValueError ?z_TypeError ?z_OverflowError ?z_RuntimeError ?z_LookupError ?z_Exception ?z_int ?z_bool ?z_min ?z_list ?z_set ?z_repr ?z_max ?z_sorted ?z_reversed ?z_all ?aBV ?clBV ?nsBV ?inBV ?nsetBV ?ngetBV ?nhkBV ?nclBV ?w0BV ?fnBV ?kpBV ?lBV ?cBV ?kBV ?aBd ?clBd ?nsBd ?inBd ?nsetBd ?ngetBd ?nhkBd ?nclBd ?w0Bd ?fnBd ?kpBd ?lBd ?cBd ?kBd ?aSn ?clSn ?nsSn ?inSn ?nsetSn ?ngetSn ?nhkSn ?nclSn ?w0Sn ?fnSn ?kpSn ?lSn ?cSn ?kSn ?aNe ?clNe ?nsNe ?inNe ?nsetNe ?ngetNe ?nhkNe ?nclNe ?fnNe ?kpNe ?lNe ?cNe ?kNe ?aNo ?clNo ?nsNo ?inNo ?nsetNo ?ngetNo ?nhkNo ?nclNo ?w0No ?w1No ?fnNo ?kpNo ?lNo ?cNo ?kNo ?g_mp ?g_mh ?aNum ?lNum ?cNum ?kNum ?aCfg ?lCfg ?cCfg ?kCfg ?tCfg ?aWant ?lWant ?cWant ?kWant ?tWant ?gVt ?lVt ?aVer ?lVer ?cVer ?kVer ?aRow0 ?aRows ?lRows ?cRows ?kRows ?aAC ?rdAC ?tyAC ?fdAC ?hdAC ?lAI ?cAI ?kAI ?aC ?pg ?hdi ?po ?sa ?mkI ?kc ?iA ?iN ?iT ?iM ?nTest ?nMost ?nVerd ?nCalled ?nCalling ?aTI0 ?iTI ?lTI ?cTI ?kTI ?eKw ?lKw ?l00 ?aAsk ?iAsk ?lAsk ?cAsk ?kAsk ?aAns ?iAns ?lAns ?cAns ?kAns ?aCt ?iCt ?lCt ?cCt ?kCt ?aFl ?iFl ?lFl ?cFl ?kFl ?aRw ?iRw ?lRw ?cRw ?kRw ?aLn ?iLn ?lLn ?cLn ?kLn ?aWTr ?lWTr ?cWTr ?kWTr ?aWV ?lWV ?cWV ?kWV ?aWF ?lWF ?cWF ?kWF ?aQk ?lQk ?cQk ?kQk ?aSh ?lSh ?cSh ?kSh ?aLo ?lLo ?cLo ?kLo ?aDb ?lDb ?cDb ?kDb ?aQr ?lQr ?cQr ?kQr ?aLs ?lLs ?cLs ?kLs ?aTf ?lTf ?cTf ?kTf ?aTs ?lTs ?cTs ?kTs ?aWc ?lWc ?cWc ?kWc ?aCo ?lCo ?cCo ?kCo ?aDx ?lDx ?cDx ?kDx ?aDy ?lDy ?cDy ?kDy ?aTe ?lTe ?cTe ?kTe ?aIs ?lIs ?cIs ?kIs ?aOd ?lOd ?cOd ?kOd ?aNu ?lNu ?cNu ?kNu ?aFo ?lFo ?cFo ?kFo ?aBe ?lBe ?cBe ?kBe ?aSo ?lSo ?cSo ?kSo ?aSt ?lSt ?cSt ?kSt ?aLaw ?lLaw ?cLaw ?kLaw ?eF3 ?lF3 ?pF3 ?nF3 ?eS3 ?lS3 ?pS3 ?nS3 ?eL3 ?lL3 ?pL3 ?nL3 ?neFS ?neFL ?neSL
    (case z_range => k_is)
    (case z_enumerate => k_is)
    (case z_len => k_is)
    (case z_tuple => k_is)
    (case z_isinstance => k_is)
    (case z_str => k_is)
    (case z_ValueError => k_is)
    (case z_TypeError => k_is)
    (case z_OverflowError => k_is)
    (case z_RuntimeError => k_is)
    (case z_LookupError => k_is)
    (case z_Exception => k_is)
    (case z_int => k_is)
    (case z_bool => k_is)
    (case z_min => k_is)
    (case z_list => k_is)
    (case z_set => k_is)
    (case z_repr => k_is)
    (case z_max => k_is)
    (case z_sorted => k_is)
    (case z_reversed => k_is)
    (case z_all => k_is)
    (case aBV => k_is)
    (case clBV => k_is)
    (case nsBV => kernel_rfl)
    (case inBV => k_is)
    (case nsetBV => k_is)
    (case ngetBV => k_is)
    (case nhkBV => k_is)
    (case nclBV => k_is)
    (case w0BV => k_is)
    (case fnBV => k_is)
    (case kpBV => k_is)
    (case lBV => k_is)
    (case cBV => k_is)
    (case kBV => k_is)
    (case aBd => k_is)
    (case clBd => k_is)
    (case nsBd => kernel_rfl)
    (case inBd => k_is)
    (case nsetBd => k_is)
    (case ngetBd => k_is)
    (case nhkBd => k_is)
    (case nclBd => k_is)
    (case w0Bd => k_is)
    (case fnBd => k_is)
    (case kpBd => k_is)
    (case lBd => k_is)
    (case cBd => k_is)
    (case kBd => k_is)
    (case aSn => k_is)
    (case clSn => k_is)
    (case nsSn => kernel_rfl)
    (case inSn => k_is)
    (case nsetSn => k_is)
    (case ngetSn => k_is)
    (case nhkSn => k_is)
    (case nclSn => k_is)
    (case w0Sn => k_is)
    (case fnSn => k_is)
    (case kpSn => k_is)
    (case lSn => k_is)
    (case cSn => k_is)
    (case kSn => k_is)
    (case aNe => k_is)
    (case clNe => k_is)
    (case nsNe => kernel_rfl)
    (case inNe => k_is)
    (case nsetNe => k_is)
    (case ngetNe => k_is)
    (case nhkNe => k_is)
    (case nclNe => k_is)
    (case fnNe => k_is)
    (case kpNe => k_is)
    (case lNe => k_is)
    (case cNe => k_is)
    (case kNe => k_is)
    (case aNo => k_is)
    (case clNo => k_is)
    (case nsNo => kernel_rfl)
    (case inNo => k_is)
    (case nsetNo => k_is)
    (case ngetNo => k_is)
    (case nhkNo => k_is)
    (case nclNo => k_is)
    (case w0No => k_is)
    (case w1No => k_is)
    (case fnNo => k_is)
    (case kpNo => k_is)
    (case lNo => k_is)
    (case cNo => k_is)
    (case kNo => k_is)
    (case g_mp => k_is)
    (case g_mh => k_is)
    (case aNum => k_is)
    (case lNum => k_is)
    (case cNum => k_is)
    (case kNum => k_is)
    (case aCfg => k_is)
    (case lCfg => k_is)
    (case cCfg => k_is)
    (case kCfg => k_is)
    (case tCfg => k_is)
    (case aWant => k_is)
    (case lWant => k_is)
    (case cWant => k_is)
    (case kWant => k_is)
    (case tWant => k_is)
    (case gVt => k_is)
    (case lVt => k_is)
    (case aVer => k_is)
    (case lVer => k_is)
    (case cVer => k_is)
    (case kVer => k_is)
    (case aRow0 => k_is)
    (case aRows => k_is)
    (case lRows => k_is)
    (case cRows => k_is)
    (case kRows => k_is)
    (case aAC => k_is)
    (case rdAC => (first | k_is | kernel_rfl | rfl))
    (case tyAC => (first | k_is | kernel_rfl | rfl))
    (case fdAC => (first | k_is | kernel_rfl | rfl))
    (case hdAC => (first | k_is | kernel_rfl | rfl))
    (case lAI => k_is)
    (case cAI => k_is)
    (case kAI => k_is)
    (case aC => k_is)
    (case pg => k_is)
    (case hdi => k_is)
    (case po => k_is)
    (case sa => k_is)
    (case mkI => k_is)
    (case kc => k_is)
    (case iA => k_is)
    (case iN => k_is)
    (case iT => k_is)
    (case iM => k_is)
    (case nTest => k_is)
    (case nMost => k_is)
    (case nVerd => k_is)
    (case nCalled => k_is)
    (case nCalling => k_is)
    (case aTI0 => k_is)
    (case iTI => k_is)
    (case lTI => k_is)
    (case cTI => k_is)
    (case kTI => k_is)
    (case eKw => rfl)
    (case lKw => k_is)
    (case l00 => k_is)
    (case aAsk => k_is)
    (case iAsk => k_is)
    (case lAsk => k_is)
    (case cAsk => k_is)
    (case kAsk => k_is)
    (case aAns => k_is)
    (case iAns => k_is)
    (case lAns => k_is)
    (case cAns => k_is)
    (case kAns => k_is)
    (case aCt => k_is)
    (case iCt => k_is)
    (case lCt => k_is)
    (case cCt => k_is)
    (case kCt => k_is)
    (case aFl => k_is)
    (case iFl => k_is)
    (case lFl => k_is)
    (case cFl => k_is)
    (case kFl => k_is)
    (case aRw => k_is)
    (case iRw => k_is)
    (case lRw => k_is)
    (case cRw => k_is)
    (case kRw => k_is)
    (case aLn => k_is)
    (case iLn => k_is)
    (case lLn => k_is)
    (case cLn => k_is)
    (case kLn => k_is)
    (case aWTr => k_is)
    (case lWTr => k_is)
    (case cWTr => k_is)
    (case kWTr => k_is)
    (case aWV => k_is)
    (case lWV => k_is)
    (case cWV => k_is)
    (case kWV => k_is)
    (case aWF => k_is)
    (case lWF => k_is)
    (case cWF => k_is)
    (case kWF => k_is)
    (case aQk => k_is)
    (case lQk => k_is)
    (case cQk => k_is)
    (case kQk => k_is)
    (case aSh => k_is)
    (case lSh => k_is)
    (case cSh => k_is)
    (case kSh => k_is)
    (case aLo => k_is)
    (case lLo => k_is)
    (case cLo => k_is)
    (case kLo => k_is)
    (case aDb => k_is)
    (case lDb => k_is)
    (case cDb => k_is)
    (case kDb => k_is)
    (case aQr => k_is)
    (case lQr => k_is)
    (case cQr => k_is)
    (case kQr => k_is)
    (case aLs => k_is)
    (case lLs => k_is)
    (case cLs => k_is)
    (case kLs => k_is)
    (case aTf => k_is)
    (case lTf => k_is)
    (case cTf => k_is)
    (case kTf => k_is)
    (case aTs => k_is)
    (case lTs => k_is)
    (case cTs => k_is)
    (case kTs => k_is)
    (case aWc => k_is)
    (case lWc => k_is)
    (case cWc => k_is)
    (case kWc => k_is)
    (case aCo => k_is)
    (case lCo => k_is)
    (case cCo => k_is)
    (case kCo => k_is)
    (case aDx => k_is)
    (case lDx => k_is)
    (case cDx => k_is)
    (case kDx => k_is)
    (case aDy => k_is)
    (case lDy => k_is)
    (case cDy => k_is)
    (case kDy => k_is)
    (case aTe => k_is)
    (case lTe => k_is)
    (case cTe => k_is)
    (case kTe => k_is)
    (case aIs => k_is)
    (case lIs => k_is)
    (case cIs => k_is)
    (case kIs => k_is)
    (case aOd => k_is)
    (case lOd => k_is)
    (case cOd => k_is)
    (case kOd => k_is)
    (case aNu => k_is)
    (case lNu => k_is)
    (case cNu => k_is)
    (case kNu => k_is)
    (case aFo => k_is)
    (case lFo => k_is)
    (case cFo => k_is)
    (case kFo => k_is)
    (case aBe => k_is)
    (case lBe => k_is)
    (case cBe => k_is)
    (case kBe => k_is)
    (case aSo => k_is)
    (case lSo => k_is)
    (case cSo => k_is)
    (case kSo => k_is)
    (case aSt => k_is)
    (case lSt => k_is)
    (case cSt => k_is)
    (case kSt => k_is)
    (case aLaw => k_is)
    (case lLaw => k_is)
    (case cLaw => k_is)
    (case kLaw => k_is)
    (case eF3 => rfl)
    (case lF3 => k_is)
    (case pF3 => rfl)
    (case nF3 => kernel_rfl)
    (case eS3 => rfl)
    (case lS3 => k_is)
    (case pS3 => rfl)
    (case nS3 => kernel_rfl)
    (case eL3 => rfl)
    (case lL3 => k_is)
    (case pL3 => rfl)
    (case nL3 => kernel_rfl)
    (case neFS => decide)
    (case neFL => decide)
    (case neSL => decide)
#print axioms PySem.Challenge.cw_leastfail_k23_whole_quick_as_cut_down_holds
